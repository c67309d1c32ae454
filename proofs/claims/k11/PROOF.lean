import PyProof.Rows.All
import Wide.All
import OpenK.AllK
import Wide.FinOn
import HandS.ForMost
import HandS.Exc
import HandS.TryOnly
import HandS.ExcOwn
import HandS.WordsExc
import HandS.IsInst
import HandS.ExcIs
import HandS.ExcCtx
import HandS.HotCalls
import HandS.SetFor
import HandS.More
import HandS.Conv
import HandS.FStr
import HandS.Walk
import HandS.Flow
import HandS.TupAny
import HandS.TupLe
import HandS.Steps
import HandS.Zip
import HandS.DictComp
import PyProof.Rows.SetFrom
import PyProof.SetRoads
import PyProof.P3Eq
import HandS.ListItems
import HandS.CallSlots
import PyProof.DictMoreH
import KE.KDictList
import HandS.SetBool
import HandS.SetKeys
import HandS.Codes
import HandS.Style
import HandS.DeepEq
import PyProof.NeKinds
import HandS.SortRule
import HandS.Deep
import HandS.SuiteRaise
import HandS.Finally
import HandS.DictEq
import PyProof.EqKinds
import PySem.Challenge.RW_latehouse_k11_whole_no_two_unlike_rows
set_option Elab.async false
set_option linter.all false
set_option maxRecDepth 100000
set_option maxHeartbeats 4000000
/-! own rules beside the layer's: a caught error handed to a def, its isinstance, count, value calls -/
namespace LH
open PySem PySem.Spec PyProof.Rows L2
abbrev St := L2.St

/-! ### isinstance of the error that a context bears -/
theorem call_isP {X : Cx} {a D : Addr} {oe : Obj} (C : ExcC X.K D) (hp : (a, oe) ∈ X.pn) (hz : Zc (.ref D) none oe)
    (hf : ∃ vs, oe.data = .fields vs) : CallR X (.builtin "isinstance") (rIsE X.K D a) := by
  intro pins s σ H xs us Q I r h
  obtain ⟨c, cv, b, rfl, hcv, e, q⟩ := h
  match us, r with
  | [_, _], .cons rx (.cons rt .nil) =>
    cases rx
    have ec := hcv _ rt
    subst ec
    have hget := (I.pin (a, oe) (List.mem_append_left _ hp)).1
    obtain ⟨vs, hv⟩ := hf
    have J : PySem.W.InstAt s.heap a oe D none := by
      refine ⟨hget, hz.1, ?_, ?_⟩
      · unfold PySem.W.notCls; rw [hv] <;> rfl
      · rw [hz.2]; trivial
    exact PySem.W.kia_one (PySem.W.handS_kitx_exc C.hg C.hk C.hs C.hd C.ha C.hn C.ht C.hm) I.kIn J e
      (fun z => nomatch z) fun tk => ⟨.bl b, H, I.kept (t' := tk) fun _ _ z => z, rfl, q⟩

/-! ### a def that is handed the error that is handled -/
/-- the error's address, its class, its dict, then as Sp -/
abbrev SpE := Addr → Value → Option Addr → List V → Hp → VK → Prop
structure FnE (P : Program) (w : World) (K : PySem.W.Frag) (mg : Str → Option Value) (base : Heap) (k : Nat) (f : Addr)
    (fd : FuncData) (ps : List Str) (sp : SpE) : Prop where
  len : ∀ e cls d vs H Q, sp e cls d vs H Q → vs.length = ps.length
  run : ∀ (A : Around) (outer : List Env) (s : Shared) (H : Hp) (us : List Value) (vs : List V) (Q : VK) (p : Addr × Obj) (cls : Value) (d : Option Addr),
    L2H.RoomH k A → L2H.Hot1 A p → L2N.Zn cls d p.2 → L2H.PinOk outer H s p → Env0 P w K mg base A outer s H → BindsTo s fd ⟨us, []⟩ (ps.zip us) →
    Vals vs us → sp p.1 cls d vs H Q → codeAny (model P w) A (.call (.ref f) ⟨us, []⟩) (CR CX0 outer P w H s Q E0) s

theorem fnE_of {P : Program} {w : World} {K : PySem.W.Frag} {mg : Str → Option Value} {base : Heap} {x qual : Str} {st : Stmt}
    {f : Addr} {fd : FuncData} {N ps : List Str} {k : Nat} {sp : SpE} (F : Fun K x qual st f fd) (S : FnScope N ps (defScope st))
    (len : ∀ e cls d vs H Q, sp e cls d vs H Q → vs.length = ps.length)
    (hbody : ∀ (cdv : Value) (A : Around) (outer : List Env) (s : Shared) (H : Hp) (vs : List V) (Q : VK) (p : Addr × Obj) (cls : Value) (d : Option Addr),
      L2H.Hot1 A p → L2N.Zn cls d p.2 → L2H.RoomH k (A.deeper (envOfC qual (defScope st) s.heap.objs.size f cdv)) → sp p.1 cls d vs H Q →
      ∃ t, PSs (L2H.cxH CX0 P w K mg base N qual (defScope st) f cdv A outer s H E0 p) (defBody st) t ∧
        t { nx := fun _ H' => Q .non H', rt := Q } (L2.start N vs) H) :
    FnE P w K mg base (k + 1) f fd ps sp := by
  obtain ⟨oc, od, kV, doc, pm, an, cdv, ct, osl, rfl, lk, hcd⟩ := F.ex
  refine ⟨len, ?_⟩
  intro A outer s H us vs Q p cls d hr hot hz hpin e0 hb r hsp
  have inS : K.In s.heap := e0.mod.kin.keeps fun b o e => (e0.bs b o e).1
  have lim : s.heap.NoLimit := e0.mod.nolimit.keeps fun b o e => (e0.bs b o e).1
  have hkd : ∀ y ∈ ps.zip us, (defScope st).names.lookup y.1 = some .local ∨ ((defScope st).names.lookup y.1 = some .cell ∧
      ((cellsFrom (s.heap.objs.size + 1) (defScope st).names []).lookup y.1).isSome = true) := by
    rintro ⟨n, v⟩ hy
    rcases S.par n (List.of_mem_zip hy).1 with q | q
    · exact Or.inl q
    · exact Or.inr ⟨q, PySem.W.cellsFrom_some _ _ _ (Or.inl q)⟩
  refine codeAny_call_function hr.depth (inS _ _ lk) rfl S.co S.gen rfl
    (PySem.W.codeRec_of inS hcd) (hb _ _ _ _ ?_)
  refine wpAny_newFunctionEnv_cells S.kind hkd ?_
  intro env he s1 x
  subst he
  refine ⟨lim.keeps x.toInCall.keep, codeAny_func ?_⟩
  obtain ⟨t, ht, hq⟩ := hbody cdv A outer s H vs Q p cls d hot hz (hr.deeper _) hsp
  have I := L2H.inv_startH (CX := CX0) (E := E0) S hpin e0 (len _ _ _ _ _ _ hsp) r x
  refine wpAny_mono (ht.run [] s1 (L2.start N vs) H _ I hq) ?_ (fun _ _ z => z)
  intro fl s' hs
  cases fl with
  | ret u =>
    obtain ⟨v, σ', H', J, rv, q⟩ := hs
    exact ⟨v, H', J.os, J.bare, J.base, J.hok, rv, q⟩
  | next =>
    obtain ⟨σ', H', J, q⟩ := hs
    exact ⟨V.non, H', J.os, J.bare, J.base, J.hok, rfl, q⟩
  | brk =>
    obtain ⟨_, _, _, q⟩ := hs
    exact False.elim q
  | cont =>
    obtain ⟨_, _, _, q⟩ := hs
    exact False.elim q

def tCallE (sp : SpE) (e : Addr) (cls : Value) (d : Option Addr) (t : TA) : TE := fun σ H Q => t σ H fun vs H1 => sp e cls d vs H1 Q
theorem pe_callE {X : Cx} {k : Nat} {f : Addr} {fd : FuncData} {ps : List Str} {sp : SpE} {x : Str} {q pos : Pos} {e : Expr}
    {es : List Expr} {t : TA} {p : Addr × Obj} {cls : Value} {d : Option Addr} (F : FnE X.prog X.w X.K X.mg X.base k f fd ps sp) (hr : L2H.RoomH k X.A)
    (hot : L2H.Hot1 X.A p) (hz : L2N.Zn cls d p.2) (hp : p ∈ X.pn) (hg : Gl X x) (hm : X.mg x = some (.ref f)) (hk : PySem.W.keepIn X.K (.ref f) = true)
    (hb : Binds X.K fd ps []) (ha : PA X (e :: es) t) (hdb : (x == ("__debug__" : Str)) = false := by decide)
    (he : starEach (e :: es) X.env = (false, eval e X.env) :: starEach es X.env := by rfl)
    (hpl : (backTo pos (starEach es X.env)).any (·.1) = false := by rfl) : PE X (.Call (.Name x q) (e :: es) [] pos) (tCallE sp p.1 cls d t) := by
  refine ⟨fun pins s σ H Q I h => ?_⟩
  refine wpAny_Call_Name_kw (ld_glob I hg hm ?_ hdb)
  refine PySem.W.callWith_K (h₀ := X.base) I.ok.mod.kin hk (thn (ha.run pos pins s σ H _ I h) ?_) he hpl
  rintro us s1 ⟨vs, H1, I1, r, h1⟩
  refine ⟨I1.kIn, ?_⟩
  have hl : us.length = ps.length := by rw [← r.length]; exact F.len _ _ _ _ _ _ h1
  have b := hb s1 us I1.kIn (by rw [List.append_nil]; exact hl)
  rw [List.append_nil] at b
  have P1 := I1.pin p (List.mem_append_left _ hp)
  have hpin : L2H.PinOk X.stack H1 s1 p :=
    ⟨P1.1, P1.2.1, fun hm => (List.mem_cons.mp (I1.stkSub p.1 hm)).elim P1.2.2.1 P1.2.2.2.1, P1.2.2.2.2⟩
  refine wpAny_call (codeAny_mono (F.run X.A X.stack s1 H1 us vs Q p cls d hr hot hz hpin I1.env0 b r h1) ?_)
  intro rr s' hq
  cases rr with
  | error e => exact False.elim hq
  | ok fl =>
    cases fl with
    | ret u => exact I1.after hq
    | next => exact False.elim hq
    | brk => exact False.elim hq
    | cont => exact False.elim hq

/-! ### xs.count(y), flat things -/
theorem cnt_eqU {x : V} {xs : List V} {us : List Value} (r : Vals xs us) (f : xs.all flatV = true) :
    us.countP (eqU x) = xs.countP fun y => eqV y x := by
  induction r with
  | nil => rfl
  | cons ry rt ih =>
    rw [List.all_cons, Bool.and_eq_true] at f
    rw [List.countP_cons, List.countP_cons, ih f.2, eqU_of ry f.1]
def rCntV (K : PySem.W.Frag) : V → List V → Hp → VK → Prop := fun x vs H Q => ∃ (a : Addr) (ys : List V) (y : V), x = .ref a ∧ vs = [y] ∧
  SqL K H a ys ∧ flatV y = true ∧ ys.all flatV = true ∧ Q (.int (ys.countP fun z => eqV z y : Nat)) H
theorem mt_cntV {X : Cx} : MtR X "list.count" (rCntV X.K) := by
  intro pins s σ H x xs v us Q I rx rxs h
  obtain ⟨p, ys, y, rfl, rfl, hs, fy, fys, q⟩ := h
  cases rx
  obtain ⟨u, rfl, ru⟩ := rxs.one
  obtain ⟨its, rv, ⟨⟨cls, dd, data, sl⟩, n, ho, hc, hdn, hd⟩, hlen⟩ := I.list hs
  simp only at hc hd
  subst hc hd
  refine call_meets PySem.F.slot_list_count ⟨_, ho, rfl⟩ PySem.F.entry_list_count (PySem.F.args_list_count_2 _ _)
    (SeqAt.list_countAt p its.toArray n dd sl u (eqU y)) ⟨ho, fun w hw => mem_eqAt ru fy rv fys w (by simpa using hw), ?_⟩
  have ec : its.toArray.toList.countP (eqU y) = ys.countP fun z => eqV z y := cnt_eqU rv fys
  refine ⟨.int (ys.countP fun z => eqV z y : Nat), H, I.tok _, ⟨s.toks, ?_⟩, q⟩
  show Value.int ((its.toArray.toList.countP (eqU y) : Nat) : Int) s.toks = _
  rw [ec]

/-! ### a list and a list, the left one perhaps the script -/
def rCatS (K : PySem.W.Frag) : R2 := fun x y H Q => ∃ l b xs zs, x = .ref l ∧ y = .ref b ∧ SqL K H l xs ∧ SqL K H b zs ∧
  xs.length + zs.length ≤ sizeLine ∧ ∀ p, H p = none → Q (.ref p) (upd H p (.lst (xs ++ zs)))
theorem op_catS {X : Cx} : OpR X (binaryOp .Add) (rCatS X.K) := by
  intro pins s σ H x y v u Q I rx ry h
  obtain ⟨l, b, xs, zs, rfl, rfl, hl, hb, hz, q⟩ := h
  cases rx
  cases ry
  obtain ⟨its, r, pl, _⟩ := I.list hl
  obtain ⟨its2, r2, pl2, _⟩ := I.list hb
  have n1 := r.length
  have n2 := r2.length
  obtain ⟨⟨c1, d1, da1, sl1⟩, m1, ho1, hc1, _, hd1⟩ := pl
  obtain ⟨⟨c2, d2, da2, sl2⟩, m2, ho2, hc2, _, hd2⟩ := pl2
  simp only at hc1 hd1 hc2 hd2
  subst hc1 hd1 hc2 hd2
  have ea : its.toArray ++ its2.toArray = (its ++ its2).toArray := by simp
  refine concat_meets ⟨_, ho1, rfl⟩ ⟨_, ho2, rfl⟩ noFill_list_add seq_list_add PySem.F.slot_list_add PySem.F.entry_list_add
    (PySem.F.args_list_add_2 _ _) (list_addW l b its.toArray its2.toArray m1 m2 d1 d2 sl1 sl2
      (by rw [List.size_toArray, List.size_toArray]; omega)) ⟨ho1, ho2, ?_⟩
  rw [ea]
  exact ⟨.ref _, _, I.lnew (t' := s.toks) (r.append r2) (by rw [List.length_append]; omega), rfl, q _ I.fresh⟩

/-! ### e(..), the value of e one of some defs of one promise -/
def tCallV (S : Addr → Prop) (sp : Sp) (E : St → XK) (te : TE) (t : TA) : TE := fun σ H Q => te σ H fun x H1 => ∃ f, x = .ref f ∧ S f ∧ t σ H1 fun vs H2 => sp vs H2 Q (E σ)
theorem pe_callV {X : Cx} {CX : CXT} {k : Nat} {S : Addr → Prop} {sp : Sp} {E : St → XK} {g e : Expr} {es : List Expr} {te : TE} {t : TA} {pos : Pos}
    (F : ∀ f, S f → ∃ (fd : FuncData) (ps : List Str), FnOk X.prog X.w X.K X.mg X.base CX k f fd ps sp ∧ PySem.W.keepIn X.K (.ref f) = true ∧ Binds X.K fd ps [])
    (hr : Room k X.A) (hx : ∀ σ, PassesAt CX X σ (E σ)) (hg : PE X g te) (ha : PA X (e :: es) t)
    (hev : eval (.Call g (e :: es) [] pos) X.env = (do callWith pos (← eval g X.env) [] (backTo pos (starEach (e :: es) X.env)) (backToKw pos (keywordEach [] X.env))) := by rfl)
    (he : starEach (e :: es) X.env = (false, eval e X.env) :: starEach es X.env := by rfl)
    (hpl : (backTo pos (starEach es X.env)).any (·.1) = false := by rfl) : PE X (.Call g (e :: es) [] pos) (tCallV S sp E te t) := by
  refine ⟨fun pins s σ H Q I h => ?_⟩
  refine PyProof.Rows.Call_ (thn (hg.run pins s σ H _ I h) ?_) hev
  rintro u s1 ⟨x, H1, I1, rx, f, rfl, hS, h1⟩
  obtain rfl : u = Value.ref f := rx
  obtain ⟨fd, ps, F1, hk, hb⟩ := F f hS
  refine PySem.W.callWith_K (h₀ := X.base) I.ok.mod.kin hk (thn (ha.run pos pins s1 σ H1 _ I1 h1) ?_) he hpl
  rintro us s2 ⟨vs, H2, I2, r, h2⟩
  exact ⟨I2.kIn, run_fnS F1 hr hb (hx σ) I2 r h2⟩

/-! ### a def that may raise, with the errors' context told -/
theorem okN {P : Program} {w : World} {K : PySem.W.Frag} {mg : Str → Option Value} {base : Heap} {x qual : Str} {st : Stmt} {f : Addr} {fd : FuncData}
    {N ps : List Str} {k : Nat} {sp : Sp} (F : Fun K x qual st f fd) (S : FnScope N ps (defScope st)) (len : ∀ vs H Q E, sp vs H Q E → vs.length = ps.length)
    (hbody : ∀ (cdv : Value) (A : Around) (outer : List Env) (s : Shared) (H : Hp) (vs : List V) (Q : VK) (E : XK), Room k (A.deeper (envOfC qual (defScope st) s.heap.objs.size f cdv)) →
      sp vs H Q E → ∃ t, PSs (cxOf (L2N.CX P w) P w K mg base N qual (defScope st) f cdv A outer s H E) (defBody st) t ∧
        t { nx := fun _ H' => Q .non H', rt := Q } (start N vs) H) : FnOk P w K mg base (L2N.CX P w) (k + 1) f fd ps sp := by
  obtain ⟨oc, od, kV, doc, pm, an, cdv, ct, osl, rfl, lk, hcd⟩ := F.ex
  exact fn_of lk hcd S len fun A outer s H vs Q E hr hsp => hbody cdv A outer s H vs Q E hr hsp
/-- X(e, ..), X an own error class without its own __init__; its context told -/
theorem pmkN {X : Cx} {C : Addr} {bmB : List Value} {B newId initId : String} {x : Str} {p pos : Pos} {e : Expr} {es : List Expr} {t : TA}
    (F : ExcBaseFacts B newId initId bmB) (q : PySem.W.excIn X.K C bmB newId = true) (gC : X.mg x = some (.ref C))
    (kC : PySem.W.keepIn X.K (.ref C) = true) (r : Raises X (.ref C)) (hg : Gl X x) (ha : PA X (e :: es) t)
    (hdb : (x == ("__debug__" : Str)) = false := by decide)
    (he : starEach (e :: es) X.env = (false, eval e X.env) :: starEach es X.env := by rfl)
    (hpl : (backTo pos (starEach es X.env)).any (·.1) = false := by rfl) :
    L2N.PMk X (.Call (.Name x p) (e :: es) [] pos) (fun σ H Q => t σ H fun vs H1 => vs.length ≤ sizeLine ∧ Q (.ref C) none H1) := by
  intro pins s σ H Q I h
  refine wpAny_Call_Name_kw (ld_glob I hg gC ?_ hdb)
  refine PySem.W.callWith_K (h₀ := X.base) I.ok.mod.kin kC (thn (ha.run pos pins s σ H _ I h) ?_) he hpl
  rintro us s1 ⟨vs, H1, I1, r1, hz, q1⟩
  refine ⟨I1.kIn, ?_⟩
  show wpAny _ _ (call (.ref C) us) _ _ _
  obtain ⟨bm, N, nm, qn, bs, hdct, sn, sub, ab, col, dd, k0, k1, k2, k3, k5, mN, hC, hN, hni, T⟩ := exc_obj I1.kIn q
  refine wpAny_call_exc_subT F T hC hN hni ?_ (by rw [← r1.length]; exact hz)
  intro h' e' hm
  exact L2N.mk_of I1 hm r q1 (I1.hok.gone hm.new)
theorem tkN {X : Cx} {E : XK} (hs : X.stack = X.env :: X.outer := by rfl) (hf : X.env.frame = some X.env.locals := by rfl) (hex : X.ex = [] := by rfl) {E₁ : Value → Shared → Prop}
    (hx : X.xe = fun e s' => wpAny (model X.prog X.w) X.A (leaving X.env e) (fun _ s'' => L2N.CX X.prog X.w X.outer X.H_0 X.s_0 E e s'') E₁ s' := by rfl) : L2N.Takes X (fun cls d _ H => E cls d H) := L2N.takes_of hs hf hex hx
/-- nothing is let out where the wish is none -/
theorem passN {X : Cx} : Passes (L2N.CX X.prog X.w) X E0 := by
  intro _ _ _ _ _ _ _ h
  obtain ⟨_, _, _, _, _, _, _, _, _, _, _, _, z⟩ := h
  exact z.elim
/-! ### heaps -/
theorem get_new {H : Hp} {p q : Addr} {o x : HO} (h : H p = none) (e : H q = some x) : upd H p o q = some x := by
  rw [upd_ne (ne_of_none e h)]
  exact e
theorem sq_new {K : PySem.W.Frag} {H : Hp} {p q : Addr} {o : HO} {xs : List V} (h : H p = none) (e : SqL K H q xs) : SqL K (upd H p o) q xs := by
  rcases e with (e | ⟨ob, e⟩) | e
  · exact .inl (.inl (get_new h e))
  · exact .inl (.inr ⟨ob, get_new h e⟩)
  · exact .inr e
theorem st_new {K : PySem.W.Frag} {H : Hp} {p q : Addr} {o : HO} {xs : List V} (h : H p = none) (e : SqT K H q xs) : SqT K (upd H p o) q xs := by
  rcases e with (e | ⟨ob, e⟩) | e
  · exact .inl (.inl (get_new h e))
  · exact .inl (.inr ⟨ob, get_new h e⟩)
  · exact .inr e
theorem same_new {H H' : Hp} {p : Addr} {o : HO} (h : H' p = none) (e : Same H H') : Same H (upd H' p o) := fun b x q => get_new h (e b x q)
theorem Same.new {H : Hp} {p : Addr} {o : HO} (h : H p = none) : Same H (upd H p o) := fun b x q => get_new h q
/-- a new object: from then on the heap is told by what it keeps and holds -/
theorem nw {H : Hp} {o : HO} {Q : VK} (k : ∀ (p : Addr) (H2 : Hp), H p = none → Same H H2 → H2 p = some o → Q (.ref p) H2) : ∀ p : Addr, H p = none → Q (.ref p) (upd H p o) :=
  fun p hp => k p _ hp (Same.new hp) upd_same
theorem takesN0 {X : Cx} : L2N.Takes X (fun _ _ _ _ => False) := by
  intro _ _ x
  obtain ⟨_, _, _, _, _, _, _, _, _, _, _, _, _, _, _, _, z⟩ := x
  exact z.elim
theorem ctx_of {cls : Value} {d : Option Addr} {oe : Obj} (hz : L2N.Zn cls d oe) (hf : ∃ vs, oe.data = .fields vs) : ∃ vs : Array Value, oe.data = .fields vs ∧ vs[2]? = some .none := by
  obtain ⟨vs, e⟩ := hf
  exact ⟨vs, e, hz.2.2 vs e⟩
theorem Same.seqT {K : PySem.W.Frag} {H H' : Hp} {a : Addr} {xs : List V} (e : Same H H') (h : SqT K H a xs) : SqT K H' a xs := by
  rcases h with (h | ⟨o, h⟩) | h
  · exact .inl (.inl (e _ _ h))
  · exact .inl (.inr ⟨o, e _ _ h⟩)
  · exact .inr h
theorem Same.ty {K : PySem.W.Frag} {H H' : Hp} {x : V} {T : String} (e : Same H H') (h : TyB K H x T) : TyB K H' x T := by
  cases h with
  | non => exact .non
  | bl b => exact .bl b
  | int i => exact .int i
  | str x => exact .str x
  | byt b => exact .byt b
  | lst h => exact .lst (Same.seq e h)
  | tup h => exact .tup (Same.seqT e h)
  | dK h => exact .dK (e _ _ h)
theorem small {n : Nat} (h : n.ble 100000 = true) : n ≤ 100000 := Nat.le_of_ble_eq_true h
end LH
/-! the reader: a reading, step by step, what follows kept as a letter -/
namespace LH
open PySem L2
variable {K : PySem.W.Frag} {σ : L2.St} {H : Hp} {Q : VK} {D : Ends} {ta tb te tc : TE} {t u : TS} {c c' : TT} {x y v : V} {r r' : R2} {tr : TA} {g : TG}
def Br (b : Bool) (A B : Prop) : Prop := if b = true then A else B
theorem br_t {A B : Prop} (h : A) : Br true A B := by unfold Br; rw [if_pos rfl]; exact h
theorem br_f {A B : Prop} (h : B) : Br false A B := by unfold Br; rw [if_neg Bool.false_ne_true]; exact h
theorem br {b : Bool} {A B : Prop} (h1 : b = true → A) (h2 : b = false → B) : Br b A B := by
  cases b
  · exact br_f (h2 rfl)
  · exact br_t (h1 rfl)
theorem br_p {p A B : Prop} [Decidable p] (h : p) (k : A) : Br (decide p) A B := by rw [decide_eq_true h]; exact br_t k
theorem br_n {p A B : Prop} [Decidable p] (h : ¬ p) (k : B) : Br (decide p) A B := by rw [decide_eq_false h]; exact br_f k
theorem br_d {p A B : Prop} [Decidable p] (h1 : p → A) (h2 : ¬ p → B) : Br (decide p) A B := br (fun e => h1 (of_decide_eq_true e)) (fun e => h2 (of_decide_eq_false e))
theorem br_nd {p A B : Prop} [Decidable p] (h1 : ¬ p → A) (h2 : p → B) : Br (!decide p) A B := br (fun e => h1 (by simpa using e)) (fun e => h2 (by simpa using e))
theorem br_nt {A B : Prop} (h : B) : Br (!true) A B := br_f h
theorem br_nf {A B : Prop} (h : A) : Br (!false) A B := br_t h
theorem br_eq {b b' : Bool} {A B : Prop} (e : b = b') (h : Br b' A B) : Br b A B := by rw [e]; exact h
def Bx (x : V) (H : Hp) (Q : Bool → Hp → Prop) : Prop := ∃ k, x = .bl k ∧ Q k H
theorem bx {k : Bool} {Q : Bool → Hp → Prop} (q : Q k H) : Bx (.bl k) H Q := ⟨k, rfl, q⟩
def BAnd (x : V) (H : Hp) (Q : VK) (R : Hp → VK → Prop) : Prop := ∃ c, x = .bl c ∧ if c = true then R H Q else Q (.bl false) H
def BOr (x : V) (H : Hp) (Q : VK) (R : Hp → VK → Prop) : Prop := ∃ c, x = .bl c ∧ if c = true then Q (.bl true) H else R H Q
theorem band {k : Bool} {R : Hp → VK → Prop} (q : Br k (R H Q) (Q (.bl false) H)) : BAnd (.bl k) H Q R := ⟨k, rfl, q⟩
theorem bor {k : Bool} {R : Hp → VK → Prop} (q : Br k (Q (.bl true) H) (R H Q)) : BOr (.bl k) H Q R := ⟨k, rfl, q⟩
def NewL (xs : List V) (H : Hp) (Q : VK) : Prop := xs.length ≤ sizeLine ∧ ∀ p, H p = none → Q (.ref p) (upd H p (.lst xs))
def NewT (xs : List V) (H : Hp) (Q : VK) : Prop := xs.length ≤ sizeLine ∧ ∀ p, H p = none → Q (.ref p) (upd H p (.tup xs))
theorem sz {n : Nat} (h : n ≤ 100000) : n ≤ sizeLine := Nat.le_trans h (by decide)
theorem sz' {n : Nat} (h : n ≤ 100000) : n < sizeLine := Nat.lt_of_le_of_lt h (by decide)
theorem newl {xs : List V} (hl : xs.length ≤ 100000) (k : ∀ p H2, H p = none → Same H H2 → H2 p = some (.lst xs) → Q (.ref p) H2) : NewL xs H Q :=
  ⟨sz hl, fun p hp => k p _ hp (Same.new hp) upd_same⟩
theorem newt {xs : List V} (hl : xs.length ≤ 100000) (k : ∀ p H2, H p = none → Same H H2 → H2 p = some (.tup xs) → Q (.ref p) H2) : NewT xs H Q :=
  ⟨sz hl, fun p hp => k p _ hp (Same.new hp) upd_same⟩
def NewO (o : HO) (H : Hp) (Q : VK) : Prop := ∀ p, H p = none → Q (.ref p) (upd H p o)
theorem newo {o : HO} (k : ∀ p H2, H p = none → Same H H2 → H2 p = some o → Q (.ref p) H2) : NewO o H Q := fun p hp => k p _ hp (Same.new hp) upd_same
/-! statements -/
theorem x_seq (h : t { D with nx := u D } σ H) : tSeq t u D σ H := h
theorem x_asg (h : te σ H fun x H1 => g x σ H1 D.nx) : tAsg te g D σ H := h
theorem x_gname {i : Nat} {Q : L2.St → Hp → Prop} (h : Q (σ.set i (some v)) H) : gName i v σ H Q := h
theorem x_ret (h : te σ H D.rt) : tRet te D σ H := h
theorem x_drop (h : te σ H fun _ H1 => D.nx σ H1) : tDrop te D σ H := h
theorem x_ifS (h : c σ H fun b H1 => Br b (t D σ H1) (u D σ H1)) : tIfS c t u D σ H := h
theorem x_next (h : D.nx σ H) : tNext D σ H := h
theorem x_cont (h : D.ct σ H) : tCont D σ H := h
/-! expressions -/
theorem x_var {i : Nat} (h : σ[i]? = some (some v)) (q : Q v H) : tVar i σ H Q := ⟨v, h, q⟩
theorem x_c (q : Q v H) : tC v σ H Q := q
theorem x_op (h : ta σ H fun x H1 => tb σ H1 fun y H2 => r x y H2 Q) : tOp r ta tb σ H Q := h
theorem x_un {r : V → Hp → VK → Prop} (h : ta σ H fun x H1 => r x H1 Q) : tUn r ta σ H Q := h
theorem x_U {f : Int → V} {i : Int} (q : Q (f i) H) : rU f (.int i) H Q := ⟨i, rfl, q⟩
theorem x_I0 {f : Int → Int → V} {i j : Int} (q : Q (f i j) H) : rI0 f (.int i) (.int j) H Q := ⟨i, j, rfl, rfl, q⟩
theorem x_I {C : Int → Int → Prop} {f : Int → Int → V} {i j : Int} (h : C i j) (q : Q (f i j) H) : rI C f (.int i) (.int j) H Q := ⟨i, j, rfl, rfl, h, q⟩
theorem x_eq (h : scal x y = true) (q : Q (.bl (decide (x = y))) H) : rEq x y H Q := ⟨h, q⟩
theorem x_ne (h : scal x y = true) (q : Q (.bl (!decide (x = y))) H) : rNe x y H Q := ⟨h, q⟩
theorem x_test {Q : Bool → Hp → Prop} (h : te σ H fun x H1 => Bx x H1 Q) : tTest te σ H Q := h
theorem x_tB {Q : Bool → Hp → Prop} (h : te σ H fun x H1 => Bx x H1 Q) : tB te σ H Q := h
theorem x_and {Q : Bool → Hp → Prop} (h : c σ H fun b H1 => Br b (c' σ H1 Q) (Q false H1)) : tAnd c c' σ H Q := h
theorem x_or {Q : Bool → Hp → Prop} (h : c σ H fun b H1 => Br b (Q true H1) (c' σ H1 Q)) : tOr c c' σ H Q := h
theorem x_not {Q : Bool → Hp → Prop} (h : c σ H fun b H1 => Q (!b) H1) : tNot c σ H Q := h
theorem x_andV (h : ta σ H fun x H1 => BAnd x H1 Q (tb σ)) : tAndV ta tb σ H Q := h
theorem x_orV (h : ta σ H fun x H1 => BOr x H1 Q (tb σ)) : tOrV ta tb σ H Q := h
theorem x_notV (h : ta σ H fun x H1 => Bx x H1 fun b H2 => Q (.bl (!b)) H2) : tNotV ta σ H Q := h
theorem x_if (h : c σ H fun b H1 => Br b (ta σ H1 Q) (tb σ H1 Q)) : tIf c ta tb σ H Q := h
def ChK (z : V) (σ : L2.St) (H : Hp) (Q : VK) (tc : TE) (r' : R2) (y : V) : Prop := ∃ k, z = .bl k ∧ if k = true then tc σ H fun w' H4 => r' y w' H4 Q else Q (.bl false) H
theorem x_chain (h : ta σ H fun x H1 => tb σ H1 fun y H2 => r x y H2 fun z H3 => ChK z σ H3 Q tc r' y) : tChain r r' ta tb tc σ H Q := h
theorem chk {k : Bool} (h : Br k (tc σ H fun w' H4 => r' y w' H4 Q) (Q (.bl false) H)) : ChK (.bl k) σ H Q tc r' y := ⟨k, rfl, h⟩
theorem x_nil {Q : List V → Hp → Prop} (q : Q [] H) : tNil σ H Q := q
theorem x_cons {Q : List V → Hp → Prop} (h : ta σ H fun x H1 => tr σ H1 fun xs H2 => Q (x :: xs) H2) : tCons ta tr σ H Q := h
theorem x_lst (h : tr σ H fun xs H1 => NewL xs H1 Q) : tLst tr σ H Q := h
theorem x_tup (h : tr σ H fun xs H1 => NewT xs H1 Q) : tTup tr σ H Q := h
theorem x_call {sp : Sp} {dvs : List V} {E : XK} (h : tr σ H fun vs H1 => sp (vs ++ dvs) H1 Q E) : tCall sp dvs E tr σ H Q := h
theorem x_callS {sp : Sp} {E : L2.St → XK} (h : tr σ H fun vs H1 => sp vs H1 Q (E σ)) : tCallS sp E tr σ H Q := h
theorem x_callE {sp : SpE} {e : Addr} {cls : Value} {d : Option Addr} (h : tr σ H fun vs H1 => sp e cls d vs H1 Q) : tCallE sp e cls d tr σ H Q := h
theorem x_cb {r : List V → Hp → VK → Prop} (h : tr σ H fun vs H1 => r vs H1 Q) : tCB r tr σ H Q := h
def BmV (K : PySem.W.Frag) (T : String) (r : V → List V → Hp → VK → Prop) (tr : TA) (σ : L2.St) (x : V) (H : Hp) (Q : VK) : Prop := tyV K T x H ∧ tr σ H fun xs H2 => r x xs H2 Q
theorem x_bm {T : String} {r : V → List V → Hp → VK → Prop} (h : te σ H fun x H1 => BmV K T r tr σ x H1 Q) : tBM K T r te tr σ H Q := h
theorem bm_l {r : V → List V → Hp → VK → Prop} {p : Addr} {xs : List V} (h : SqL K H p xs) (q : tr σ H fun ys H2 => r (.ref p) ys H2 Q) : BmV K "list" r tr σ (.ref p) H Q := ⟨.inl ⟨rfl, _, h⟩, q⟩
def CvV (S : Addr → Prop) (sp : Sp) (E : L2.St → XK) (tr : TA) (σ : L2.St) (x : V) (H : Hp) (Q : VK) : Prop := ∃ f, x = .ref f ∧ S f ∧ tr σ H fun vs H2 => sp vs H2 Q (E σ)
theorem x_callV {S : Addr → Prop} {sp : Sp} {E : L2.St → XK} (h : te σ H fun x H1 => CvV S sp E tr σ x H1 Q) : tCallV S sp E te tr σ H Q := h
theorem cvv {S : Addr → Prop} {sp : Sp} {E : L2.St → XK} {f : Addr} (h : S f) (q : tr σ H fun vs H2 => sp vs H2 Q (E σ)) : CvV S sp E tr σ (.ref f) H Q := ⟨f, rfl, h, q⟩
/-! values -/
theorem x_ixL {p : Addr} {xs : List V} {i : Int} (h : SqL K H p xs) (e : atI xs i = some v) (q : Q v H) : rIxL K (.ref p) (.int i) H Q := ⟨p, xs, i, v, rfl, rfl, h, e, q⟩
theorem x_ixT {p : Addr} {xs : List V} {i : Int} (h : SqT K H p xs) (e : atI xs i = some v) (q : Q v H) : rIxT K (.ref p) (.int i) H Q := ⟨p, xs, i, v, rfl, rfl, h, e, q⟩
theorem x_isi {t : Value} {n : Value} {b : Bool} {cv : V} (k : ClsV cv n) (ty : TyX K H x t) (e : PySem.W.kitOne K t n = some b) (q : Q (.bl b) H) : rIsi K [x, cv] H Q := ⟨x, cv, t, n, b, rfl, k, ty, e, q⟩
theorem x_isE {C a : Addr} {b : Bool} {cv : V} {n : Value} (hc : ∀ u, RelV cv u → u = n) (e : PySem.W.kitOne K (.ref C) n = some b) (q : Q (.bl b) H) : rIsE K C a [.ref a, cv] H Q := ⟨cv, n, b, rfl, hc, e, q⟩
theorem x_cntV {p : Addr} {ys : List V} (h : SqL K H p ys) (fy : flatV y = true) (fys : ys.all flatV = true) (q : Q (.int (ys.countP fun z => eqV z y : Nat)) H) : rCntV K (.ref p) [y] H Q := ⟨p, ys, y, rfl, rfl, h, fy, fys, q⟩
theorem x_index {p : Addr} {ys : List V} {j : Nat} {z : V} (h : SqL K H p ys) (fy : flatV y = true) (fys : ys.all flatV = true) (e : ys[j]? = some z) (ez : eqV z y = true)
    (hn : ∀ (m : Nat) (z' : V), m < j → ys[m]? = some z' → eqV z' y = false) (q : Q (.int (j : Nat)) H) : rIndex K (.ref p) [y] H Q := ⟨p, ys, y, j, z, rfl, rfl, h, fy, fys, e, ez, hn, q⟩
theorem x_catS {p q : Addr} {xs ys : List V} (h1 : SqL K H p xs) (h2 : SqL K H q ys) (hl : xs.length + ys.length ≤ 100000)
    (k : ∀ p H2, H p = none → Same H H2 → H2 p = some (.lst (xs ++ ys)) → Q (.ref p) H2) : rCatS K (.ref p) (.ref q) H Q :=
  ⟨p, q, xs, ys, rfl, rfl, h1, h2, sz hl, fun p hp => k p _ hp (Same.new hp) upd_same⟩
theorem x_in {neg : Bool} {p : Addr} {xs : List V} (h : SqL K H p xs) (hx : flatV x = true) (ha : xs.all flatV = true) (q : Q (.bl (if neg then !inV x xs else inV x xs)) H) : rIn K neg x (.ref p) H Q := ⟨p, xs, rfl, Or.inl h, hx, ha, q⟩
theorem x_typ {T : String} (h : TyB K H x T) (q : Q (.ty T) H) : rTyp K [x] H Q := ⟨x, T, rfl, h, q⟩
theorem x_neD {d e : PyData} (hx : Dp K H x d) (hy : Dp K H y e) (sd : SeqAt.shaped d = true) (se : SeqAt.shaped e = true) (q : Q (.bl (!PyData.eqv d e)) H) : rNeD K x y H Q := ⟨d, e, hx, hy, sd, se, q⟩
theorem x_eqD {d e : PyData} (hx : Dp K H x d) (hy : Dp K H y e) (sd : SeqAt.shaped d = true) (se : SeqAt.shaped e = true) (q : Q (.bl (PyData.eqv d e)) H) : rEqD K x y H Q := ⟨d, e, hx, hy, sd, se, q⟩
def LrV (a b : Int) (H : Hp) (Q : VK) : Prop := RgOk a b ∧ NewO (.lst (rgV a b)) H Q
theorem lrv {a b : Int} (h : RgOk a b) (k : ∀ p H2, H p = none → Same H H2 → H2 p = some (.lst (rgV a b)) → Q (.ref p) H2) : LrV a b H Q := ⟨h, newo k⟩
theorem x_lrg {te : L2.St → Hp → (Int → Int → Hp → Prop) → Prop} (h : te σ H fun a b H1 => LrV a b H1 Q) : tLstRg te σ H Q := h
end LH
namespace LH
open PySem L2
section
variable {K : PySem.W.Frag} {σ : L2.St} {H : Hp} {Q : VK} {te tl : TE} {t : TT} {g : TG}
/-! comprehensions over a list -/
def LcV (K : PySem.W.Frag) (g : TG) (t : TT) (te : TE) (vs : List Nat) (σ : L2.St) (x : V) (H1 : Hp) (Q : VK) : Prop :=
  ∃ a, x = .ref a ∧ (∃ xs, SqL K H1 a xs) ∧ ∀ D, H1 D = none → ∃ W : Nat → Nat → Hp → Prop, (∃ m, W 0 m (upd H1 D (.lst []))) ∧ ∀ i m H, W i m H →
  ((Itl K a).stop i H ∧ Q (.ref D) H) ∨ ((Itl K a).go i H ∧ ∃ Nx : Hp → Prop, (∀ H', Nx H' → ∃ m', m' < m ∧ W (i + 1) m' H') ∧ ∀ x H', (Itl K a).yld i H x H' → g x (wipe σ vs) H' fun σ2 H2 => wipe σ2 vs = wipe σ vs ∧ t σ2 H2 fun b H3 =>
    if b = true then te σ2 H3 fun y H4 => ∃ acc, H4 D = some (.lst acc) ∧ acc.length < sizeLine ∧ Nx (upd H4 D (.lst (acc ++ [y]))) else Nx H3)
theorem x_lc {vs : List Nat} (h : tl σ H fun x H1 => LcV K g t te vs σ x H1 Q) : tLc (iList K tl) g t te vs σ H Q := h
theorem take_more {α : Type} {l : List α} {i : Nat} {x : α} (h : l[i]? = some x) : l.take (i + 1) = l.take i ++ [x] := by
  rw [List.take_add_one, h]
  rfl
theorem Same.mut {H H' : Hp} {p : Addr} {o : HO} (e : Same H H') (h : H p = none) : Same H (upd H' p o) := fun a u ha => by
  rw [upd_ne (ne_of_none ha h)]
  exact e a u ha
/-- each item kept where f says so, and turned by v; tests and elements may make things of their own -/
theorem lc_L {a : Addr} {xs : List V} {j : Nat} {vs : List Nat} (hx : SqL K H a xs) (hz : xs.length ≤ 100000) (f : V → Bool) (v : V → V)
    (hw : ∀ x, wipe ((wipe σ vs).set j (some x)) vs = wipe σ vs)
    (ht : ∀ x, x ∈ xs → ∀ H1, Same H H1 → ∀ Q : Bool → Hp → Prop, (∀ H2, Same H1 H2 → Q (f x) H2) → t ((wipe σ vs).set j (some x)) H1 Q)
    (he : ∀ x, x ∈ xs → f x = true → ∀ H1, Same H H1 → ∀ Q : VK, (∀ H2, Same H1 H2 → Q (v x) H2) → te ((wipe σ vs).set j (some x)) H1 Q)
    (k : ∀ p H2, H p = none → Same H H2 → H2 p = some (.lst ((xs.filter f).map v)) → Q (.ref p) H2) : LcV K (gName j) t te vs σ (.ref a) H Q := by
  refine ⟨a, rfl, ⟨xs, hx⟩, fun D hD => ?_⟩
  refine lc_list (xs := xs) (fun i H' => Same H H' ∧ H' D = some (.lst (((xs.take i).filter f).map v))) ⟨Same.new hD, upd_same⟩ (fun i H' _ p => Same.seq p.1 hx) ?_ ?_
  · intro i x H' hi p
    have hm : x ∈ xs := List.mem_of_getElem? hi
    have hlt : i < xs.length := (List.getElem?_eq_some_iff.mp hi).1
    have et := take_more hi
    refine ⟨hw x, ht x hm H' p.1 _ fun H2 e2 => ?_⟩
    cases hf : f x with
    | true =>
      rw [if_pos rfl]
      refine he x hm hf H2 (p.1.trans e2) _ fun H3 e3 => ⟨_, e3 _ _ (e2 _ _ p.2), ?_, ?_, ?_⟩
      · have z1 := List.length_filter_le f (xs.take i)
        rw [List.length_map]
        rw [List.length_take] at z1
        exact sz' (by omega)
      · exact Same.mut ((p.1.trans e2).trans e3) hD
      · rw [et, List.filter_append, List.map_append, upd_same]
        simp [List.filter, hf]
    | false =>
      rw [if_neg Bool.false_ne_true]
      refine ⟨p.1.trans e2, ?_⟩
      rw [et, List.filter_append, List.map_append]
      simp [List.filter, hf]
      exact e2 _ _ p.2
  · intro H' p
    rw [List.take_length] at p
    exact k D H' hD p.1 p.2
/-- len(..) -/
def rLen (K : PySem.W.Frag) : List V → Hp → VK → Prop := fun xs H Q => ∃ p ys, xs = [.ref p] ∧ (SqL K H p ys ∨ SqT K H p ys) ∧ Q (.int ys.length) H
theorem call_len {X : Cx} : CallR X (.builtin "len") (rLen X.K) := call_len_seq
theorem x_lenL {p : Addr} {xs : List V} (h : SqL K H p xs) (q : Q (.int xs.length) H) : rLen K [.ref p] H Q := ⟨p, xs, rfl, .inl h, q⟩
theorem x_lenT {p : Addr} {xs : List V} (h : SqT K H p xs) (q : Q (.int xs.length) H) : rLen K [.ref p] H Q := ⟨p, xs, rfl, .inr h, q⟩
def rAbs : List V → Hp → VK → Prop := fun xs H Q => ∃ i, xs = [.int i] ∧ Q (.int (if i < 0 then -i else i)) H
theorem call_absI {X : Cx} : CallR X (.builtin "abs") rAbs := call_abs
theorem x_abs {i : Int} (q : Q (.int (if i < 0 then -i else i)) H) : rAbs [.int i] H Q := ⟨i, rfl, q⟩
def ForL (K : PySem.W.Frag) (g : TG) (tb : TS) (D : Ends) (σ : L2.St) (x : V) (H1 : Hp) : Prop := ∃ a, x = .ref a ∧ (∃ xs, SqL K H1 a xs) ∧ ∃ W : Nat → Nat → L2.St → Hp → Prop, (∃ m, W 0 m σ H1) ∧ ∀ i m σ H, W i m σ H →
  ((Itl K a).stop i H ∧ D.nx σ H) ∨ ((Itl K a).go i H ∧ ∃ N : L2.St → Hp → Prop, (∀ σ' H', N σ' H' → ∃ m', m' < m ∧ W (i + 1) m' σ' H') ∧ ∀ x H', (Itl K a).yld i H x H' → g x σ H' fun σ2 H2 => tb { D with nx := N, ct := N, bk := D.nx } σ2 H2)
theorem x_forL {tb : TS} {D : Ends} (h : tl σ H fun x H1 => ForL K g tb D σ x H1) : tFor (iList K tl) g tb D σ H := h
/-- a for over a list by what holds between two turns; the turn's item is x -/
theorem for_L {tb : TS} {D : Ends} {j : Nat} {a : Addr} {xs : List V} (hx : SqL K H a xs) (Pv : Nat → L2.St → Hp → Prop) (h0 : Pv 0 σ H) (hl : ∀ i σ H, i ≤ xs.length → Pv i σ H → SqL K H a xs)
    (hs : ∀ i x σ H, xs[i]? = some x → Pv i σ H → tb { nx := Pv (i + 1), rt := D.rt, ct := Pv (i + 1), bk := D.nx } (σ.set j (some x)) H) (hd : ∀ σ H, Pv xs.length σ H → D.nx σ H) : ForL K (gName j) tb D σ (.ref a) H :=
  ⟨a, rfl, ⟨xs, hx⟩, for_list (xs := xs) Pv h0 hl (fun i x σ H e p => hs i x σ H e p) hd⟩
def Rg1V (x : V) (H : Hp) (Q : Int → Int → Hp → Prop) : Prop := ∃ n, x = .int n ∧ Q 0 n H
def Rg2V (x y : V) (H : Hp) (Q : Int → Int → Hp → Prop) : Prop := ∃ i j, x = .int i ∧ y = .int j ∧ Q i j H
theorem x_rg1 {Q : Int → Int → Hp → Prop} (h : te σ H fun x H1 => Rg1V x H1 Q) : tRg1 te σ H Q := h
theorem x_rg2 {tb : TE} {Q : Int → Int → Hp → Prop} (h : te σ H fun x H1 => tb σ H1 fun y H2 => Rg2V x y H2 Q) : tRg2 te tb σ H Q := h
theorem rg1v {n : Int} {Q : Int → Int → Hp → Prop} (q : Q 0 n H) : Rg1V (.int n) H Q := ⟨n, rfl, q⟩
theorem rg2v {i j : Int} {Q : Int → Int → Hp → Prop} (q : Q i j H) : Rg2V (.int i) (.int j) H Q := ⟨i, j, rfl, rfl, q⟩
end
end LH
namespace LH
open PySem L2
section
variable {K : PySem.W.Frag} {σ : L2.St} {H : Hp} {Q : VK} {D : Ends} {te tl ta tb : TE} {tr : TA} {t : TT} {g : TG} {x y : V}
/-! walks of any kind -/
def LcJ (J : It) (g : TG) (t : TT) (te : TE) (vs : List Nat) (σ : L2.St) (H1 : Hp) (Q : VK) : Prop :=
  ∀ D, H1 D = none → ∃ W : Nat → Nat → Hp → Prop, (∃ m, W 0 m (upd H1 D (.lst []))) ∧ ∀ i m H, W i m H →
  (J.stop i H ∧ Q (.ref D) H) ∨ (J.go i H ∧ ∃ Nx : Hp → Prop, (∀ H', Nx H' → ∃ m', m' < m ∧ W (i + 1) m' H') ∧ ∀ x H', J.yld i H x H' → g x (wipe σ vs) H' fun σ2 H2 => wipe σ2 vs = wipe σ vs ∧ t σ2 H2 fun b H3 =>
    if b = true then te σ2 H3 fun y H4 => ∃ acc, H4 D = some (.lst acc) ∧ acc.length < sizeLine ∧ Nx (upd H4 D (.lst (acc ++ [y]))) else Nx H3)
def ForJ (J : It) (g : TG) (tb : TS) (D : Ends) (σ : L2.St) (H1 : Hp) : Prop := ∃ W : Nat → Nat → L2.St → Hp → Prop, (∃ m, W 0 m σ H1) ∧ ∀ i m σ H, W i m σ H →
  (J.stop i H ∧ D.nx σ H) ∨ (J.go i H ∧ ∃ N : L2.St → Hp → Prop, (∀ σ' H', N σ' H' → ∃ m', m' < m ∧ W (i + 1) m' σ' H') ∧ ∀ x H', J.yld i H x H' → g x σ H' fun σ2 H2 => tb { D with nx := N, ct := N, bk := D.nx } σ2 H2)
def StrV (v : V) (H : Hp) (R : It → Hp → Prop) : Prop := ∃ x, v = .str x ∧ R (Its x) H
theorem strv {z : Str} {R : It → Hp → Prop} (h : R (Its z) H) : StrV (.str z) H R := ⟨z, rfl, h⟩
def Rn1V (vs : List V) (H : Hp) (R : It → Hp → Prop) : Prop := ∃ j : Int, vs = [.int j] ∧ -(2 ^ 62) ≤ j ∧ j < 2 ^ 62 ∧ R (Itr 0 j.toNat) H
theorem rn1v {j : Int} {R : It → Hp → Prop} (h1 : -100000 ≤ j) (h2 : j ≤ 100000) (h : R (Itr 0 j.toNat) H) : Rn1V [.int j] H R := ⟨j, rfl, by omega, by omega, h⟩
def Rn3V (vs : List V) (H : Hp) (R : It → Hp → Prop) : Prop := ∃ (i j c : Int) (n : Nat), vs = [.int i, .int j, .int c] ∧ RgC i j c n ∧ R (Itc i c n) H
theorem rn3v {i j c : Int} {n : Nat} {R : It → Hp → Prop} (h1 : RgC i j c n) (h : R (Itc i c n) H) : Rn3V [.int i, .int j, .int c] H R := ⟨i, j, c, n, rfl, h1, h⟩
def TupV (K : PySem.W.Frag) (x : V) (H : Hp) (R : It → Hp → Prop) : Prop := ∃ a, x = .ref a ∧ (∃ xs, SqT K H a xs) ∧ R (Itt K a) H
theorem x_lcS {vs : List Nat} (h : tl σ H fun v H1 => StrV v H1 fun J H2 => LcJ J g t te vs σ H2 Q) : tLc (iStr tl) g t te vs σ H Q := h
theorem x_lcR1 {vs : List Nat} (h : tr σ H fun v H1 => Rn1V v H1 fun J H2 => LcJ J g t te vs σ H2 Q) : tLc (iRng1 tr) g t te vs σ H Q := h
theorem x_forR1 {tb : TS} (h : tr σ H fun v H1 => Rn1V v H1 fun J H2 => ForJ J g tb D σ H2) : tFor (iRng1 tr) g tb D σ H := h
theorem x_forR3 {tb : TS} (h : tr σ H fun v H1 => Rn3V v H1 fun J H2 => ForJ J g tb D σ H2) : tFor (iRng3 tr) g tb D σ H := h
theorem for_R3 {tb : TS} {lo c : Int} {n : Nat} {j : Nat} (Pv : Nat → L2.St → Hp → Prop) (h0 : Pv 0 σ H)
    (hs : ∀ i σ H, i < n → Pv i σ H → tb { nx := Pv (i + 1), rt := D.rt, ct := Pv (i + 1), bk := D.nx } (σ.set j (some (.int (lo + (i : Nat) * c)))) H) (hd : ∀ σ H, Pv n σ H → D.nx σ H) : ForJ (Itc lo c n) (gName j) tb D σ H :=
  for_rangeC Pv h0 (fun i σ H hi p => hs i σ H hi p) hd
theorem for_R1 {tb : TS} {lo : Int} {n : Nat} {j : Nat} (Pv : Nat → L2.St → Hp → Prop) (h0 : Pv 0 σ H)
    (hs : ∀ i σ H, i < n → Pv i σ H → tb { nx := Pv (i + 1), rt := D.rt, ct := Pv (i + 1), bk := D.nx } (σ.set j (some (.int (lo + (i : Nat))))) H) (hd : ∀ σ H, Pv n σ H → D.nx σ H) : ForJ (Itr lo n) (gName j) tb D σ H :=
  for_range Pv h0 (fun i σ H hi p => hs i σ H hi p) hd
/-- a comprehension whose walk gives the items xs, the heap as it was -/
theorem lc_J {J : It} {n : Nat} {Y : Nat → Hp → V → Hp → Prop} (w : Walk J n (fun _ => True) Y) {xs : List V} (hn : xs.length = n) (hY : ∀ i H x H', Y i H x H' → H' = H ∧ xs[i]? = some x) {j : Nat} {vs : List Nat} (hz : xs.length ≤ 100000)
    (f : V → Bool) (v : V → V) (hw : ∀ x, wipe ((wipe σ vs).set j (some x)) vs = wipe σ vs)
    (ht : ∀ x, x ∈ xs → ∀ H1, Same H H1 → ∀ Q : Bool → Hp → Prop, (∀ H2, Same H1 H2 → Q (f x) H2) → t ((wipe σ vs).set j (some x)) H1 Q)
    (he : ∀ x, x ∈ xs → f x = true → ∀ H1, Same H H1 → ∀ Q : VK, (∀ H2, Same H1 H2 → Q (v x) H2) → te ((wipe σ vs).set j (some x)) H1 Q)
    (k : ∀ p H2, H p = none → Same H H2 → H2 p = some (.lst ((xs.filter f).map v)) → Q (.ref p) H2) : LcJ J (gName j) t te vs σ H Q := by
  intro D hD
  refine lc_it w (fun i H' => Same H H' ∧ H' D = some (.lst (((xs.take i).filter f).map v))) ⟨Same.new hD, upd_same⟩ (fun _ _ _ _ => trivial) ?_ ?_
  · intro i x H' H'' hi p y
    obtain ⟨rfl, hx⟩ := hY _ _ _ _ y
    have hm : x ∈ xs := List.mem_of_getElem? hx
    have et := take_more hx
    refine ⟨hw x, ht x hm _ p.1 _ fun H2 e2 => ?_⟩
    cases hf : f x with
    | true =>
      rw [if_pos rfl]
      refine he x hm hf H2 (p.1.trans e2) _ fun H3 e3 => ⟨_, e3 _ _ (e2 _ _ p.2), ?_, ?_, ?_⟩
      · have z1 := List.length_filter_le f (xs.take i)
        rw [List.length_map]
        rw [List.length_take] at z1
        exact sz' (by omega)
      · exact Same.mut ((p.1.trans e2).trans e3) hD
      · rw [et, List.filter_append, List.map_append, upd_same]
        simp [List.filter, hf]
    | false =>
      rw [if_neg Bool.false_ne_true]
      refine ⟨p.1.trans e2, ?_⟩
      rw [et, List.filter_append, List.map_append]
      simp [List.filter, hf]
      exact e2 _ _ p.2
  · intro H' p
    rw [← hn, List.take_length] at p
    exact k D H' hD p.1 p.2
def signs (z : Str) : List V := z.cps.toList.map fun c => .str ⟨#[c]⟩
theorem signs_len (z : Str) : (signs z).length = z.cps.size := by unfold signs; rw [List.length_map, Array.length_toList]
/-- .. over a text's signs -/
theorem lc_S {z : Str} {j : Nat} {vs : List Nat} (hz : z.cps.size ≤ 100000) (f : V → Bool) (v : V → V) (hw : ∀ x, wipe ((wipe σ vs).set j (some x)) vs = wipe σ vs)
    (ht : ∀ x, x ∈ signs z → ∀ H1, Same H H1 → ∀ Q : Bool → Hp → Prop, (∀ H2, Same H1 H2 → Q (f x) H2) → t ((wipe σ vs).set j (some x)) H1 Q)
    (he : ∀ x, x ∈ signs z → f x = true → ∀ H1, Same H H1 → ∀ Q : VK, (∀ H2, Same H1 H2 → Q (v x) H2) → te ((wipe σ vs).set j (some x)) H1 Q)
    (k : ∀ p H2, H p = none → Same H H2 → H2 p = some (.lst (((signs z).filter f).map v)) → Q (.ref p) H2) : LcJ (Its z) (gName j) t te vs σ H Q :=
  lc_J walk_str (signs_len z) (fun i H x H' ⟨e, c, hc, hx⟩ => ⟨e, by unfold signs; rw [List.getElem?_map, Array.getElem?_toList, hc, hx]; rfl⟩) (by rw [signs_len]; exact hz) f v hw ht he k
theorem walk_rg {lo : Int} {n : Nat} : Walk (Itr lo n) n (fun _ => True) (fun i H x H' => H' = H ∧ x = .int (lo + (i : Nat)) ∧ i < n) :=
  ⟨fun _ _ h _ => h, fun _ _ => Nat.le_refl _, fun i H x H' h _ y => ⟨y.1, y.2, h⟩⟩
def intsV (lo : Int) (n : Nat) : List V := (List.range n).map fun i => V.int (lo + (i : Nat))
/-- .. over a range -/
theorem lc_R {lo : Int} {n : Nat} {j : Nat} {vs : List Nat} (hz : n ≤ 100000) (f : V → Bool) (v : V → V) (hw : ∀ x, wipe ((wipe σ vs).set j (some x)) vs = wipe σ vs)
    (ht : ∀ x, x ∈ intsV lo n → ∀ H1, Same H H1 → ∀ Q : Bool → Hp → Prop, (∀ H2, Same H1 H2 → Q (f x) H2) → t ((wipe σ vs).set j (some x)) H1 Q)
    (he : ∀ x, x ∈ intsV lo n → f x = true → ∀ H1, Same H H1 → ∀ Q : VK, (∀ H2, Same H1 H2 → Q (v x) H2) → te ((wipe σ vs).set j (some x)) H1 Q)
    (k : ∀ p H2, H p = none → Same H H2 → H2 p = some (.lst (((intsV lo n).filter f).map v)) → Q (.ref p) H2) : LcJ (Itr lo n) (gName j) t te vs σ H Q :=
  lc_J walk_rg (by unfold intsV; rw [List.length_map, List.length_range]) (fun i H x H' ⟨e, hx, hi⟩ => ⟨e, by unfold intsV; rw [List.getElem?_map, List.getElem?_range hi, hx]; rfl⟩) (by unfold intsV; rw [List.length_map, List.length_range]; exact hz) f v hw ht he k
theorem x_yes {Q : Bool → Hp → Prop} (q : Q true H) : tYes σ H Q := q
/-! texts -/
def rLenS : List V → Hp → VK → Prop := fun xs H Q => ∃ z, xs = [.str z] ∧ z.length ≤ sizeLine ∧ Q (.int z.length) H
theorem call_lenS {X : Cx} : CallR X (.builtin "len") rLenS := call_len_str
theorem x_lenS {z : Str} (h : z.length ≤ 100000) (q : Q (.int z.length) H) : rLenS [.str z] H Q := ⟨z, rfl, sz h, q⟩
def rAddS : R2 := fun x y H Q => ∃ i j, x = .str i ∧ y = .str j ∧ i.length + j.length ≤ sizeLine ∧ Q (.str (i ++ j)) H
theorem op_addS {X : Cx} : OpR X (binaryOp .Add) rAddS := op_add_str
theorem x_addS {a b : Str} (h : a.length + b.length ≤ 100000) (q : Q (.str (a ++ b)) H) : rAddS (.str a) (.str b) H Q := ⟨a, b, rfl, rfl, sz h, q⟩
def rInS (neg : Bool) : R2 := fun x y H Q => ∃ (c : Nat) (z : Str), x = .str ⟨#[c]⟩ ∧ y = .str z ∧ Q (.bl (if neg then !decide (c ∈ z.cps.toList) else decide (c ∈ z.cps.toList))) H
theorem op_inS {X : Cx} : OpR X (compareOp .In) (rInS false) := op_in_sign
theorem op_niS {X : Cx} : OpR X (compareOp .NotIn) (rInS true) := op_notIn_sign
theorem x_inS {c : Nat} {z : Str} (q : Q (.bl (decide (c ∈ z.cps.toList))) H) : rInS false (.str ⟨#[c]⟩) (.str z) H Q := ⟨c, z, rfl, rfl, q⟩
theorem x_niS {c : Nat} {z : Str} (q : Q (.bl (!decide (c ∈ z.cps.toList))) H) : rInS true (.str ⟨#[c]⟩) (.str z) H Q := ⟨c, z, rfl, rfl, q⟩
theorem x_ixS {z : Str} {i : Int} {c : Nat} (h : z.length ≤ 100000) (e : atI z.cps.toList i = some c) (q : Q (.str ⟨#[c]⟩) H) : rIxS (.str z) (.int i) H Q := ⟨z, i, c, rfl, rfl, sz h, e, q⟩
theorem x_sl {r : V → Option Int → Option Int → Hp → VK → Prop} {lo hi : TO} (h : te σ H fun x H1 => lo σ H1 fun l H2 => hi σ H2 fun u H3 => r x l u H3 Q) : tSl r te lo hi σ H Q := h
theorem x_noPart {Q : Option Int → Hp → Prop} (q : Q none H) : tNoPart σ H Q := q
def PaV (x : V) (H : Hp) (Q : Option Int → Hp → Prop) : Prop := ∃ i, x = .int i ∧ Q (some i) H
theorem pav {i : Int} {Q : Option Int → Hp → Prop} (q : Q (some i) H) : PaV (.int i) H Q := ⟨i, rfl, q⟩
theorem x_part {Q : Option Int → Hp → Prop} (h : te σ H fun x H1 => PaV x H1 Q) : tPart te σ H Q := h
theorem x_slS {z : Str} {lo hi : Option Int} (h : z.length ≤ 100000) (q : Q (.str (cutS z lo hi)) H) : rSlS (.str z) lo hi H Q := ⟨z, rfl, sz h, q⟩
def JnV (K : PySem.W.Frag) (te : TE) (σ : L2.St) (x : V) (H : Hp) (Q : VK) : Prop := (∃ a, x = .str a) ∧ te σ H fun y H2 => ∃ a p, ∃ ys : List Str, x = .str a ∧ [y] = [.ref p] ∧ (SqL K H2 p (ys.map V.str) ∨ SqT K H2 p (ys.map V.str)) ∧
  (ys.map (·.length)).sum + ys.length * a.length ≤ 16777216 ∧ Q (.str (Txt.join a ys)) H2
def JnW (K : PySem.W.Frag) (a : Str) (y : V) (H2 : Hp) (Q : VK) : Prop := ∃ a' p, ∃ ys : List Str, V.str a = .str a' ∧ [y] = [.ref p] ∧ (SqL K H2 p (ys.map V.str) ∨ SqT K H2 p (ys.map V.str)) ∧
  (ys.map (·.length)).sum + ys.length * a'.length ≤ 16777216 ∧ Q (.str (Txt.join a' ys)) H2
theorem x_jnv {a : Str} (h : te σ H fun y H2 => JnW K a y H2 Q) : JnV K te σ (.str a) H Q := ⟨⟨a, rfl⟩, h⟩
theorem x_jnw {a : Str} {p : Addr} {ys : List Str} (h : SqL K H p (ys.map V.str)) (hz : (ys.map (·.length)).sum + ys.length * a.length ≤ 100000) (q : Q (.str (Txt.join a ys)) H) : JnW K a (.ref p) H Q := ⟨a, p, ys, rfl, rfl, .inl h, Nat.le_trans hz (by decide), q⟩
def tJoin (K : PySem.W.Frag) (to te : TE) : TE := fun σ H Q => to σ H fun x H1 => JnV K te σ x H1 Q
theorem x_join {to : TE} (h : to σ H fun x H1 => JnV K te σ x H1 Q) : tJoin K to te σ H Q := h
theorem pe_joinN {X : Cx} {o e : Expr} {to te : TE} {apos pos : Pos} (ho : PE X o to) (he : PE X e te) (hs : starEach [e] X.env = [(false, eval e X.env)] := by rfl) (hbase : attributeBase o "join" X.env (eval o X.env) = eval o X.env := by rfl) (hline : (apos.endLine == pos.line) = true := by rfl) :
    PE X (.Call (.Attribute o "join" apos) [e] [] pos) (tJoin X.K to te) := pe_join ho he hs hbase hline
/-! tuples, bools, lists of, unpacking -/
theorem x_slA {p : Addr} {xs : List V} {lo hi : Option Int} (h : SqT K H p xs) (k : ∀ p' H2, Same H H2 → SqT K H2 p' (cutV xs lo hi) → Q (.ref p') H2) : rSlA K (.ref p) lo hi H Q := by
  refine ⟨p, xs, rfl, h, fun hw => ?_, fun hw q hq => k q _ (Same.new hq) (SqT.of upd_same)⟩
  have e : cutV xs lo hi = xs := by
    unfold cutV
    rw [hw.1, hw.2, List.drop_zero, Nat.sub_zero, List.take_length]
  exact k p H (Same.refl H) (by rw [e]; exact h)
theorem x_catA {p q : Addr} {xs ys : List V} (h1 : SqT K H p xs) (h2 : SqT K H q ys) (hl : xs.length + ys.length ≤ 100000) (k : ∀ p' H2, Same H H2 → SqT K H2 p' (xs ++ ys) → Q (.ref p') H2) : rCatA K (.ref p) (.ref q) H Q := by
  refine ⟨p, q, xs, ys, rfl, rfl, h1, h2, sz hl, fun e => ?_, fun _ e => ?_, fun _ _ r hr => k r _ (Same.new hr) (SqT.of upd_same)⟩
  · exact k q H (Same.refl H) (by rw [e]; exact h2)
  · exact k p H (Same.refl H) (by rw [e, List.append_nil]; exact h1)
def rIsB (neg : Bool) : R2 := fun x y H Q => ∃ a b, x = .bl a ∧ y = .bl b ∧ Q (.bl (if neg then !decide (a = b) else decide (a = b))) H
theorem op_isB {X : Cx} : OpR X (compareOp .Is) (rIsB false) := op_is_bl
theorem op_isnB {X : Cx} : OpR X (compareOp .IsNot) (rIsB true) := op_isnot_bl
theorem x_isB {b c : Bool} (q : Q (.bl (decide (b = c))) H) : rIsB false (.bl b) (.bl c) H Q := ⟨b, c, rfl, rfl, q⟩
theorem x_isnB {b c : Bool} (q : Q (.bl (!decide (b = c))) H) : rIsB true (.bl b) (.bl c) H Q := ⟨b, c, rfl, rfl, q⟩
theorem x_gtup {n : Nat} {tg : TGs} {a : Addr} {xs : List V} {Q : L2.St → Hp → Prop} (h : SqT K H a xs) (e : xs.length = n) (q : tg xs σ H Q) : gTup K n tg (.ref a) σ H Q := ⟨a, xs, rfl, h, e, q⟩
theorem x_gcons {tg : TGs} {v : V} {r : List V} {Q : L2.St → Hp → Prop} (q : g v σ H fun σ' H' => tg r σ' H' Q) : gCons g tg (v :: r) σ H Q := ⟨v, r, rfl, q⟩
theorem x_gnil {Q : L2.St → Hp → Prop} (q : Q σ H) : gNil [] σ H Q := ⟨rfl, q⟩
def rInt1 : List V → Hp → VK → Prop := fun xs H Q => (∃ i, xs = [.int i] ∧ Q (.int i) H) ∨ ∃ k, xs = [.bl k] ∧ Q (.int (if k then 1 else 0)) H
theorem call_intB {X : Cx} : CallR X (.type "int") rInt1 := call_int1
theorem x_intB {b : Bool} (q : Q (.int (if b then 1 else 0)) H) : rInt1 [.bl b] H Q := .inr ⟨b, rfl, q⟩
theorem x_dnew (k : ∀ p H2, H p = none → Same H H2 → H2 p = some (.dK []) → Q (.ref p) H2) : tDNewK σ H Q := fun p hp => k p _ hp (Same.new hp) upd_same
def rListOf (K : PySem.W.Frag) : List V → Hp → VK → Prop := fun xs H Q => ∃ p ys, xs = [.ref p] ∧ (SqL K H p ys ∨ SqT K H p ys) ∧ ∀ l, H l = none → Q (.ref l) (upd H l (.lst ys))
theorem call_listOf {X : Cx} : CallR X (.type "list") (rListOf X.K) := call_list_of
theorem x_listOf {p : Addr} {ys : List V} (h : SqL K H p ys ∨ SqT K H p ys) (k : ∀ l H2, H l = none → Same H H2 → H2 l = some (.lst ys) → Q (.ref l) H2) : rListOf K [.ref p] H Q := ⟨p, ys, rfl, h, fun l hl => k l _ hl (Same.new hl) upd_same⟩
theorem x_all {p : Addr} {bs : List Bool} (h : SqL K H p (bs.map V.bl)) (q : Q (.bl (bs.all id)) H) : rAll K [.ref p] H Q := ⟨p, bs, rfl, h, q⟩
theorem x_any {p : Addr} {bs : List Bool} (h : SqL K H p (bs.map V.bl)) (q : Q (.bl (bs.any id)) H) : rAny K [.ref p] H Q := ⟨p, bs, rfl, h, q⟩
theorem x_ixQ {p : Addr} {xs : List V} {i : Int} {v : V} (h : SqT K H p xs) (e : atI xs i = some v) (q : Q v H) : rIx K (.ref p) (.int i) H Q := .inr (.inl ⟨p, xs, i, v, rfl, rfl, h, e, q⟩)
def OrV (K : PySem.W.Frag) (x : V) (H : Hp) (Q : VK) (R : Hp → VK → Prop) : Prop := ∃ k, TruV K x H k ∧ if k = true then Q x H else R H Q
theorem x_orT (h : ta σ H fun x H1 => OrV K x H1 Q (tb σ)) : tOrT K ta tb σ H Q := h
theorem orv {k : Bool} {R : Hp → VK → Prop} (h : TruV K x H k) (q : Br k (Q x H) (R H Q)) : OrV K x H Q R := ⟨k, h, q⟩
def rIsTy : R2 := fun x y H Q => ∃ a b, x = .ty a ∧ y = .ty b ∧ Q (.bl (decide (a = b))) H
theorem op_isTy {X : Cx} : OpR X (compareOp .Is) rIsTy := op_isTyB
theorem x_isTy {a b : String} (q : Q (.bl (decide (a = b))) H) : rIsTy (.ty a) (.ty b) H Q := ⟨a, b, rfl, rfl, q⟩
theorem x_niTy {a b : String} (q : Q (.bl (!decide (a = b))) H) : rNT (.ty a) (.ty b) H Q := ⟨a, b, rfl, rfl, q⟩
def rIntS : List V → Hp → VK → Prop := fun xs H Q => ∃ a n, xs = [.str a] ∧ PySem.intText? a = some n ∧ a.length ≤ 640 ∧ Q (.int n) H
theorem call_intS {X : Cx} : CallR X (.type "int") rIntS := call_int_str
theorem x_intS {z : Str} {n : Int} (e : PySem.intText? z = some n) (h : z.length ≤ 640) (q : Q (.int n) H) : rIntS [.str z] H Q := ⟨z, n, rfl, e, h, q⟩
def rStrI : List V → Hp → VK → Prop := fun xs H Q => ∃ i, xs = [.int i] ∧ i.natAbs.log2 < 1920 ∧ Q (.str (toString i)) H
theorem call_strI {X : Cx} : CallR X (.type "str") rStrI := call_str_int
theorem x_strI {i : Int} (h : i.natAbs.log2 < 1920) (q : Q (.str (toString i)) H) : rStrI [.int i] H Q := ⟨i, rfl, h, q⟩
theorem x_glst {n : Nat} {tg : TGs} {a : Addr} {xs : List V} {Q : L2.St → Hp → Prop} (h : SqL K H a xs) (e : xs.length = n) (q : tg xs σ H Q) : gLst K n tg (.ref a) σ H Q := ⟨a, xs, rfl, h, e, q⟩
def SpV (te : TE) (σ : L2.St) (x : V) (H : Hp) (Q : VK) : Prop := (∃ a, x = .str a) ∧ te σ H fun y H2 => ∃ a b, x = .str a ∧ [y] = [.str b] ∧ (b.length == 0) = false ∧ a.length + 2 ≤ sizeLine ∧ rNewStrs (Txt.split a b) H2 Q
def SpW (a : Str) (y : V) (H2 : Hp) (Q : VK) : Prop := ∃ a' b, V.str a = .str a' ∧ [y] = [.str b] ∧ (b.length == 0) = false ∧ a'.length + 2 ≤ sizeLine ∧ rNewStrs (Txt.split a' b) H2 Q
def tSplit (to te : TE) : TE := fun σ H Q => to σ H fun x H1 => SpV te σ x H1 Q
theorem x_split {to : TE} (h : to σ H fun x H1 => SpV te σ x H1 Q) : tSplit to te σ H Q := h
theorem x_spv {a : Str} (h : te σ H fun y H2 => SpW a y H2 Q) : SpV te σ (.str a) H Q := ⟨⟨a, rfl⟩, h⟩
theorem x_spw {a b : Str} (hb : (b.length == 0) = false) (hz : a.length ≤ 100000) (k : ∀ p H2, H p = none → Same H H2 → H2 p = some (.lst ((Txt.split a b).map V.str)) → Q (.ref p) H2) : SpW a (.str b) H Q :=
  ⟨a, b, rfl, rfl, hb, Nat.le_trans (Nat.add_le_add_right hz 2) (by decide), fun p hp => k p _ hp (Same.new hp) upd_same⟩
theorem pe_splitN {X : Cx} {o e : Expr} {to te : TE} {apos pos : Pos} (ho : PE X o to) (he : PE X e te) (hs : starEach [e] X.env = [(false, eval e X.env)] := by rfl) (hbase : attributeBase o "split" X.env (eval o X.env) = eval o X.env := by rfl) (hline : (apos.endLine == pos.line) = true := by rfl) :
    PE X (.Call (.Attribute o "split" apos) [e] [] pos) (tSplit to te) := pe_split ho he hs hbase hline
def SetLV (v o i : V) (H : Hp) (Q : Hp → Prop) : Prop := rSetL o i v H Q
theorem x_gsub {to ti : TE} {v : V} {Q : L2.St → Hp → Prop} (h : to σ H fun o H1 => ti σ H1 fun i H2 => SetLV v o i H2 fun H3 => Q σ H3) : gSub to ti rSetL v σ H Q := h
/-- xs[j] = v of a list of one's own: nothing else changes -/
theorem setLV {p : Addr} {xs : List V} {i : Int} {j : Nat} {v : V} {Q : Hp → Prop} (h : H p = some (.lst xs)) (e : ixN xs.length i = some j) (k : ∀ H', (∀ b o, H b = some o → b ≠ p → H' b = some o) → H' p = some (.lst (xs.set j v)) → Q H') : SetLV v (.ref p) (.int i) H Q :=
  ⟨p, xs, i, j, rfl, rfl, h, e, k _ (fun b o q hb => by rw [upd_ne hb]; exact q) upd_same⟩
def tFmt2 (te : TE) : TE := fun σ H Q => te σ H fun x H1 => (∃ y : Str, x = .str y ∧ y.length ≤ sizeLine ∧ Q (.str y) H1) ∨ ∃ i : Int, x = .int i ∧ i.natAbs.log2 < 1920 ∧ Q (.str (toString i)) H1
def FmV (x : V) (H1 : Hp) (Q : VK) : Prop := (∃ y : Str, x = .str y ∧ y.length ≤ sizeLine ∧ Q (.str y) H1) ∨ ∃ i : Int, x = .int i ∧ i.natAbs.log2 < 1920 ∧ Q (.str (toString i)) H1
theorem x_fmt (h : te σ H fun x H1 => FmV x H1 Q) : tFmt te σ H Q := h
theorem fm_s {y : Str} (h : y.length ≤ 100000) (q : Q (.str y) H) : FmV (.str y) H Q := .inl ⟨y, rfl, sz h, q⟩
theorem fm_i {i : Int} (h : i.natAbs.log2 < 1920) (q : Q (.str (toString i)) H) : FmV (.int i) H Q := .inr ⟨i, rfl, h, q⟩
def JsV (ts : List TE) (acc : Str) (σ : L2.St) (x : V) (H1 : Hp) (Q : Str → Hp → Prop) : Prop := ∃ y : Str, x = .str y ∧ (acc ++ y).length ≤ sizeLine ∧ tJs ts (acc ++ y) σ H1 Q
theorem x_js0 {acc : Str} {Q : Str → Hp → Prop} (q : Q acc H) : tJs [] acc σ H Q := q
theorem x_js {ts : List TE} {acc : Str} {Q : Str → Hp → Prop} (h : te σ H fun x H1 => JsV ts acc σ x H1 Q) : tJs (te :: ts) acc σ H Q := h
theorem jsv {ts : List TE} {acc y : Str} {Q : Str → Hp → Prop} (h : (acc ++ y).length ≤ 100000) (q : tJs ts (acc ++ y) σ H Q) : JsV ts acc σ (.str y) H Q := ⟨y, rfl, sz h, q⟩
/-- a for over a list whose target is any -/
theorem for_Lg {tb : TS} {D : Ends} {a : Addr} {xs : List V} (hx : SqL K H a xs) (Pv : Nat → L2.St → Hp → Prop) (h0 : Pv 0 σ H) (hl : ∀ i σ H, i ≤ xs.length → Pv i σ H → SqL K H a xs)
    (hs : ∀ i x σ H, xs[i]? = some x → Pv i σ H → g x σ H fun σ2 H2 => tb { nx := Pv (i + 1), rt := D.rt, ct := Pv (i + 1), bk := D.nx } σ2 H2) (hd : ∀ σ H, Pv xs.length σ H → D.nx σ H) : ForL K g tb D σ (.ref a) H :=
  ⟨a, rfl, ⟨xs, hx⟩, for_list (xs := xs) Pv h0 hl (fun i x σ H e p => hs i x σ H e p) hd⟩
/-- a value's type by isinstance -/
theorem ty_x {T : String} (h : TyB K H x T) : TyX K H x (.type T) := by
  cases h with
  | non => exact .base .non
  | bl b => exact .base (.bl b)
  | int i => exact .base (.int i)
  | str z => exact .base (.str z)
  | byt b => exact .byt b
  | lst h =>
    rcases h with (h | ⟨o, h⟩) | ⟨o, its, n, hk, hc, _⟩
    · exact .base (.lst h)
    · exact .base (.frz h)
    · exact .kList hk hc
  | tup h =>
    rcases h with (h | ⟨o, h⟩) | ⟨o, its, n, hk, hc, _⟩
    · exact .base (.tup h)
    · exact .fTuple h
    · exact .kTuple hk hc
  | dK h => exact .base (.dK h)
theorem x_isiT {T n : String} {b : Bool} (h : TyB K H x T) (e : kitB T n = some b) (q : Q (.bl b) H) : rIsi K [x, .ty n] H Q := x_isi (.ty n) (ty_x h) (kit_ty e) q
end
end LH
/-! more readings: while, range(a, b), min, pop at a place, how many different ints -/
namespace LH
open PySem L2
section
variable {K : PySem.W.Frag} {σ : L2.St} {H : Hp} {Q : VK} {D : Ends} {te tl ta tb : TE} {tr : TA} {c : TT} {t : TS} {g : TG} {x y : V}
/-! range(a, b) -/
def Rn2V (vs : List V) (H : Hp) (R : It → Hp → Prop) : Prop := ∃ i j : Int, vs = [.int i, .int j] ∧ (-(2 ^ 62) ≤ i ∧ i < 2 ^ 62 ∧ -(2 ^ 62) ≤ j ∧ j < 2 ^ 62) ∧ R (Itr i (j - i).toNat) H
theorem rn2v {i j : Int} {R : It → Hp → Prop} (h1 : -100000 ≤ i ∧ i ≤ 100000) (h2 : -100000 ≤ j ∧ j ≤ 100000) (h : R (Itr i (j - i).toNat) H) : Rn2V [.int i, .int j] H R := ⟨i, j, rfl, ⟨by omega, by omega, by omega, by omega⟩, h⟩
theorem x_forR2 (h : tr σ H fun v H1 => Rn2V v H1 fun J H2 => ForJ J g t D σ H2) : tFor (iRng2 tr) g t D σ H := h
/-! while -/
def WhB (W : Nat → L2.St → Hp → Prop) (m : Nat) (t : TS) (D : Ends) (σ : L2.St) (b : Bool) (H1 : Hp) : Prop :=
  if b = true then ∃ N : L2.St → Hp → Prop, (∀ σ' H', N σ' H' → ∃ m', m' < m ∧ W m' σ' H') ∧ t { D with nx := N, ct := N, bk := D.nx } σ H1 else D.nx σ H1
theorem while_m (W : Nat → L2.St → Hp → Prop) (m0 : Nat) (h0 : W m0 σ H) (hs : ∀ m σ H, W m σ H → c σ H (WhB W m t D σ)) : tWhile c t D σ H := ⟨W, ⟨m0, h0⟩, hs⟩
theorem whb {W : Nat → L2.St → Hp → Prop} {m : Nat} {b : Bool} (h1 : b = true → t { D with nx := fun σ' H' => ∃ m', m' < m ∧ W m' σ' H', ct := fun σ' H' => ∃ m', m' < m ∧ W m' σ' H', bk := D.nx } σ H) (h2 : b = false → D.nx σ H) : WhB W m t D σ b H := by
  unfold WhB
  cases b with
  | false => rw [if_neg Bool.false_ne_true]; exact h2 rfl
  | true => rw [if_pos rfl]; exact ⟨_, fun _ _ q => q, h1 rfl⟩
/-! min, max of two ints -/
def rMinI : List V → Hp → VK → Prop := fun xs H Q => ∃ i j, xs = [.int i, .int j] ∧ Q (.int (if j < i then j else i)) H
theorem call_minI {X : Cx} (hc : X.calm = true) : CallR X (.builtin "min") rMinI := call_min2 hc
theorem x_minI {i j : Int} (q : Q (.int (min i j)) H) : rMinI [.int i, .int j] H Q := ⟨i, j, rfl, by
  have e : (if j < i then j else i) = min i j := by
    split <;> omega
  rw [e]; exact q⟩
/-! xs.pop(i) of a list of one's own -/
theorem x_popAt {p : Addr} {xs : List V} {i : Int} {k : Nat} {y : V} (h : H p = some (.lst xs)) (h1 : -100000 ≤ i) (h2 : i ≤ 100000) (hk : seqIndex? i xs.length = some k) (hy : xs[k]? = some y)
    (q : ∀ H', (∀ b o, H b = some o → b ≠ p → H' b = some o) → H' p = some (.lst (xs.eraseIdx k)) → Q y H') : rPopAt (.ref p) [.int i] H Q :=
  ⟨p, xs, i, k, y, rfl, rfl, h, by omega, by omega, hk, hy, q _ (fun b o e hb => by rw [upd_ne hb]; exact e) upd_same⟩
/-- xs.append(y) to a list of one's own -/
theorem x_app {p : Addr} {xs : List V} {y : V} (h : H p = some (.lst xs)) (hl : xs.length ≤ 100000)
    (q : ∀ H', (∀ b o, H b = some o → b ≠ p → H' b = some o) → H' p = some (.lst (xs ++ [y])) → Q .non H') : rAppend (.ref p) [y] H Q :=
  ⟨p, xs, y, rfl, rfl, h, sz' hl, q _ (fun b o e hb => by rw [upd_ne hb]; exact e) upd_same⟩
theorem Same.set {H0 H H' : Hp} {p : Addr} (e : L2.Same H0 H) (f : H0 p = none) (k : ∀ b o, H b = some o → b ≠ p → H' b = some o) : L2.Same H0 H' := fun b o h => k b o (e b o h) fun q => by
  rw [q, f] at h
  cases h
theorem Same.none {H H' : Hp} {p : Addr} (e : L2.Same H H') (h : H' p = none) : H p = none := by
  cases hq : H p with
  | none => rfl
  | some o => rw [e _ _ hq] at h; cases h
theorem perm_erase {α : Type} : ∀ (l : List α) (j : Nat) (h : j < l.length), (l[j] :: l.eraseIdx j).Perm l
  | [], j, h => absurd h (Nat.not_lt_zero _)
  | a :: l, 0, _ => List.Perm.refl _
  | a :: l, j + 1, h => (List.Perm.swap a (l[j]'(Nat.lt_of_succ_lt_succ h)) (l.eraseIdx j)).trans ((perm_erase l j (Nat.lt_of_succ_lt_succ h)).cons a)
theorem map_erase {α β : Type} (f : α → β) : ∀ (l : List α) (j : Nat), (l.map f).eraseIdx j = (l.eraseIdx j).map f
  | [], _ => rfl
  | _ :: _, 0 => rfl
  | a :: l, j + 1 => congrArg (fun z => f a :: z) (map_erase f l j)
/-- a comprehension over a list, by what becomes of each item: nothing, or a value -/
theorem lc_Li {a : Addr} {xs : List V} {j : Nat} {vs : List Nat} {t : TT} (hx : SqL K H a xs) (hz : xs.length ≤ 100000) (out : List (Option V)) (hn : out.length = xs.length)
    (hw : ∀ x, wipe ((wipe σ vs).set j (some x)) vs = wipe σ vs)
    (ht : ∀ (i : Nat) x o, xs[i]? = some x → out[i]? = some o → ∀ H1, L2.Same H H1 → ∀ Q : Bool → Hp → Prop, (∀ H2, L2.Same H1 H2 → Q o.isSome H2) → t ((wipe σ vs).set j (some x)) H1 Q)
    (he : ∀ (i : Nat) x y, xs[i]? = some x → out[i]? = some (some y) → ∀ H1, L2.Same H H1 → ∀ Q : VK, (∀ H2, L2.Same H1 H2 → Q y H2) → te ((wipe σ vs).set j (some x)) H1 Q)
    (k : ∀ p H2, H p = none → L2.Same H H2 → H2 p = some (.lst (out.filterMap id)) → Q (.ref p) H2) : LcV K (gName j) t te vs σ (.ref a) H Q := by
  refine ⟨a, rfl, ⟨xs, hx⟩, fun D hD => ?_⟩
  refine lc_list (xs := xs) (fun i H' => L2.Same H H' ∧ H' D = some (.lst ((out.take i).filterMap id))) ⟨LH.Same.new hD, upd_same⟩ (fun i H' _ p => Same.seq p.1 hx) ?_ ?_
  · intro i x H' hi p
    have hlt : i < xs.length := (List.getElem?_eq_some_iff.mp hi).1
    have ho : out[i]? = some (out[i]'(by omega)) := List.getElem?_eq_getElem (by omega)
    generalize out[i]'(by omega) = o at ho
    have et := take_more ho
    have small : ((out.take i).filterMap id).length ≤ 100000 := by
      have z1 := List.length_filterMap_le id (out.take i)
      rw [List.length_take] at z1
      omega
    refine ⟨hw x, ht i x o hi ho H' p.1 _ fun H2 e2 => ?_⟩
    cases o with
    | some y =>
      show (if true = true then _ else _)
      rw [if_pos rfl]
      refine he i x y hi ho H2 (p.1.trans e2) _ fun H3 e3 => ⟨_, e3 _ _ (e2 _ _ p.2), sz' small, ?_, ?_⟩
      · exact Same.mut ((p.1.trans e2).trans e3) hD
      · rw [et, List.filterMap_append, upd_same]
        rfl
    | none =>
      show (if false = true then _ else _)
      rw [if_neg Bool.false_ne_true]
      refine ⟨p.1.trans e2, ?_⟩
      rw [et, List.filterMap_append]
      have := e2 _ _ p.2
      simpa using this
  · intro H' p
    rw [← hn, List.take_length] at p
    exact k D H' hD p.1 p.2
/-- a comprehension whose items are objects of their own: the i-th holds ob i, which is no list -/
theorem lc_N {a : Addr} {xs : List V} {j : Nat} {vs : List Nat} {t : TT} (hx : SqL K H a xs) (hz : xs.length ≤ 100000) (ob : Nat → HO) (no : ∀ i l, ob i ≠ .lst l)
    (hw : ∀ x, wipe ((wipe σ vs).set j (some x)) vs = wipe σ vs)
    (ht : ∀ x, x ∈ xs → ∀ H1, L2.Same H H1 → ∀ Q : Bool → Hp → Prop, (∀ H2, L2.Same H1 H2 → Q true H2) → t ((wipe σ vs).set j (some x)) H1 Q)
    (he : ∀ (i : Nat) x, xs[i]? = some x → ∀ H1, L2.Same H H1 → ∀ Q : VK, (∀ p H2, L2.Same H1 H2 → H2 p = some (ob i) → Q (.ref p) H2) → te ((wipe σ vs).set j (some x)) H1 Q)
    (k : ∀ p H2 ys, H p = none → L2.Same H H2 → H2 p = some (.lst ys) → ys.length = xs.length → (∀ i y, ys[i]? = some y → ∃ p, y = .ref p ∧ H2 p = some (ob i)) → Q (.ref p) H2) : LcV K (gName j) t te vs σ (.ref a) H Q := by
  refine ⟨a, rfl, ⟨xs, hx⟩, fun D hD => ?_⟩
  refine lc_list (xs := xs) (fun i H' => L2.Same H H' ∧ ∃ ys : List V, H' D = some (.lst ys) ∧ ys.length = i ∧ ∀ i y, ys[i]? = some y → ∃ p, y = .ref p ∧ H' p = some (ob i)) ⟨LH.Same.new hD, [], upd_same, rfl, fun i y h => nomatch h⟩ (fun i H' _ p => Same.seq p.1 hx) ?_ ?_
  · rintro i x H' hi ⟨e0, ys, gD, ly, hy⟩
    have hlt : i < xs.length := (List.getElem?_eq_some_iff.mp hi).1
    refine ⟨hw x, ht x (List.mem_of_getElem? hi) H' e0 _ fun H2 e2 => ?_⟩
    show (if true = true then _ else _)
    rw [if_pos rfl]
    refine he i x hi H2 (e0.trans e2) _ fun p H3 e3 g3 => ⟨ys, e3 _ _ (e2 _ _ gD), sz' (by omega), ?_, ys ++ [.ref p], upd_same, by rw [List.length_append, ly]; rfl, fun m y hm => ?_⟩
    · exact Same.mut ((e0.trans e2).trans e3) hD
    · have other : ∀ b o, H3 b = some o → (∀ l, o ≠ .lst l) → upd H3 D (.lst (ys ++ [.ref p])) b = some o := fun b o hb hl => by
        rw [upd_ne (fun q => by
          rw [q, e3 _ _ (e2 _ _ gD)] at hb
          injection hb with hb
          exact hl _ hb.symm)]
        exact hb
      by_cases h : m < ys.length
      · rw [List.getElem?_append_left h] at hm
        obtain ⟨p1, e1, g1⟩ := hy m y hm
        exact ⟨p1, e1, other _ _ (e3 _ _ (e2 _ _ g1)) (no m)⟩
      · rw [List.getElem?_append_right (by omega)] at hm
        have hm0 : m - ys.length = 0 := by
          cases hq : m - ys.length with
          | zero => rfl
          | succ z => rw [hq] at hm; cases hm
        rw [hm0] at hm
        injection hm with hm
        have : m = i := by omega
        subst this
        exact ⟨p, hm.symm, other _ _ g3 (no m)⟩
  · rintro H' ⟨e0, ys, gD, ly, hy⟩
    exact k D H' ys hD e0 gD ly hy
/-- two ways that meet again: what follows, R, is proved once -/
theorem join {α : Type} {A : Prop} {R : α → Hp → Prop} (X : α → Hp → Prop) (hA : (∀ y H', X y H' → R y H') → A) (h : ∀ y H', X y H' → R y H') : A := hA h
/-! tuple(xs) of a list; != of plain data or of two dicts -/
def rTupL (K : PySem.W.Frag) : List V → Hp → VK → Prop := fun xs H Q => ∃ p ys, xs = [.ref p] ∧ ((SqL K H p ys ∧ ∀ l, H l = none → Q (.ref l) (upd H l (.tup ys))) ∨ (SqT K H p ys ∧ Q (.ref p) H))
theorem call_tupL {X : Cx} : CallR X (.type "tuple") (rTupL X.K) := call_tuple_of
theorem x_tupL {p : Addr} {ys : List V} (h : SqL K H p ys) (k : ∀ l H2, H l = none → L2.Same H H2 → H2 l = some (.tup ys) → Q (.ref l) H2) : rTupL K [.ref p] H Q := ⟨p, ys, rfl, .inl ⟨h, fun l hl => k l _ hl (LH.Same.new hl) upd_same⟩⟩
def rNeX (K : PySem.W.Frag) : R2 := fun x y H Q => rNeD K x y H Q ∨ rNeDA x y H Q
theorem op_neX {X : Cx} (hu : X.A.units + 64 < cLine) : OpR X (compareOp .NotEq) (rNeX X.K) := (op_neD hu).or (op_ne_dictA (by omega))
theorem x_neX {d : PyData} (hx : Dp K H x d) (sd : SeqAt.shaped d = true) (hy : Dp K H y d) (q : Q (.bl false) H) : rNeX K x y H Q := .inl ⟨d, d, hx, hy, sd, sd, by
  have e : PyData.eqv d d = true := by
    unfold SeqAt.shaped at sd
    rw [Bool.and_eq_true] at sd
    exact SeqAt.eqv_refl _ sd.1
  rw [e]
  exact q⟩
theorem x_neX0 {p : Addr} (h : H p = some (.dK [])) (q : Q (.bl false) H) : rNeX K (.ref p) (.ref p) H Q := .inr ⟨p, p, [], [], rfl, rfl, h, h, rfl, (fun _ m => nomatch m), q⟩
/-! how many different ones -/
def dist (ns : List Int) : List Int := PyProof.Rows.firstMet (fun i => ns.getD i 0) ns.length
def LsV (K : PySem.W.Frag) (x : V) (H : Hp) (Q : VK) : Prop := ∃ (l : Addr) (ns : List Int), x = V.ref l ∧ SqL K H l (ns.map V.int) ∧ ns.length < 60 ∧ Q (.int (dist ns).length) H
def tLenSetG (K : PySem.W.Frag) (ta : TE) : TE := fun σ H Q => ta σ H fun x H1 => LsV K x H1 Q
theorem x_lenSetG (h : ta σ H fun x H1 => LsV K x H1 Q) : tLenSetG K ta σ H Q := h
theorem lsv {p : Addr} {ns : List Int} (h : SqL K H p (ns.map V.int)) (hl : ns.length < 60) (q : Q (.int (dist ns).length) H) : LsV K (.ref p) H Q := ⟨p, ns, rfl, h, hl, q⟩
theorem fold_dist : ∀ (l acc : List Int), (l.foldl PyProof.Rows.step_dedup acc).length ≤ acc.length + l.length ∧ ((l.foldl PyProof.Rows.step_dedup acc).length = acc.length + l.length → l.Nodup ∧ ∀ k ∈ l, k ∉ acc)
  | [], acc => ⟨Nat.le_refl _, fun _ => ⟨List.nodup_nil, fun k h => nomatch h⟩⟩
  | k :: l, acc => by
    have ih := fold_dist l (PyProof.Rows.step_dedup acc k)
    rw [List.foldl_cons]
    by_cases hk : acc.any (· == k) = true
    · have e : PyProof.Rows.step_dedup acc k = acc := by unfold PyProof.Rows.step_dedup; rw [if_pos hk]
      rw [e] at ih ⊢
      refine ⟨by rw [List.length_cons]; omega, fun h => ?_⟩
      rw [List.length_cons] at h
      omega
    · have e : PyProof.Rows.step_dedup acc k = acc ++ [k] := by unfold PyProof.Rows.step_dedup; rw [if_neg hk]
      rw [e] at ih ⊢
      rw [List.length_append, List.length_singleton] at ih
      refine ⟨by rw [List.length_cons]; omega, fun h => ?_⟩
      rw [List.length_cons] at h
      obtain ⟨h1, h2⟩ := ih.2 (by omega)
      have nk : k ∉ acc := fun hm => hk (List.any_eq_true.mpr ⟨k, hm, beq_self_eq_true k⟩)
      refine ⟨List.nodup_cons.mpr ⟨fun hm => h2 k hm (List.mem_append.mpr (.inr (List.mem_singleton.mpr rfl))), h1⟩, fun j hj => ?_⟩
      rcases List.mem_cons.mp hj with rfl | hj
      · exact nk
      · exact fun hm => h2 j hj (List.mem_append.mpr (.inl hm))
theorem dist_eq (ns : List Int) : (dist ns).length = ns.length ↔ ns.Nodup := by
  constructor
  · intro h
    have e : (List.range ns.length).map (fun i => ns.getD i 0) = ns := by
      refine List.ext_getElem (by simp) fun i h1 h2 => ?_
      simp at h1 ⊢
      rw [List.getElem?_eq_getElem h1]
      rfl
    have h2 : (ns.foldl PyProof.Rows.step_dedup []).length = ([] : List Int).length + ns.length := by
      unfold dist PyProof.Rows.firstMet at h
      rw [e] at h
      simpa using h
    exact ((fold_dist ns []).2 h2).1
  · intro h
    unfold dist
    rw [RZ.firstMet_nodup h ns.length (Nat.le_refl _), List.take_length]
end
section
open PySem.Spec PyProof.Rows
variable {X : Cx}
/-- len(set(a)): how many different ints -/
theorem pe_lenSetG {a : Expr} {ta : TE} {p p2 q pos : Pos} (calm : X.calm = true) (g1 : Gl X "len") (m1 : X.mg "len" = none) (g2 : Gl X "set") (m2 : X.mg "set" = none) (ea : PE X a ta)
    (sp : starEach [a] X.env = (false, eval a X.env) :: starEach [] X.env := by rfl) :
    PE X (.Call (.Name "len" p) [.Call (.Name "set" p2) [a] [] q] [] pos) (tLenSetG X.K ta) := by
  constructor
  intro pins s σ H Q inv need
  refine Call_ ?_
  apply ld_blt inv g1 m1 boot_len
  apply PyProof.Rows.callWith_builtin1
  · apply PyProof.Rows.args_cons
    · refine Call_ ?_
      apply ld_blt inv g2 m2 boot_set
      apply PyProof.Rows.callWith_type1
      · apply PyProof.Rows.args_cons
        · apply thn (ea.run pins s σ H _ inv need)
          rintro v s1 ⟨x, H1, inv1, rel, l, ns, rfl, sq, hl, go⟩
          apply PyProof.Rows.args_nil
          cases rel
          obtain ⟨its, vals, plain, _⟩ := inv1.list sq
          have size : its.toArray.size = ns.length := by
            rw [List.size_toArray, ← vals.length, List.length_map]
          refine call_set_list (inv1.ok.hd calm) plain.isList (ns := ns) (by simpa using vals.ints) (by unfold scanBound; omega) ?_
          intro h' tk made kept
          rw [size] at made
          obtain ⟨o, es, ep, tb, at_, exact_, data, _, _, _, fits, count⟩ := made
          apply PyProof.Rows.args_nil
          have inv2 : Inv X pins σ H1 { s1 with heap := h', toks := tk } := inv1.kept fun b u e => kept b u (Heap.lt_size e) e
          have few := PyProof.Rows.firstMet_length_le (fun i => ns.getD i 0) ns.length
          refine call_len_set at_ exact_ data fits (by rw [count]; omega) ⟨.int (dist ns).length, H1, inv2.tok _, ⟨_, by rw [count]; rfl⟩, go⟩
        · exact sp
      · exact sp
      · rfl
    · rfl
  · rfl
  · rfl
end
end LH
/-! readings for classes and dicts; the part of a heap that stands still -/
namespace LH
open PySem L2
/-! ### what stands still -/
/-- the heap without the places M that may change -/
def Fr (M : List Addr) (H : Hp) : Hp := fun b => if b ∈ M then none else H b
/-- all but the place a stays -/
def Kp (a : Addr) (H H' : Hp) : Prop := ∀ b o, H b = some o → b ≠ a → H' b = some o
/-- all but the places M stay -/
def Ks (M : List Addr) (H H' : Hp) : Prop := ∀ b o, H b = some o → b ∉ M → H' b = some o
theorem Kp.ks {a : Addr} {M : List Addr} {H H' : Hp} (k : Kp a H H') (m : a ∈ M) : Ks M H H' := fun b o h n => k b o h fun e => n (e ▸ m)
theorem Ks.of {M : List Addr} {H H' : Hp} (e : L2.Same H H') : Ks M H H' := fun b o h _ => e b o h
theorem Ks.trans {M : List Addr} {H H1 H2 : Hp} (a : Ks M H H1) (b : Ks M H1 H2) : Ks M H H2 := fun c o h n => b c o (a c o h n) n
theorem Ks.sub {M N : List Addr} {H H1 : Hp} (a : Ks M H H1) (s : ∀ b ∈ M, b ∈ N) : Ks N H H1 := fun c o h n => a c o h fun m => n (s c m)
theorem Kp.up {a : Addr} {H H' : Hp} : Kp a H (upd H a o) := fun b o h n => by rw [upd_ne n]; exact h
theorem Kp.upd {a : Addr} {H : Hp} {o : HO} : Kp a H (L2.upd H a o) := fun b u h n => by rw [upd_ne n]; exact h
theorem fr_of {M : List Addr} {H : Hp} {b : Addr} {o : HO} (h : H b = some o) (n : b ∉ M) : Fr M H b = some o := by
  unfold Fr
  rw [if_neg n]
  exact h
theorem fr_in {M : List Addr} {H : Hp} {b : Addr} (m : b ∈ M) : Fr M H b = none := by
  unfold Fr
  rw [if_pos m]
theorem fr_some {M : List Addr} {H : Hp} {b : Addr} {o : HO} (h : Fr M H b = some o) : H b = some o ∧ b ∉ M := by
  unfold Fr at h
  by_cases m : b ∈ M
  · rw [if_pos m] at h
    cases h
  · rw [if_neg m] at h
    exact ⟨h, m⟩
theorem fr_le {M : List Addr} {H : Hp} : L2.Same (Fr M H) H := fun _ _ h => (fr_some h).1
theorem Ks.fr {M : List Addr} {H H' : Hp} (k : Ks M H H') : L2.Same (Fr M H) (Fr M H') := fun b o h => let ⟨h1, n⟩ := fr_some h; fr_of (k b o h1 n) n
theorem Ks.frS {M N : List Addr} {H H' : Hp} (k : Ks M H H') (s : ∀ b ∈ M, b ∈ N) : L2.Same (Fr N H) (Fr N H') := (k.sub s).fr
theorem same_fr {M : List Addr} {H H' : Hp} (e : L2.Same H H') : L2.Same (Fr M H) (Fr M H') := (Ks.of e).fr
/-- a new place that may change from now on -/
theorem fr_new {M : List Addr} {H H' : Hp} {p : Addr} (f : H p = none) (e : L2.Same H H') : L2.Same (Fr M H) (Fr (p :: M) H') := fun b o h => by
  obtain ⟨h1, n⟩ := fr_some h
  exact fr_of (e _ _ h1) fun m => by
    rcases List.mem_cons.mp m with rfl | m
    · rw [f] at h1
      cases h1
    · exact n m
theorem not_in {M : List Addr} {H : Hp} {p : Addr} (f : H p = none) (l : ∀ b ∈ M, ∃ o, H b = some o) : p ∉ M := fun m => by
  obtain ⟨o, h⟩ := l p m
  rw [f] at h
  cases h
section
variable {K : PySem.W.Frag} {σ : L2.St} {H : Hp} {Q : VK} {D : Ends} {te tl ta tb td ty tv tx : TE} {tr : TA} {t : TS} {g : TG} {x y z v : V} {f m : Str} {C dx a : Addr} {fs : List (Str × V)} {sp : Sp} {dvs : List V} {E : XK}
/-! ### fields -/
def FldV (K : PySem.W.Frag) (f : Str) (x : V) (H1 : Hp) (Q : VK) : Prop := ∃ a C dx fs v, x = .ref a ∧ H1 a = some (.ins C dx fs) ∧ Cls K C ∧ NoAttr K C f ∧ fs.lookup f = some v ∧ Q v H1
theorem x_fld (h : ta σ H fun x H1 => FldV K f x H1 Q) : tFld K ta f σ H Q := h
theorem fldv (h : H a = some (.ins C dx fs)) (c : Cls K C) (n : NoAttr K C f) (e : fs.lookup f = some v) (q : Q v H) : FldV K f (.ref a) H Q := ⟨a, C, dx, fs, v, rfl, h, c, n, e, q⟩
def SFldV (K : PySem.W.Frag) (f : Str) (y : V) (D : Ends) (σ : L2.St) (x : V) (H2 : Hp) : Prop := ∃ a C dx fs, x = .ref a ∧ H2 a = some (.ins C dx fs) ∧ Cls K C ∧ NoAttr K C f ∧ fs.length < 1000 ∧ D.nx σ (upd H2 a (.ins C dx (putF f y fs)))
theorem x_sfld (h : tv σ H fun y H1 => ta σ H1 fun x H2 => SFldV K f y D σ x H2) : sFld K ta tv f D σ H := h
theorem sfldv (h : H a = some (.ins C dx fs)) (c : Cls K C) (n : NoAttr K C f) (l : fs.length < 1000) (k : ∀ H', Kp a H H' → H' a = some (.ins C dx (putF f y fs)) → D.nx σ H') : SFldV K f y D σ (.ref a) H :=
  ⟨a, C, dx, fs, rfl, h, c, n, l, k _ Kp.upd upd_same⟩
def AFldV (K : PySem.W.Frag) (f : Str) (tv : TE) (rd : V → V → Hp → VK → Prop) (D : Ends) (σ : L2.St) (x : V) (H1 : Hp) : Prop := ∃ a C dx fs v, x = .ref a ∧ H1 a = some (.ins C dx fs) ∧ Cls K C ∧ NoAttr K C f ∧ fs.lookup f = some v ∧
  tv σ H1 fun y H2 => rd v y H2 fun z H3 => ∃ dx' fs', H3 a = some (.ins C dx' fs') ∧ fs'.length < 1000 ∧ D.nx σ (upd H3 a (.ins C dx' (putF f z fs')))
theorem x_afld {rd : V → V → Hp → VK → Prop} (h : ta σ H fun x H1 => AFldV K f tv rd D σ x H1) : sFldAug K ta tv rd f D σ H := h
/-- e.f += i, ints -/
theorem afldI {i j : Int} {rd : V → V → Hp → VK → Prop} (h : H a = some (.ins C dx fs)) (c : Cls K C) (n : NoAttr K C f) (e : fs.lookup f = some (.int i)) (l : fs.length < 1000)
    (hr : ∀ Q : VK, Q (.int (i + j)) H → rd (.int i) (.int j) H Q) (hv : ∀ Q : VK, Q (.int j) H → tv σ H Q)
    (k : ∀ H', Kp a H H' → H' a = some (.ins C dx (putF f (.int (i + j)) fs)) → D.nx σ H') : AFldV K f tv rd D σ (.ref a) H :=
  ⟨a, C, dx, fs, _, rfl, h, c, n, e, hv _ (hr _ ⟨dx, fs, h, l, k _ Kp.upd upd_same⟩)⟩
/-! ### methods, new instances -/
def MethV (C : Addr) (m : Str) (sp : Sp) (dvs : List V) (E : XK) (tr : TA) (σ : L2.St) (x : V) (H1 : Hp) (Q : VK) : Prop := ∃ a dx fs, x = .ref a ∧ H1 a = some (.ins C dx fs) ∧ fs.lookup m = none ∧ tr σ H1 fun vs H2 => sp (x :: (vs ++ dvs)) H2 Q E
theorem x_meth (h : ta σ H fun x H1 => MethV C m sp dvs E tr σ x H1 Q) : tMeth C m sp dvs E ta tr σ H Q := h
theorem methv (h : H a = some (.ins C dx fs)) (l : fs.lookup m = none) (k : tr σ H fun vs H2 => sp (.ref a :: (vs ++ dvs)) H2 Q E) : MethV C m sp dvs E tr σ (.ref a) H Q := ⟨a, dx, fs, rfl, h, l, k⟩
def MakeV (C : Addr) (sp : Sp) (dvs : List V) (E : XK) (vs : List V) (H1 : Hp) (Q : VK) : Prop := ∀ x dx, H1 x = none → H1 dx = none → dx ≠ x → sp (.ref x :: (vs ++ dvs)) (upd (upd H1 dx (.own x)) x (.ins C dx [])) (fun v H2 => v = .non ∧ Q (.ref x) H2) E
theorem x_make (h : tr σ H fun vs H1 => MakeV C sp dvs E vs H1 Q) : tMake C sp dvs E tr σ H Q := h
theorem makev {vs : List V} (k : ∀ x dx H2, H x = none → H dx = none → dx ≠ x → L2.Same H H2 → H2 x = some (.ins C dx []) → sp (.ref x :: (vs ++ dvs)) H2 (fun v H3 => v = .non ∧ Q (.ref x) H3) E) : MakeV C sp dvs E vs H Q := fun x dx f1 f2 n => by
  refine k x dx _ f1 f2 n (fun b o h => ?_) upd_same
  rw [upd_ne (ne_of_none h f1), upd_ne (ne_of_none h f2)]
  exact h
/-! ### dicts -/
def InV (y x : V) (H2 : Hp) (Q : VK) : Prop := ∃ a o, x = .ref a ∧ DGet H2 a y o ∧ Q (.bl o.isSome) H2
def NiV (y x : V) (H2 : Hp) (Q : VK) : Prop := ∃ a o, x = .ref a ∧ DGet H2 a y o ∧ Q (.bl (!o.isSome)) H2
theorem x_din (h : ty σ H fun y H1 => td σ H1 fun x H2 => InV y x H2 Q) : tDIn ty td σ H Q := h
theorem x_dni (h : ty σ H fun y H1 => td σ H1 fun x H2 => NiV y x H2 Q) : tDNotIn ty td σ H Q := h
theorem getI {kvs : List (Key × V)} {i : Int} (h : H a = some (.dK kvs)) : DGet H a (.int i) (valV kvs (Sum.inl i)) := DGet.k (k := Sum.inl i) h
theorem getS {kvs : List (Key × V)} {s : Str} (h : H a = some (.dK kvs)) : DGet H a (.str s) (valV kvs (Sum.inr s)) := DGet.k (k := Sum.inr s) h
theorem getT {kvs : List (List Key × V)} {k : List Key} {b : Addr} (h : H a = some (.dT kvs)) (e : H b = some (.tup (k.map kV))) : DGet H a (.ref b) (valV kvs k) := DGet.t h e
theorem inv {o : Option V} (h : DGet H a y o) (q : Q (.bl o.isSome) H) : InV y (.ref a) H Q := ⟨a, o, rfl, h, q⟩
theorem niv {o : Option V} (h : DGet H a y o) (q : Q (.bl (!o.isSome)) H) : NiV y (.ref a) H Q := ⟨a, o, rfl, h, q⟩
def GetV (x y : V) (H2 : Hp) (Q : VK) : Prop := ∃ a v, x = .ref a ∧ DGet H2 a y (some v) ∧ Q v H2
theorem x_dget (h : td σ H fun x H1 => ty σ H1 fun y H2 => GetV x y H2 Q) : tDGet td ty σ H Q := h
theorem getv {o : Option V} (h : DGet H a y o) (e : o = some v) (q : Q v H) : GetV (.ref a) y H Q := ⟨a, v, rfl, e ▸ h, q⟩
def DpV (v x y : V) (D : Ends) (σ : L2.St) (H3 : Hp) : Prop := ∃ a H4, x = .ref a ∧ DPut H3 a y v H4 ∧ D.nx σ H4
theorem x_dput (h : tv σ H fun v H1 => td σ H1 fun x H2 => ty σ H2 fun y H3 => DpV v x y D σ H3) : sDPut td ty tv D σ H := h
theorem putvI {kvs : List (Key × V)} {i : Int} (h : H a = some (.dK kvs)) (l : kvs.length ≤ 100000) (k : ∀ H', Kp a H H' → H' a = some (.dK (putK kvs (Sum.inl i) v)) → D.nx σ H') : DpV v (.ref a) (.int i) D σ H :=
  ⟨a, _, rfl, DPut.k (k := Sum.inl i) h (sz' l), k _ Kp.upd upd_same⟩
theorem putvS {kvs : List (Key × V)} {s : Str} (h : H a = some (.dK kvs)) (l : kvs.length ≤ 100000) (k : ∀ H', Kp a H H' → H' a = some (.dK (putK kvs (Sum.inr s) v)) → D.nx σ H') : DpV v (.ref a) (.str s) D σ H :=
  ⟨a, _, rfl, DPut.k (k := Sum.inr s) h (sz' l), k _ Kp.upd upd_same⟩
theorem putvT {kvs : List (List Key × V)} {ks : List Key} {b : Addr} (h : H a = some (.dT kvs)) (e : H b = some (.tup (ks.map kV))) (l : kvs.length ≤ 100000) (k : ∀ H', Kp a H H' → H' a = some (.dT (putK kvs ks v)) → D.nx σ H') : DpV v (.ref a) (.ref b) D σ H :=
  ⟨a, _, rfl, DPut.t h e (sz' l), k _ Kp.upd upd_same⟩
def Get2V (ty tx : TE) (σ : L2.St) (x : V) (H1 : Hp) (Q : VK) : Prop := ∃ a, x = .ref a ∧ IsD H1 a ∧ ty σ H1 fun y H2 => tx σ H2 fun z H3 => ∃ o, DGet H3 a y o ∧ Q (o.getD z) H3
def Get2W (a : Addr) (y z : V) (H3 : Hp) (Q : VK) : Prop := ∃ o, DGet H3 a y o ∧ Q (o.getD z) H3
theorem x_dget2 (h : td σ H fun x H1 => Get2V ty tx σ x H1 Q) : tDGet2 td ty tx σ H Q := h
theorem get2v (h : IsD H a) (k : ty σ H fun y H2 => tx σ H2 fun z H3 => Get2W a y z H3 Q) : Get2V ty tx σ (.ref a) H Q := ⟨a, rfl, h, k⟩
theorem get2w {o : Option V} (h : DGet H a y o) (q : Q (o.getD z) H) : Get2W a y z H Q := ⟨o, h, q⟩
theorem isdK {kvs : List (Key × V)} (h : H a = some (.dK kvs)) : IsD H a := .inl ⟨kvs, .inl h⟩
theorem isdT {kvs : List (List Key × V)} (h : H a = some (.dT kvs)) : IsD H a := .inr ⟨kvs, .inl h⟩
def PopV (ty : TE) (σ : L2.St) (x : V) (H1 : Hp) (Q : VK) : Prop := ∃ a, x = .ref a ∧ IsD H1 a ∧ ty σ H1 fun y H2 => ∃ kvs k v, H2 a = some (.dK kvs) ∧ y = kV k ∧ valV kvs k = some v ∧ Q v (upd H2 a (.dK (dropK kvs k)))
def PopW (a : Addr) (y : V) (H2 : Hp) (Q : VK) : Prop := ∃ kvs k v, H2 a = some (.dK kvs) ∧ y = kV k ∧ valV kvs k = some v ∧ Q v (upd H2 a (.dK (dropK kvs k)))
theorem x_dpop1 (h : td σ H fun x H1 => PopV ty σ x H1 Q) : tDPop1 td ty σ H Q := h
theorem popv (h : IsD H a) (k : ty σ H fun y H2 => PopW a y H2 Q) : PopV ty σ (.ref a) H Q := ⟨a, rfl, h, k⟩
theorem popwI {kvs : List (Key × V)} {i : Int} (h : H a = some (.dK kvs)) (e : valV kvs (Sum.inl i) = some v) (k : ∀ H', Kp a H H' → H' a = some (.dK (dropK kvs (Sum.inl i))) → Q v H') : PopW a (.int i) H Q :=
  ⟨kvs, Sum.inl i, v, h, rfl, e, k _ Kp.upd upd_same⟩
def LiV (x : V) (H1 : Hp) (Q : VK) : Prop := LiI.rItemsL x H1 Q
theorem x_litems (h : te σ H fun x H1 => LiV x H1 Q) : LiI.tListItems te σ H Q := h
theorem liv {kvs : List (Key × V)} (h : H a = some (.dK kvs))
    (k : ∀ p H' (ts : List Addr), L2.Same H H' → H p = none → (∀ t ∈ ts, H t = none) → H' p = some (.lst (ts.map V.ref)) → Paired (fun (t : Addr) (q : Key × V) => H' t = some (.tup [kV q.1, q.2])) ts kvs → Q (.ref p) H') : LiV (.ref a) H Q :=
  ⟨a, kvs, rfl, h, fun H' p ts e f ft _ g pr => k p H' ts e f ft g pr⟩
/-! ### displays, lists -/
theorem x_dnewT (k : ∀ p H2, H p = none → L2.Same H H2 → H2 p = some (.dT []) → Q (.ref p) H2) : tDNewT σ H Q := fun p hp => k p _ hp (LH.Same.new hp) upd_same
theorem x_clear {p : Addr} {xs : List V} (h : H p = some (.lst xs)) (q : ∀ H', Kp p H H' → H' p = some (.lst []) → Q .non H') : rClear (.ref p) [] H Q :=
  ⟨p, xs, rfl, rfl, h, q _ Kp.upd upd_same⟩
theorem x_appK {p : Addr} {xs : List V} (h : H p = some (.lst xs)) (hl : xs.length ≤ 100000) (q : ∀ H', Kp p H H' → H' p = some (.lst (xs ++ [y])) → Q .non H') : rAppend (.ref p) [y] H Q :=
  ⟨p, xs, y, rfl, rfl, h, sz' hl, q _ Kp.upd upd_same⟩
def SlLV (K : PySem.W.Frag) (x : V) (lo hi : Option Int) (H : Hp) (Q : VK) : Prop := rSlL K x lo hi H Q
end
end LH
namespace LH
open PySem L2 PySem.Spec PyProof.Rows
/-! ### methods and new instances within a try: what is raised is wished for at the slots -/
section
variable {X : Cx} {CX : CXT} {k : Nat} {f C : Addr} {fd : FuncData} {ps : List Str} {sp : Sp} {E : L2.St → XK} {x m : Str} {p pos apos : Pos} {e o : Expr} {es : List Expr} {to : TE} {tr : TA}
def tMethSl (C : Addr) (m : Str) (sp : Sp) (E : L2.St → XK) (to : TE) (tr : TA) : TE := fun σ H Q => to σ H fun x H1 => MethV C m sp [] (E σ) tr σ x H1 Q
theorem x_methSl {σ : L2.St} {H : Hp} {Q : VK} (h : to σ H fun x H1 => MethV C m sp [] (E σ) tr σ x H1 Q) : tMethSl C m sp E to tr σ H Q := h
theorem pe_methSl {pl : Sem Bool} (ho : PE X o to) (c : Cls X.K C) (hm : Meth X.K C m f) (G : FnOk X.prog X.w X.K X.mg X.base CX k f fd ps sp) (room : Room k X.A) (hb : Binds X.K fd ps []) (hx : ∀ σ, PassesAt CX X σ (E σ)) (ha : PA X (e :: es) tr)
    (h1 : starEach (e :: es) X.env = (false, eval e X.env) :: starEach es X.env := by rfl) (h2 : (backTo pos (starEach es X.env)).any (·.1) = false := by rfl)
    (h3 : eval (.Call (.Attribute o m apos) (e :: es) [] pos) X.env = (do
      let obj ← eval o X.env
      standAt apos.atName
      let (fn, lead) ← holding [obj] (getMethod obj m pl)
      callWith pos fn lead (backTo pos (starEach (e :: es) X.env)) (backToKw pos (keywordEach [] X.env))) := by rfl) :
    PE X (.Call (.Attribute o m apos) (e :: es) [] pos) (tMethSl C m sp E to tr) := by
  constructor
  intro pins s σ H Q I need
  apply PySem.W.methodCall_KW (pl := pl) _ h3
  apply thn (ho.run pins s σ H _ I need)
  rintro u s1 ⟨x, H1, I1, rx, a, dx, fs, rfl, ea, l, q⟩
  have eu : u = Value.ref a := rx
  rw [eu]
  apply getmeth_ok I1 ea c hm l
  refine PySem.W.callWith_K (first := [.ref a]) (h₀ := X.base) I.ok.mod.kin hm.kp (thn (ha.run pos pins s1 σ H1 _ I1 q) ?_) h1 h2
  rintro us s2 ⟨vs, H2, I2, r, q2⟩
  rw [List.append_nil] at q2
  exact ⟨I2.kIn, run_fnS G room hb (hx σ) I2 (.cons (show L2.RelV (V.ref a) (Value.ref a) from rfl) r) q2⟩
def tMakeSl (C : Addr) (sp : Sp) (E : L2.St → XK) (tr : TA) : TE := fun σ H Q => tr σ H fun vs H1 => MakeV C sp [] (E σ) vs H1 Q
theorem x_makeSl {σ : L2.St} {H : Hp} {Q : VK} (h : tr σ H fun vs H1 => MakeV C sp [] (E σ) vs H1 Q) : tMakeSl C sp E tr σ H Q := h
theorem run_makeSl {pins : List (Addr × Obj)} {σ : L2.St} {H : Hp} {s : Shared} {Q : VK} {us : List Value} {vs : List V} (M : Mk X.K C f) (G : FnOk X.prog X.w X.K X.mg X.base CX k f fd ps sp) (room : Room (k + 1) X.A) (hb : Binds X.K fd ps [])
    (hx : PassesAt CX X σ (E σ)) (I : Inv X pins σ H s) (r : Vals vs us) (need : MakeV C sp [] (E σ) vs H Q) : wpAny (model X.prog X.w) X.A (call (.ref C) us) (EP X pins σ Q) X.xe s := by
  have wish := need (s.heap.objs.size + 1) s.heap.objs.size (I.hok.fresh (Nat.le_succ _)) (I.hok.fresh (Nat.le_refl _)) (Nat.ne_of_lt (Nat.lt_succ_self _))
  rw [List.append_nil] at wish
  have made := Inv.made (C := C) I
  have all : Vals (V.ref (s.heap.objs.size + 1) :: vs) (Value.ref (s.heap.objs.size + 1) :: us) := .cons rfl r
  have same : (Value.ref (s.heap.objs.size + 1) :: us).length = ps.length := by
    rw [← all.length]
    exact G.len _ _ _ _ wish
  have b := hb _ (Value.ref (s.heap.objs.size + 1) :: us) made.kIn (by rw [List.append_nil]; exact same)
  rw [List.append_nil] at b
  apply wpAny_call
  apply make_map (f := f) I.kIn M.makes M.init (beq_iff_eq.mp M.fn)
  apply codeAny_mono (G.run _ X.stack _ _ ⟨Value.ref (s.heap.objs.size + 1) :: us, []⟩ (Value.ref (s.heap.objs.size + 1) :: us) _ _ (E σ) (room.make C us []) (made.env0.make C us []) b all wish)
  intro fl s' got
  cases fl with
  | error e => exact hx pins _ _ e s' made got
  | ok fl =>
    cases fl with
    | ret u =>
      obtain ⟨v, H', I3, rv, rfl, q3⟩ := made.after got
      exact ⟨rv, V.ref (s.heap.objs.size + 1), H', I3, rfl, q3⟩
    | next => exact False.elim got
    | brk => exact False.elim got
    | cont => exact False.elim got
theorem pe_makeSl (M : Mk X.K C f) (G : FnOk X.prog X.w X.K X.mg X.base CX k f fd ps sp) (room : Room (k + 1) X.A) (hg : Gl X x) (hm : X.mg x = some (.ref C)) (hb : Binds X.K fd ps []) (hx : ∀ σ, PassesAt CX X σ (E σ))
    (ha : PA X (e :: es) tr) (h0 : (x == ("__debug__" : Str)) = false := by decide) (h1 : starEach (e :: es) X.env = (false, eval e X.env) :: starEach es X.env := by rfl) (h2 : (backTo pos (starEach es X.env)).any (·.1) = false := by rfl) :
    PE X (.Call (.Name x p) (e :: es) [] pos) (tMakeSl C sp E tr) := by
  constructor
  intro pins s σ H Q I need
  apply wpAny_Call_Name_kw (ld_glob I hg hm _ h0)
  refine PySem.W.callWith_K (h₀ := X.base) I.ok.mod.kin M.kp (thn (ha.run pos pins s σ H _ I need) ?_) h1 h2
  rintro us s1 ⟨vs, H1, I1, r, q⟩
  exact ⟨I1.kIn, run_makeSl M G room hb (hx σ) I1 r q⟩
end
end LH
namespace LH
open PySem L2
section
variable {K : PySem.W.Frag} {σ : L2.St} {H : Hp} {Q : VK} {te : TE} {t : TT}
theorem x_slL {p : Addr} {xs : List V} {lo hi : Option Int} (h : SqL K H p xs) (k : ∀ p' H2, H p' = none → L2.Same H H2 → H2 p' = some (.lst (cutV xs lo hi)) → Q (.ref p') H2) : rSlL K (.ref p) lo hi H Q :=
  ⟨p, xs, rfl, h, fun q hq => k q _ hq (LH.Same.new hq) upd_same⟩
theorem Paired.imp {α β : Type} {F G : α → β → Prop} (h : ∀ a b, F a b → G a b) : ∀ {xs : List α} {ys : List β}, Paired F xs ys → Paired G xs ys
  | _, _, .nil => .nil
  | _, _, .cons a r => .cons (h _ _ a) (Paired.imp h r)
theorem Paired.snoc {α β : Type} {F : α → β → Prop} {a : α} {b : β} : ∀ {xs : List α} {ys : List β}, Paired F xs ys → F a b → Paired F (xs ++ [a]) (ys ++ [b])
  | _, _, .nil, h => .cons h .nil
  | _, _, .cons c r, h => .cons c (Paired.snoc r h)
theorem Paired.len {α β : Type} {F : α → β → Prop} : ∀ {xs : List α} {ys : List β}, Paired F xs ys → xs.length = ys.length
  | _, _, .nil => rfl
  | _, _, .cons _ r => congrArg (· + 1) (Paired.len r)
theorem range_filter_succ (f : Nat → Bool) (i : Nat) : (List.range (i + 1)).filter f = if f i = true then (List.range i).filter f ++ [i] else (List.range i).filter f := by
  rw [List.range_succ, List.filter_append]
  cases h : f i <;> simp [List.filter, h]
theorem fr_same {M : List Addr} {H H' : Hp} {p : Addr} (f : H p = none) (e : L2.Same H H') : L2.Same H (Fr [p] H') := fun b o h => fr_of (e _ _ h) fun m => by
  rw [List.mem_singleton.mp m, f] at h
  cases h
theorem same_mut {H H1 H' : Hp} {D : Addr} (e : L2.Same H (Fr [D] H1)) (k : Kp D H1 H') : L2.Same H (Fr [D] H') := e.trans (k.ks (List.mem_singleton.mpr rfl)).fr
/-- a comprehension over a walk, each item told by R, which speaks of what stands still beside the new list -/
theorem lc_JR {J : It} {n : Nat} {Y : Nat → Hp → V → Hp → Prop} (w : Walk J n (fun _ => True) Y) {xs : List V} (hn : xs.length = n) (hY : ∀ i H x H', Y i H x H' → H' = H ∧ xs[i]? = some x) {j : Nat} {vs : List Nat} (hz : n ≤ 100000)
    (f : Nat → Bool) (R : Nat → V → Hp → Prop) (st : ∀ i y H1 H2, L2.Same H1 H2 → R i y H1 → R i y H2) (hw : ∀ x, wipe ((wipe σ vs).set j (some x)) vs = wipe σ vs)
    (ht : ∀ i x, xs[i]? = some x → ∀ H1, L2.Same H H1 → ∀ Q : Bool → Hp → Prop, (∀ H2, L2.Same H1 H2 → Q (f i) H2) → t ((wipe σ vs).set j (some x)) H1 Q)
    (he : ∀ i x, xs[i]? = some x → f i = true → ∀ D H1, L2.Same H (Fr [D] H1) → L2.Same H H1 → (∃ l, H1 D = some (.lst l)) → ∀ Q : VK, (∀ y H2, L2.Same H1 H2 → R i y (Fr [D] H2) → Q y H2) → te ((wipe σ vs).set j (some x)) H1 Q)
    (k : ∀ D H2 ys, H D = none → L2.Same H H2 → H2 D = some (.lst ys) → Paired (fun i y => R i y (Fr [D] H2)) ((List.range n).filter f) ys → Q (.ref D) H2) : LcJ J (gName j) t te vs σ H Q := by
  intro D hD
  refine lc_it w (fun i H' => L2.Same H (Fr [D] H') ∧ ∃ ys, H' D = some (.lst ys) ∧ ys.length ≤ i ∧ Paired (fun i y => R i y (Fr [D] H')) ((List.range i).filter f) ys)
    ⟨fr_same (M := []) hD (LH.Same.new hD), [], upd_same, Nat.le_refl _, .nil⟩ (fun _ _ _ _ => trivial) ?_ ?_
  · rintro i x H' H'' hi ⟨e0, ys, gD, ly, hy⟩ y
    obtain ⟨rfl, hx⟩ := hY _ _ _ _ y
    have e1 : L2.Same H H'' := e0.trans fr_le
    refine ⟨hw x, ht i x hx _ e1 _ fun H2 e2 => ?_⟩
    cases hf : f i with
    | true =>
      rw [if_pos rfl]
      refine he i x hx hf D H2 (e0.trans (same_fr e2)) (e1.trans e2) ⟨_, e2 _ _ gD⟩ _ fun y H3 e3 r3 => ⟨ys, e3 _ _ (e2 _ _ gD), sz' (by omega), ?_, ys ++ [y], upd_same, by rw [List.length_append]; exact Nat.add_le_add_right ly 1, ?_⟩
      · exact same_mut (e0.trans (same_fr (e2.trans e3))) Kp.upd
      · rw [range_filter_succ, if_pos hf]
        have s3 : L2.Same (Fr [D] H3) (Fr [D] (upd H3 D (.lst (ys ++ [y])))) := (Kp.ks (a := D) Kp.upd (List.mem_singleton.mpr rfl)).fr
        exact Paired.snoc (Paired.imp (fun a b h => st a b _ _ ((same_fr (e2.trans e3)).trans s3) h) hy) (st _ _ _ _ s3 r3)
    | false =>
      rw [if_neg Bool.false_ne_true]
      refine ⟨e0.trans (same_fr e2), ys, e2 _ _ gD, Nat.le_succ_of_le ly, ?_⟩
      rw [range_filter_succ, if_neg (by rw [hf]; exact Bool.false_ne_true)]
      exact Paired.imp (fun a b h => st a b _ _ (same_fr e2) h) hy
  · rintro H' ⟨e0, ys, gD, ly, hy⟩
    exact k D H' ys hD (e0.trans fr_le) gD hy
/-- the same over a range -/
theorem lc_RR {lo : Int} {n : Nat} {j : Nat} {vs : List Nat} (hz : n ≤ 100000)
    (f : Nat → Bool) (R : Nat → V → Hp → Prop) (st : ∀ i y H1 H2, L2.Same H1 H2 → R i y H1 → R i y H2) (hw : ∀ x, wipe ((wipe σ vs).set j (some x)) vs = wipe σ vs)
    (ht : ∀ i, i < n → ∀ H1, L2.Same H H1 → ∀ Q : Bool → Hp → Prop, (∀ H2, L2.Same H1 H2 → Q (f i) H2) → t ((wipe σ vs).set j (some (.int (lo + (i : Nat))))) H1 Q)
    (he : ∀ i, i < n → f i = true → ∀ D H1, L2.Same H (Fr [D] H1) → L2.Same H H1 → (∃ l, H1 D = some (.lst l)) → ∀ Q : VK, (∀ y H2, L2.Same H1 H2 → R i y (Fr [D] H2) → Q y H2) → te ((wipe σ vs).set j (some (.int (lo + (i : Nat))))) H1 Q)
    (k : ∀ D H2 ys, H D = none → L2.Same H H2 → H2 D = some (.lst ys) → Paired (fun i y => R i y (Fr [D] H2)) ((List.range n).filter f) ys → Q (.ref D) H2) : LcJ (Itr lo n) (gName j) t te vs σ H Q := by
  have hx : ∀ i x, (intsV lo n)[i]? = some x → i < n ∧ x = .int (lo + (i : Nat)) := fun i x h => by
    unfold intsV at h
    rw [List.getElem?_map] at h
    by_cases hi : i < n
    · rw [List.getElem?_range hi] at h
      injection h with h
      exact ⟨hi, h.symm⟩
    · rw [List.getElem?_eq_none (by rw [List.length_range]; omega)] at h
      cases h
  refine lc_JR (xs := intsV lo n) walk_rg (by unfold intsV; rw [List.length_map, List.length_range]) (fun i H x H' ⟨e, hx, hi⟩ => ⟨e, by unfold intsV; rw [List.getElem?_map, List.getElem?_range hi, hx]; rfl⟩) hz f R st hw ?_ ?_ k
  · intro i x h
    obtain ⟨hi, rfl⟩ := hx i x h
    exact ht i hi
  · intro i x h
    obtain ⟨hi, rfl⟩ := hx i x h
    exact he i hi
/-- the same over a list -/
theorem lc_LR {a : Addr} {xs : List V} {j : Nat} {vs : List Nat} (hx : SqL K H a xs) (hz : xs.length ≤ 100000)
    (f : Nat → Bool) (R : Nat → V → Hp → Prop) (st : ∀ i y H1 H2, L2.Same H1 H2 → R i y H1 → R i y H2) (hw : ∀ x, wipe ((wipe σ vs).set j (some x)) vs = wipe σ vs)
    (ht : ∀ i x, xs[i]? = some x → ∀ H1, L2.Same H H1 → ∀ Q : Bool → Hp → Prop, (∀ H2, L2.Same H1 H2 → Q (f i) H2) → t ((wipe σ vs).set j (some x)) H1 Q)
    (he : ∀ i x, xs[i]? = some x → f i = true → ∀ D H1, L2.Same H (Fr [D] H1) → L2.Same H H1 → (∃ l, H1 D = some (.lst l)) → ∀ Q : VK, (∀ y H2, L2.Same H1 H2 → R i y (Fr [D] H2) → Q y H2) → te ((wipe σ vs).set j (some x)) H1 Q)
    (k : ∀ D H2 ys, H D = none → L2.Same H H2 → H2 D = some (.lst ys) → Paired (fun i y => R i y (Fr [D] H2)) ((List.range xs.length).filter f) ys → Q (.ref D) H2) : LcV K (gName j) t te vs σ (.ref a) H Q := by
  refine ⟨a, rfl, ⟨xs, hx⟩, fun D hD => ?_⟩
  refine lc_list (xs := xs) (fun i H' => L2.Same H (Fr [D] H') ∧ ∃ ys, H' D = some (.lst ys) ∧ ys.length ≤ i ∧ Paired (fun i y => R i y (Fr [D] H')) ((List.range i).filter f) ys)
    ⟨fr_same (M := []) hD (LH.Same.new hD), [], upd_same, Nat.le_refl _, .nil⟩ (fun i H' _ p => L2.Same.seq (p.1.trans fr_le) hx) ?_ ?_
  · rintro i x H' hi ⟨e0, ys, gD, ly, hy⟩
    have hlt : i < xs.length := (List.getElem?_eq_some_iff.mp hi).1
    have e1 : L2.Same H H' := e0.trans fr_le
    refine ⟨hw x, ht i x hi _ e1 _ fun H2 e2 => ?_⟩
    cases hf : f i with
    | true =>
      rw [if_pos rfl]
      refine he i x hi hf D H2 (e0.trans (same_fr e2)) (e1.trans e2) ⟨_, e2 _ _ gD⟩ _ fun y H3 e3 r3 => ⟨ys, e3 _ _ (e2 _ _ gD), sz' (by omega), ?_, ys ++ [y], upd_same, by rw [List.length_append]; exact Nat.add_le_add_right ly 1, ?_⟩
      · exact same_mut (e0.trans (same_fr (e2.trans e3))) Kp.upd
      · rw [range_filter_succ, if_pos hf]
        have s3 : L2.Same (Fr [D] H3) (Fr [D] (upd H3 D (.lst (ys ++ [y])))) := (Kp.ks (a := D) Kp.upd (List.mem_singleton.mpr rfl)).fr
        exact Paired.snoc (Paired.imp (fun a b h => st a b _ _ ((same_fr (e2.trans e3)).trans s3) h) hy) (st _ _ _ _ s3 r3)
    | false =>
      rw [if_neg Bool.false_ne_true]
      refine ⟨e0.trans (same_fr e2), ys, e2 _ _ gD, Nat.le_succ_of_le ly, ?_⟩
      rw [range_filter_succ, if_neg (by rw [hf]; exact Bool.false_ne_true)]
      exact Paired.imp (fun a b h => st a b _ _ (same_fr e2) h) hy
  · rintro H' ⟨e0, ys, gD, ly, hy⟩
    exact k D H' ys hD (e0.trans fr_le) gD hy
end
end LH
namespace LH
open PySem L2
/-- ways that meet again behind an expression -/
theorem cut {te : TE} {σ : L2.St} {H : Hp} {Q0 : VK} (X : V → Hp → Prop) (h : ∀ Q : VK, (∀ y H', X y H' → Q y H') → te σ H Q) (k : ∀ y H', X y H' → Q0 y H') : te σ H Q0 := h Q0 k
/-- .. behind a statement -/
theorem cutS {t : TS} {D : Ends} {σ : L2.St} {H : Hp} (X : L2.St → Hp → Prop) (h : ∀ N : L2.St → Hp → Prop, (∀ σ' H', X σ' H' → N σ' H') → t { D with nx := N } σ H) (k : ∀ σ' H', X σ' H' → D.nx σ' H') : t D σ H := h D.nx k
/-- .. behind a test -/
theorem cutT {t : TT} {σ : L2.St} {H : Hp} {Q0 : Bool → Hp → Prop} (X : Bool → Hp → Prop) (h : ∀ Q : Bool → Hp → Prop, (∀ y H', X y H' → Q y H') → t σ H Q) (k : ∀ y H', X y H' → Q0 y H') : t σ H Q0 := h Q0 k
end LH
/-! more rules: setdefault with tuple keys, list(d.values()) -/
namespace LH
open PySem PySem.Spec PyProof.Rows L2
section
variable {X : Cx} {o e f : Expr} {td ty tx : TE} {apos cpos : Pos}
def SdV (ty tx : TE) (σ : L2.St) (x : V) (H1 : Hp) (Q : VK) : Prop := ∃ a, x = .ref a ∧ IsD H1 a ∧ ty σ H1 fun y H2 => tx σ H2 fun z H3 => ∃ (kvs : List (List Key × V)) (k : List Key) (b : Addr), H3 a = some (.dT kvs) ∧ y = .ref b ∧ H3 b = some (.tup (k.map kV)) ∧ kvs.length < sizeLine ∧
  (∀ v, valV kvs k = some v → Q v H3) ∧ (valV kvs k = none → Q z (upd H3 a (.dT (putK kvs k z))))
def tDSetT (td ty tx : TE) : TE := fun σ H Q => td σ H fun x H1 => SdV ty tx σ x H1 Q
/-- d.setdefault(y, z), the keys tuples -/
theorem pe_dsetdT (hu : X.A.units + 1 < cLine) (ho : PE X o td) (he : PE X e ty) (hf : PE X f tx) (m : M2 X o "setdefault" apos e f cpos) : PE X (.Call (.Attribute o "setdefault" apos) [e, f] [] cpos) (tDSetT td ty tx) := by
  constructor
  intro pins s σ H Q I need
  apply wpAny_Call_method m.base m.few m.line PySem.F.plainAttrs_dict PySem.F.slot_dict_setdefault PySem.F.type_dict_setdefault
  apply thn (ho.run pins s σ H _ I need)
  rintro u s1 ⟨x, H1, I1, rx, a, rfl, isd, q1⟩
  have eu : u = Value.ref a := rx
  rw [eu]
  obtain ⟨t1, t2, _⟩ := isD_at I1 isd
  refine ⟨t1, t2, ?_⟩
  rw [m.trees]
  apply Calls.callWith_builtin rfl
  apply Calls.evalArgs_plain
  apply Calls.spliced_cons
  apply thn (he.run pins s1 σ H1 _ I1 q1)
  rintro kv s2 ⟨y, H2, I2, ry, q2⟩
  apply Calls.spliced_cons
  apply thn (hf.run pins s2 σ H2 _ I2 q2)
  rintro dv s3 ⟨z, H3, I3, rz, kvs, k, b, ea, rfl, eb, len, there, absent⟩
  apply Calls.spliced_nil
  have ek : kv = Value.ref b := ry
  rw [ek]
  obtain ⟨lim, own, xs, rel, dd⟩ := dt_of I3.hok ea
  have lim' : xs.length ≤ sizeLine := by
    rw [← Paired.length rel]
    exact lim
  refine call_setdefault_heap (tupleKind_room_in1 hu) (key_of I3.hok eb) own dd (fun p hp => ?_) (fun hn h' dd' but => ?_) lim'
  · have r := rel.val k
    rw [hp] at r
    cases c : valV kvs k with
    | none =>
      rw [c] at r
      exact (show False from r).elim
    | some v =>
      rw [c] at r
      exact ⟨v, H3, I3.tok _, r, there v c⟩
  · have r := rel.val k
    rw [hn] at r
    cases c : valV kvs k with
    | some v =>
      rw [c] at r
      exact (show False from r).elim
    | none =>
      have len' : (putK kvs k z).length ≤ sizeLine := by
        have := length_putK kvs k z
        omega
      obtain ⟨ob, es, ep, hq, h2, h3, h4, _, h5⟩ := dd'
      refine ⟨z, upd H3 a (.dT (putK kvs k z)), d_write (t' := s3.toks + _) I3 (by rw [ea]; trivial) but ⟨ob, hq⟩ ⟨len', own, _, (rel.put k eb rz).keeps (fun c ys ec => ?_), ob, es, ep, hq, h2, h3, h4, h5⟩, rz, absent c⟩
      have ne : c ≠ a := ne_of ec ea (fun z => nomatch z)
      rw [upd_ne ne]
      exact ec
theorem x_dsetT {σ : L2.St} {H : Hp} {Q : VK} (h : td σ H fun x H1 => SdV ty tx σ x H1 Q) : tDSetT td ty tx σ H Q := h
def SdW (a : Addr) (y z : V) (H3 : Hp) (Q : VK) : Prop := ∃ (kvs : List (List Key × V)) (k : List Key) (b : Addr), H3 a = some (.dT kvs) ∧ y = .ref b ∧ H3 b = some (.tup (k.map kV)) ∧ kvs.length < sizeLine ∧
  (∀ v, valV kvs k = some v → Q v H3) ∧ (valV kvs k = none → Q z (upd H3 a (.dT (putK kvs k z))))
theorem sdv {a : Addr} {σ : L2.St} {H : Hp} {Q : VK} (h : IsD H a) (k : ty σ H fun y H2 => tx σ H2 fun z H3 => SdW a y z H3 Q) : SdV ty tx σ (.ref a) H Q := ⟨a, rfl, h, k⟩
theorem sdw {a b : Addr} {z : V} {H : Hp} {Q : VK} {kvs : List (List Key × V)} {k : List Key} (h : H a = some (.dT kvs)) (e : H b = some (.tup (k.map kV))) (l : kvs.length ≤ 100000) (h1 : ∀ v, valV kvs k = some v → Q v H)
    (h2 : valV kvs k = none → ∀ H', Kp a H H' → H' a = some (.dT (putK kvs k z)) → Q z H') : SdW a (.ref b) z H Q := ⟨kvs, k, b, h, rfl, e, sz' l, h1, fun n => h2 n _ Kp.upd upd_same⟩
end
section
variable {X : Cx} {e : Expr} {te : TE} {apos cpos p pos : Pos}
def LvV (x : V) (H : Hp) (Q : VK) : Prop := ∃ (d : Addr) (kvs : List (Key × V)), x = .ref d ∧ H d = some (.dK kvs) ∧ ∀ q, H q = none → Q (.ref q) (upd H q (.lst (kvs.map (·.2))))
def tListValues (te : TE) : TE := fun σ H Q => te σ H fun x H1 => LvV x H1 Q
theorem x_lvals {σ : L2.St} {H : Hp} {Q : VK} (h : te σ H fun x H1 => LvV x H1 Q) : tListValues te σ H Q := h
theorem lvv {d : Addr} {kvs : List (Key × V)} {H : Hp} {Q : VK} (h : H d = some (.dK kvs)) (k : ∀ q H', H q = none → L2.Same H H' → H' q = some (.lst (kvs.map (·.2))) → Q (.ref q) H') : LvV (.ref d) H Q :=
  ⟨d, kvs, rfl, h, fun q f => k q _ f (LH.Same.new f) upd_same⟩
theorem vals_of {kvs : List (Key × V)} {vs : List (Key × Value)} (r : KV kvs vs) : Vals (kvs.map (·.2)) (vs.map (·.2)) := by
  induction r with
  | nil => exact .nil
  | cons h _ ih => exact .cons h.2 ih
/-- list(e.values()) -/
theorem pe_listValues (calm : X.calm = true) (he : PE X e te) (hg : Gl X "list") (hm : X.mg "list" = none) (hv : bootBuiltins "list" = some (.type "list")) (h1 : attributeBase e "values" X.env (eval e X.env) = eval e X.env := by rfl) (h2 : (apos.endLine == cpos.line) = true := by rfl)
    (h3 : starEach [.Call (.Attribute e "values" apos) [] [] cpos] X.env = (false, eval (.Call (.Attribute e "values" apos) [] [] cpos) X.env) :: starEach [] X.env := by rfl) :
    PE X (.Call (.Name "list" p) [.Call (.Attribute e "values" apos) [] [] cpos] [] pos) (tListValues te) := by
  constructor
  intro pins s σ H Q I need
  apply wpAny_Call_Name_kw (ld_blt I hg hm hv _)
  refine PyProof.Rows.callWith_type1 ?_ h3 rfl
  rw [h3]
  show wpAny _ _ (spliced ((false, eval (.Call (.Attribute e "values" apos) [] [] cpos) X.env) :: backTo pos (starEach [] X.env))) _ _ s
  apply Calls.spliced_cons
  apply wpAny_Call_method (T := "dict") (id := "dict.values") h1 rfl h2 F.plainAttrs_dict F.slot_dict_values F.type_dict_values
  apply thn (he.run pins s σ H _ I need)
  rintro u s1 ⟨x, H1, I1, rx, d, kvs, rfl, hd, q⟩
  have eu : u = Value.ref d := rx
  rw [eu]
  obtain ⟨lim, own, vs, rel, dd⟩ := I1.hok d _ hd
  obtain ⟨ep, at_⟩ := dd.dictAt
  have ll : kvs.length = vs.length := Paired.length rel
  refine ⟨dd.typeIs, dd.mapOf.noDict, ?_⟩
  show wpAny _ _ (callWith cpos (.builtin "dict.values") [.ref d] [] []) _ X.xe s1
  refine method_meetsIn F.slot_dict_values F.entry_dict_values rfl (PySem.evalArgs_none ⟨rfl, dd.typeIs, F.args_dict_values_1 _, _, meets_dict_values (mixKind X.prog X.w) d own, ⟨vs, dd⟩, ?_⟩)
  apply Calls.spliced_nil
  refine PySem.W.kdl_call (PySem.W.kdl_values (knd := mixKind X.prog X.w) (kvs := vs) (ep := ep)) (I1.ok.hd calm) ⟨⟨_, Heap.get?_push_size _ rfl, rfl, rfl⟩, at_.push _⟩ (by omega) fun h' tk acc c kept got items => ?_
  have eq : acc.toList = vs.map (·.2) := PySem.W.kdl_vals_eq acc.toList (by rw [Array.length_toList]; exact items.1) fun j v hj => items.2 j v (by rw [← Array.getElem?_toList]; exact hj)
  have new : H1 (s1.heap.push { cls := .type "dict_values", data := .fields #[.ref d] }).objs.size = none := I1.hok.fresh (by rw [Heap.size_push]; exact Nat.le_succ _)
  refine ⟨.ref _, upd H1 _ (.lst (kvs.map (·.2))), I1.laid (t' := tk) (fun b ob hb => kept b ob (Heap.get?_push_of_some _ hb)) (by rw [Heap.size_push]; exact Nat.le_succ _) ⟨by rw [List.length_map]; exact lim, acc.toList, c, ?_, ?_⟩, rfl, q _ new⟩
  · rw [eq]
    exact vals_of rel
  · rw [Array.toArray_toList]
    exact got
end
end LH
/-! sets of ints and texts by a comprehension; how many they are -/
namespace LH
open PySem PySem.Spec PyProof.Rows L2 PpSet
section
variable {X : Cx}
theorem freshK {P : Program} {w : World} (h : Heap) : (h.push { cls := .type "set", dict := none, data := .set #[] 0 (.fresh 0 0 (!w.params.followText "set-order")) }).SetOf (mixKind P w) h.objs.size (fun _ => false) 0 :=
  ⟨_, #[], 0, _, Heap.get?_push_size _ rfl, ⟨rfl, rfl, rfl⟩, rfl, (fun e he => by simp at he), (fun k => by simp), (by decide), (by rfl), rfl⟩
theorem addK_ok {pins : List (Addr × Obj)} {σ : L2.St} {H : Hp} {s : Shared} {E : Value → Shared → Prop} {D : Addr} {S : Key → Bool} {n : Nat} {y : Key} {u : Value} {Q : Value → Shared → Prop} (I : Inv X pins σ H s) (ry : RelV (kV y) u)
    (at_ : H D = some (SetK X.prog X.w D S n)) (room : n + 1 < scanBound)
    (k : ∀ s', Inv X pins σ (upd H D (SetK X.prog X.w D (fun j => S j || decide (j = y)) (if S y = true then n else n + 1))) s' → Q .none s') : wpAny (model X.prog X.w) X.A (call (.builtin "set.add") [.ref D, u]) Q E s := by
  apply call_set_add (kV_is ry) (key_scan ry) (setK_get I at_) room
  intro h' but new
  have there : ∃ u, h'.get? D = some u := by
    obtain ⟨o, _, _, _, ho, _⟩ := id new
    exact ⟨o, ho⟩
  exact k _ (I.write (e := D) (t' := s.toks + 1) (by rw [at_]; trivial) (.inl rfl) (fun b v hb hv => (but.2 b hb).trans hv) there (setK_new new))
/-- what a turn of the comprehension leaves -/
def ScT (P : Program) (w : World) (J : It) (g : TG) (tt : TT) (te : TE) (vs : List Nat) (σ : L2.St) (D : Addr) (i m : Nat) (W : Nat → Nat → Hp → Prop) (Q : VK) (H : Hp) : Prop :=
  (J.stop i H ∧ Q (.ref D) H) ∨ (J.go i H ∧ ∃ Nx : Hp → Prop, (∀ H', Nx H' → ∃ m', m' < m ∧ W (i + 1) m' H') ∧ ∀ x H', J.yld i H x H' → g x (wipe σ vs) H' fun σ2 H2 => wipe σ2 vs = wipe σ vs ∧ tt σ2 H2 fun b H3 =>
    if b = true then te σ2 H3 fun y H4 => ∃ (c : Key) (S : Key → Bool) (n : Nat), y = kV c ∧ H4 D = some (SetK P w D S n) ∧ n + 1 < scanBound ∧ Nx (upd H4 D (SetK P w D (fun j => S j || decide (j = c)) (if S c = true then n else n + 1))) else Nx H3)
def tScK (P : Program) (w : World) (wi : TI) (g : TG) (tt : TT) (te : TE) (vs : List Nat) : TE := fun σ H Q => wi σ H fun J H1 => ∀ D, H1 D = none → ∃ W : Nat → Nat → Hp → Prop, (∃ m, W 0 m (upd H1 D (SetK P w D (fun _ => false) 0))) ∧ ∀ i m H, W i m H → ScT P w J g tt te vs σ D i m W Q H
/-- {elt for target in iter if ..}, elt an int or a text: what comes behind it is a letter -/
theorem scK_core {pins : List (Addr × Obj)} {s : Shared} {σ : L2.St} {H : Hp} {Q : VK} {elt tg iter : Expr} {ifs : List Expr} {scope : Scope} {own : List (PySem.Str × Nat)} {pos pos' : Pos} {wi : TI} {g : TG} {tt : TT} {te : TE} {use : Option (Value → Sem Unit)} {Qf : Value → Shared → Prop}
    (calm : X.calm = true) (nd : X.N.Nodup) (I : Inv X pins σ H s) (hi : PI X tg iter wi) (ok : BlkOk X.N X.env.scope scope own)
    (hg : ∀ (s : Shared) (H : Hp) (C : Addr) (cl : List (PySem.Str × Addr)) (fp : List Addr), PG (X.blk s H scope (compEnvC scope cl C X.env) fp) tg g)
    (ht : ∀ (s : Shared) (H : Hp) (C : Addr) (cl : List (PySem.Str × Addr)) (fp : List Addr), PTs (X.blk s H scope (compEnvC scope cl C X.env) fp) ifs tt)
    (he : ∀ (s : Shared) (H : Hp) (C : Addr) (cl : List (PySem.Str × Addr)) (fp : List Addr), PE (X.blk s H scope (compEnvC scope cl C X.env) fp) elt te)
    (fold : ∀ x, foldedSetIterable iter X.env x = pure x) (need : tScK X.prog X.w wi g tt te (own.map (·.2)) σ H Q)
    (then_ : ∀ D C s' m H', Inv X pins σ H' s' → Q (.ref D) H' → s'.heap.Ns C m → FpOk X pins H' C → compPost (model X.prog X.w) X.A X.xe use Qf (.ref D) C (.ok .next) s') :
    wpAny (model X.prog X.w) X.A (comprehension (.SetComp elt [⟨tg, iter, ifs, 0⟩] scope pos) scope X.env pos' (newSet (.type "set")) false (eval iter X.env) use) Qf X.xe s := by
  have bound : ∀ y ∈ scope.names, y.2 = .free → ∃ c, X.env.cells.lookup y.1 = some c := fun y hy e => by
    rcases ok.free y hy e with k | k
    · exact I.ok.has _ (.inl k)
    · exact I.ok.has _ (.inr k)
  apply wpAny_comprehension_free (use := use) rfl fold (closure_ok bound) ok.kind (fun y hy e => by rw [ok.uniq y hy, e])
  apply thn (hi.run pins s σ H _ I need)
  intro xv s1 hx
  apply thn hx
  rintro itv s2 ⟨it, fp, tn, J, H2, rfl, I2, T, st2, f2, q⟩
  apply newSet_ok
  apply newEnv_comp
  generalize eD : s2.heap.objs.size = D
  have noD : H2 D = none := I2.hok.fresh (Nat.le_of_eq eD)
  obtain ⟨W, ⟨m0, w0⟩, turn⟩ := q D noD
  generalize es3 : ({ s2 with heap := s2.heap.push { cls := .type "set", dict := none, data := .set #[] 0 (.fresh 0 0 (!X.w.params.followText "set-order")) } } : Shared) = s3
  have hp3 : s3.heap = s2.heap.push { cls := .type "set", dict := none, data := .set #[] 0 (.fresh 0 0 (!X.w.params.followText "set-order")) } := by rw [← es3]
  have I3 : Inv X pins σ (upd H2 D (SetK X.prog X.w D (fun _ => false) 0)) s3 := by
    subst es3 eD
    exact I2.laid (t' := s2.toks) (fun b o hb => Heap.get?_push_of_some _ hb) (Nat.le_refl _) (setK_new (freshK _))
  have old : ∀ b ∈ fp, b < s2.heap.objs.size := fun b hb => by
    obtain ⟨o, e, _⟩ := T.obj _ _ st2 b hb
    exact Heap.lt_size e
  have f3 : ∀ b ∈ fp, FpOk X pins (upd H2 D (SetK X.prog X.w D (fun _ => false) 0)) b ∧ b < s3.heap.objs.size := fun b hb => by
    have lt := old b hb
    have ne : b ≠ D := by
      rw [← eD]
      exact Nat.ne_of_lt lt
    exact ⟨⟨(upd_ne ne).trans (f2 b hb).1, (f2 b hb).2⟩, by rw [hp3, Heap.size_push]; exact Nat.lt_succ_of_lt lt⟩
  have st3 : tn 0 s3.heap := T.keep _ _ _ st2 fun b _ o e => by
    rw [hp3]
    exact Heap.get?_push_of_some _ e
  have I4 := block_start I3 ok nd f3
  have pg := hg s3 (upd H2 D (SetK X.prog X.w D (fun _ => false) 0)) s3.heap.objs.size (cellsFrom (s3.heap.objs.size + 1) scope.names (cloFrom X.env.cells scope.names [])) fp
  have pt := ht s3 (upd H2 D (SetK X.prog X.w D (fun _ => false) 0)) s3.heap.objs.size (cellsFrom (s3.heap.objs.size + 1) scope.names (cloFrom X.env.cells scope.names [])) fp
  have pe := he s3 (upd H2 D (SetK X.prog X.w D (fun _ => false) 0)) s3.heap.objs.size (cellsFrom (s3.heap.objs.size + 1) scope.names (cloFrom X.env.cells scope.names [])) fp
  show codeAny _ _ (.compStart (.SetComp elt [⟨tg, iter, ifs, 0⟩] scope pos) 0 (.ref it) (.ref D) (compEnvC scope (cellsFrom (s3.heap.objs.size + 1) scope.names (cloFrom X.env.cells scope.names [])) s3.heap.objs.size X.env)) _ { s3 with heap := pushCells (s3.heap.push { cls := .type "dict", data := .dict #[] }) scope.names }
  have no3 : ∀ b ∈ fp, (upd H2 D (SetK X.prog X.w D (fun _ => false) 0)) b = none := fun b hb => (f3 b hb).1.1
  generalize env3 : compEnvC scope (cellsFrom (s3.heap.objs.size + 1) scope.names (cloFrom X.env.cells scope.names [])) s3.heap.objs.size X.env = ce at I4 pg pt pe ⊢
  have here : ce.locals = s3.heap.objs.size := by
    subst env3
    rfl
  generalize eH3 : upd H2 D (SetK X.prog X.w D (fun _ => false) 0) = H3 at I3 I4 pg pt pe w0 no3 f3
  generalize es4 : ({ s3 with heap := pushCells (s3.heap.push { cls := .type "dict", data := .dict #[] }) scope.names } : Shared) = s4 at I4 ⊢
  have st4 : tn 0 s4.heap := T.keep _ _ _ st3 fun b _ o e => by
    rw [← es4]
    exact pushCells_keeps _ _ _ _ (Heap.get?_push_of_some _ e)
  have still : ∀ {σ' : L2.St} {H' : Hp} {s' : Shared}, Inv (X.blk s3 H3 scope ce fp) [] σ' H' s' → (∀ b ∈ fp, H' b = none) → ∀ b ∈ fp, FpOk (X.blk s3 H3 scope ce fp) [] H' b := fun {σ' H' s'} I' no b hb =>
    ⟨no b hb, (I'.ok.exf b hb).1, I'.ok.exfs b hb, .inl hb, fun x c e => (I'.ok.exf b hb).2 x c e, fun p hp => absurd (show p ∈ ([] : List (Addr × Obj)) ++ [] from hp) (by simp)⟩
  suffices loop : codeAny (model X.prog X.w) X.A (.compLoop (.SetComp elt [⟨tg, iter, ifs, 0⟩] scope pos) 0 (.ref it) (.ref D) ce) (compPost (model X.prog X.w) X.A X.xe use Qf (.ref D) s3.heap.objs.size) s4 from
    codeAny_compStart_set loop (T.self X.A 0 _ _ _ st4 loop)
  apply compLoopS_any (fun n s' => ∃ i H', Inv (X.blk s3 H3 scope ce fp) [] (wipe σ (own.map (·.2))) H' s' ∧ tn i s'.heap ∧ (∀ b ∈ fp, H' b = none) ∧ W i n H') _ m0 ⟨0, H3, I4, st4, no3, w0⟩
  rintro n s5 ⟨i, H5, I5, st5, no5, w5⟩
  rcases turn i n H5 w5 with ⟨stop, fin⟩ | ⟨go, Nx, hNx, step⟩
  · apply thnF (T.done (X.blk s3 H3 scope ce fp) rfl rfl rfl calm i [] s5 _ H5 (fun _ _ => False) I5 (still I5 no5) st5 stop)
    rintro r s6 ⟨rfl, I6⟩
    have I7 : Inv X pins σ H5 s6 := I3.call' (ch := fp) I6.os I6.base I6.hok I6.bare fun b hb => ⟨(f3 b hb).1.2.2.2.1, (f3 b hb).1.2.1, (f3 b hb).1.2.2.2.2.1, (f3 b hb).1.2.2.2.2.2⟩
    have noC : H5 s3.heap.objs.size = none := by
      have z : H5 ce.locals = none := I6.free
      rwa [here] at z
    obtain ⟨m, ns, _⟩ := I6.loc
    have ns : s6.heap.Ns ce.locals m := ns
    rw [here] at ns
    exact then_ D s3.heap.objs.size s6 m H5 I7 fin ns (I3.fpOk (Nat.le_refl _) noC)
  · apply thnF (T.item (X.blk s3 H3 scope ce fp) rfl rfl rfl calm i [] s5 _ H5 (fun _ _ => False) I5 (still I5 no5) st5 go)
    rintro r s6 ⟨u, rfl, h6⟩
    apply thnF h6
    rintro _ s7 ⟨x, H7, I7, r7, y7, st7, no7⟩
    have I7' := I7.pinned (still I7 no7) (T.obj _ _ st7)
    apply thnF (pg.run _ s7 _ H7 x u _ I7' r7 (step x H7 y7))
    rintro _ s8 ⟨σ8, H8, I8, same8, q8⟩
    apply thnF (pt.run _ s8 σ8 H8 _ I8 q8)
    rintro b s9 ⟨H9, I9, q9⟩
    have again : ∀ {s' : Shared} {H' : Hp}, Inv (X.blk s3 H3 scope ce fp) ([] ++ pinsAt fp s7.heap) σ8 H' s' → Nx H' → ∃ m, m < n ∧ ∃ i H', Inv (X.blk s3 H3 scope ce fp) [] (wipe σ (own.map (·.2))) H' s' ∧ tn i s'.heap ∧ (∀ b ∈ fp, H' b = none) ∧ W i m H' := fun {s' H'} I' nx => by
      obtain ⟨m', lt, w'⟩ := hNx H' nx
      have pinned : ∀ b ∈ fp, ∀ o, s7.heap.get? b = some o → s'.heap.get? b = some o ∧ H' b = none := fun b hb o e => by
        have z := I'.pin (b, o) (List.mem_append_right _ (List.mem_append_right _ (mem_pinsAt hb e)))
        exact ⟨z.1, z.2.1⟩
      have len : (wipe σ (own.map (·.2))).length = σ8.length := by rw [← same8, wipe_length]
      refine ⟨m', lt, i + 1, H', (I'.unpinned (pins := [])).weak len (fun j v e => ?_), T.keep _ _ _ st7 fun b hb o e => (pinned b hb o e).1, fun b hb => ?_, w'⟩
      · rw [← same8] at e
        exact (wipe_some e).1
      · obtain ⟨o, e, _⟩ := T.obj _ _ st7 b hb
        exact (pinned b hb o e).2
    cases b with
    | false =>
      rw [if_neg Bool.false_ne_true] at q9
      rw [if_neg Bool.false_ne_true]
      exact again I9 q9
    | true =>
      rw [if_pos rfl] at q9
      rw [if_pos rfl]
      apply thnF (pe.run _ s9 σ8 H9 _ I9 q9)
      rintro z s10 ⟨yv, H10, I10, r10, c, S0, n0, rfl, at10, room10, nx⟩
      exact addK_ok (X := X.blk s3 H3 scope ce fp) I10 r10 at10 room10 fun s11 I11 => again I11 nx
/-- as a value -/
theorem pe_scK {elt tg iter : Expr} {ifs : List Expr} {scope : Scope} {own : List (PySem.Str × Nat)} {pos : Pos} {wi : TI} {g : TG} {tt : TT} {te : TE} (calm : X.calm = true) (nd : X.N.Nodup) (hi : PI X tg iter wi) (ok : BlkOk X.N X.env.scope scope own)
    (hg : ∀ (s : Shared) (H : Hp) (C : Addr) (cl : List (PySem.Str × Addr)) (fp : List Addr), PG (X.blk s H scope (compEnvC scope cl C X.env) fp) tg g)
    (ht : ∀ (s : Shared) (H : Hp) (C : Addr) (cl : List (PySem.Str × Addr)) (fp : List Addr), PTs (X.blk s H scope (compEnvC scope cl C X.env) fp) ifs tt)
    (he : ∀ (s : Shared) (H : Hp) (C : Addr) (cl : List (PySem.Str × Addr)) (fp : List Addr), PE (X.blk s H scope (compEnvC scope cl C X.env) fp) elt te)
    (fold : ∀ x, foldedSetIterable iter X.env x = pure x := by intro _; rfl) :
    PE X (.SetComp elt [⟨tg, iter, ifs, 0⟩] scope pos) (tScK X.prog X.w wi g tt te (own.map (·.2))) := by
  constructor
  intro pins s σ H Q I need
  rw [eval_SetComp]
  apply scK_core calm nd I hi ok hg ht he fold need
  rintro D C s' m H' I' q hn ⟨z0, z1, z2, z3, z4, z5⟩
  exact ⟨m, hn, fun h'' but => ⟨.ref D, H', I'.turned (t' := s'.toks) (fun b o hb e => (but.2 b hb).trans e) z0 z1 z3 z4 z5, rfl, q⟩⟩
theorem sw_trueS {elt : Expr} {gs : List Comprehension} {scope : Scope} {pos py : Pos} {y : PySem.Str} {l : Nat} {env : Env} (h1 : env.scope.kind = .function) (h2 : env.scope.names.lookup y = some .local) (h3 : (py.line == pos.line) = true)
    (h4 : (scope.names.any fun (n, k) => n == y && (k == .local || k == .cell)) = false) : swapsWith (.SetComp elt gs scope pos) (some (.Name y py)) l env = pure true := by
  have k1 : env.kindOf y = some .local := h2
  have k2 : env.blockKind = .function := by
    unfold Env.blockKind
    rw [h1] <;> rfl
  unfold swapsWith
  simp only [k2, k1, h4, Expr.pos, h3]
  rfl
/-- name = {..} on one line, the name a local -/
theorem ps_setScK {i : Nat} {y : PySem.Str} {py : Pos} {elt tg iter : Expr} {ifs : List Expr} {scope : Scope} {own : List (PySem.Str × Nat)} {pos spos : Pos} {wi : TI} {g : TG} {tt : TT} {te : TE} (calm : X.calm = true) (nd : X.N.Nodup) (hy : X.N[i]? = some y) (loc : X.env.scope.names.lookup y = some .local)
    (swap : swapsWith (.SetComp elt [⟨tg, iter, ifs, 0⟩] scope pos) (some (.Name y py)) spos.line X.env = pure true) (hi : PI X tg iter wi) (ok : BlkOk X.N X.env.scope scope own)
    (hg : ∀ (s : Shared) (H : Hp) (C : Addr) (cl : List (PySem.Str × Addr)) (fp : List Addr), PG (X.blk s H scope (compEnvC scope cl C X.env) fp) tg g)
    (ht : ∀ (s : Shared) (H : Hp) (C : Addr) (cl : List (PySem.Str × Addr)) (fp : List Addr), PTs (X.blk s H scope (compEnvC scope cl C X.env) fp) ifs tt)
    (he : ∀ (s : Shared) (H : Hp) (C : Addr) (cl : List (PySem.Str × Addr)) (fp : List Addr), PE (X.blk s H scope (compEnvC scope cl C X.env) fp) elt te)
    (fold : ∀ x, foldedSetIterable iter X.env x = pure x := by intro _; rfl) :
    PS X (.Assign [.Name y py] (.SetComp elt [⟨tg, iter, ifs, 0⟩] scope pos) spos) (tAsg (tScK X.prog X.w wi g tt te (own.map (·.2))) (gName i)) := by
  constructor
  intro pins s σ H D I need
  rw [exec_Assign_Name_used _ _ _ _ swap]
  apply wpAny_bind
  apply wpAny_standAt
  apply wpAny_bind
  show wpAny _ X.A (do let _ ← comprehension (.SetComp elt [⟨tg, iter, ifs, 0⟩] scope pos) scope X.env (firstIterPos [⟨tg, iter, ifs, 0⟩] pos) (newSet (.type "set")) false (eval iter X.env) (some (assign (.Name y py) X.env))) _ _ s
  have need : tScK X.prog X.w wi g tt te (own.map (·.2)) σ H (fun x H1 => gName i x σ H1 D.nx) := need
  apply wpAny_bind
  refine thn (scK_core (Qf := fun _ s' => SP X pins D .next s') calm nd I hi ok hg ht he fold need ?_) fun _ s' hq => wpAny_pure (wpAny_pure hq)
  rintro L C s' m H' I' q hn ⟨z0, z1, z2, z3, z4, z5⟩
  show wpAny _ _ (assign (.Name y py) X.env (.ref L)) _ _ _
  apply wpAny_assign_Name
  refine store_ok2 (v := V.ref L) I' nd hy (.inl loc) rfl ?_ (.inr loc)
  rintro s2 I2 ⟨a, but, ha⟩
  have ne : C ≠ a := by
    rcases ha with z | z
    · rw [z]
      exact z1
    · exact fun e => z4 y a z e.symm
  exact ⟨m, hn.sameBut but ne, fun h3 but3 => ⟨_, H', I2.turned (t' := s2.toks) (fun b o hb e => (but3.2 b hb).trans e) z0 z1 z3 z4 z5, q⟩⟩
end
end LH
namespace LH
open PySem L2
section
variable {P : Program} {w : World} {K : PySem.W.Frag} {σ : L2.St} {H : Hp} {Q : VK} {te tl : TE}
/-- over a list: the i-th item gives the int ns[i] -/
def ScV (P : Program) (w : World) (K : PySem.W.Frag) (g : TG) (te : TE) (vs : List Nat) (σ : L2.St) (x : V) (H1 : Hp) (Q : VK) : Prop :=
  ∃ a, x = .ref a ∧ (∃ xs, SqL K H1 a xs) ∧ ∀ D, H1 D = none → ∃ W : Nat → Nat → Hp → Prop, (∃ m, W 0 m (upd H1 D (SetK P w D (fun _ => false) 0))) ∧ ∀ i m H, W i m H → ScT P w (Itl K a) g tYes te vs σ D i m W Q H
theorem x_scK {g : TG} {vs : List Nat} (h : tl σ H fun x H1 => ScV P w K g te vs σ x H1 Q) : tScK P w (iList K tl) g tYes te vs σ H Q := h
theorem sc_L {a : Addr} {xs : List V} {ns : List Int} {j : Nat} {vs : List Nat} (hx : SqL K H a xs) (hz : xs.length ≤ 4000) (hn : ns.length = xs.length)
    (hw : ∀ x, wipe ((wipe σ vs).set j (some x)) vs = wipe σ vs)
    (he : ∀ (i : Nat) x z, xs[i]? = some x → ns[i]? = some z → ∀ H1, L2.Same H H1 → ∀ Q : VK, (∀ H2, L2.Same H1 H2 → Q (.int z) H2) → te ((wipe σ vs).set j (some x)) H1 Q)
    (k : ∀ D H2 S n, H D = none → L2.Same H H2 → H2 D = some (SetK P w D S n) → n ≤ ns.length → (n = ns.length ↔ ns.Nodup) → Q (.ref D) H2) : ScV P w K (gName j) te vs σ (.ref a) H Q := by
  refine ⟨a, rfl, ⟨xs, hx⟩, fun D hD => ?_⟩
  let Pv : Nat → Hp → Prop := fun i H' => L2.Same H H' ∧ ∃ S n, H' D = some (SetK P w D S n) ∧ n ≤ i ∧ (n = i ↔ (ns.take i).Nodup) ∧ ∀ z : Int, S (Sum.inl z) = true ↔ z ∈ ns.take i
  refine ⟨fun i m H' => m = xs.length - i ∧ i ≤ xs.length ∧ Pv i H', ⟨xs.length, by simp, Nat.zero_le _, LH.Same.new hD, _, 0, upd_same, Nat.le_refl _, by simp, fun z => by simp⟩, ?_⟩
  rintro i m H' ⟨rfl, hi, e0, S, n, gD, ln, nd, mem⟩
  have q := L2.Same.seq e0 hx
  by_cases lt : i < xs.length
  · refine .inr ⟨⟨xs, xs[i], q, by simp [lt]⟩, Pv (i + 1), fun H2 p2 => ⟨xs.length - (i + 1), by omega, rfl, lt, p2⟩, ?_⟩
    rintro x H2 ⟨rfl, y⟩
    have hxi := y xs q
    have hz2 : ns[i]? = some (ns[i]'(by omega)) := List.getElem?_eq_getElem (by omega)
    generalize ns[i]'(by omega) = z at hz2
    refine ⟨hw x, ?_⟩
    suffices goal : te ((wipe σ vs).set j (some x)) H2 fun y H4 => ∃ (c : Key) (S : Key → Bool) (n : Nat), y = kV c ∧ H4 D = some (SetK P w D S n) ∧ n + 1 < scanBound ∧ Pv (i + 1) (upd H4 D (SetK P w D (fun j => S j || decide (j = c)) (if S c = true then n else n + 1))) by
      exact x_yes (by rw [if_pos rfl]; exact goal)
    refine he i x z hxi hz2 _ e0 _ fun H3 e3 => ⟨Sum.inl z, S, n, rfl, e3 _ _ gD, ?_, Same.mut (e0.trans e3) hD, _, _, upd_same, ?_, ?_, ?_⟩
    · unfold scanBound
      omega
    · split <;> omega
    · rw [take_more hz2, List.nodup_append]
      by_cases c : S (Sum.inl z) = true
      · rw [if_pos c]
        have hm := (mem z).mp c
        constructor
        · intro h
          omega
        · rintro ⟨_, _, h3⟩
          exact absurd rfl (h3 z hm z (List.mem_singleton.mpr rfl))
      · rw [if_neg c]
        constructor
        · intro h
          refine ⟨nd.mp (by omega), by simp, fun b hb b' hb' e => c ((mem z).mpr ?_)⟩
          rw [List.mem_singleton.mp hb'] at e
          rw [← e]
          exact hb
        · rintro ⟨h1, _, _⟩
          have := nd.mpr h1
          omega
    · intro u
      show (S (Sum.inl u) || decide ((Sum.inl u : Key) = Sum.inl z)) = true ↔ _
      rw [take_more hz2, List.mem_append, List.mem_singleton, Bool.or_eq_true, mem u, decide_eq_true_eq]
      constructor
      · rintro (h | h)
        · exact .inl h
        · injection h with h
          exact .inr h
      · rintro (h | h)
        · exact .inl h
        · exact .inr (by rw [h])
  · have e : i = xs.length := by omega
    subst e
    refine .inl ⟨⟨xs, q, Nat.le_refl _⟩, k D H' S n hD e0 gD (by omega) ?_⟩
    rw [← hn] at nd
    rw [List.take_length] at nd
    exact nd
end
end LH
namespace LH
open PySem PySem.Spec PyProof.Rows L2
/-- len of such a set -/
def rLenK (P : Program) (w : World) : List V → Hp → VK → Prop := fun xs H Q => ∃ (a : Addr) (S : Key → Bool) (n : Nat), xs = [.ref a] ∧ H a = some (SetK P w a S n) ∧ Q (.int n) H
theorem call_lenK {X : Cx} : CallR X (.builtin "len") (rLenK X.prog X.w) := by
  intro pins s σ H xs us Q I r h
  obtain ⟨a, S, n, rfl, ha, q⟩ := h
  obtain ⟨u, rfl, ru⟩ := r.one
  have eu : u = Value.ref a := ru
  rw [eu]
  obtain ⟨o, es, ep, t, at_, exact_, data, _, _, small, fits, count⟩ := setK_get I ha
  refine call_len_set at_ exact_ data fits (by unfold scanBound at small; omega) ⟨.int n, H, I.tok _, ⟨_, by rw [count]⟩, q⟩
theorem x_lenK {P : Program} {w : World} {a : Addr} {S : Key → Bool} {n : Nat} {H : Hp} {Q : VK} (h : H a = some (SetK P w a S n)) (q : Q (.int n) H) : rLenK P w [.ref a] H Q := ⟨a, S, n, rfl, h, q⟩
end LH
/-! numbers, rows, words, as plain mathematics; data -/
namespace LM
open PySem L2
variable {K : PySem.W.Frag}
def isW : V → Int → Int → Bool
  | .int i, lo, hi => decide (lo ≤ i) && decide (i ≤ hi)
  | _, _, _ => false
theorem isW_int {x : V} {lo hi : Int} (h : isW x lo hi = true) : ∃ i, x = .int i ∧ lo ≤ i ∧ i ≤ hi := by
  cases x <;> simp [isW] at h
  exact ⟨_, rfl, h.1, h.2⟩
theorem isW_yes {i lo hi : Int} (h1 : lo ≤ i) (h2 : i ≤ hi) : isW (.int i) lo hi = true := by simp [isW, h1, h2]
def letters : Str := "abcdefghijklmnopqrstuvwxyz"
def isLet (c : Nat) : Bool := decide (c ∈ letters.cps.toList)
def isRowS (z : Str) : Bool := decide (1 ≤ z.length) && (decide (z.length ≤ 8) && z.cps.toList.all isLet)
def isRow : V → Bool
  | .str z => isRowS z
  | _ => false
/-- no text beyond a hundred thousand signs -/
def Ok (z : Str) : Prop := z.length ≤ 100000 ∧ z.cps.all (· < 0x110000) = true
def Sm (x : V) : Prop := ∀ z, x = .str z → Ok z
def signV : V → Bool
  | .str z => match z.cps.toList with
    | [c] => isLet c
    | _ => false
  | _ => false
theorem signs_let (z : Str) : ((LH.signs z).filter fun _ => true).map (fun x => V.bl (signV x)) = (z.cps.toList.map isLet).map V.bl := by
  rw [List.filter_eq_self.mpr (fun _ _ => rfl)]
  unfold LH.signs
  rw [List.map_map, List.map_map]
  rfl
theorem all_id (l : List Nat) : (l.map isLet).all id = l.all isLet := by
  rw [List.all_map]
  rfl
/-! ### texts of letters -/
theorem cut_lo (z : Str) (k : Nat) : cutS z none (some (k : Int)) = ⟨(z.cps.toList.take k).toArray⟩ := by
  unfold cutS
  rw [HT.sIx_none, HT.sIx_nat, List.drop_zero, Nat.sub_zero]
  congr 2
  have : z.length = z.cps.toList.length := by rw [Array.length_toList]; rfl
  rw [this]
  exact (List.take_eq_take_min).symm
theorem cut_hi (z : Str) (k : Nat) : cutS z (some (k : Int)) none = ⟨(z.cps.toList.drop k).toArray⟩ := by
  unfold cutS
  rw [HT.sIx_none, HT.sIx_nat]
  congr 1
  have e : z.length = z.cps.toList.length := by rw [Array.length_toList]; rfl
  rw [e]
  by_cases h : k ≤ z.cps.toList.length
  · rw [Nat.min_eq_left h, List.take_of_length_le]
    rw [List.length_drop]
    exact Nat.le_refl _
  · rw [Nat.min_eq_right (by omega), List.drop_of_length_le (by omega), List.drop_of_length_le (by omega), List.take_nil]
theorem join_signs : ∀ cs : List Nat, Txt.join (Str.ofString "") (cs.map fun c => (⟨#[c]⟩ : Str)) = ⟨cs.toArray⟩ := fun cs => by
  have e0 : Str.ofString "" = SX.S [] := rfl
  have e1 : (cs.map fun c => (⟨#[c]⟩ : Str)) = (cs.map fun c => [c]).map SX.S := by rw [List.map_map]; rfl
  rw [e0, e1, SX.join_S]
  have e2 : ∀ cs : List Nat, TL.joinL [] (cs.map fun c => [c]) = cs := by
    intro cs
    induction cs with
    | nil => rfl
    | cons c cs ih =>
      cases cs with
      | nil => rfl
      | cons d cs =>
        show [c] ++ ([] ++ TL.joinL [] ((d :: cs).map fun c => [c])) = c :: d :: cs
        rw [ih]
        rfl
  rw [e2]
theorem lens1 (f : Nat → Nat) (l : List Nat) : (((l.map f).map fun c => (⟨#[c]⟩ : Str)).map (·.length)).sum = l.length := by
  induction l with
  | nil => rfl
  | cons c l ih =>
    simp only [List.map_cons, List.sum_cons, List.length_cons] at ih ⊢
    rw [ih]
    show 1 + l.length = l.length + 1
    omega
theorem let_at (u : Int) : ∃ c, atI letters.cps.toList (u % 26) = some c ∧ isLet c = true ∧ c = letters.cps.toList.getD (u % 26).toNat 0 := by
  have h1 := Int.emod_nonneg u (show (26 : Int) ≠ 0 by decide)
  have h2 := Int.emod_lt_of_pos u (show (0 : Int) < 26 by decide)
  obtain ⟨j, e⟩ : ∃ j : Nat, u % 26 = (j : Int) := ⟨(u % 26).toNat, by omega⟩
  have hj : j < letters.cps.toList.length := by
    have : letters.cps.toList.length = 26 := by decide +kernel
    omega
  refine ⟨letters.cps.toList[j], by rw [e]; exact atI_nat (List.getElem?_eq_getElem hj), decide_eq_true (List.getElem_mem _), ?_⟩
  rw [e]
  show _ = letters.cps.toList.getD j 0
  rw [List.getD_eq_getElem?_getD, List.getElem?_eq_getElem hj]
  rfl
theorem row_of {l : List Nat} (h1 : 1 ≤ l.length) (h2 : l.length ≤ 8) (h3 : ∀ c ∈ l, isLet c = true) : isRowS ⟨l.toArray⟩ = true := by
  have e : (⟨l.toArray⟩ : Str).length = l.length := List.size_toArray
  unfold isRowS
  rw [e, decide_eq_true h1, decide_eq_true h2]
  simp only [Bool.true_and]
  exact List.all_eq_true.mpr (by simpa using h3)
theorem row_ok {z : Str} (h : isRowS z = true) : Ok z := by
  unfold isRowS at h
  rw [Bool.and_eq_true, Bool.and_eq_true, decide_eq_true_eq, decide_eq_true_eq] at h
  refine ⟨by omega, ?_⟩
  rw [← Array.all_toList]
  refine List.all_eq_true.mpr fun c hc => ?_
  have := List.all_eq_true.mp h.2.2 c hc
  have hm : c ∈ letters.cps.toList := of_decide_eq_true this
  have : ∀ c ∈ letters.cps.toList, decide (c < 0x110000) = true := by decide +kernel
  exact this c hm
def letF (t : Int) (j : Nat) : Nat := letters.cps.toList.getD ((t + 5 * (j : Int) * (1 + t % 3)) % 26).toNat 0
def letV (t : Int) : V → V
  | .int j => .str ⟨#[letters.cps.toList.getD ((t + 5 * j * (1 + t % 3)) % 26).toNat 0]⟩
  | x => x
theorem lets (t : Int) (n : Nat) : ((LH.intsV 0 n).filter fun _ => true).map (letV t) = (((List.range n).map (letF t)).map fun c => (⟨#[c]⟩ : Str)).map V.str := by
  rw [List.filter_eq_self.mpr (fun _ _ => rfl)]
  unfold LH.intsV
  rw [List.map_map, List.map_map, List.map_map]
  refine List.map_congr_left fun i _ => ?_
  show V.str ⟨#[letters.cps.toList.getD ((t + 5 * (0 + (i : Int)) * (1 + t % 3)) % 26).toNat 0]⟩ = V.str ⟨#[letF t i]⟩
  rw [Int.zero_add]
  rfl
theorem let_letF (t : Int) (j : Nat) : isLet (letF t j) = true := by
  obtain ⟨c, _, h, e⟩ := let_at (t + 5 * (j : Int) * (1 + t % 3))
  unfold letF
  rw [← e]
  exact h
theorem four_at (i : Int) : ∃ z, atI [V.str "say", .str "mark", .str "by", .str "house"] (i % 4) = some (V.str z) ∧ isRowS z = true := by
  have h : i % 4 = 0 ∨ i % 4 = 1 ∨ i % 4 = 2 ∨ i % 4 = 3 := by omega
  rcases h with h | h | h | h <;> rw [h]
  · exact ⟨_, rfl, by decide +kernel⟩
  · exact ⟨_, rfl, by decide +kernel⟩
  · exact ⟨_, rfl, by decide +kernel⟩
  · exact ⟨_, rfl, by decide +kernel⟩
theorem kqxz_at (i : Int) : ∃ c, atI (Str.ofString "kqxz").cps.toList (i % 4) = some c ∧ isLet c = true := by
  have h : i % 4 = 0 ∨ i % 4 = 1 ∨ i % 4 = 2 ∨ i % 4 = 3 := by omega
  rcases h with h | h | h | h <;> rw [h]
  · exact ⟨107, by decide +kernel, by decide +kernel⟩
  · exact ⟨113, by decide +kernel, by decide +kernel⟩
  · exact ⟨120, by decide +kernel, by decide +kernel⟩
  · exact ⟨122, by decide +kernel, by decide +kernel⟩
theorem mod_at (x : Int) (n : Nat) : ∃ m : Nat, m ≤ n ∧ x.fmod ((n : Int) + 1) = (m : Int) := by
  rw [Int.fmod_eq_emod_of_nonneg _ (by omega)]
  have h1 := Int.emod_nonneg x (show (n : Int) + 1 ≠ 0 by omega)
  have h2 := Int.emod_lt_of_pos x (show (0 : Int) < (n : Int) + 1 by omega)
  exact ⟨(x % ((n : Int) + 1)).toNat, by omega, by omega⟩
abbrev wd (k : Str) (n : Int) (r : Str) (h : Int) : List V := [.str k, .int n, .str r, .int h]
theorem dstr {x y : Str} : decide (V.str x = V.str y) = decide (x = y) := by simp
theorem dint {x y : Int} : decide (V.int x = V.int y) = decide (x = y) := by simp
theorem str_data {H : Hp} : ∀ l : List Str, DpAll K H (l.map V.str) (l.map PyData.str)
  | [] => .nil
  | x :: l => .cons (.str x) (str_data l)
theorem lay_strs : ∀ {l : List Str}, (∀ x ∈ l, Ok x) → PyData.canLayAll0 (l.map PyData.str) = true
  | [], _ => rfl
  | x :: l, h => by
    show (PyData.canLay0 (.str x) && PyData.canLayAll0 (l.map PyData.str)) = true
    rw [lay_strs fun y hy => h y (List.mem_cons_of_mem _ hy)]
    have e : PyData.canLay0 (.str x) = true := by
      show (PyData.strOk x) = true
      exact (h x List.mem_cons_self).2
    rw [e]
    rfl
theorem shaped_strs {l : List Str} (h : ∀ x ∈ l, Ok x) : SeqAt.shaped (.list (l.map PyData.str)) = true := by
  have d : ∀ l : List Str, PyData.depthAll (l.map PyData.str) ≤ 2 := by
    intro l
    induction l with
    | nil => simp [PyData.depthAll]
    | cons x l ih => simp [PyData.depthAll, PyData.depth]; omega
  unfold SeqAt.shaped
  rw [Bool.and_eq_true]
  refine ⟨lay_strs h, decide_eq_true ?_⟩
  have := d l
  simp [PyData.depth]
  omega
/-- the signs that are no letters -/
def noLet (z : Str) : List Str := (z.cps.toList.filter fun c => !isLet c).map fun c => ⟨#[c]⟩
theorem signs_no (z : Str) : ((LH.signs z).filter fun x => !signV x).map id = (noLet z).map V.str := by
  unfold LH.signs noLet
  rw [List.map_id, List.filter_map, List.map_map]
  rfl
theorem no_ok {z : Str} (h : Ok z) : ∀ x ∈ noLet z, Ok x := fun x hx => by
  obtain ⟨c, hc, rfl⟩ := List.mem_map.mp hx
  have hm := (List.mem_filter.mp hc).1
  have h2 := h.2
  rw [← Array.all_toList] at h2
  have := List.all_eq_true.mp h2 c hm
  exact ⟨by show 1 ≤ 100000; decide, by simpa using this⟩
theorem no_eqv (z : Str) : PyData.eqv (.list ((noLet z).map PyData.str)) (.list []) = z.cps.toList.all isLet := by
  have e : ∀ l : List Nat, PyData.eqvAll (((l.filter fun c => !isLet c).map fun c => (⟨#[c]⟩ : Str)).map PyData.str) [] = l.all isLet := by
    intro l
    induction l with
    | nil => simp [PyData.eqvAll]
    | cons c l ih =>
      rw [List.all_cons, List.filter_cons]
      cases isLet c with
      | true => simpa using ih
      | false => simp [PyData.eqvAll]
  show PyData.eqvAll _ [] = _
  exact e _
/-- a thing that may stand in a word -/
def Gd (K : PySem.W.Frag) (H : Hp) (y : V) : Prop := Sm y ∧ ∃ T, TyB K H y T
theorem Gd.up {H H' : Hp} {y : V} (e : Same H H') (g : Gd K H y) : Gd K H' y := let ⟨s, T, h⟩ := g; ⟨s, T, LH.Same.ty e h⟩
theorem gd_int {H : Hp} (i : Int) : Gd K H (.int i) := ⟨fun z e => (by cases e), _, .int i⟩
theorem gd_str {H : Hp} {z : Str} (h : Ok z) : Gd K H (.str z) := ⟨fun z' e => (by cases e; exact h), _, .str z⟩
theorem gd_bl {H : Hp} (b : Bool) : Gd K H (.bl b) := ⟨fun z e => (by cases e), _, .bl b⟩
theorem gd_non {H : Hp} : Gd K H .non := ⟨fun z e => (by cases e), _, .non⟩
theorem gd_lst {H : Hp} {p : Addr} {xs : List V} (h : SqL K H p xs) : Gd K H (.ref p) := ⟨fun z e => (by cases e), _, .lst h⟩
theorem gd_tup {H : Hp} {p : Addr} {xs : List V} (h : SqT K H p xs) : Gd K H (.ref p) := ⟨fun z e => (by cases e), _, .tup h⟩
theorem gd_dK {H : Hp} {p : Addr} {kvs : List (Key × V)} (h : H p = some (.dK kvs)) : Gd K H (.ref p) := ⟨fun z e => (by cases e), _, .dK h⟩
theorem fmod_pos {n c : Int} (h : 1 ≤ c) : n.fmod c = n % c := Int.fmod_eq_emod_of_nonneg _ (by omega)
/-! ### the row that is told by two numbers -/
def kq (k : Int) : Nat := [107, 113, 120, 122].getD (k % 4).toNat 0
def word4 (k : Int) : Str := [("say" : Str), "mark", "by", "house"].getD (k % 4).toNat "say"
def tOf (b k : Int) : Int := b + 31 * k * (b % 2)
def nOf (b k : Int) : Nat := (tOf b k / 26 % 8).toNat
def atOf (b k : Int) : Nat := if b % 2 = 0 then ((b / 4).fmod ((nOf b k : Int) + 1)).toNat else nOf b k
def tailOf (b k : Int) : List Nat := (List.range (nOf b k)).map (letF (tOf b k))
def rowL (b k : Int) : List Nat := (tailOf b k).take (atOf b k) ++ [kq k] ++ (tailOf b k).drop (atOf b k)
def rowF (b k : Int) : Str := if b % 9 = 4 then word4 k else ⟨(rowL b k).toArray⟩
theorem word4_at (k : Int) : atI [V.str "say", .str "mark", .str "by", .str "house"] (k % 4) = some (V.str (word4 k)) ∧ isRowS (word4 k) = true := by
  have h : k % 4 = 0 ∨ k % 4 = 1 ∨ k % 4 = 2 ∨ k % 4 = 3 := by omega
  unfold word4
  rcases h with h | h | h | h <;> rw [h]
  all_goals exact ⟨rfl, by decide +kernel⟩
theorem kq_at (k : Int) : atI (Str.ofString "kqxz").cps.toList (k % 4) = some (kq k) ∧ isLet (kq k) = true := by
  have h : k % 4 = 0 ∨ k % 4 = 1 ∨ k % 4 = 2 ∨ k % 4 = 3 := by omega
  unfold kq
  rcases h with h | h | h | h <;> rw [h]
  all_goals exact ⟨by decide +kernel, by decide +kernel⟩
theorem nOf_lt (b k : Int) : nOf b k < 8 := by
  unfold nOf
  omega
theorem nOf_eq (b k : Int) : tOf b k / 26 % 8 = (nOf b k : Int) := by
  unfold nOf
  omega
theorem atOf_le (b k : Int) : atOf b k ≤ nOf b k := by
  unfold atOf
  split
  · obtain ⟨m, h, e⟩ := mod_at (b / 4) (nOf b k)
    rw [e]
    exact h
  · exact Nat.le_refl _
theorem tail_len (b k : Int) : (tailOf b k).length = nOf b k := by
  unfold tailOf
  rw [List.length_map, List.length_range]
theorem atOf_even {b k : Int} (h : b % 2 = 0) : (b / 4).fmod ((nOf b k : Int) + 1) = (atOf b k : Int) := by
  unfold atOf
  rw [if_pos h]
  obtain ⟨m, _, e⟩ := mod_at (b / 4) (nOf b k)
  rw [e]
  rfl
theorem atOf_odd {b k : Int} (h : ¬ b % 2 = 0) : atOf b k = nOf b k := by
  unfold atOf
  rw [if_neg h]
theorem rowF_cut {b k : Int} (h : ¬ b % 9 = 4) : cutS ⟨(tailOf b k).toArray⟩ none (some (atOf b k : Int)) ++ ⟨#[kq k]⟩ ++ cutS ⟨(tailOf b k).toArray⟩ (some (atOf b k : Int)) none = rowF b k := by
  rw [cut_lo, cut_hi]
  unfold rowF
  rw [if_neg h]
  show (⟨_ ++ _ ++ _⟩ : Str) = _
  simp [rowL]
theorem rowF_row (b k : Int) : isRowS (rowF b k) = true := by
  unfold rowF
  split
  · exact (word4_at k).2
  · have h1 := nOf_lt b k
    have h2 := atOf_le b k
    have h3 := tail_len b k
    refine row_of (by unfold rowL; simp; omega) (by unfold rowL; simp; omega) fun d hd => ?_
    unfold rowL at hd
    have lt : ∀ d ∈ tailOf b k, isLet d = true := fun d hd => by
      obtain ⟨j, _, rfl⟩ := List.mem_map.mp hd
      exact let_letF _ j
    rcases List.mem_append.mp hd with hd | hd
    · rcases List.mem_append.mp hd with hd | hd
      · exact lt d (List.mem_of_mem_take hd)
      · rw [List.mem_singleton.mp hd]
        exact (kq_at k).2
    · exact lt d (List.mem_of_mem_drop hd)
theorem rowF_ok (b k : Int) : Ok (rowF b k) := row_ok (rowF_row b k)
theorem toArr_ne {l m : List Nat} (h : l ≠ m) : (⟨l.toArray⟩ : Str) ≠ ⟨m.toArray⟩ := fun e => by
  have e2 : l.toArray = m.toArray := congrArg Str.cps e
  exact h (by simpa using congrArg Array.toList e2)
theorem kq_ne {j k : Int} (h : j % 4 ≠ k % 4) : kq j ≠ kq k := by
  have hj : j % 4 = 0 ∨ j % 4 = 1 ∨ j % 4 = 2 ∨ j % 4 = 3 := by omega
  have hk : k % 4 = 0 ∨ k % 4 = 1 ∨ k % 4 = 2 ∨ k % 4 = 3 := by omega
  unfold kq
  rcases hj with hj | hj | hj | hj <;> rcases hk with hk | hk | hk | hk <;> rw [hj, hk] at h ⊢
  all_goals first | (exact absurd rfl h) | decide
theorem word4_ne {j k : Int} (h : j % 4 ≠ k % 4) : word4 j ≠ word4 k := by
  have hj : j % 4 = 0 ∨ j % 4 = 1 ∨ j % 4 = 2 ∨ j % 4 = 3 := by omega
  have hk : k % 4 = 0 ∨ k % 4 = 1 ∨ k % 4 = 2 ∨ k % 4 = 3 := by omega
  unfold word4
  rcases hj with hj | hj | hj | hj <;> rcases hk with hk | hk | hk | hk <;> rw [hj, hk] at h ⊢
  all_goals first | (exact absurd rfl h) | decide +kernel
/-- rows of unlike letters differ -/
theorem rowF_ne {b j k : Int} (h : j % 4 ≠ k % 4) : rowF b j ≠ rowF b k := by
  unfold rowF
  by_cases c : b % 9 = 4
  · rw [if_pos c, if_pos c]
    exact word4_ne h
  · rw [if_neg c, if_neg c]
    refine toArr_ne fun e => kq_ne h ?_
    by_cases c2 : b % 2 = 0
    · have t : tOf b j = tOf b k := by unfold tOf; rw [c2]; omega
      have n : nOf b j = nOf b k := by unfold nOf; rw [t]
      have tl : tailOf b j = tailOf b k := by unfold tailOf; rw [t, n]
      have at_ : atOf b j = atOf b k := by unfold atOf; rw [n]
      unfold rowL at e
      rw [tl, at_, List.append_assoc, List.append_assoc] at e
      have e := List.append_cancel_left e
      simp only [List.singleton_append, List.cons.injEq] at e
      exact e.1
    · have l : ∀ m : Int, (rowL b m).getLast? = some (kq m) := fun m => by
        unfold rowL
        have a : atOf b m = nOf b m := by unfold atOf; rw [if_neg c2]
        rw [a, List.drop_of_length_le (by rw [tail_len]; exact Nat.le_refl _), List.append_nil]
        simp
      have := congrArg List.getLast? e
      rw [l, l] at this
      injection this
/-! ### data -/
mutual
theorem dp_up {H H' : Hp} (e : Same H H') : ∀ {d : PyData} {x : V}, Dp K H x d → Dp K H' x d
  | _, _, .non => .non
  | _, _, .bl b => .bl b
  | _, _, .int i => .int i
  | _, _, .str x => .str x
  | _, _, .lst h r => .lst (Same.seq e h) (dpA_up e r)
  | _, _, .tup h r => .tup (LH.Same.seqT e h) (dpA_up e r)
theorem dpA_up {H H' : Hp} (e : Same H H') : ∀ {ds : List PyData} {xs : List V}, DpAll K H xs ds → DpAll K H' xs ds
  | _, _, .nil => .nil
  | _, _, .cons h r => .cons (dp_up e h) (dpA_up e r)
end
/-- data that may be compared: d levels deep at the most -/
structure Lay (n : Nat) (d : PyData) : Prop where
  lay : PyData.canLay0 d = true
  dep : PyData.depth d ≤ n
theorem Lay.mono {n m : Nat} {d : PyData} (h : n ≤ m) (l : Lay n d) : Lay m d := ⟨l.lay, Nat.le_trans l.dep h⟩
theorem lay_int {n : Nat} (i : Int) (h : 1 ≤ n := by omega) : Lay n (.int i) := ⟨rfl, by simp [PyData.depth]; try omega⟩
theorem lay_non {n : Nat} (h : 1 ≤ n := by omega) : Lay n .none := ⟨rfl, by simp [PyData.depth]; try omega⟩
theorem lay_str {n : Nat} {z : Str} (o : Ok z) (h : 1 ≤ n := by omega) : Lay n (.str z) := ⟨o.2, by simp [PyData.depth]; try omega⟩
theorem lay_all {n : Nat} : ∀ {ds : List PyData}, (∀ d ∈ ds, Lay n d) → PyData.canLayAll0 ds = true ∧ PyData.depthAll ds ≤ n
  | [], _ => ⟨rfl, by simp [PyData.depthAll]⟩
  | d :: ds, h => by
    have ⟨h1, h2⟩ := h d List.mem_cons_self
    obtain ⟨g1, g2⟩ := lay_all fun e m => h e (List.mem_cons_of_mem _ m)
    exact ⟨by show (PyData.canLay0 d && PyData.canLayAll0 ds) = true; rw [h1, g1]; rfl, by simp only [PyData.depthAll]; omega⟩
theorem lay_list {n : Nat} {ds : List PyData} (h : ∀ d ∈ ds, Lay n d) : Lay (n + 1) (.list ds) := by
  obtain ⟨h1, h2⟩ := lay_all h
  exact ⟨h1, by simp only [PyData.depth]; omega⟩
theorem lay_tup {n : Nat} {ds : List PyData} (h : ∀ d ∈ ds, Lay n d) : Lay (n + 1) (.tuple ds) := by
  obtain ⟨h1, h2⟩ := lay_all h
  exact ⟨h1, by simp only [PyData.depth]; omega⟩
theorem Lay.shaped {n : Nat} {d : PyData} (l : Lay n d) (h : n ≤ 30 := by omega) : SeqAt.shaped d = true := by
  unfold SeqAt.shaped
  rw [Bool.and_eq_true]
  refine ⟨l.lay, decide_eq_true ?_⟩
  have := l.dep
  omega
theorem Lay.refl {n : Nat} {d : PyData} (l : Lay n d) : PyData.eqv d d = true := SeqAt.eqv_refl _ l.lay
end LM
namespace LM
open PySem L2
/-! ### words -/
structure Wrd where
  k : Str
  n : Int
  r : Str
  h : Int
deriving DecidableEq
def Wrd.vs (w : Wrd) : List V := wd w.k w.n w.r w.h
/-- what it has in common with an unlike one -/
def Wrd.pl (w : Wrd) : List Key := [.inr w.k, .inl w.n, .inl w.h]
def Wrd.dat (w : Wrd) : PyData := .tuple [.str w.k, .int w.n, .str w.r, .int w.h]
def unl (w u : Wrd) : Bool := decide (u.pl = w.pl) && decide (u.r ≠ w.r)
theorem pl_eq {w u : Wrd} : u.pl = w.pl ↔ u.k = w.k ∧ u.n = w.n ∧ u.h = w.h := by
  unfold Wrd.pl
  constructor
  · intro e
    injection e with e1 e
    injection e with e2 e
    injection e with e3 e
    exact ⟨Sum.inr.inj e1, Sum.inl.inj e2, Sum.inl.inj e3⟩
  · rintro ⟨h1, h2, h3⟩
    rw [h1, h2, h3]
theorem pl_vs (w : Wrd) : w.pl.map kV = [.str w.k, .int w.n, .int w.h] := rfl
/-- a word's texts are texts -/
def Wrd.Ok (w : Wrd) : Prop := LM.Ok w.k ∧ LM.Ok w.r
theorem Wrd.lay {w : Wrd} (o : w.Ok) : Lay 2 w.dat := lay_tup fun d hd => by
  simp only [List.mem_cons, List.not_mem_nil, or_false] at hd
  rcases hd with rfl | rfl | rfl | rfl
  · exact lay_str o.1
  · exact lay_int _
  · exact lay_str o.2
  · exact lay_int _
section
variable {K : PySem.W.Frag}
def WV (K : PySem.W.Frag) (H : Hp) (x : V) (w : Wrd) : Prop := ∃ p, x = .ref p ∧ SqT K H p w.vs
theorem WV.up {H H' : Hp} {x : V} {w : Wrd} (e : Same H H') (h : WV K H x w) : WV K H' x w := let ⟨p, e1, h1⟩ := h; ⟨p, e1, LH.Same.seqT e h1⟩
theorem WV.dp {H : Hp} {x : V} {w : Wrd} (h : WV K H x w) : Dp K H x w.dat := by
  obtain ⟨p, rfl, h⟩ := h
  exact .tup h (.cons (.str _) (.cons (.int _) (.cons (.str _) (.cons (.int _) .nil))))
/-- pairs of a value and its word -/
def WP (K : PySem.W.Frag) (H : Hp) (l : List (V × Wrd)) : Prop := ∀ p ∈ l, WV K H p.1 p.2
theorem WP.up {H H' : Hp} {l : List (V × Wrd)} (e : Same H H') (h : WP K H l) : WP K H' l := fun p hp => (h p hp).up e
theorem WP.dpA {H : Hp} : ∀ {l : List (V × Wrd)}, WP K H l → DpAll K H (l.map (·.1)) (l.map fun p => p.2.dat)
  | [], _ => .nil
  | p :: l, h => .cons (h p List.mem_cons_self).dp (WP.dpA fun q hq => h q (List.mem_cons_of_mem _ hq))
end
end LM
namespace LM
open PySem L2
/-! ### who is to blame -/
abbrev VW := V × Wrd
/-- of those at a place, in order -/
def atPl (l : List VW) (k : List Key) : List VW := l.filter fun p => decide (p.2.pl = k)
/-- the first of l1 by house h that has an unlike one in l2, with the first such -/
def firstP (l1 l2 : List VW) (h : Int) : Option (VW × VW) := l1.findSome? fun p => if p.2.h = h then (l2.find? fun q => unl p.2 q.2).map fun q => (p, q) else none
theorem firstP_snoc (l1 l2 : List VW) (p : VW) (h : Int) : firstP (l1 ++ [p]) l2 h = (firstP l1 l2 h).or (if p.2.h = h then (l2.find? fun q => unl p.2 q.2).map fun q => (p, q) else none) := by
  unfold firstP
  rw [List.findSome?_append]
  simp
theorem firstP_some {l1 l2 : List VW} {h : Int} {p q : VW} (e : firstP l1 l2 h = some (p, q)) : p ∈ l1 ∧ q ∈ l2 ∧ p.2.h = h ∧ unl p.2 q.2 = true := by
  unfold firstP at e
  obtain ⟨x, hx, e⟩ := List.exists_of_findSome?_eq_some e
  by_cases c : x.2.h = h
  · rw [if_pos c] at e
    obtain ⟨y, hy, e⟩ := Option.map_eq_some_iff.mp e
    injection e with e1 e2
    subst e1 e2
    exact ⟨hx, List.mem_of_find?_eq_some hy, c, by simpa using List.find?_some hy⟩
  · rw [if_neg c] at e
    cases e
/-- those houses of 0 .. c - 1, rising -/
def blamedL (l1 l2 : List VW) (c : Nat) : List (Int × VW × VW) := (List.range c).filterMap fun (h : Nat) => (firstP l1 l2 h).map fun x => ((h : Int), x)
def bdat (x : Int × VW × VW) : PyData := .tuple [.int x.1, x.2.1.2.dat, x.2.2.2.dat]
/-- rising lists without repeats of the same members are one -/
theorem rise_eq : ∀ {l m : List Int}, l.Pairwise (· ≤ ·) → m.Pairwise (· ≤ ·) → l.Nodup → m.Nodup → (∀ x, x ∈ l ↔ x ∈ m) → l = m := by
  intro l m h1 h2 h3 h4 h5
  have p : l.Perm m := (List.perm_ext_iff_of_nodup h3 h4).mpr h5
  exact List.Perm.eq_of_pairwise (fun a b _ _ hab hba => Int.le_antisymm hab hba) h1 h2 p
end LM
namespace LM
open PySem L2
theorem unl_filter (w : Wrd) : ∀ l2 : List VW, ((atPl l2 w.pl).map fun u => if decide (u.2.r = w.r) = false then some u.1 else none).filterMap id = (l2.filter fun u => unl w u.2).map (·.1)
  | [] => rfl
  | u :: l2 => by
    have ih := unl_filter w l2
    unfold atPl at ih ⊢
    by_cases c : u.2.pl = w.pl
    · rw [List.filter_cons_of_pos (by simpa using c), List.map_cons]
      by_cases d : u.2.r = w.r
      · have e : unl w u.2 = false := by unfold unl; simp [d]
        rw [List.filter_cons_of_neg (by rw [e]; exact Bool.false_ne_true), ← ih]
        simp [d]
      · have e : unl w u.2 = true := by unfold unl; simp [c, d]
        rw [List.filter_cons_of_pos (p := fun u : VW => unl w u.2) e, List.map_cons, ← ih]
        simp [d]
    · have e : unl w u.2 = false := by unfold unl; simp [c]
      rw [List.filter_cons_of_neg (by simpa using c), List.filter_cons_of_neg (by rw [e]; exact Bool.false_ne_true), ih]
theorem find_filter {α : Type} (p : α → Bool) (l : List α) : l.find? p = (l.filter p).head? := by
  rw [List.head?_filter]
theorem paired_blamed {l1 l2 : List VW} {F : Int × VW × VW → V → Prop} (g : Int → V) : ∀ R : List Nat, (∀ h ∈ R, ∀ x, firstP l1 l2 (h : Int) = some x → F ((h : Int), x) (g h)) →
    Paired F (R.filterMap fun (h : Nat) => (firstP l1 l2 h).map fun x => ((h : Int), x)) ((R.filter fun (h : Nat) => (firstP l1 l2 h).isSome).map fun (h : Nat) => g h)
  | [], _ => .nil
  | h :: R, H => by
    have ih := paired_blamed g R fun j hj => H j (List.mem_cons_of_mem _ hj)
    cases e : firstP l1 l2 (h : Int) with
    | none => simpa [e] using ih
    | some x =>
      have := H h List.mem_cons_self x e
      simpa [e] using Paired.cons this ih
theorem nodup_le : ∀ (c : Nat) (l : List Int), l.Nodup → (∀ x ∈ l, 0 ≤ x ∧ x < c) → l.length ≤ c := by
  intro c l nd h
  have s : l ⊆ (List.range c).map fun (i : Nat) => (i : Int) := fun x hx => by
    obtain ⟨h1, h2⟩ := h x hx
    exact List.mem_map.mpr ⟨x.toNat, List.mem_range.mpr (by omega), by omega⟩
  have := nd.length_le_of_subset s
  rw [List.length_map, List.length_range] at this
  exact this
end LM
namespace LM
def en (c : Int) : Int := (c + (c - 1) / 3) / 2 + 1
end LM
namespace LM
open PySem L2
/-- how a blame is told -/
def Bt (H : Hp) (x : Int × VW × VW) (y : V) : Prop := ∃ t, y = .ref t ∧ H t = some (.tup [.int x.1, x.2.1.1, x.2.2.1])
theorem Bt.up {H H' : Hp} {x : Int × VW × VW} {y : V} (e : Same H H') (h : Bt H x y) : Bt H' x y := let ⟨t, h1, h2⟩ := h; ⟨t, h1, e _ _ h2⟩
theorem Bt.kp {H H' : Hp} {a : Addr} {xs : List V} {x : Int × VW × VW} {y : V} (g : H a = some (.lst xs)) (k : LH.Kp a H H') (h : Bt H x y) : Bt H' x y := by
  obtain ⟨t, h1, h2⟩ := h
  exact ⟨t, h1, k _ _ h2 fun e => by rw [e, g] at h2; cases h2⟩
def opt1 {α β : Type} (f : α → β) : Option α → List β
  | none => []
  | some x => [f x]
theorem blamedL_succ (l1 l2 : List VW) (h : Nat) : blamedL l1 l2 (h + 1) = blamedL l1 l2 h ++ opt1 (fun x => ((h : Int), x)) (firstP l1 l2 h) := by
  unfold blamedL
  rw [List.range_succ, List.filterMap_append]
  congr 1
  cases e : firstP l1 l2 (h : Int) <;> simp [e, opt1]
theorem blamedL_lt {l1 l2 : List VW} {h : Nat} {x : Int × VW × VW} (m : x ∈ blamedL l1 l2 h) : 0 ≤ x.1 ∧ x.1 < h ∧ firstP l1 l2 x.1 = some x.2 := by
  unfold blamedL at m
  obtain ⟨j, hj, e⟩ := List.mem_filterMap.mp m
  obtain ⟨y, ey, e⟩ := Option.map_eq_some_iff.mp e
  have := List.mem_range.mp hj
  subst e
  exact ⟨by show (0 : Int) ≤ j; omega, by show (j : Int) < h; omega, ey⟩
end LM
namespace LM
open PySem L2
theorem some_ints : ∀ l : List Int, (l.map fun h => some (V.int h)).filterMap id = l.map V.int
  | [] => rfl
  | h :: l => congrArg (fun z => V.int h :: z) (some_ints l)
theorem ints_flat {xs : List Int} : (xs.map V.int).all flatV = true := by
  rw [List.all_map]
  exact List.all_eq_true.mpr fun _ _ => rfl
theorem inV_int {z : Int} : ∀ {xs : List Int}, inV (.int z) (xs.map V.int) = decide (z ∈ xs)
  | [] => rfl
  | x :: xs => by
    have ih := @inV_int z xs
    unfold inV at ih ⊢
    rw [List.map_cons, List.any_cons, ih]
    have e : eqV (.int x) (.int z) = decide (z = x) := by
      show (x == z) = _
      by_cases c : z = x
      · subst c; simp
      · rw [decide_eq_false c]
        exact beq_eq_false_iff_ne.mpr fun q => c q.symm
    rw [e]
    by_cases c : z = x <;> simp [c]
theorem paired_at {α β : Type} {F : α → β → Prop} : ∀ {xs : List α} {ys : List β}, Paired F xs ys → ∀ {i : Nat} {x : α} {y : β}, xs[i]? = some x → ys[i]? = some y → F x y
  | _, _, .nil, _, _, _, h, _ => by cases h
  | _, _, .cons a _, 0, _, _, h1, h2 => by injection h1 with h1; injection h2 with h2; subst h1 h2; exact a
  | _, _, .cons _ r, i + 1, _, _, h1, h2 => paired_at r (i := i) (by simpa using h1) (by simpa using h2)
end LM
namespace LM
open PySem L2
theorem in_ex {α : Type} (p q : α → Bool) : ∀ l : List α, (l.filter p).length + (l.filter q).length ≤ l.length + (l.filter fun x => p x && q x).length
  | [] => Nat.le_refl _
  | x :: l => by
    have ih := in_ex p q l
    cases hp : p x <;> cases hq : q x <;> simp [hp, hq] <;> omega
theorem sub_range {hs : List Int} {c : Nat} (nd : hs.Nodup) (rg : ∀ h ∈ hs, 0 ≤ h ∧ h < c) : hs.length ≤ ((List.range c).filter fun (h : Nat) => decide ((h : Int) ∈ hs)).length := by
  have s : hs ⊆ ((List.range c).filter fun (h : Nat) => decide ((h : Int) ∈ hs)).map fun (h : Nat) => (h : Int) := fun x hx => by
    obtain ⟨h1, h2⟩ := rg x hx
    have e : ((x.toNat : Nat) : Int) = x := by omega
    exact List.mem_map.mpr ⟨x.toNat, List.mem_filter.mpr ⟨List.mem_range.mpr (by omega), decide_eq_true (by rw [e]; exact hx)⟩, e⟩
  have := nd.length_le_of_subset s
  rwa [List.length_map] at this
/-- two sets of houses share some -/
theorem shared_le {h1 h2 : List Int} {c : Nat} (n1 : h1.Nodup) (n2 : h2.Nodup) (r1 : ∀ h ∈ h1, 0 ≤ h ∧ h < c) (r2 : ∀ h ∈ h2, 0 ≤ h ∧ h < c) :
    h1.length + h2.length ≤ c + ((List.range c).filter fun (h : Nat) => decide ((h : Int) ∈ h1) && decide ((h : Int) ∈ h2)).length := by
  have a := in_ex (fun (h : Nat) => decide ((h : Int) ∈ h1)) (fun (h : Nat) => decide ((h : Int) ∈ h2)) (List.range c)
  have b1 := sub_range n1 r1
  have b2 := sub_range n2 r2
  rw [List.length_range] at a
  omega
theorem filterMap_len {α β : Type} (f : α → Option β) : ∀ l : List α, (l.filterMap f).length = (l.filter fun x => (f x).isSome).length
  | [] => rfl
  | x :: l => by
    have ih := filterMap_len f l
    cases e : f x <;> simp [e, ih]
/-- lists of words by what is told of each -/
theorem words_of {P : V → Wrd → Prop} : ∀ {ys : List V}, (∀ y ∈ ys, ∃ u, P y u) → ∃ l : List VW, l.map (·.1) = ys ∧ ∀ p ∈ l, P p.1 p.2
  | [], _ => ⟨[], rfl, fun _ h => by cases h⟩
  | y :: ys, h => by
    obtain ⟨u, hu⟩ := h y List.mem_cons_self
    obtain ⟨l, e, hl⟩ := words_of fun z hz => h z (List.mem_cons_of_mem _ hz)
    refine ⟨(y, u) :: l, by rw [← e]; rfl, fun p hp => ?_⟩
    rcases List.mem_cons.mp hp with rfl | hp
    · exact hu
    · exact hl p hp
theorem paired_right {α β : Type} {F : α → β → Prop} : ∀ {xs : List α} {ys : List β}, Paired F xs ys → ∀ y ∈ ys, ∃ x ∈ xs, F x y
  | _, _, .nil, _, h => by cases h
  | _, _, .cons (a := a) f r, y, h => by
    rcases List.mem_cons.mp h with rfl | h
    · exact ⟨a, List.mem_cons_self, f⟩
    · obtain ⟨x, hx, e⟩ := paired_right r y h
      exact ⟨x, List.mem_cons_of_mem _ hx, e⟩
/-- the marks of a row at a number by some houses -/
def marks (n : Int) (r : Str) (vs : List V) (hs : List Int) : List VW := (vs.zip hs).map fun p => (p.1, ⟨"mark", n, r, p.2⟩)
theorem marks_find {n : Int} {r r' : Str} (ne : r ≠ r') {vs1 vs2 : List V} {h1 h2 : List Int} (l1 : vs1.length = h1.length) (l2 : vs2.length = h2.length) (h : Int) :
    (firstP (marks n r vs1 h1) (marks n r' vs2 h2) h).isSome = (decide (h ∈ h1) && decide (h ∈ h2)) := by
  have mem : ∀ {vs : List V} {hs : List Int} {r : Str}, vs.length = hs.length → ∀ p, p ∈ marks n r vs hs → p.2.h ∈ hs ∧ p.2.r = r ∧ p.2.k = "mark" ∧ p.2.n = n := fun {vs hs r} _ p hp => by
    obtain ⟨z, hz, rfl⟩ := List.mem_map.mp hp
    exact ⟨(List.of_mem_zip hz).2, rfl, rfl, rfl⟩
  have ex : ∀ {vs : List V} {hs : List Int} {r : Str}, vs.length = hs.length → ∀ x ∈ hs, ∃ p ∈ marks n r vs hs, p.2.h = x := fun {vs hs r} e x hx => by
    obtain ⟨i, hi, rfl⟩ := List.mem_iff_getElem.mp hx
    have hz : (vs.zip hs)[i]? = some (vs[i]'(by omega), hs[i]) := by
      rw [List.getElem?_zip_eq_some]
      exact ⟨List.getElem?_eq_getElem _, List.getElem?_eq_getElem _⟩
    exact ⟨_, List.mem_map.mpr ⟨_, List.mem_of_getElem? hz, rfl⟩, rfl⟩
  cases e : firstP (marks n r vs1 h1) (marks n r' vs2 h2) h with
  | some x =>
    obtain ⟨a, b, c, d⟩ := firstP_some (p := x.1) (q := x.2) e
    have m1 := mem l1 _ a
    have m2 := mem l2 _ b
    unfold unl at d
    rw [Bool.and_eq_true, decide_eq_true_eq] at d
    have := (pl_eq.mp d.1).2.2
    have q1 : h ∈ h1 := c ▸ m1.1
    have q2 : h ∈ h2 := by rw [← c, ← this]; exact m2.1
    rw [decide_eq_true q1, decide_eq_true q2]
    rfl
  | none =>
    cases c1 : decide (h ∈ h1) with
    | false => rfl
    | true =>
      cases c2 : decide (h ∈ h2) with
      | false => rfl
      | true =>
        exfalso
        obtain ⟨p, hp, ep⟩ := ex (r := r) l1 h (of_decide_eq_true c1)
        obtain ⟨u, hu, eu⟩ := ex (r := r') l2 h (of_decide_eq_true c2)
        unfold firstP at e
        have := List.findSome?_eq_none_iff.mp e p hp
        rw [if_pos ep] at this
        have := Option.map_eq_none_iff.mp this
        have := List.find?_eq_none.mp this u hu
        refine this ?_
        obtain ⟨_, r1, k1, n1⟩ := mem l1 _ hp
        obtain ⟨_, r2, k2, n2⟩ := mem l2 _ hu
        unfold unl
        have ne' : u.2.r ≠ p.2.r := by rw [r1, r2]; exact fun q => ne q.symm
        rw [decide_eq_true (pl_eq.mpr ⟨by rw [k1, k2], by rw [n1, n2], by rw [ep, eu]⟩), decide_eq_true ne']
        rfl
end LM
namespace LM
open PySem L2
/-- a word's own tuple -/
def WT (H : Hp) (x : V) (w : Wrd) : Prop := ∃ p, x = .ref p ∧ H p = some (.tup w.vs)
theorem WT.up {H H' : Hp} {x : V} {w : Wrd} (e : Same H H') (h : WT H x w) : WT H' x w := let ⟨p, e1, h1⟩ := h; ⟨p, e1, e _ _ h1⟩
theorem WT.wv {K : PySem.W.Frag} {H : Hp} {x : V} {w : Wrd} (h : WT H x w) : WV K H x w := let ⟨p, e1, h1⟩ := h; ⟨p, e1, SqT.of h1⟩
theorem WT.dp {K : PySem.W.Frag} {H : Hp} {x : V} {w : Wrd} (h : WT H x w) : Dp K H x w.dat := h.wv.dp
end LM
/-! readings by name: truth of a list, xs[::-1], sorted(d), a dict's keys as a list -/
namespace LH
open PySem L2
section
variable {K : PySem.W.Frag} {σ : L2.St} {H : Hp} {Q : VK} {te : TE} {x y z : V} {a : Addr}
def TruW (K : PySem.W.Frag) (x : V) (H : Hp) (Q : Bool → Hp → Prop) : Prop := ∃ k, TruV K x H k ∧ Q k H
def tTru (K : PySem.W.Frag) (te : TE) : TT := fun σ H Q => te σ H fun x H1 => TruW K x H1 Q
theorem pt_truthN {X : Cx} {e : Expr} {te : TE} (h : PE X e te) (he : ∀ whole, isTrue e X.env whole = (do let v ← whole; standAt e.pos; holding [v] (truthy v))) : PT X e (tTru X.K te) := pt_truth h he
theorem x_tru {Q : Bool → Hp → Prop} (h : te σ H fun x H1 => TruW K x H1 Q) : tTru K te σ H Q := h
theorem tru_l {Q : Bool → Hp → Prop} {xs : List V} (h : SqL K H a xs) (q : Q (!xs.isEmpty) H) : TruW K (.ref a) H Q := ⟨_, .inl ⟨xs, h, rfl⟩, q⟩
def RvV (K : PySem.W.Frag) (x : V) (H1 : Hp) (Q : VK) : Prop := ∃ a xs, x = .ref a ∧ SqL K H1 a xs ∧ ∀ p, H1 p = none → Q (.ref p) (upd H1 p (.lst xs.reverse))
theorem x_revL (h : te σ H fun x H1 => RvV K x H1 Q) : tRevL K te σ H Q := h
theorem rvv {xs : List V} (h : SqL K H a xs) (k : ∀ p H2, H p = none → L2.Same H H2 → H2 p = some (.lst xs.reverse) → Q (.ref p) H2) : RvV K (.ref a) H Q := ⟨a, xs, rfl, h, fun p hp => k p _ hp (LH.Same.new hp) upd_same⟩
/-- sorted(d), the keys ints -/
def rSrtD : List V → Hp → VK → Prop := fun xs H Q => ∃ (a : Addr) (kvs : List (Key × V)) (ks : List Int), xs = [.ref a] ∧ Rd H a (.dK kvs) ∧ kvs.map (·.1) = ks.map Sum.inl ∧ ks.length < 64 ∧
  ∀ (ys : List Int) (p : Addr), ys.Perm ks → ys.Pairwise (· ≤ ·) → H p = none → Q (.ref p) (upd H p (.lst (ys.map V.int)))
theorem call_srtD {X : Cx} (hc : X.calm = true) : CallR X (.builtin "sorted") rSrtD := call_sortedDI hc
theorem x_srtD {kvs : List (Key × V)} {ks : List Int} (h : H a = some (.dK kvs)) (e : kvs.map (·.1) = ks.map Sum.inl) (l : ks.length < 64)
    (k : ∀ (ys : List Int) p H2, ys.Perm ks → ys.Pairwise (· ≤ ·) → H p = none → L2.Same H H2 → H2 p = some (.lst (ys.map V.int)) → Q (.ref p) H2) : rSrtD [.ref a] H Q :=
  ⟨a, kvs, ks, rfl, .inl h, e, l, fun ys p h1 h2 hp => k ys p _ h1 h2 hp (LH.Same.new hp) upd_same⟩
/-- len(d) -/
def rLenDk : List V → Hp → VK → Prop := fun xs H Q => ∃ (a : Addr) (kvs : List (Key × V)), xs = [.ref a] ∧ H a = some (.dK kvs) ∧ Q (.int kvs.length) H
theorem call_lenDk {X : Cx} : CallR X (.builtin "len") rLenDk := call_lenD
theorem x_lenDk {kvs : List (Key × V)} (h : H a = some (.dK kvs)) (q : Q (.int kvs.length) H) : rLenDk [.ref a] H Q := ⟨a, kvs, rfl, h, q⟩
/-- list(d), the keys tuples -/
def rKeysT : List V → Hp → VK → Prop := fun xs H Q => ∃ d kvs, xs = [V.ref d] ∧ Rd H d (.dT kvs) ∧ ∀ p bs, H p = none → IsKeys H kvs bs → Q (.ref p) (upd H p (.lst (bs.map V.ref)))
theorem call_keysT {X : Cx} (hc : X.calm = true) : CallR X (.type "list") rKeysT := call_list_dT hc
theorem x_keysT {kvs : List (List Key × V)} (h : H a = some (.dT kvs)) (k : ∀ p H2 bs, H p = none → L2.Same H H2 → H2 p = some (.lst (bs.map V.ref)) → Paired (fun (e : List Key × V) (b : Addr) => H b = some (.tup (e.1.map kV))) kvs bs → Q (.ref p) H2) : rKeysT [.ref a] H Q :=
  ⟨a, kvs, rfl, .inl h, fun p bs hp hb => k p _ bs hp (LH.Same.new hp) upd_same hb⟩
end
end LH
/-! an honest house: its going as plain mathematics, and how it stands in a heap -/
namespace HM
open PySem L2 LM
/-! ### the going -/
structure HS where
  c : Int
  own : Int
  due : Int
  known : List Wrd
  marked : List Int
  rows : List (Int × Str)
  backs : List (Int × List Wrd)
  named : List (Int × Wrd × Wrd)
def HS.new (c own : Int) : HS := ⟨c, own, own, [], [], [], [], []⟩
/-- a word as a key -/
def ky (w : Wrd) : List Key := [.inr w.k, .inl w.n, .inr w.r, .inl w.h]
theorem ky_inj {w u : Wrd} (e : ky w = ky u) : w = u := by
  unfold ky at e
  injection e with e1 e
  injection e with e2 e
  injection e with e3 e
  injection e with e4 e
  cases w; cases u
  simp only at e1 e2 e3 e4
  rw [Sum.inr.inj e1, Sum.inl.inj e2, Sum.inr.inj e3, Sum.inl.inj e4]
theorem ky_vs (w : Wrd) : (ky w).map kV = w.vs := rfl
/-- number and row as a key -/
def nr (w : Wrd) : List Key := [.inl w.n, .inr w.r]
theorem nr_eq {w u : Wrd} : nr w = nr u ↔ w.n = u.n ∧ w.r = u.r := by
  unfold nr
  constructor
  · intro e
    injection e with e1 e
    injection e with e2 e
    exact ⟨Sum.inl.inj e1, Sum.inr.inj e2⟩
  · rintro ⟨h1, h2⟩
    rw [h1, h2]
def isM (k : List Key) (w : Wrd) : Bool := decide (w.k = "mark") && decide (nr w = k)
def marksOf (l : List Wrd) (k : List Key) : List Wrd := l.filter (isM k)
def learn (l : List Wrd) (w : Wrd) : List Wrd := if w ∈ l then l else l ++ [w]
def markOf (own : Int) (w : Wrd) : Wrd := ⟨"mark", w.n, w.r, own⟩
def HS.learn (st : HS) (w : Wrd) : HS := { st with known := HM.learn st.known w }
def HS.marks (st : HS) (w : Wrd) : Bool := decide (w.k = "say") && !decide (w.n ∈ st.marked)
def HS.mark (st : HS) (w : Wrd) : HS := if st.marks w then { st.learn (markOf st.own w) with marked := st.marked ++ [w.n] } else st
def HS.markT (st : HS) (w : Wrd) : List Wrd := if st.marks w then [markOf st.own w] else []
/-- rising by houses -/
def rise (c : Int) (l : List Wrd) : List Wrd := (List.range c.toNat).filterMap fun (h : Nat) => l.find? fun w => decide (w.h = h)
def HS.writes (st : HS) (w : Wrd) : Bool := !decide (w.n ∈ st.rows.map (·.1)) && decide (en st.c ≤ (marksOf st.known (nr w)).length)
def HS.backT (st : HS) (w : Wrd) : List Wrd := if st.writes w then rise st.c (marksOf st.known (nr w)) else []
def HS.write (st : HS) (w : Wrd) : HS := if st.writes w then { st with rows := st.rows ++ [(w.n, w.r)], backs := st.backs ++ [(w.n, rise st.c (marksOf st.known (nr w)))] } else st
/-- the first known at a word's place -/
def HS.first (st : HS) (w : Wrd) : Wrd := (st.known.find? fun u => decide (u.pl = w.pl)).getD w
def HS.names (st : HS) (w : Wrd) : Bool := !decide (st.first w = w) && !decide (w.h ∈ st.named.map (·.1))
def HS.nameT (st : HS) (w : Wrd) : List Wrd := if st.names w then [st.first w, w] else []
def HS.name (st : HS) (w : Wrd) : HS := if st.names w then { st with named := st.named ++ [(w.h, st.first w, w)] } else st
def HS.hear (st : HS) (w : Wrd) : HS := if w ∈ st.known then st else (((st.learn w).mark w).write w).name w
def HS.hearT (st : HS) (w : Wrd) : List Wrd := if w ∈ st.known then [] else (st.learn w).markT w ++ ((st.learn w).mark w).backT w ++ (((st.learn w).mark w).write w).nameT w
def sayOf (st : HS) (r : Str) : Wrd := ⟨"say", st.due, r, st.own⟩
def HS.call (st : HS) (r : Str) : HS := ({ st with due := st.due + st.c } : HS).hear (sayOf st r)
def HS.callT (st : HS) (r : Str) : List Wrd := sayOf st r :: ({ st with due := st.due + st.c } : HS).hearT (sayOf st r)
/-! ### in a heap -/
structure HA where
  p : Addr
  kn : Addr
  ea : Addr
  ma : Addr
  ms : Addr
  ro : Addr
  ba : Addr
  nm : Addr
  ins : List (List Key × Addr)
def HA.S (a : HA) : List Addr := a.p :: a.kn :: a.ea :: a.ma :: a.ms :: a.ro :: a.ba :: a.nm :: a.ins.map (·.2)
def hf (a : HA) (c own due : Int) : List (Str × V) := [("_count", .int c), ("_own", .int own), ("_due", .int due), ("_known", .ref a.kn), ("_earliest", .ref a.ea), ("_marked", .ref a.ma), ("_marks", .ref a.ms), ("_rows", .ref a.ro), ("_backings", .ref a.ba), ("_named", .ref a.nm)]
section
variable {C : Addr} {F H H' : Hp} {a : HA} {st : HS}
def PKn (H : Hp) (d : Addr) (l : List Wrd) : Prop := ∃ kvs : List (List Key × V), H d = some (.dT kvs) ∧ kvs.length ≤ l.length ∧ ∀ k, (valV kvs k).isSome = true ↔ ∃ w ∈ l, ky w = k
def PEa (F H : Hp) (d : Addr) (l : List Wrd) : Prop := ∃ kvs : List (List Key × V), H d = some (.dT kvs) ∧ kvs.length ≤ l.length ∧
  ∀ k, ((l.find? fun u => decide (u.pl = k)) = none → valV kvs k = none) ∧ ∀ w, (l.find? fun u => decide (u.pl = k)) = some w → ∃ x, valV kvs k = some x ∧ WT F x w
def PMa (H : Hp) (d : Addr) (l : List Int) : Prop := ∃ kvs : List (Key × V), H d = some (.dK kvs) ∧ kvs.length ≤ l.length ∧ ∀ n : Int, (valV kvs (Sum.inl n)).isSome = true ↔ n ∈ l
/-- the marks of one row at one number, by houses -/
def PIn (F H : Hp) (d : Addr) (l : List Wrd) : Prop := ∃ kvs : List (Key × V), H d = some (.dK kvs) ∧ kvs.map (·.1) = l.map (fun w => Sum.inl w.h) ∧ ∀ w ∈ l, ∃ x, valV kvs (Sum.inl w.h) = some x ∧ WT F x w
structure PMs (F H : Hp) (d : Addr) (ins : List (List Key × Addr)) (l : List Wrd) : Prop where
  dt : H d = some (.dT (ins.map fun e => (e.1, V.ref e.2)))
  nd : (ins.map (·.1)).Nodup
  inn : ∀ e ∈ ins, PIn F H e.2 (marksOf l e.1)
  all : ∀ k, marksOf l k ≠ [] ↔ k ∈ ins.map (·.1)
def PRo (H : Hp) (d : Addr) (l : List (Int × Str)) : Prop := H d = some (.dK (l.map fun e => (Sum.inl e.1, V.str e.2)))
def Bk (F : Hp) (x : V) (ws : List Wrd) : Prop := ∃ b xs, x = .ref b ∧ F b = some (.lst xs) ∧ Paired (fun x w => WT F x w) xs ws
def PBa (F H : Hp) (d : Addr) (l : List (Int × List Wrd)) : Prop := ∃ kvs : List (Key × V), H d = some (.dK kvs) ∧ Paired (fun (e : Key × V) (x : Int × List Wrd) => e.1 = Sum.inl x.1 ∧ Bk F e.2 x.2) kvs l
def Nm (F : Hp) (x : V) (z : Int × Wrd × Wrd) : Prop := ∃ t v1 v2, x = .ref t ∧ F t = some (.tup [.int z.1, v1, v2]) ∧ WT F v1 z.2.1 ∧ WT F v2 z.2.2
def PNm (F H : Hp) (d : Addr) (l : List (Int × Wrd × Wrd)) : Prop := ∃ kvs : List (Key × V), H d = some (.dK kvs) ∧ Paired (fun (e : Key × V) (x : Int × Wrd × Wrd) => e.1 = Sum.inl x.1 ∧ Nm F e.2 x) kvs l
theorem Bk.up {F F' : Hp} {x : V} {ws : List Wrd} (e : Same F F') (h : Bk F x ws) : Bk F' x ws := let ⟨b, xs, h1, h2, h3⟩ := h; ⟨b, xs, h1, e _ _ h2, LH.Paired.imp (fun _ _ q => q.up e) h3⟩
theorem Nm.up {F F' : Hp} {x : V} {z : Int × Wrd × Wrd} (e : Same F F') (h : Nm F x z) : Nm F' x z := let ⟨t, v1, v2, h1, h2, h3, h4⟩ := h; ⟨t, v1, v2, h1, e _ _ h2, h3.up e, h4.up e⟩
theorem PKn.to {d : Addr} {l : List Wrd} (h : PKn H d l) (e : ∀ o, H d = some o → H' d = some o) : PKn H' d l := let ⟨k, h1, h2⟩ := h; ⟨k, e _ h1, h2⟩
theorem PEa.to {F' : Hp} {d : Addr} {l : List Wrd} (h : PEa F H d l) (f : Same F F') (e : ∀ o, H d = some o → H' d = some o) : PEa F' H' d l :=
  let ⟨k, h1, h2, h3⟩ := h; ⟨k, e _ h1, h2, fun j => ⟨(h3 j).1, fun w q => let ⟨x, a, b⟩ := (h3 j).2 w q; ⟨x, a, b.up f⟩⟩⟩
theorem PMa.to {d : Addr} {l : List Int} (h : PMa H d l) (e : ∀ o, H d = some o → H' d = some o) : PMa H' d l := let ⟨k, h1, h2⟩ := h; ⟨k, e _ h1, h2⟩
theorem PIn.to {F' : Hp} {d : Addr} {l : List Wrd} (h : PIn F H d l) (f : Same F F') (e : ∀ o, H d = some o → H' d = some o) : PIn F' H' d l :=
  let ⟨k, h1, h2, h3⟩ := h; ⟨k, e _ h1, h2, fun w q => let ⟨x, a, b⟩ := h3 w q; ⟨x, a, b.up f⟩⟩
theorem PMs.to {F' : Hp} {d : Addr} {ins : List (List Key × Addr)} {l : List Wrd} (h : PMs F H d ins l) (f : Same F F') (e : ∀ b o, b = d ∨ b ∈ ins.map (·.2) → H b = some o → H' b = some o) : PMs F' H' d ins l :=
  ⟨e _ _ (.inl rfl) h.dt, h.nd, fun i hi => (h.inn i hi).to f fun o => e _ o (.inr (List.mem_map.mpr ⟨i, hi, rfl⟩)), h.all⟩
theorem PRo.to {d : Addr} {l : List (Int × Str)} (h : PRo H d l) (e : ∀ o, H d = some o → H' d = some o) : PRo H' d l := e _ h
theorem PBa.to {F' : Hp} {d : Addr} {l : List (Int × List Wrd)} (h : PBa F H d l) (f : Same F F') (e : ∀ o, H d = some o → H' d = some o) : PBa F' H' d l :=
  let ⟨k, h1, h2⟩ := h; ⟨k, e _ h1, LH.Paired.imp (fun _ _ q => ⟨q.1, q.2.up f⟩) h2⟩
theorem PNm.to {F' : Hp} {d : Addr} {l : List (Int × Wrd × Wrd)} (h : PNm F H d l) (f : Same F F') (e : ∀ o, H d = some o → H' d = some o) : PNm F' H' d l :=
  let ⟨k, h1, h2⟩ := h; ⟨k, e _ h1, LH.Paired.imp (fun _ _ q => ⟨q.1, q.2.up f⟩) h2⟩
/-- what is so of a house's own words -/
structure Good (st : HS) : Prop where
  c1 : 1 ≤ st.c
  c2 : st.c ≤ 12
  o1 : 0 ≤ st.own
  o2 : st.own < st.c
  nd : st.known.Nodup
  wd : ∀ w ∈ st.known, w.Ok ∧ 0 ≤ w.h ∧ w.h < st.c
  mn : st.marked.Nodup
  rn : (st.rows.map (·.1)).Nodup
  bn : st.backs.map (·.1) = st.rows.map (·.1)
  nn : (st.named.map (·.1)).Nodup
  rk : ∀ e ∈ st.rows, LM.Ok e.2
  bk : ∀ e ∈ st.backs, ∀ w ∈ e.2, w ∈ st.known
  nk : ∀ z ∈ st.named, z.2.1 ∈ st.known ∧ z.2.2 ∈ st.known
theorem Good.new {c own : Int} (c1 : 1 ≤ c) (c2 : c ≤ 12) (o1 : 0 ≤ own) (o2 : own < c) : Good (HS.new c own) :=
  ⟨c1, c2, o1, o2, List.nodup_nil, (fun _ h => by cases h), List.nodup_nil, List.nodup_nil, rfl, List.nodup_nil, (fun _ h => by cases h), (fun _ h => by cases h), (fun _ h => by cases h)⟩
theorem mem_learn {l : List Wrd} {w u : Wrd} : u ∈ learn l w ↔ u ∈ l ∨ u = w := by
  unfold learn
  split
  · next h => exact ⟨.inl, fun q => q.elim id fun e => e ▸ h⟩
  · rw [List.mem_append, List.mem_singleton]
theorem nodup_learn {l : List Wrd} {w : Wrd} (h : l.Nodup) : (learn l w).Nodup := by
  unfold learn
  split
  · exact h
  · next q => exact List.nodup_append.mpr ⟨h, by simp, fun a ha b hb e => q (by rw [List.mem_singleton.mp hb] at e; exact e ▸ ha)⟩
theorem Good.learn {st : HS} {w : Wrd} (g : Good st) (o : w.Ok ∧ 0 ≤ w.h ∧ w.h < st.c) : Good (st.learn w) :=
  ⟨g.c1, g.c2, g.o1, g.o2, nodup_learn g.nd, fun u hu => (mem_learn.mp hu).elim (g.wd u) (fun e => e ▸ o), g.mn, g.rn, g.bn, g.nn, g.rk, fun e he u hu => mem_learn.mpr (.inl (g.bk e he u hu)), fun z hz => ⟨mem_learn.mpr (.inl (g.nk z hz).1), mem_learn.mpr (.inl (g.nk z hz).2)⟩⟩
theorem ok_markW : LM.Ok "mark" := ⟨by decide +kernel, by decide +kernel⟩
theorem ok_sayW : LM.Ok "say" := ⟨by decide +kernel, by decide +kernel⟩
theorem Good.mark {st : HS} {w : Wrd} (g : Good st) (o : w.Ok) : Good (st.mark w) := by
  unfold HS.mark
  split
  · next h =>
    have g2 := g.learn (w := markOf st.own w) ⟨⟨ok_markW, o.2⟩, g.o1, g.o2⟩
    refine ⟨g2.c1, g2.c2, g2.o1, g2.o2, g2.nd, g2.wd, ?_, g2.rn, g2.bn, g2.nn, g2.rk, g2.bk, g2.nk⟩
    unfold HS.marks at h
    rw [Bool.and_eq_true, Bool.not_eq_true', decide_eq_false_iff_not] at h
    exact List.nodup_append.mpr ⟨g.mn, by simp, fun a ha b hb e => h.2 (by rw [List.mem_singleton.mp hb] at e; exact e ▸ ha)⟩
  · exact g
theorem mem_rise {c : Int} {l : List Wrd} {w : Wrd} (h : w ∈ rise c l) : w ∈ l := by
  unfold rise at h
  obtain ⟨j, _, e⟩ := List.mem_filterMap.mp h
  exact List.mem_of_find?_eq_some e
theorem Good.write {st : HS} {w : Wrd} (g : Good st) (o : w.Ok) : Good (st.write w) := by
  unfold HS.write
  split
  · next h =>
    unfold HS.writes at h
    rw [Bool.and_eq_true, Bool.not_eq_true', decide_eq_false_iff_not] at h
    refine ⟨g.c1, g.c2, g.o1, g.o2, g.nd, g.wd, g.mn, ?_, ?_, g.nn, ?_, ?_, g.nk⟩
    · rw [List.map_append]
      exact List.nodup_append.mpr ⟨g.rn, by simp, fun a ha b hb e => h.1 (by
        have : b = w.n := by simpa using hb
        rw [← this, ← e]
        exact ha)⟩
    · rw [List.map_append, List.map_append, g.bn]
      rfl
    · intro e he
      rcases List.mem_append.mp he with he | he
      · exact g.rk e he
      · rw [List.mem_singleton.mp he]
        exact o.2
    · intro e he u hu
      rcases List.mem_append.mp he with he | he
      · exact g.bk e he u hu
      · rw [List.mem_singleton.mp he] at hu
        exact (List.mem_filter.mp (mem_rise hu)).1
  · exact g
theorem first_mem {st : HS} {w : Wrd} (h : w ∈ st.known) : st.first w ∈ st.known ∧ (st.first w).pl = w.pl ∧ (st.known.find? fun u => decide (u.pl = w.pl)) = some (st.first w) := by
  unfold HS.first
  cases e : st.known.find? fun u => decide (u.pl = w.pl) with
  | none =>
    have := List.find?_eq_none.mp e w h
    simp at this
  | some u => exact ⟨List.mem_of_find?_eq_some e, by simpa using List.find?_some e, rfl⟩
theorem Good.name {st : HS} {w : Wrd} (g : Good st) (k : w ∈ st.known) : Good (st.name w) := by
  unfold HS.name
  split
  · next h =>
    unfold HS.names at h
    rw [Bool.and_eq_true, Bool.not_eq_true', Bool.not_eq_true', decide_eq_false_iff_not, decide_eq_false_iff_not] at h
    refine ⟨g.c1, g.c2, g.o1, g.o2, g.nd, g.wd, g.mn, g.rn, g.bn, ?_, g.rk, g.bk, ?_⟩
    · rw [List.map_append]
      exact List.nodup_append.mpr ⟨g.nn, by simp, fun a ha b hb e => h.2 (by
        have : b = w.h := by simpa using hb
        rw [← this, ← e]
        exact ha)⟩
    · intro z hz
      rcases List.mem_append.mp hz with hz | hz
      · exact g.nk z hz
      · rw [List.mem_singleton.mp hz]
        exact ⟨(first_mem k).1, k⟩
  · exact g
theorem mark_known {st : HS} {w u : Wrd} (h : u ∈ st.known) : u ∈ (st.mark w).known := by
  unfold HS.mark
  split
  · exact mem_learn.mpr (.inl h)
  · exact h
theorem write_known {st : HS} {w : Wrd} : (st.write w).known = st.known := by
  unfold HS.write
  split <;> rfl
theorem Good.hear {st : HS} {w : Wrd} (g : Good st) (o : w.Ok ∧ 0 ≤ w.h ∧ w.h < st.c) : Good (st.hear w) := by
  unfold HS.hear
  split
  · exact g
  · refine (((g.learn o).mark o.1).write o.1).name ?_
    rw [write_known]
    exact mark_known (mem_learn.mpr (.inr rfl))
structure HouseAt (C : Addr) (F H : Hp) (a : HA) (st : HS) : Prop where
  ob : ∃ dx, H a.p = some (.ins C dx (hf a st.c st.own st.due))
  kn : PKn H a.kn st.known
  ea : PEa F H a.ea st.known
  ma : PMa H a.ma st.marked
  ms : PMs F H a.ms a.ins st.known
  ro : PRo H a.ro st.rows
  ba : PBa F H a.ba st.backs
  nm : PNm F H a.nm st.named
  nd : a.S.Nodup
  go : Good st
theorem HouseAt.to {F' : Hp} (h : HouseAt C F H a st) (f : Same F F') (e : ∀ b o, b ∈ a.S → H b = some o → H' b = some o) : HouseAt C F' H' a st := by
  have m : ∀ b, b ∈ a.S → ∀ o, H b = some o → H' b = some o := fun b hb o => e b o hb
  have inS : ∀ b ∈ a.ins.map (·.2), b ∈ a.S := fun b hb => by unfold HA.S; simp only [List.mem_cons]; simp [hb]
  refine ⟨let ⟨dx, q⟩ := h.ob; ⟨dx, m a.p (by simp [HA.S]) _ q⟩, h.kn.to (m a.kn (by simp [HA.S])), h.ea.to f (m a.ea (by simp [HA.S])), h.ma.to (m a.ma (by simp [HA.S])), h.ms.to f (fun b o hb => ?_), h.ro.to (m a.ro (by simp [HA.S])), h.ba.to f (m a.ba (by simp [HA.S])), h.nm.to f (m a.nm (by simp [HA.S])), h.nd, h.go⟩
  rcases hb with rfl | hb
  · exact m a.ms (by simp [HA.S]) o
  · exact m b (inS b hb) o
theorem HouseAt.alive (h : HouseAt C F H a st) : ∀ b ∈ a.S, ∃ o, H b = some o := fun b hb => by
  unfold HA.S at hb
  simp only [List.mem_cons] at hb
  rcases hb with rfl | rfl | rfl | rfl | rfl | rfl | rfl | rfl | hb
  · exact h.ob.elim fun dx q => ⟨_, q⟩
  · exact h.kn.elim fun k q => ⟨_, q.1⟩
  · exact h.ea.elim fun k q => ⟨_, q.1⟩
  · exact h.ma.elim fun k q => ⟨_, q.1⟩
  · exact ⟨_, h.ms.dt⟩
  · exact ⟨_, h.ro⟩
  · exact h.ba.elim fun k q => ⟨_, q.1⟩
  · exact h.nm.elim fun k q => ⟨_, q.1⟩
  · obtain ⟨e, he, rfl⟩ := List.mem_map.mp hb
    exact (h.ms.inn e he).elim fun k q => ⟨_, q.1⟩
/-- what comes of a deed: N are the new places that may change -/
structure Nxt (C : Addr) (M : List Addr) (H : Hp) (a : HA) (st' : HS) (H' : Hp) (N : List Addr) (a' : HA) : Prop where
  ks : LH.Ks a.S H H'
  nw : ∀ b ∈ N, H b = none
  al : ∀ b ∈ N, ∃ o, H' b = some o
  p : a'.p = a.p
  sub : ∀ b ∈ a'.S, b ∈ a.S ∨ b ∈ N
  sup : ∀ b ∈ a.S, b ∈ a'.S
  at_ : HouseAt C (LH.Fr (N ++ M) H') H' a' st'
theorem Nxt.fr {M N : List Addr} {a' : HA} {st' : HS} (n : Nxt C M H a st' H' N a') (s : ∀ b ∈ a.S, b ∈ M) : Same (LH.Fr M H) (LH.Fr (N ++ M) H') := fun b o h => by
  obtain ⟨h1, h2⟩ := LH.fr_some h
  refine LH.fr_of (n.ks _ _ h1 fun m => h2 (s b m)) fun m => ?_
  rcases List.mem_append.mp m with m | m
  · rw [n.nw b m] at h1
    cases h1
  · exact h2 m
theorem Nxt.subM {M N : List Addr} {a' : HA} {st' : HS} (n : Nxt C M H a st' H' N a') (s : ∀ b ∈ a.S, b ∈ M) : ∀ b ∈ a'.S, b ∈ N ++ M := fun b hb => (n.sub b hb).elim (fun q => List.mem_append.mpr (.inr (s b q))) fun q => List.mem_append.mpr (.inl q)
theorem Nxt.alive {M N : List Addr} {a' : HA} {st' : HS} (n : Nxt C M H a st' H' N a') (al : ∀ b ∈ M, ∃ o, H b = some o) : ∀ b ∈ N ++ M, ∃ o, H' b = some o := fun b hb => by
  rcases List.mem_append.mp hb with hb | hb
  · exact n.al b hb
  · by_cases c : b ∈ a.S
    · exact n.at_.alive b (n.sup b c)
    · obtain ⟨o, h⟩ := al b hb
      exact ⟨o, n.ks _ _ h c⟩
theorem Nxt.same {M N : List Addr} {a' : HA} {st' : HS} {H2 : Hp} (n : Nxt C M H a st' H' N a') (e : Same H' H2) : Nxt C M H a st' H2 N a' :=
  ⟨fun b o h q => e _ _ (n.ks b o h q), n.nw, fun b hb => let ⟨o, h⟩ := n.al b hb; ⟨o, e _ _ h⟩, n.p, n.sub, n.sup, n.at_.to (LH.same_fr e) fun b o _ h => e _ _ h⟩
theorem Nxt.refl {M : List Addr} (h : HouseAt C (LH.Fr M H) H a st) (e : Same H H') : Nxt C M H a st H' [] a :=
  ⟨fun b o q _ => e _ _ q, (fun _ m => by cases m), (fun _ m => by cases m), rfl, fun b q => .inl q, fun b q => q, h.to (LH.same_fr e) fun b o _ q => e _ _ q⟩
theorem Nxt.comp {M N1 N2 : List Addr} {a1 a2 : HA} {st1 st2 : HS} {H1 H2 : Hp} (s : ∀ b ∈ a.S, b ∈ M) (n1 : Nxt C M H a st1 H1 N1 a1) (n2 : Nxt C (N1 ++ M) H1 a1 st2 H2 N2 a2) (h0 : ∀ b ∈ M, ∃ o, H b = some o) : Nxt C M H a st2 H2 (N2 ++ N1) a2 := by
  have new2 : ∀ b ∈ N2, H b = none := fun b hb => by
    cases h : H b with
    | none => rfl
    | some o =>
      by_cases c : b ∈ a.S
      · have := (n1.at_.alive b (n1.sup b c))
        obtain ⟨u, hu⟩ := this
        rw [n2.nw b hb] at hu
        cases hu
      · have := n1.ks b o h c
        rw [n2.nw b hb] at this
        cases this
  refine ⟨fun b o h q => ?_, fun b hb => ?_, fun b hb => ?_, n2.p.trans n1.p, fun b hb => ?_, fun b hb => n2.sup b (n1.sup b hb), ?_⟩
  · refine n2.ks b o (n1.ks b o h q) fun m => ?_
    rcases n1.sub b m with m | m
    · exact q m
    · rw [n1.nw b m] at h
      cases h
  · rcases List.mem_append.mp hb with hb | hb
    · exact new2 b hb
    · exact n1.nw b hb
  · rcases List.mem_append.mp hb with hb | hb
    · exact n2.al b hb
    · by_cases c : b ∈ a1.S
      · exact n2.at_.alive b (n2.sup b c)
      · obtain ⟨o, h⟩ := n1.al b hb
        exact ⟨o, n2.ks _ _ h c⟩
  · rcases n2.sub b hb with h | h
    · rcases n1.sub b h with h | h
      · exact .inl h
      · exact .inr (List.mem_append.mpr (.inr h))
    · exact .inr (List.mem_append.mpr (.inl h))
  · rw [List.append_assoc]
    exact n2.at_
end
section
variable {C : Addr} {F H H' : Hp} {a : HA} {st : HS}
theorem putK_there {κ : Type} [DecidableEq κ] {kvs : List (κ × V)} {k : κ} {v : V} (h : (valV kvs k).isSome = true) : (putK kvs k v).length = kvs.length := by
  unfold putK
  rw [valV_any, if_pos h, List.length_map]
theorem PKn.learn {d : Addr} {l : List Wrd} {w : Wrd} {kvs : List (List Key × V)} {v : V} (h2 : kvs.length ≤ l.length) (h3 : ∀ k, (valV kvs k).isSome = true ↔ ∃ w ∈ l, ky w = k) (g : H' d = some (.dT (putK kvs (ky w) v))) : PKn H' d (HM.learn l w) := by
  refine ⟨_, g, ?_, fun k => ?_⟩
  · unfold HM.learn
    by_cases c : w ∈ l
    · rw [if_pos c, putK_there ((h3 _).mpr ⟨w, c, rfl⟩)]
      exact h2
    · rw [if_neg c, List.length_append]
      have := length_putK kvs (ky w) v
      show _ ≤ l.length + 1
      omega
  · rw [valV_put]
    by_cases c : k = ky w
    · rw [if_pos c]
      exact ⟨fun _ => ⟨w, mem_learn.mpr (.inr rfl), c.symm⟩, fun _ => rfl⟩
    · rw [if_neg c, h3 k]
      constructor
      · rintro ⟨u, hu, e⟩
        exact ⟨u, mem_learn.mpr (.inl hu), e⟩
      · rintro ⟨u, hu, e⟩
        rcases mem_learn.mp hu with hu | rfl
        · exact ⟨u, hu, e⟩
        · exact absurd e.symm c
theorem find_learn {l : List Wrd} {w : Wrd} {p : Wrd → Bool} : (HM.learn l w).find? p = (l.find? p).or (if p w = true then some w else none) := by
  unfold HM.learn
  by_cases c : w ∈ l
  · rw [if_pos c]
    cases e : l.find? p with
    | some u => rfl
    | none =>
      have := List.find?_eq_none.mp e w c
      rw [if_neg this]
      rfl
  · rw [if_neg c, List.find?_append]
    cases e : p w <;> simp [e]
/-- the first at a place is there already -/
theorem PEa.there {d : Addr} {l : List Wrd} {w : Wrd} {kvs : List (List Key × V)} {v : V} (g : H' d = some (.dT kvs)) (h2 : kvs.length ≤ l.length)
    (h3 : ∀ k, ((l.find? fun u => decide (u.pl = k)) = none → valV kvs k = none) ∧ ∀ w, (l.find? fun u => decide (u.pl = k)) = some w → ∃ x, valV kvs k = some x ∧ WT F x w) (hv : valV kvs w.pl = some v) : PEa F H' d (HM.learn l w) := by
  have len : l.length ≤ (HM.learn l w).length := by
    unfold HM.learn
    split
    · exact Nat.le_refl _
    · rw [List.length_append]; exact Nat.le_add_right _ _
  refine ⟨kvs, g, Nat.le_trans h2 len, fun k => ?_⟩
  rw [find_learn]
  cases e : l.find? fun u => decide (u.pl = k) with
  | some u => exact ⟨fun q => (by cases q), fun u' q => (h3 k).2 u' (by rw [e]; exact q)⟩
  | none =>
    have hn := (h3 k).1 e
    have ne : ¬ w.pl = k := fun c => by rw [c, hn] at hv; cases hv
    rw [if_neg (by simpa using ne)]
    exact ⟨fun _ => hn, fun u' q => (by cases q)⟩
/-- a word at a new place -/
theorem PEa.fresh {d : Addr} {l : List Wrd} {w : Wrd} {kvs : List (List Key × V)} {x : V} (h2 : kvs.length ≤ l.length)
    (h3 : ∀ k, ((l.find? fun u => decide (u.pl = k)) = none → valV kvs k = none) ∧ ∀ w, (l.find? fun u => decide (u.pl = k)) = some w → ∃ x, valV kvs k = some x ∧ WT F x w) (hv : valV kvs w.pl = none) (hx : WT F x w)
    (g : H' d = some (.dT (putK kvs w.pl x))) : PEa F H' d (HM.learn l w) := by
  have no : l.find? (fun u => decide (u.pl = w.pl)) = none := by
    cases e : l.find? fun u => decide (u.pl = w.pl) with
    | none => rfl
    | some u =>
      obtain ⟨y, hy, _⟩ := (h3 _).2 u e
      rw [hv] at hy
      cases hy
  have nin : w ∉ l := fun m => by
    have := List.find?_eq_none.mp no w m
    simp at this
  refine ⟨_, g, ?_, fun k => ?_⟩
  · unfold HM.learn
    rw [if_neg nin, List.length_append]
    have := length_putK kvs w.pl x
    show _ ≤ l.length + 1
    omega
  · rw [find_learn, valV_put]
    by_cases c : k = w.pl
    · subst c
      rw [no, if_pos rfl, if_pos (by simp)]
      exact ⟨fun q => (by cases q), fun u q => (by injection q with q; subst q; exact ⟨x, rfl, hx⟩)⟩
    · rw [if_neg c, if_neg (by simpa using fun q => c q.symm), Option.or_none]
      exact h3 k
theorem marksOf_learn {l : List Wrd} {w : Wrd} {k : List Key} : marksOf (HM.learn l w) k = marksOf l k ++ if w ∈ l then [] else if isM k w = true then [w] else [] := by
  unfold HM.learn marksOf
  by_cases c : w ∈ l
  · rw [if_pos c, if_pos c, List.append_nil]
  · rw [if_neg c, if_neg c, List.filter_append]
    congr 1
    cases e : isM k w <;> simp [List.filter, e]
theorem isM_nr {k : List Key} {w : Wrd} (h : isM k w = true) : w.k = "mark" ∧ nr w = k := by
  unfold isM at h
  rw [Bool.and_eq_true, decide_eq_true_eq, decide_eq_true_eq] at h
  exact h
theorem mark_eq {w u : Wrd} {k : List Key} (h1 : isM k w = true) (h2 : isM k u = true) (h : w.h = u.h) : w = u := by
  obtain ⟨a1, a2⟩ := isM_nr h1
  obtain ⟨b1, b2⟩ := isM_nr h2
  have := nr_eq.mp (a2.trans b2.symm)
  cases w; cases u
  simp only at *
  rw [a1, b1, this.1, this.2, h]
/-- what is no mark changes no marks -/
theorem PMs.say {F' : Hp} {d : Addr} {ins : List (List Key × Addr)} {l : List Wrd} {w : Wrd} (h : PMs F H d ins l) (n : ¬ w.k = "mark") (f : Same F F') (e : ∀ b o, b = d ∨ b ∈ ins.map (·.2) → H b = some o → H' b = some o) : PMs F' H' d ins (HM.learn l w) := by
  have same : ∀ k, marksOf (HM.learn l w) k = marksOf l k := fun k => by
    rw [marksOf_learn]
    split
    · rw [List.append_nil]
    · rw [if_neg (fun q => n (isM_nr q).1), List.append_nil]
  have h' := h.to f e
  exact ⟨h'.dt, h'.nd, fun i hi => by rw [same]; exact h'.inn i hi, fun k => by rw [same]; exact h'.all k⟩
theorem lookup_ins {ins : List (List Key × Addr)} {k : List Key} {v : V} (h : valV (ins.map fun e => (e.1, V.ref e.2)) k = some v) : ∃ e ∈ ins, e.1 = k ∧ v = .ref e.2 := by
  unfold valV at h
  obtain ⟨kv, hk, rfl⟩ := Option.map_eq_some_iff.mp h
  obtain ⟨e, he, rfl⟩ := List.mem_map.mp (List.mem_of_find?_eq_some hk)
  exact ⟨e, he, by simpa using List.find?_some hk, rfl⟩
theorem no_ins {ins : List (List Key × Addr)} {k : List Key} (h : valV (ins.map fun e => (e.1, V.ref e.2)) k = none) : k ∉ ins.map (·.1) := fun m => by
  obtain ⟨e, he, rfl⟩ := List.mem_map.mp m
  unfold valV at h
  have h := Option.map_eq_none_iff.mp h
  have := List.find?_eq_none.mp h (e.1, V.ref e.2) (List.mem_map.mpr ⟨e, he, rfl⟩)
  simp at this
/-- one more mark in a dict of marks -/
theorem PIn.put {d : Addr} {l : List Wrd} {w : Wrd} {k : List Key} {x : V} {kvs : List (Key × V)} (hm : isM k w = true) (e1 : kvs.map (·.1) = (marksOf l k).map (fun w => Sum.inl w.h)) (e2 : ∀ w ∈ marksOf l k, ∃ x, valV kvs (Sum.inl w.h) = some x ∧ WT F x w)
    (hx : WT F x w) (g : H' d = some (.dK (putK kvs (Sum.inl w.h) x))) : PIn F H' d (marksOf (HM.learn l w) k) := by
  have allM : ∀ u ∈ marksOf l k, isM k u = true := fun u hu => (List.mem_filter.mp hu).2
  refine ⟨_, g, ?_, fun u hu => ?_⟩
  · rw [marksOf_learn]
    by_cases c : w ∈ l
    · rw [if_pos c, List.append_nil]
      have hw : w ∈ marksOf l k := List.mem_filter.mpr ⟨c, hm⟩
      obtain ⟨y, hy, _⟩ := e2 w hw
      unfold putK
      rw [valV_any, hy, if_pos (show (some y).isSome = true from rfl), List.map_map, ← e1]
      refine List.map_congr_left fun kv _ => ?_
      show (if kv.1 = Sum.inl w.h then (kv.1, x) else kv).1 = kv.1
      split <;> rfl
    · have no : valV kvs (Sum.inl w.h) = none := by
        cases q : valV kvs (Sum.inl w.h) with
        | none => rfl
        | some y =>
          exfalso
          have : Sum.inl w.h ∈ kvs.map (·.1) := by
            unfold valV at q
            obtain ⟨kv, hk, _⟩ := Option.map_eq_some_iff.mp q
            refine List.mem_map.mpr ⟨kv, List.mem_of_find?_eq_some hk, by simpa using List.find?_some hk⟩
          rw [e1] at this
          obtain ⟨u, hu, eh⟩ := List.mem_map.mp this
          have := mark_eq (allM u hu) hm (Sum.inl.inj eh)
          subst this
          exact c (List.mem_filter.mp hu).1
      rw [if_neg c, if_pos hm, putK_new _ no, List.map_append, e1, List.map_append]
      rfl
  · rw [valV_put]
    rw [marksOf_learn] at hu
    by_cases c : u.h = w.h
    · rw [if_pos (by rw [c])]
      have : u = w := by
        rcases List.mem_append.mp hu with hu | hu
        · exact mark_eq (allM u hu) hm c
        · split at hu
          · cases hu
          · simpa [hm] using hu
      subst this
      exact ⟨x, rfl, hx⟩
    · rw [if_neg fun q => c (Sum.inl.inj q)]
      rcases List.mem_append.mp hu with hu | hu
      · exact e2 u hu
      · split at hu
        · cases hu
        · have : u = w := by simpa [hm] using hu
          exact absurd (by rw [this]) c
/-- a mark of a row that has some: its dict takes it -/
theorem PMs.more {d : Addr} {ins : List (List Key × Addr)} {l : List Wrd} {w : Wrd} {e : List Key × Addr} (h : PMs F H d ins l) (he : e ∈ ins) (ee : e.1 = nr w) (wm : w.k = "mark") (nda : (ins.map (·.2)).Nodup)
    (k : ∀ b o, H b = some o → b ≠ e.2 → H' b = some o) (de : d ≠ e.2) (g : PIn F H' e.2 (marksOf (HM.learn l w) e.1)) : PMs F H' d ins (HM.learn l w) := by
  have other : ∀ k0, k0 ≠ nr w → marksOf (HM.learn l w) k0 = marksOf l k0 := fun k0 hk => by
    rw [marksOf_learn]
    split
    · rw [List.append_nil]
    · rw [if_neg (fun q => hk (isM_nr q).2.symm), List.append_nil]
  refine ⟨k _ _ h.dt de, h.nd, fun i hi => ?_, fun k0 => ?_⟩
  · by_cases c : i.1 = nr w
    · have : i = e := by
        have h1 : i.1 = e.1 := c.trans ee.symm
        obtain ⟨n, hn, en⟩ := List.mem_iff_getElem.mp hi
        obtain ⟨m, hm, em⟩ := List.mem_iff_getElem.mp he
        have : n = m := by
          refine (List.getElem_inj (xs := ins.map (·.1)) (h₀ := by rw [List.length_map]; exact hn) (h₁ := by rw [List.length_map]; exact hm) h.nd).mp ?_
          rw [List.getElem_map, List.getElem_map, en, em, h1]
        subst this
        rw [← en, ← em]
      subst this
      exact g
    · rw [other _ c]
      refine (h.inn i hi).to (Same.refl _) fun o q => k _ _ q fun z => c ?_
      obtain ⟨n, hn, en⟩ := List.mem_iff_getElem.mp hi
      obtain ⟨m, hm, em⟩ := List.mem_iff_getElem.mp he
      have : n = m := by
        refine (List.getElem_inj (xs := ins.map (·.2)) (h₀ := by rw [List.length_map]; exact hn) (h₁ := by rw [List.length_map]; exact hm) nda).mp ?_
        rw [List.getElem_map, List.getElem_map, en, em, z]
      subst this
      rw [← en, em]
      exact ee
  · by_cases c : k0 = nr w
    · subst c
      have a1 := (h.all (nr w)).mpr (List.mem_map.mpr ⟨e, he, ee⟩)
      refine ⟨fun _ => List.mem_map.mpr ⟨e, he, ee⟩, fun _ => ?_⟩
      rw [marksOf_learn]
      exact fun q => a1 (List.append_eq_nil_iff.mp q).1
    · rw [other _ c]
      exact h.all k0
theorem PMs.few {d : Addr} {ins : List (List Key × Addr)} {l : List Wrd} (h : PMs F H d ins l) : ins.length ≤ l.length := by
  have s : ins.map (·.1) ⊆ l.map nr := fun k hk => by
    have ne := (h.all k).mpr hk
    obtain ⟨w, hw⟩ := List.exists_mem_of_ne_nil _ ne
    obtain ⟨h1, h2⟩ := List.mem_filter.mp hw
    exact List.mem_map.mpr ⟨w, h1, (isM_nr h2).2⟩
  have := h.nd.length_le_of_subset s
  rwa [List.length_map, List.length_map] at this
/-- the first mark of a row: a new dict -/
theorem PMs.first {d n : Addr} {ins : List (List Key × Addr)} {l : List Wrd} {w : Wrd} (h : PMs F H d ins l) (wm : w.k = "mark") (no : nr w ∉ ins.map (·.1)) (nw : w ∉ l)
    (k : ∀ b o, H b = some o → b ≠ d → H' b = some o) (dn : ∀ e ∈ ins, e.2 ≠ d) (g0 : H' d = some (.dT ((ins ++ [(nr w, n)]).map fun e => (e.1, V.ref e.2)))) (g : PIn F H' n (marksOf (HM.learn l w) (nr w))) : PMs F H' d (ins ++ [(nr w, n)]) (HM.learn l w) := by
  have hm : isM (nr w) w = true := by unfold isM; simp [wm]
  have other : ∀ k0, k0 ≠ nr w → marksOf (HM.learn l w) k0 = marksOf l k0 := fun k0 hk => by
    rw [marksOf_learn]
    split
    · rw [List.append_nil]
    · rw [if_neg (fun q => hk (isM_nr q).2.symm), List.append_nil]
  refine ⟨g0, ?_, fun i hi => ?_, fun k0 => ?_⟩
  · rw [List.map_append]
    exact List.nodup_append.mpr ⟨h.nd, by simp, fun x hx y hy e => no (by simp only [List.map_cons, List.map_nil, List.mem_singleton] at hy; rw [← hy, ← e]; exact hx)⟩
  · rcases List.mem_append.mp hi with hi | hi
    · have c : i.1 ≠ nr w := fun q => no (List.mem_map.mpr ⟨i, hi, q⟩)
      rw [other _ c]
      exact (h.inn i hi).to (Same.refl _) fun o q => k _ _ q (dn i hi)
    · rw [List.mem_singleton.mp hi]
      exact g
  · by_cases c : k0 = nr w
    · subst c
      refine ⟨fun _ => by simp, fun _ => ?_⟩
      rw [marksOf_learn, if_neg nw, if_pos hm]
      simp
    · rw [other _ c, h.all k0, List.map_append, List.mem_append]
      exact ⟨.inl, fun q => q.elim id fun q => absurd (by simpa using q) c⟩
end
def HS.size (st : HS) : Nat := st.known.length + st.marked.length + st.rows.length + st.named.length
theorem learn_len {l : List Wrd} {w : Wrd} : (learn l w).length ≤ l.length + 1 := by
  unfold learn
  split
  · omega
  · rw [List.length_append]; exact Nat.le_refl _
theorem size_learn {st : HS} {w : Wrd} : (st.learn w).size ≤ st.size + 1 := by
  have := learn_len (l := st.known) (w := w)
  unfold HS.size
  show (learn st.known w).length + st.marked.length + st.rows.length + st.named.length ≤ _
  omega
theorem size_mark {st : HS} {w : Wrd} : (st.mark w).size ≤ st.size + 2 := by
  unfold HS.mark
  split
  · have := learn_len (l := st.known) (w := markOf st.own w)
    unfold HS.size
    show (learn st.known (markOf st.own w)).length + (st.marked ++ [w.n]).length + st.rows.length + st.named.length ≤ _
    rw [List.length_append, List.length_singleton]
    omega
  · omega
theorem size_write {st : HS} {w : Wrd} : (st.write w).size ≤ st.size + 1 := by
  unfold HS.write
  split
  · unfold HS.size
    show st.known.length + st.marked.length + (st.rows ++ [(w.n, w.r)]).length + st.named.length ≤ _
    rw [List.length_append, List.length_singleton]
    omega
  · omega
theorem size_name {st : HS} {w : Wrd} : (st.name w).size ≤ st.size + 1 := by
  unfold HS.name
  split
  · unfold HS.size
    show st.known.length + st.marked.length + st.rows.length + (st.named ++ [(w.h, st.first w, w)]).length ≤ _
    rw [List.length_append, List.length_singleton]
    omega
  · omega
theorem size_hear {st : HS} {w : Wrd} : (st.hear w).size ≤ st.size + 5 := by
  unfold HS.hear
  split
  · omega
  · have h1 := size_learn (st := st) (w := w)
    have h2 := size_mark (st := st.learn w) (w := w)
    have h3 := size_write (st := (st.learn w).mark w) (w := w)
    have h4 := size_name (st := ((st.learn w).mark w).write w) (w := w)
    omega
section
variable {F H H' : Hp}
theorem PMa.put {d : Addr} {l : List Int} {n : Int} {v : V} {kvs : List (Key × V)} (h1 : kvs.length ≤ l.length) (h2 : ∀ n : Int, (valV kvs (Sum.inl n)).isSome = true ↔ n ∈ l) (g : H' d = some (.dK (putK kvs (Sum.inl n) v))) : PMa H' d (l ++ [n]) := by
  refine ⟨_, g, ?_, fun m => ?_⟩
  · have := length_putK kvs (Sum.inl n : Key) v
    rw [List.length_append]
    show _ ≤ l.length + 1
    omega
  · rw [valV_put, List.mem_append, List.mem_singleton]
    by_cases c : m = n
    · rw [if_pos (by rw [c])]
      exact ⟨fun _ => .inr c, fun _ => rfl⟩
    · rw [if_neg fun q => c (Sum.inl.inj q), h2 m]
      exact ⟨.inl, fun q => q.elim id fun q => absurd q c⟩
end
end HM
/-! a dict made of a list of ints; a house's ledger sorted -/
namespace LH
open PySem L2
theorem vin_none {v : Int → V} {ys : List Int} {j : Int} (h : j ∉ ys) : valV (ys.map fun i => ((Sum.inl i : Key), v i)) (Sum.inl j) = none := by
  unfold valV
  rw [Option.map_eq_none_iff, List.find?_eq_none]
  rintro e he q
  obtain ⟨i, hi, rfl⟩ := List.mem_map.mp he
  have : i = j := by simpa using q
  exact h (this ▸ hi)
theorem pe_fldN {X : Cx} {K : PySem.W.Frag} {o : Expr} {f : PySem.Str} {pos : Pos} {ta : TE} (he : PE X o ta) (hb : attributeBase o f X.env (eval o X.env) = eval o X.env) (hK : X.K = K := by rfl) : PE X (.Attribute o f pos) (tFld K ta f) := hK ▸ pe_fld he hb
section
variable {K : PySem.W.Frag} {σ : L2.St} {H : Hp} {Q : VK} {tl tk tv : TE} {t : TT} {g : TG}
def DcV (K : PySem.W.Frag) (g : TG) (t : TT) (tk tv : TE) (vs : List Nat) (σ : L2.St) (x : V) (H1 : Hp) (Q : VK) : Prop :=
  ∃ a, x = .ref a ∧ (∃ xs, SqL K H1 a xs) ∧ ∀ D, H1 D = none → ∃ W : Nat → Nat → Hp → Prop, (∃ m, W 0 m (upd H1 D (.dK []))) ∧ ∀ i m H, W i m H →
  ((Itl K a).stop i H ∧ Q (.ref D) H) ∨ ((Itl K a).go i H ∧ ∃ Nx : Hp → Prop, (∀ H', Nx H' → ∃ m', m' < m ∧ W (i + 1) m' H') ∧ ∀ x H', (Itl K a).yld i H x H' → g x (wipe σ vs) H' fun σ2 H2 => wipe σ2 vs = wipe σ vs ∧ t σ2 H2 fun b H3 =>
    if b = true then tk σ2 H3 fun y H4 => tv σ2 H4 fun z H5 => ∃ kvs k, y = kV k ∧ H5 D = some (.dK kvs) ∧ kvs.length < sizeLine ∧ Nx (upd H5 D (.dK (putK kvs k z))) else Nx H3)
theorem x_dc {vs : List Nat} (h : tl σ H fun x H1 => DcV K g t tk tv vs σ x H1 Q) : tDc (iList K tl) g t tk tv vs σ H Q := h
/-- {j: v j for j in ys} -/
theorem dc_L {a : Addr} {ys : List Int} {j : Nat} {vs : List Nat} (hx : SqL K H a (ys.map V.int)) (hz : ys.length ≤ 100000) (nd : ys.Nodup) (v : Int → V)
    (hw : ∀ x, wipe ((wipe σ vs).set j (some x)) vs = wipe σ vs)
    (hk : ∀ i, i ∈ ys → ∀ H1, Same H H1 → ∀ Q : VK, (∀ H2, Same H1 H2 → Q (.int i) H2) → tk ((wipe σ vs).set j (some (.int i))) H1 Q)
    (he : ∀ i, i ∈ ys → ∀ H1, Same H H1 → ∀ Q : VK, (∀ H2, Same H1 H2 → Q (v i) H2) → tv ((wipe σ vs).set j (some (.int i))) H1 Q)
    (k : ∀ p H2, H p = none → Same H H2 → H2 p = some (.dK (ys.map fun i => (Sum.inl i, v i))) → Q (.ref p) H2) : DcV K (gName j) tYes tk tv vs σ (.ref a) H Q := by
  refine ⟨a, rfl, ⟨_, hx⟩, fun D hD => ?_⟩
  refine ⟨fun i m H' => m = ys.length - i ∧ i ≤ ys.length ∧ Same H H' ∧ H' D = some (.dK ((ys.take i).map fun i => (Sum.inl i, v i))), ⟨ys.length, by simp, Nat.zero_le _, Same.new hD, upd_same⟩, ?_⟩
  rintro i m H' ⟨rfl, hi, e, hD'⟩
  have q := Same.seq e hx
  by_cases hlt : i < ys.length
  · refine .inr ⟨⟨_, .int ys[i], q, by simp [hlt]⟩, fun H2 => Same H H2 ∧ H2 D = some (.dK ((ys.take (i + 1)).map fun i => (Sum.inl i, v i))), fun H2 p2 => ⟨ys.length - (i + 1), by omega, rfl, hlt, p2⟩, fun x H2 y => ?_⟩
    obtain ⟨e2, y⟩ := y
    subst e2
    have ex := y _ q
    rw [List.getElem?_map, List.getElem?_eq_getElem hlt] at ex
    injection ex with ex
    subst ex
    have et := take_more (List.getElem?_eq_getElem hlt)
    have hm : ys[i] ∈ ys := List.getElem_mem hlt
    refine ⟨hw _, ?_⟩
    refine x_yes ?_
    rw [if_pos rfl]
    refine hk _ hm H2 e _ fun H3 e3 => ?_
    refine he _ hm H3 (e.trans e3) _ fun H4 e4 => ⟨_, Sum.inl ys[i], rfl, e4 _ _ (e3 _ _ hD'), ?_, ?_, ?_⟩
    · rw [List.length_map, List.length_take]
      exact sz' (by omega)
    · exact Same.mut ((e.trans e3).trans e4) hD
    · have no : ys[i] ∉ ys.take i := fun m => by
        obtain ⟨n, hn, en⟩ := List.mem_iff_getElem.mp m
        rw [List.length_take] at hn
        rw [List.getElem_take] at en
        have := (List.getElem_inj (h₀ := by omega) (h₁ := hlt) nd).mp en
        omega
      rw [et, putK_new _ (vin_none no), List.map_append]
      exact upd_same
  · have e2 : i = ys.length := by omega
    subst e2
    rw [List.take_length] at hD'
    exact .inl ⟨⟨_, q, by rw [List.length_map]; exact Nat.le_refl _⟩, k D H' hD e hD'⟩
end
end LH
/-! what a house tells when asked -/
namespace HM
open PySem L2 LM
def HS.nums (st : HS) : List Int := (st.rows.map (·.1)).mergeSort fun a b => decide (a ≤ b)
theorem sort_eq {l ys : List Int} (per : ys.Perm l) (so : ys.Pairwise (· ≤ ·)) (nd : l.Nodup) : ys = l.mergeSort fun a b => decide (a ≤ b) := by
  have p2 := List.mergeSort_perm l fun a b => decide (a ≤ b)
  have s2 : (l.mergeSort fun a b => decide (a ≤ b)).Pairwise (· ≤ ·) := by
    have := List.pairwise_mergeSort (le := fun a b : Int => decide (a ≤ b)) (fun a b c h1 h2 => by simp at *; omega) (fun a b => by simp; omega) l
    exact this.imp fun h => by simpa using h
  exact rise_eq so s2 (per.nodup_iff.mpr nd) (p2.nodup_iff.mpr nd) fun x => (per.mem_iff).trans p2.mem_iff.symm
/-- the row of a number -/
def HS.rowAt (st : HS) (n : Int) : Str := ((st.rows.find? fun e => decide (e.1 = n)).map (·.2)).getD ""
def HS.led (st : HS) : List (Int × Str) := st.nums.map fun n => (n, st.rowAt n)
theorem nums_mem {st : HS} {n : Int} : n ∈ st.nums ↔ n ∈ st.rows.map (·.1) := (List.mergeSort_perm _ _).mem_iff
theorem nums_nodup {st : HS} (g : Good st) : st.nums.Nodup := (List.mergeSort_perm _ _).nodup_iff.mpr g.rn
theorem rowAt_val {st : HS} {n : Int} (h : n ∈ st.rows.map (·.1)) : valV (st.rows.map fun e => ((Sum.inl e.1 : Key), V.str e.2)) (Sum.inl n) = some (.str (st.rowAt n)) := by
  unfold valV HS.rowAt
  revert h
  generalize st.rows = l
  induction l with
  | nil => intro h; cases h
  | cons e l ih =>
    intro h
    rw [List.map_cons, List.find?_cons, List.find?_cons]
    by_cases c : e.1 = n
    · simp [c]
    · have h1 : decide ((Sum.inl e.1 : Key) = Sum.inl n) = false := by simp [c]
      have h2 : decide (e.1 = n) = false := by simp [c]
      rw [h1, h2]
      refine ih ?_
      rcases List.mem_cons.mp h with h | h
      · exact absurd h.symm c
      · exact h
theorem paired_get {α : Type} {F : Key × V → α → Prop} {f : α → Int} {G : V → α → Prop} (hf : ∀ e x, F e x → e.1 = Sum.inl (f x) ∧ G e.2 x) {n : Int} : ∀ {kvs : List (Key × V)} {l : List α}, Paired F kvs l →
    (l.find? (fun x => decide (f x = n)) = none → valV kvs (Sum.inl n) = none) ∧ ∀ x, l.find? (fun x => decide (f x = n)) = some x → ∃ v, valV kvs (Sum.inl n) = some v ∧ G v x
  | _, _, .nil => ⟨fun _ => rfl, fun x h => nomatch h⟩
  | _, _, .cons (a := e) (b := x) q r => by
    have ih := paired_get hf (n := n) r
    obtain ⟨e1, e2⟩ := hf _ _ q
    unfold valV at ih ⊢
    simp only [List.find?_cons, e1]
    by_cases c : f x = n
    · have h2 : decide (f x = n) = true := by simp [c]
      have h1 : decide ((Sum.inl (f x) : Key) = Sum.inl n) = true := by simp [c]
      rw [h1, h2]
      exact ⟨(fun h => nomatch h), fun y h => by injection h with h; subst h; exact ⟨_, rfl, e2⟩⟩
    · have h2 : decide (f x = n) = false := by simp [c]
      have h1 : decide ((Sum.inl (f x) : Key) = Sum.inl n) = false := by simp [c]
      rw [h1, h2]
      exact ih
theorem size_call {st : HS} {z : Str} : (st.call z).size ≤ st.size + 5 := size_hear (st := { st with due := st.due + st.c }) (w := sayOf st z)
theorem Good.call {st : HS} {z : Str} (g : Good st) (o : LM.Ok z) : Good (st.call z) :=
  Good.hear (st := { st with due := st.due + st.c }) (w := sayOf st z) ⟨g.c1, g.c2, g.o1, g.o2, g.nd, g.wd, g.mn, g.rn, g.bn, g.nn, g.rk, g.bk, g.nk⟩ ⟨⟨ok_sayW, o⟩, g.o1, g.o2⟩
theorem mark_same {st : HS} {w : Wrd} : (st.mark w).c = st.c ∧ (st.mark w).own = st.own ∧ (st.mark w).due = st.due ∧ (st.mark w).rows = st.rows := by
  unfold HS.mark
  split <;> exact ⟨rfl, rfl, rfl, rfl⟩
theorem write_same {st : HS} {w : Wrd} : (st.write w).c = st.c ∧ (st.write w).own = st.own ∧ (st.write w).due = st.due := by
  unfold HS.write
  split <;> exact ⟨rfl, rfl, rfl⟩
theorem name_same {st : HS} {w : Wrd} : (st.name w).c = st.c ∧ (st.name w).own = st.own ∧ (st.name w).due = st.due ∧ (st.name w).rows = st.rows := by
  unfold HS.name
  split <;> exact ⟨rfl, rfl, rfl, rfl⟩
theorem write_rows {st : HS} {w : Wrd} {e : Int × Str} (h : e ∈ (st.write w).rows) : e ∈ st.rows ∨ e = (w.n, w.r) := by
  unfold HS.write at h
  split at h
  · exact (List.mem_append.mp h).imp id fun q => by simpa using q
  · exact .inl h
theorem hear_same {st : HS} {w : Wrd} : (st.hear w).c = st.c ∧ (st.hear w).own = st.own ∧ (st.hear w).due = st.due := by
  unfold HS.hear
  split
  · exact ⟨rfl, rfl, rfl⟩
  · obtain ⟨a1, a2, a3, _⟩ := mark_same (st := st.learn w) (w := w)
    obtain ⟨b1, b2, b3⟩ := write_same (st := (st.learn w).mark w) (w := w)
    obtain ⟨d1, d2, d3, _⟩ := name_same (st := ((st.learn w).mark w).write w) (w := w)
    exact ⟨d1.trans (b1.trans a1), d2.trans (b2.trans a2), d3.trans (b3.trans a3)⟩
theorem hear_rows {st : HS} {w : Wrd} {e : Int × Str} (h : e ∈ (st.hear w).rows) : e ∈ st.rows ∨ e = (w.n, w.r) := by
  unfold HS.hear at h
  split at h
  · exact .inl h
  · rw [name_same.2.2.2] at h
    rcases write_rows h with h | h
    · rw [mark_same.2.2.2] at h
      exact .inl h
    · exact .inr h
theorem valV_self : ∀ {kvs : List (Key × V)}, (kvs.map (·.1)).Nodup → ∀ p ∈ kvs, valV kvs p.1 = some p.2
  | [], _, p, h => by cases h
  | e :: l, nd, p, h => by
    rw [List.map_cons, List.nodup_cons] at nd
    unfold valV
    rw [List.find?_cons]
    by_cases c : e.1 = p.1
    · rw [decide_eq_true c]
      rcases List.mem_cons.mp h with rfl | h
      · rfl
      · exact absurd (List.mem_map.mpr ⟨p, h, c.symm⟩) nd.1
    · rw [decide_eq_false c]
      rcases List.mem_cons.mp h with rfl | h
      · exact absurd rfl c
      · exact valV_self nd.2 p h
end HM
/-! two lists whose items are all equal, compared by != -/
namespace LH
open PySem PySem.Spec PyProof.Rows L2 SeqAt
open AutoSeq1 (wpAny_loadPart')
open MeetsSeq MeetsSeq2 MeetsSeq3 SeqRoads2
section
variable {prog : Program} {w : World}
theorem ne_go (l b : Addr) (xs ys : Array Value) (n m : Nat) (d1 d2 : Option Addr) (t1 t2 : Array (Option Value)) (same : xs.size = ys.size) : ∀ (k i : Nat), xs.size - i = k →
    MeetsIn prog w (Builtin.«list.__eq__.loop» ⟨[.ref l, .ref b, rawInt i, rawInt 3], []⟩) (fun A R s =>
      s.heap.get? l = some { cls := .type "list", dict := d1, data := .seq xs n, slots := t1 } ∧ s.heap.get? b = some { cls := .type "list", dict := d2, data := .seq ys m, slots := t2 } ∧
      (∀ j (h1 : j < xs.size) (h2 : j < ys.size), EqP prog w A.in1 s xs[j] ys[j] true) ∧ R (.ok (.ret (.bool false))) s)
  | 0, i, hk, A, R, s, h => by
    obtain ⟨hp, g, d, tk, os⟩ := s
    obtain ⟨hl, hb, he, h⟩ := h
    wp_walk using wpAny_loadPart' hl, wpAny_loadPart' hb
    have no1 : xs[((i : Nat) : Int).toNat]? = none := by simp; omega
    have no2 : ys[((i : Nat) : Int).toNat]? = none := by simp; omega
    rw [no1, no2]
    wp_walk using wpAny_loadPart' hl, wpAny_loadPart' hb
    show R (.ok (.ret (.bool (xs.size != ys.size)))) _
    rw [same]
    simpa using h
  | k + 1, i, hk, A, R, s, h => by
    obtain ⟨hp, g, d, tk, os⟩ := s
    obtain ⟨hl, hb, he, h⟩ := h
    wp_walk using wpAny_loadPart' hl, wpAny_loadPart' hb
    have i1 : i < xs.size := by omega
    have i2 : i < ys.size := by omega
    have yes1 : xs[((i : Nat) : Int).toNat]? = some xs[i] := by simp [i1]
    have yes2 : ys[((i : Nat) : Int).toNat]? = some ys[i] := by simp [i2]
    have up : ((i : Int) + 1) = ((i + 1 : Nat) : Int) := by push_cast; rfl
    rw [yes1, yes2]
    refine wpAny_bind (he i i1 i2 _ _ ?_)
    wp_walk
    rw [up]
    refine ⟨plainId_quiet plain_eq_loop _, codeAny_builtin entry_eq_loop ?_⟩
    rw [Around.under_plainId plain_eq_loop _]
    exact ne_go l b xs ys n m d1 d2 t1 t2 same k (i + 1) (by omega) A R _ ⟨hl, hb, he, h⟩
theorem ne_in (l b : Addr) (xs ys : Array Value) (n m : Nat) (d1 d2 : Option Addr) (t1 t2 : Array (Option Value)) (same : xs.size = ys.size) :
    MeetsIn prog w (Builtin.«list.__ne__» ⟨[.ref l, .ref b], []⟩) (fun A R s =>
      s.heap.get? l = some { cls := .type "list", dict := d1, data := .seq xs n, slots := t1 } ∧ s.heap.get? b = some { cls := .type "list", dict := d2, data := .seq ys m, slots := t2 } ∧
      (∀ j (h1 : j < xs.size) (h2 : j < ys.size), EqP prog w A.in1 s xs[j] ys[j] true) ∧ R (.ok (.ret (.bool false))) s) := by
  intro A R s h
  obtain ⟨hp, g, d, tk, os⟩ := s
  obtain ⟨hl, hb, he, h⟩ := h
  have f3 := AutoSeq1.sub_list_list
  have hne : ¬ (xs.size != ys.size) = true := by simp [same]
  wp_walk using wpAny_loadPart' hl, wpAny_loadPart' hb
  refine ⟨plainId_quiet plain_eq_loop _, codeAny_builtin entry_eq_loop ?_⟩
  rw [Around.under_plainId plain_eq_loop _]
  exact ne_go l b xs ys n m d1 d2 t1 t2 same _ 0 rfl A R _ ⟨hl, hb, he, h⟩
theorem rc_ne_lists {A : Around} {s : Shared} {l b : Addr} {xs ys : Array Value} (hl : s.heap.IsList l xs) (hb : s.heap.IsList b ys) (same : xs.size = ys.size) (hu : A.units < cLine)
    (he : ∀ j (h1 : j < xs.size) (h2 : j < ys.size), EqP prog w A.in1 s xs[j] ys[j] true) (E Q : Value → Shared → Prop) (h : Q (.bool false) s) : wpAny (model prog w) A (richCompare .NotEq (.ref l) (.ref b)) Q E s := by
  obtain ⟨⟨c1, d1, x1, t1⟩, o1, hc1, n, hd1⟩ := id hl
  obtain ⟨⟨c2, d2, x2, t2⟩, o2, hc2, m, hd2⟩ := id hb
  simp only at hc1 hd1 hc2 hd2
  subst hc1 hd1 hc2 hd2
  have ta : s.TypeIs (.ref l) "list" := ⟨_, o1, rfl⟩
  have tb : s.TypeIs (.ref b) "list" := ⟨_, o2, rfl⟩
  refine wpAny_richCompare_same_room (op := .NotEq) ta tb F.slot_list_ne (call_meetsIn F.slot_list_ne ta F.entry_list_ne (F.args_list_ne_2 _ _) (ne_in l b xs ys n m d1 d2 t1 t2 same) ⟨o1, o2, he, ?_⟩) hu
  exact ⟨(fun x => nomatch x), h⟩
end
section
variable {X : Cx}
def rNeL (K : PySem.W.Frag) : R2 := fun x y H Q => ∃ n a b xs ys, n ≤ 60 ∧ x = .ref a ∧ y = .ref b ∧ SqL K H a xs ∧ SqL K H b ys ∧ Paired (EqV K H n) xs ys ∧ Q (.bl false) H
theorem op_neL (hu : X.A.units + 64 < cLine) : OpR X (compareOp .NotEq) (rNeL X.K) := by
  intro pins s σ H x y v u Q I rx ry h
  obtain ⟨n, a, b, xs, ys, hn, rfl, rfl, ha, hb, hp, q⟩ := h
  cases (show v = Value.ref a from rx)
  cases (show u = Value.ref b from ry)
  obtain ⟨us, r1, p1, _⟩ := I.list ha
  obtain ⟨ws, r2, p2, _⟩ := I.list hb
  have hsz : us.toArray.size = ws.toArray.size := by
    rw [List.size_toArray, List.size_toArray, ← r1.length, ← r2.length]
    exact Paired.length hp
  refine rc_ne_lists p1.isList p2.isList hsz (by omega) (fun j h1 h2 => ?_) _ _ ⟨.bl false, H, I, rfl, q⟩
  have k := items_run (fun x y v u => eqV_run I n X.A.in1 (by show X.A.units + 1 + n < cLine; omega) x y v u) hp r1 r2 j (by simpa using h1) (by simpa using h2)
  simpa using k
theorem x_neL {K : PySem.W.Frag} {a b : Addr} {xs ys : List V} {H : Hp} {Q : VK} (n : Nat) (hn : n ≤ 60) (h1 : SqL K H a xs) (h2 : SqL K H b ys) (hp : Paired (EqV K H n) xs ys) (q : Q (.bl false) H) : rNeL K (.ref a) (.ref b) H Q := ⟨n, a, b, xs, ys, hn, rfl, rfl, h1, h2, hp, q⟩
end
end LH
/-! sorted of tuples (number, thing) whose numbers all differ -/
namespace LO
open PySem PyProof.Rows Srt SrtO
/-- a tuple of a number and a thing -/
def IsNT (h : Heap) (v : Value) (x : Int) : Prop := ∃ a o t b n, v = .ref a ∧ h.get? a = some o ∧ o.cls = .type "tuple" ∧ o.data = .seq #[.int x t, .ref b] n
theorem IsNT.keeps {h h' : Heap} {v : Value} {x : Int} (p : IsNT h v x) (k : ∀ b o, h.get? b = some o → o.cls = .type "tuple" → h'.get? b = some o) : IsNT h' v x :=
  let ⟨a, o, t, u, n, e, ho, hc, hd⟩ := p; ⟨a, o, t, u, n, e, k _ _ ho hc, hc, hd⟩
theorem firsts_nt {h : Heap} : ∀ {vs : List Value}, (∀ v ∈ vs, ∃ x, IsNT h v x) → ∃ fs : List Value, PySem.W.KatTups h vs fs ∧ fs.length = vs.length ∧ ∀ f ∈ fs, ∃ x t, f = Value.int x t
  | [], _ => ⟨[], .nil, rfl, fun f hf => by cases hf⟩
  | v :: vs, hp => by
    obtain ⟨fs, h1, h2, h3⟩ := firsts_nt (vs := vs) fun v' hm => hp v' (List.mem_cons_of_mem _ hm)
    obtain ⟨x, a, o, t, b, n, rfl, ho, hc, hd⟩ := hp v (List.mem_cons_self ..)
    refine ⟨.int x t :: fs, .cons ho hc hd rfl h1, by rw [List.length_cons, List.length_cons, h2], fun f hf => ?_⟩
    rcases List.mem_cons.mp hf with rfl | hf
    · exact ⟨x, t, rfl⟩
    · exact h3 f hf
section
variable {prog : Program} {w : World} {A : Around} {s : Shared}
theorem swo_k (k : Value → Int) : Swo fun v u => decide (k v < k u) := ⟨fun x y h => by simp at *; omega, fun x y z h1 h2 => by simp at *; omega⟩
theorem nt_cmp {vs : List Value} {k : Value → Int} (hp : ∀ v ∈ vs, IsNT s.heap v (k v)) (inj : ∀ v ∈ vs, ∀ u ∈ vs, k v = k u → v = u) : Cmp prog w A s (tuples' true) (fun p => p.1 ∈ vs) (lt2 fun v u => decide (k v < k u)) := by
  intro p q hm hm'
  have h1 := hp _ hm
  have h2 := hp _ hm'
  have hi := inj _ hm _ hm'
  show wpAny (model prog w) A (keyLt' (tuples' true) p.1 q.1) (fun r s' => s' = s ∧ r = decide (k p.1 < k q.1)) (fun _ _ => False) s
  generalize k p.1 = x at h1 hi ⊢
  generalize k q.1 = y at h2 hi ⊢
  obtain ⟨a, o, t, b, n, e, ho, hc, hd⟩ := h1
  obtain ⟨a', o', t', b', n', e', ho', hc', hd'⟩ := h2
  rw [e, e']
  refine PySem.W.kat_lt ho hd ho' hd' ?_
  show PySem.W.KatLex prog w A true (decide (2 < 2)) _ [(.int x t, .int y t'), (.ref b, .ref b')] 0 s
  refine PySem.W.kat_cons (SeqAt.EqAt.int_int x t y t' prog w _ _ ?_)
  refine PySem.W.kat_go (fun e1 => ?_) (fun e1 => ?_)
  · have ex : x = y := by simpa using e1
    have ea : a = a' := by
      have := hi ex
      rw [e, e'] at this
      injection this
    subst ea
    rw [ho] at ho'
    injection ho' with ho'
    subst ho'
    rw [hd] at hd'
    injection hd' with hd' _
    have eb : b = b' := by
      have := congrArg (fun z : Array Value => z[1]?) hd'
      simpa using this
    subst eb
    refine PySem.W.kat_yes (PySem.W.kat_cons (SeqAt.EqAt.same _ prog w _ _ ?_))
    refine PySem.W.kat_go (fun e2 => ?_) (fun e2 => by cases e2)
    refine PySem.W.kat_yes (PySem.W.kat_nil ⟨rfl, ?_⟩)
    rw [ex]
    simp
  · exact PySem.W.kat_no (oneLt_int ⟨rfl, rfl⟩)
theorem nt_sortable {a : Addr} {vs : List Value} {k : Value → Int} (h0 : 0 < vs.length) (hp : ∀ v ∈ vs, IsNT s.heap v (k v)) (inj : ∀ v ∈ vs, ∀ u ∈ vs, k v = k u → v = u) (ha : ∀ o, s.heap.get? a = some o → o.cls ≠ .type "tuple") :
    SortableO prog w A s a vs fun v u => decide (k v < k u) := by
  intro h' keep
  have hp' : ∀ v ∈ vs, IsNT h' v (k v) := fun v hm => (hp v hm).keeps fun b o e c => keep b o (fun z => by subst z; exact ha o e c) e
  obtain ⟨fs, h1, h2, h3⟩ := firsts_nt fun v hm => ⟨_, hp' v hm⟩
  refine ⟨tuples' true, fun Q E hq => ?_, nt_cmp hp' inj⟩
  refine PySem.W.kat_kind (T := .type "int") h1 (by omega) (fun f hm => ?_) (by rfl) ?_
  · obtain ⟨x, t, rfl⟩ := h3 f hm
    exact PySem.W.Looks.now
  · have e : (Value.type "int" != Value.type "tuple") = true := by first | decide +kernel | rfl | decide
    rw [e]
    exact hq
end
end LO
namespace LH
open PySem PySem.Spec PyProof.Rows L2
/-- sorted of tuples (number, thing), the numbers all different -/
def rSortedNT (K : PySem.W.Frag) : List V → Hp → VK → Prop := fun vs H Q => ∃ (a : Addr) (xs : List V) (k : V → Int), vs = [V.ref a] ∧ SqL K H a xs ∧ (∀ x ∈ xs, ∃ t b, x = V.ref t ∧ H t = some (.tup [.int (k x), .ref b])) ∧ (∀ x ∈ xs, ∀ y ∈ xs, k x = k y → x = y) ∧
  ∀ ys p, ys.Perm xs → (ys.map k).Pairwise (· ≤ ·) → H p = none → Q (.ref p) (upd H p (.lst ys))
section
variable {X : Cx}
theorem cr_sortedNT : CallR X (.builtin "sorted") (rSortedNT X.K) := by
  intro pins s σ H vs us Q I r h
  obtain ⟨a, xs, k, rfl, hs, hx, hi, q⟩ := h
  obtain ⟨its, rv, hl, hz⟩ := I.list hs
  obtain ⟨u, rfl, ru⟩ := vals1 r
  obtain rfl : u = Value.ref a := ru
  obtain ⟨e1, e2⟩ := refs_back rv fun x m => by
    obtain ⟨t, b, e, _⟩ := hx x m
    exact ⟨t, e⟩
  have inX : ∀ v ∈ its, backV v ∈ xs := fun v hv => by rw [e1]; exact List.mem_map.mpr ⟨v, hv, rfl⟩
  have isN : ∀ v ∈ its, LO.IsNT s.heap v (k (backV v)) := fun v hv => by
    obtain ⟨t, rfl⟩ := e2 v hv
    obtain ⟨t', b, e, ht⟩ := hx _ (inX _ hv)
    cases e
    obtain ⟨_, its2, r2, o, ho, hc, n, hd⟩ := I.hok _ _ ht
    obtain ⟨u1, u2, rfl, ri, rj⟩ := vals2 r2
    obtain ⟨t1, rfl⟩ := ri
    obtain rfl : u2 = Value.ref b := rj
    exact ⟨t, o, t1, b, n, rfl, ho, hc, hd⟩
  refine SrtO.sorted_ord (ltv := fun v u => decide (k (backV v) < k (backV u))) (LO.swo_k _) hl.isList (by rw [← rv.length]; exact hz) (fun h2 h₁ d hd kk => ?_) fun out hs hb => ?_
  · refine LO.nt_sortable (k := fun u => k (backV u)) (s := { s with heap := h₁ }) (by omega) (fun v hm => (isN v hm).keeps fun b o e _ => (kk b o e).2) (fun v hv u hu e => ?_) fun o e => ?_
    · have := hi _ (inX v hv) _ (inX u hu) e
      obtain ⟨t, rfl⟩ := e2 v hv
      obtain ⟨t', rfl⟩ := e2 u hu
      cases this
      rfl
    · have e' : some o = some (seqObj "list" its.toArray 0) := e.symm.trans hd
      cases e'
      intro c
      exact absurd (Value.type.inj c) (by decide)
  · have h3 : ∀ u ∈ out, ∃ a, u = Value.ref a := fun u hu => e2 u (hb.perm.mem_iff.mp hu)
    have perm : (out.map backV).Perm xs := by rw [e1]; exact hb.perm.map _
    refine ⟨.ref (s.heap.objs.size + 1), upd H _ (.lst (out.map backV)), I.laid (t' := s.toks) (fun b o e => sortedAll_old e) (Nat.le_succ _) ⟨?_, out, _, vals_back h3, (sortedAll_at s.heap its out.toArray).choose_spec⟩, rfl, q _ _ perm ?_ (I.hok.fresh (Nat.le_succ _))⟩
    · rw [perm.length_eq]
      exact hz
    · rw [List.map_map]
      refine List.pairwise_map.mpr (List.Pairwise.imp (fun h => ?_) hs)
      have h : decide (k (backV _) < k (backV _)) = false := h
      rw [decide_eq_false_iff_not] at h
      show k (backV _) ≤ k (backV _)
      omega
end
end LH
namespace LH
open PySem L2
theorem x_sortedNT {K : PySem.W.Frag} {H : Hp} {Q : VK} {a : Addr} {xs : List V} (f : V → Int) (h : SqL K H a xs) (hx : ∀ x ∈ xs, ∃ t b, x = V.ref t ∧ H t = some (.tup [.int (f x), .ref b])) (hi : ∀ x ∈ xs, ∀ y ∈ xs, f x = f y → x = y)
    (k : ∀ ys p H2, ys.Perm xs → (ys.map f).Pairwise (· ≤ ·) → H p = none → L2.Same H H2 → H2 p = some (.lst ys) → Q (.ref p) H2) : rSortedNT K [.ref a] H Q :=
  ⟨a, xs, f, rfl, h, hx, hi, fun ys p h1 h2 hp => k ys p _ h1 h2 hp (LH.Same.new hp) upd_same⟩
end LH
/-! readings by name: x in a list of data, dict == dict, dict(d), list(d), d.clear() -/
namespace LH
open PySem L2
theorem takesB0 {X : Cx} : L2.Takes X (fun _ _ _ _ => False) := fun _ _ x => by
  obtain ⟨_, _, _, _, _, _, _, _, _, _, _, _, _, _, _, _, z⟩ := x
  exact z.elim
theorem units65 {k : Nat} {A : Around} (r : Room k A) : A.units + 65 < cLine := by have := r.un; omega
section
variable {K : PySem.W.Frag} {σ : L2.St} {H : Hp} {Q : VK} {te : TE} {x y : V} {a : Addr}
theorem x_inD {d : PyData} {ds : List PyData} (hx : Dp K H x d) (hy : Dp K H y (.list ds)) (s1 : SeqAt.shaped d = true) (s2 : SeqAt.shaped (.list ds) = true) (q : Q (.bl (ds.any fun z => PyData.eqv z d)) H) : rInD K x y H Q := ⟨d, ds, hx, hy, s1, s2, q⟩
theorem x_eqDA {a b : Addr} {ks ls : List (Key × V)} (h1 : H a = some (.dK ks)) (h2 : H b = some (.dK ls)) (l : ks.length = ls.length) (e : ∀ p ∈ ks, valV ls p.1 = some p.2 ∧ flatB p.2 = true) (q : Q (.bl true) H) : rEqDA (.ref a) (.ref b) H Q := ⟨a, b, ks, ls, rfl, rfl, h1, h2, l, e, q⟩
theorem x_neDA {a b : Addr} {ks ls : List (Key × V)} (h1 : H a = some (.dK ks)) (h2 : H b = some (.dK ls)) (l : ks.length = ls.length) (e : ∀ p ∈ ks, valV ls p.1 = some p.2 ∧ flatB p.2 = true) (q : Q (.bl false) H) : rNeDA (.ref a) (.ref b) H Q := ⟨a, b, ks, ls, rfl, rfl, h1, h2, l, e, q⟩
def rDictD : List V → Hp → VK → Prop := fun xs H Q => ∃ (a : Addr) (kvs : List (Key × V)), xs = [.ref a] ∧ Rd H a (.dK kvs) ∧ ∀ p, H p = none → Q (.ref p) (upd H p (.dK kvs))
theorem call_dictD0 {X : Cx} : CallR X (.type "dict") rDictD := call_dictD
theorem x_dictD {kvs : List (Key × V)} (h : H a = some (.dK kvs)) (k : ∀ p H2, H p = none → L2.Same H H2 → H2 p = some (.dK kvs) → Q (.ref p) H2) : rDictD [.ref a] H Q := ⟨a, kvs, rfl, .inl h, fun p hp => k p _ hp (LH.Same.new hp) upd_same⟩
theorem x_listDK {kvs : List (Key × V)} (h : H a = some (.dK kvs)) (k : ∀ p H2, H p = none → L2.Same H H2 → H2 p = some (.lst (kvs.map fun kv => kV kv.1)) → Q (.ref p) H2) : rListD [.ref a] H Q := ⟨a, kvs, rfl, h, fun p hp => k p _ hp (LH.Same.new hp) upd_same⟩
def DclV (K : PySem.W.Frag) (x : V) (H1 : Hp) (Q : VK) : Prop := tyV K "dict" x H1 ∧ rDClear x [] H1 Q
theorem pe_dclearN {X : Cx} {o : Expr} {apos cpos : Pos} {to : TE} (ho : PE X o to) (hbase : attributeBase o "clear" X.env (eval o X.env) = eval o X.env := by rfl) (hline : (apos.endLine == cpos.line) = true := by rfl) : PE X (.Call (.Attribute o "clear" apos) [] [] cpos) (tBM0 X.K "dict" rDClear to) := pe_dclear ho hbase hline
end
end LH
/-! a for over a dict's keys, the dict locked meanwhile -/
namespace LH
open PySem L2
theorem lock_keys {i : Nat} {d : Addr} {kvs : List (Key × V)} {g : TG} {tb : TS} {D : Ends} {σ : L2.St} {H : Hp} (hv : σ[i]? = some (some (.ref d))) (hd : H d = some (.dK kvs)) (Pv : Obj → Nat → L2.St → Hp → Prop)
    (h0 : ∀ od, Pv od 0 σ (upd H d (.frz od (.dK kvs)))) (hl : ∀ od n σ H, Pv od n σ H → H d = some (.frz od (.dK kvs)))
    (hs : ∀ od n k v σ H, kvs[n]? = some (k, v) → Pv od n σ H → g (kV k) σ H fun σ2 H2 => tb { nx := Pv od (n + 1), rt := fun v H' => H' d = some (.frz od (.dK kvs)) ∧ D.rt v (upd H' d (.dK kvs)), ct := Pv od (n + 1), bk := fun σ' H' => H' d = some (.frz od (.dK kvs)) ∧ D.nx σ' (upd H' d (.dK kvs)) } σ2 H2)
    (he : ∀ od σ H, Pv od kvs.length σ H → D.nx σ (upd H d (.dK kvs))) : tLock (tFor (iKeys (tVar i)) g tb) D σ H := by
  refine ⟨d, .dK kvs, hd, trivial, fun od => ?_⟩
  refine ⟨_, hv, d, od, rfl, .inl ⟨kvs, upd_same, ?_⟩⟩
  refine ⟨fun n m σ' H' => m = kvs.length - n ∧ n ≤ kvs.length ∧ Pv od n σ' H', ⟨kvs.length, by simp, Nat.zero_le _, h0 od⟩, ?_⟩
  rintro n m σ' H' ⟨rfl, hn, p⟩
  have hd' := hl od n σ' H' p
  by_cases hlt : n < kvs.length
  · refine .inr ⟨⟨hd', hlt⟩, Pv od (n + 1), fun σ2 H2 p2 => ⟨kvs.length - (n + 1), by omega, rfl, hlt, p2⟩, fun x H2 y => ?_⟩
    obtain ⟨rfl, k, v, e, rfl⟩ := y
    exact hs od n k v σ' _ e p
  · have e : n = kvs.length := by omega
    subst e
    exact .inl ⟨⟨hd', Nat.le_refl _⟩, hd', he od σ' H' p⟩
end LH
/-! a house's hearing told by lists only -/
namespace HM
open PySem L2 LM
/-- what a house marked are the numbers of its own marks -/
def Mine (st : HS) : Prop := ∀ n, n ∈ st.marked ↔ ∃ u ∈ st.known, u.k = "mark" ∧ u.n = n ∧ u.h = st.own
theorem Mine.new (c own : Int) : Mine (HS.new c own) := fun n => ⟨(fun h => nomatch h), fun ⟨u, h, _⟩ => nomatch h⟩
theorem Mine.learn {st : HS} {w : Wrd} (m : Mine st) (o : ¬ (w.k = "mark" ∧ w.h = st.own)) : Mine (st.learn w) := fun n => by
  show n ∈ st.marked ↔ ∃ u ∈ HM.learn st.known w, u.k = "mark" ∧ u.n = n ∧ u.h = st.own
  rw [m n]
  constructor
  · rintro ⟨u, h1, h2⟩
    exact ⟨u, mem_learn.mpr (.inl h1), h2⟩
  · rintro ⟨u, h1, h2⟩
    rcases mem_learn.mp h1 with h1 | rfl
    · exact ⟨u, h1, h2⟩
    · exact absurd ⟨h2.1, h2.2.2⟩ o
theorem Mine.mark {st : HS} {w : Wrd} (m : Mine st) : Mine (st.mark w) := by
  unfold HS.mark
  split
  · intro n
    show n ∈ st.marked ++ [w.n] ↔ ∃ u ∈ HM.learn st.known (markOf st.own w), u.k = "mark" ∧ u.n = n ∧ u.h = st.own
    rw [List.mem_append, List.mem_singleton, m n]
    constructor
    · rintro (⟨u, h1, h2⟩ | rfl)
      · exact ⟨u, mem_learn.mpr (.inl h1), h2⟩
      · exact ⟨markOf st.own w, mem_learn.mpr (.inr rfl), rfl, rfl, rfl⟩
    · rintro ⟨u, h1, h2⟩
      rcases mem_learn.mp h1 with h1 | rfl
      · exact .inl ⟨u, h1, h2⟩
      · exact .inr h2.2.1.symm
  · exact m
theorem Mine.write {st : HS} {w : Wrd} (m : Mine st) : Mine (st.write w) := by
  unfold HS.write
  split
  · exact m
  · exact m
theorem Mine.name {st : HS} {w : Wrd} (m : Mine st) : Mine (st.name w) := by
  unfold HS.name
  split
  · exact m
  · exact m
theorem Mine.hear {st : HS} {w : Wrd} (m : Mine st) (o : ¬ (w.k = "mark" ∧ w.h = st.own)) : Mine (st.hear w) := by
  unfold HS.hear
  split
  · exact m
  · exact (m.learn o).mark.write.name
theorem learn_new {l : List Wrd} {w : Wrd} (h : w ∉ l) : HM.learn l w = l ++ [w] := by
  unfold HM.learn
  rw [if_neg h]
/-- what is marked anew was not known -/
theorem mark_fresh {st : HS} {w : Wrd} (m : Mine st) (h : (st.learn w).marks w = true) (o : ¬ (w.k = "mark" ∧ w.h = st.own)) : markOf st.own w ∉ (st.learn w).known := fun q => by
  unfold HS.marks at h
  rw [Bool.and_eq_true, Bool.not_eq_true', decide_eq_false_iff_not] at h
  exact h.2 ((m.learn o w.n).mpr ⟨_, q, rfl, rfl, rfl⟩)
/-- what is known after a word unheard of -/
theorem known_new {st : HS} {w : Wrd} (m : Mine st) (n : w ∉ st.known) (o : ¬ (w.k = "mark" ∧ w.h = st.own)) : ((st.learn w).mark w).known = st.known ++ [w] ++ (st.learn w).markT w := by
  have e1 : (st.learn w).known = st.known ++ [w] := learn_new n
  unfold HS.mark HS.markT
  split
  · next h =>
    show HM.learn (st.learn w).known (markOf st.own w) = _
    rw [learn_new (mark_fresh m h o), e1]
    rfl
  · rw [e1, List.append_nil]
/-- the first at the place: what stood there, or the word itself -/
theorem first_new {st : HS} {w : Wrd} (m : Mine st) (n : w ∉ st.known) (o : ¬ (w.k = "mark" ∧ w.h = st.own)) : (((st.learn w).mark w).write w).first w = ((st.known.filter fun u => decide (u.pl = w.pl)).head?).getD w := by
  unfold HS.first
  rw [write_known, known_new m n o, List.append_assoc, List.find?_append, find_filter]
  cases e : (st.known.filter fun u => decide (u.pl = w.pl)).head? with
  | some u => rfl
  | none =>
    rw [Option.none_or, List.singleton_append, List.find?_cons, decide_eq_true (rfl : w.pl = w.pl)]
    rfl
theorem first_old {st : HS} {w u : Wrd} (n : w ∉ st.known) (e : (st.known.filter fun u => decide (u.pl = w.pl)).head? = some u) : ¬ u = w := fun q => by
  have : u ∈ st.known.filter fun u => decide (u.pl = w.pl) := List.mem_of_mem_head? (by rw [e]; rfl)
  rw [q] at this
  exact n (List.mem_filter.mp this).1
/-- whether a house is named -/
theorem names_new {st : HS} {w : Wrd} (m : Mine st) (n : w ∉ st.known) (o : ¬ (w.k = "mark" ∧ w.h = st.own)) :
    (((st.learn w).mark w).write w).names w = ((!(st.known.filter fun u => decide (u.pl = w.pl)).isEmpty) && !decide (w.h ∈ st.named.map (·.1))) := by
  unfold HS.names
  rw [first_new m n o]
  have e1 : (((st.learn w).mark w).write w).named = st.named := by
    unfold HS.write
    split
    · show ((st.learn w).mark w).named = _
      unfold HS.mark
      split <;> rfl
    · unfold HS.mark
      split <;> rfl
  rw [e1]
  cases e : (st.known.filter fun u => decide (u.pl = w.pl)) with
  | nil => simp
  | cons u l =>
    have := first_old n (u := u) (by rw [e]; rfl)
    simp [this]
/-- whether it marks: a say, and no mark of its own at the number -/
theorem marks_new {st : HS} {w : Wrd} (m : Mine st) (o : ¬ (w.k = "mark" ∧ w.h = st.own)) :
    (st.learn w).marks w = (decide (w.k = "say") && ((st.learn w).known.filter fun u : Wrd => decide (u.k = ("mark" : Str)) && (decide (u.n = w.n) && decide (u.h = st.own))).isEmpty) := by
  unfold HS.marks
  congr 1
  have hm := m.learn o w.n
  cases e : ((st.learn w).known.filter fun u : Wrd => decide (u.k = ("mark" : Str)) && (decide (u.n = w.n) && decide (u.h = st.own))) with
  | nil =>
    rw [decide_eq_false fun q => ?_]
    · rfl
    · obtain ⟨u, h1, h2, h3, h4⟩ := hm.mp q
      have : u ∈ ((st.learn w).known.filter fun u : Wrd => decide (u.k = ("mark" : Str)) && (decide (u.n = w.n) && decide (u.h = st.own))) := List.mem_filter.mpr ⟨h1, by
        have h4 : u.h = st.own := h4
        simp [h2, h3, h4]⟩
      rw [e] at this
      cases this
  | cons u l =>
    have hu : u ∈ ((st.learn w).known.filter fun u : Wrd => decide (u.k = ("mark" : Str)) && (decide (u.n = w.n) && decide (u.h = st.own))) := by rw [e]; exact List.mem_cons_self ..
    obtain ⟨h1, h2⟩ := List.mem_filter.mp hu
    simp only [Bool.and_eq_true, decide_eq_true_eq] at h2
    rw [decide_eq_true (hm.mpr ⟨u, h1, h2.1, h2.2.1, h2.2.2⟩)]
    rfl
end HM
/-! things that are held with their copies: pairs of two equal things -/
namespace LM
open PySem L2
section
variable {K : PySem.W.Frag}
/-- two equal things: of data, or dicts of flat values -/
def EqX (K : PySem.W.Frag) (H : Hp) (a b : V) : Prop := (∃ d, Dp K H a d ∧ Dp K H b d ∧ SeqAt.shaped d = true) ∨ ∃ p q kvs, a = .ref p ∧ b = .ref q ∧ H p = some (.dK kvs) ∧ H q = some (.dK kvs) ∧ (kvs.map (·.1)).Nodup ∧ ∀ e ∈ kvs, flatB e.2 = true
theorem EqX.up {H H' : Hp} {a b : V} (e : Same H H') (h : EqX K H a b) : EqX K H' a b := by
  rcases h with ⟨d, h1, h2, h3⟩ | ⟨p, q, kvs, h1, h2, h3, h4, h5, h6⟩
  · exact .inl ⟨d, dp_up e h1, dp_up e h2, h3⟩
  · exact .inr ⟨p, q, kvs, h1, h2, e _ _ h3, e _ _ h4, h5, h6⟩
theorem EqX.ne {H : Hp} {a b : V} {Q : VK} (h : EqX K H a b) (q : Q (.bl false) H) : LH.rNeX K a b H Q := by
  rcases h with ⟨d, h1, h2, h3⟩ | ⟨p, r, kvs, rfl, rfl, h3, h4, h5, h6⟩
  · refine .inl ⟨d, d, h1, h2, h3, h3, ?_⟩
    have e : PyData.eqv d d = true := by
      unfold SeqAt.shaped at h3
      rw [Bool.and_eq_true] at h3
      exact SeqAt.eqv_refl _ h3.1
    rw [e]
    exact q
  · exact .inr ⟨p, r, kvs, kvs, rfl, rfl, h3, h4, rfl, fun e he => ⟨HM.valV_self h5 e he, h6 e he⟩, q⟩
/-- a pair that is held -/
def Hd (K : PySem.W.Frag) (H : Hp) (x : V) : Prop := ∃ t a b, x = .ref t ∧ H t = some (.tup [a, b]) ∧ EqX K H a b
theorem Hd.up {H H' : Hp} {x : V} (e : Same H H') (h : Hd K H x) : Hd K H' x := let ⟨t, a, b, h1, h2, h3⟩ := h; ⟨t, a, b, h1, e _ _ h2, h3.up e⟩
theorem dp_ints {H : Hp} : ∀ ns : List Int, DpAll K H (ns.map V.int) (ns.map PyData.int)
  | [] => .nil
  | n :: ns => .cons (.int n) (dp_ints ns)
theorem lay_ints (ns : List Int) : Lay 2 (.list (ns.map PyData.int)) := lay_list fun d hd => by
  obtain ⟨n, _, rfl⟩ := List.mem_map.mp hd
  exact lay_int _
theorem fr_put {M : List Addr} {H : Hp} {d : Addr} {o : HO} (m : d ∈ M) : Same (LH.Fr M H) (LH.Fr M (upd H d o)) := fun b u h => by
  obtain ⟨h1, h2⟩ := LH.fr_some h
  exact LH.fr_of (by rw [upd_ne (fun e : b = d => h2 (by rw [e]; exact m))]; exact h1) h2
end
end LM
namespace LH
open PySem L2
section
variable {K : PySem.W.Frag} {σ : L2.St} {H : Hp} {Q : VK} {te : TE}
def Bm0V (K : PySem.W.Frag) (T : String) (r : V → List V → Hp → VK → Prop) (x : V) (H1 : Hp) (Q : VK) : Prop := tyV K T x H1 ∧ r x [] H1 Q
theorem x_bm0 {T : String} {r : V → List V → Hp → VK → Prop} (h : te σ H fun x H1 => Bm0V K T r x H1 Q) : tBM0 K T r te σ H Q := h
theorem bm0_l {r : V → List V → Hp → VK → Prop} {p : Addr} {xs : List V} (h : SqL K H p xs) (q : r (.ref p) [] H Q) : Bm0V K "list" r (.ref p) H Q := ⟨.inl ⟨rfl, _, h⟩, q⟩
theorem bm0_dc {p : Addr} {kvs : List (Key × V)} (h : H p = some (.dK kvs)) (q : ∀ H', Kp p H H' → Q .non H') : Bm0V K "dict" rDClear (.ref p) H Q := ⟨.inr (.inr (.inl ⟨rfl, .inl ⟨_, h⟩⟩)), p, kvs, rfl, rfl, h, q _ Kp.upd⟩
end
end LH
namespace LH
open PySem L2
section
variable {K : PySem.W.Frag} {σ : L2.St} {H : Hp} {Q : VK} {te : TE} {t : TT}
theorem fr_upd {D : Addr} {H : Hp} {o : HO} : Fr [D] (L2.upd H D o) = Fr [D] H := by
  funext b
  unfold Fr
  by_cases c : b ∈ [D]
  · rw [if_pos c, if_pos c]
  · rw [if_neg c, if_neg c, upd_ne fun e => c (List.mem_singleton.mpr e)]
/-- a comprehension over a list, what stands beside the new list told by P -/
theorem lc_LI {a : Addr} {xs : List V} {j : Nat} {vs : List Nat} (hx : SqL K H a xs) (hz : xs.length ≤ 100000) (P : Nat → List V → Hp → Prop)
    (hw : ∀ x, wipe ((wipe σ vs).set j (some x)) vs = wipe σ vs) (h0 : ∀ D, H D = none → P 0 [] (Fr [D] H))
    (ht : ∀ (i : Nat) x, xs[i]? = some x → ∀ H1 (Q : Bool → Hp → Prop), Q true H1 → t ((wipe σ vs).set j (some x)) H1 Q)
    (he : ∀ (i : Nat) x ys D H1, xs[i]? = some x → L2.Same H (Fr [D] H1) → H1 D = some (.lst ys) → P i ys (Fr [D] H1) → ∀ Q : VK, (∀ y H2, L2.Same H1 H2 → P (i + 1) (ys ++ [y]) (Fr [D] H2) → Q y H2) → te ((wipe σ vs).set j (some x)) H1 Q)
    (k : ∀ D H2 ys, H D = none → L2.Same H H2 → H2 D = some (.lst ys) → P xs.length ys (Fr [D] H2) → Q (.ref D) H2) : LcV K (gName j) t te vs σ (.ref a) H Q := by
  refine ⟨a, rfl, ⟨xs, hx⟩, fun D hD => ?_⟩
  refine lc_list (xs := xs) (fun i H' => L2.Same H (Fr [D] H') ∧ ∃ ys, H' D = some (.lst ys) ∧ ys.length ≤ i ∧ P i ys (Fr [D] H'))
    ⟨fr_same (M := []) hD (LH.Same.new hD), [], upd_same, Nat.le_refl _, by rw [fr_upd]; exact h0 D hD⟩ (fun i H' _ p => L2.Same.seq (p.1.trans fr_le) hx) ?_ ?_
  · rintro i x H' hi ⟨e0, ys, gD, ly, hy⟩
    have hlt : i < xs.length := (List.getElem?_eq_some_iff.mp hi).1
    refine ⟨hw x, ht i x hi _ _ ?_⟩
    rw [if_pos rfl]
    refine he i x ys D H' hi e0 gD hy _ fun y H3 e3 p3 => ⟨ys, e3 _ _ gD, sz' (by omega), ?_, ys ++ [y], upd_same, by rw [List.length_append]; exact Nat.add_le_add_right ly 1, ?_⟩
    · exact same_mut (e0.trans (same_fr e3)) Kp.upd
    · rw [fr_upd]
      exact p3
  · rintro H' ⟨e0, ys, gD, ly, hy⟩
    exact k D H' ys hD (e0.trans fr_le) gD hy
end
end LH
/-! set of a list of ints and its length; a dict comprehension over a range whose values are new objects; x not in a list of ints -/
namespace LH
open PySem PySem.Spec PyProof.Rows L2
section
variable {X : Cx}
/-- the set of ints at a -/
def SetI (P : Program) (w : World) (a : Addr) (S : Int → Bool) (n : Nat) : HO := .ext fun h => h.SetOf (intKind P w) a S n
theorem setI_at {P : Program} {w : World} {h h' : Heap} {a : Addr} {S : Int → Bool} {n : Nat} (R : h.SetOf (intKind P w) a S n) (k : ∀ o, h.get? a = some o → h'.get? a = some o) : h'.SetOf (intKind P w) a S n := by
  obtain ⟨o, es, ep, t, ho, r⟩ := R
  exact ⟨o, es, ep, t, k o ho, r⟩
theorem setI_new {w : World} {P : Program} {H : Hp} {h : Heap} {a : Addr} {S : Int → Bool} {n : Nat} (R : h.SetOf (intKind P w) a S n) : ObjOk P w H h a (SetI P w a S n) := by
  have ⟨o, _, _, _, ho, _⟩ := R
  exact ⟨R, ⟨o, ho⟩, fun h1 h2 p k => setI_at p k⟩
theorem setI_get {pins : List (Addr × Obj)} {σ : L2.St} {H : Hp} {s : Shared} {a : Addr} {S : Int → Bool} {n : Nat} (I : Inv X pins σ H s) (ha : H a = some (SetI X.prog X.w a S n)) : s.heap.SetOf (intKind X.prog X.w) a S n := (I.hok a _ ha).1
def rSetI (K : PySem.W.Frag) (P : Program) (w : World) : List V → Hp → VK → Prop := fun xs H Q => ∃ (l : Addr) (ns : List Int), xs = [V.ref l] ∧ SqL K H l (ns.map V.int) ∧ ns.length < 60 ∧ ∀ p S, H p = none → Q (.ref p) (upd H p (SetI P w p S (dist ns).length))
theorem cr_setI (calm : X.calm = true) : CallR X (.type "set") (rSetI X.K X.prog X.w) := by
  intro pins s σ H xs us Q I r h
  obtain ⟨l, ns, rfl, sq, hl, q⟩ := h
  obtain ⟨u, rfl, ru⟩ := r.one
  have eu : u = Value.ref l := ru
  rw [eu]
  obtain ⟨its, vals, plain, _⟩ := I.list sq
  have size : its.toArray.size = ns.length := by
    rw [List.size_toArray, ← vals.length, List.length_map]
  refine call_set_list (I.ok.hd calm) plain.isList (ns := ns) (by simpa using vals.ints) (by unfold scanBound; omega) fun h' tk made kept => ?_
  rw [size] at made
  have there : ∃ u, h'.get? s.heap.objs.size = some u := by
    obtain ⟨o, _, _, _, ho, _⟩ := id made
    exact ⟨o, ho⟩
  exact ⟨.ref _, upd H s.heap.objs.size (SetI X.prog X.w s.heap.objs.size (fun k' => (firstMet (fun i => ns.getD i 0) ns.length).any fun x => x == k') (dist ns).length), I.laid (t' := tk) (fun b u e => kept b u (Heap.lt_size e) e) (Nat.le_refl _) (setI_new made), rfl, q _ _ (I.hok.fresh (Nat.le_refl _))⟩
def rLenI (P : Program) (w : World) : List V → Hp → VK → Prop := fun xs H Q => ∃ (a : Addr) (S : Int → Bool) (n : Nat), xs = [.ref a] ∧ H a = some (SetI P w a S n) ∧ Q (.int n) H
theorem call_lenI : CallR X (.builtin "len") (rLenI X.prog X.w) := by
  intro pins s σ H xs us Q I r h
  obtain ⟨a, S, n, rfl, ha, q⟩ := h
  obtain ⟨u, rfl, ru⟩ := r.one
  have eu : u = Value.ref a := ru
  rw [eu]
  obtain ⟨o, es, ep, t, at_, exact_, data, _, _, small, fits, count⟩ := setI_get I ha
  refine call_len_set at_ exact_ data fits (by unfold scanBound at small; omega) ⟨.int n, H, I.tok _, ⟨_, by rw [count]⟩, q⟩
end
end LH
namespace LH
open PySem L2
section
variable {P : Program} {w : World} {K : PySem.W.Frag} {σ : L2.St} {H : Hp} {Q : VK} {te tk tv : TE} {tr : TA} {t : TT} {g : TG}
theorem x_setI {l : Addr} {ns : List Int} (h : SqL K H l (ns.map V.int)) (hl : ns.length < 60) (q : ∀ p S H2, H p = none → L2.Same H H2 → H2 p = some (SetI P w p S (dist ns).length) → Q (.ref p) H2) : rSetI K P w [.ref l] H Q :=
  ⟨l, ns, rfl, h, hl, fun p S hp => q p S _ hp (LH.Same.new hp) upd_same⟩
theorem x_lenI {a : Addr} {S : Int → Bool} {n : Nat} (h : H a = some (SetI P w a S n)) (q : Q (.int n) H) : rLenI P w [.ref a] H Q := ⟨a, S, n, rfl, h, q⟩
/-- x not in a list of ints -/
theorem inV_ints {i : Int} : ∀ ns : List Int, inV (.int i) (ns.map V.int) = decide (i ∈ ns)
  | [] => rfl
  | n :: ns => by
    have ih := inV_ints (i := i) ns
    unfold inV at ih ⊢
    rw [List.map_cons, List.any_cons, ih]
    by_cases c : n = i
    · simp [c, eqV]
    · have c2 : ¬ i = n := fun e => c e.symm
      simp [c, c2, eqV]
theorem flat_ints : ∀ ns : List Int, (ns.map V.int).all flatV = true
  | [] => rfl
  | n :: ns => by rw [List.map_cons, List.all_cons, flat_ints ns]; rfl
theorem x_notInI {l : Addr} {ns : List Int} {i : Int} (h : SqL K H l (ns.map V.int)) (q : Q (.bl (!decide (i ∈ ns))) H) : rIn K true (.int i) (.ref l) H Q := ⟨l, _, rfl, .inl h, rfl, flat_ints ns, by rw [inV_ints]; exact q⟩
theorem x_inI {l : Addr} {ns : List Int} {i : Int} (h : SqL K H l (ns.map V.int)) (q : Q (.bl (decide (i ∈ ns))) H) : rIn K false (.int i) (.ref l) H Q := ⟨l, _, rfl, .inl h, rfl, flat_ints ns, by rw [inV_ints]; exact q⟩
/-! {i: value for i in range(n) if ..} -/
def DcJ (J : It) (g : TG) (t : TT) (tk tv : TE) (vs : List Nat) (σ : L2.St) (H1 : Hp) (Q : VK) : Prop :=
  ∀ D, H1 D = none → ∃ W : Nat → Nat → Hp → Prop, (∃ m, W 0 m (upd H1 D (.dK []))) ∧ ∀ i m H, W i m H →
  (J.stop i H ∧ Q (.ref D) H) ∨ (J.go i H ∧ ∃ Nx : Hp → Prop, (∀ H', Nx H' → ∃ m', m' < m ∧ W (i + 1) m' H') ∧ ∀ x H', J.yld i H x H' → g x (wipe σ vs) H' fun σ2 H2 => wipe σ2 vs = wipe σ vs ∧ t σ2 H2 fun b H3 =>
    if b = true then tk σ2 H3 fun y H4 => tv σ2 H4 fun z H5 => ∃ kvs k, y = kV k ∧ H5 D = some (.dK kvs) ∧ kvs.length < sizeLine ∧ Nx (upd H5 D (.dK (putK kvs k z))) else Nx H3)
theorem x_dcR {vs : List Nat} (h : tr σ H fun x H1 => Rn1V x H1 fun J H2 => DcJ J g t tk tv vs σ H2 Q) : tDc (iRng1 tr) g t tk tv vs σ H Q := h
theorem dc_RI {n j : Nat} {vs : List Nat} (hz : n ≤ 100000) (f : Nat → Bool) (P : Nat → List (Key × V) → Hp → Prop) (hw : ∀ x, wipe ((wipe σ vs).set j (some x)) vs = wipe σ vs)
    (hl : ∀ i kvs F, P i kvs F → kvs.length ≤ i) (h0 : ∀ D, H D = none → P 0 [] (Fr [D] H)) (hs : ∀ i kvs F, f i = false → P i kvs F → P (i + 1) kvs F)
    (ht : ∀ i, i < n → ∀ H1, L2.Same H H1 → ∀ Q : Bool → Hp → Prop, Q (f i) H1 → t ((wipe σ vs).set j (some (.int (0 + (i : Nat))))) H1 Q)
    (hk : ∀ i, i < n → ∀ H1 (Q : VK), Q (.int (i : Nat)) H1 → tk ((wipe σ vs).set j (some (.int (0 + (i : Nat))))) H1 Q)
    (he : ∀ i kvs D H1, i < n → f i = true → L2.Same H (Fr [D] H1) → H1 D = some (.dK kvs) → P i kvs (Fr [D] H1) → ∀ Q : VK, (∀ z H2, L2.Same H1 H2 → P (i + 1) (putK kvs (.inl (i : Nat)) z) (Fr [D] H2) → Q z H2) → tv ((wipe σ vs).set j (some (.int (0 + (i : Nat))))) H1 Q)
    (k : ∀ D H2 kvs, H D = none → L2.Same H H2 → H2 D = some (.dK kvs) → P n kvs (Fr [D] H2) → Q (.ref D) H2) : DcJ (Itr 0 n) (gName j) t tk tv vs σ H Q := by
  intro D hD
  refine ⟨fun i m H' => m = n - i ∧ i ≤ n ∧ L2.Same H (Fr [D] H') ∧ ∃ kvs, H' D = some (.dK kvs) ∧ P i kvs (Fr [D] H'), ⟨n, rfl, Nat.zero_le _, fr_same (M := []) hD (LH.Same.new hD), [], upd_same, by rw [fr_upd]; exact h0 D hD⟩, ?_⟩
  rintro i m H' ⟨rfl, hi, e, kvs, gD, p⟩
  by_cases hlt : i < n
  · refine .inr ⟨hlt, fun H2 => L2.Same H (Fr [D] H2) ∧ ∃ kvs, H2 D = some (.dK kvs) ∧ P (i + 1) kvs (Fr [D] H2), fun H2 p2 => ⟨n - (i + 1), by omega, rfl, hlt, p2⟩, fun x H2 y => ?_⟩
    obtain ⟨rfl, rfl⟩ := y
    refine ⟨hw _, ht i hlt _ (e.trans fr_le) _ ?_⟩
    cases hf : f i with
    | true =>
      rw [if_pos rfl]
      refine hk i hlt _ _ ?_
      refine he i kvs D H2 hlt hf e gD p _ fun z H3 e3 p3 => ⟨kvs, .inl (i : Nat), rfl, e3 _ _ gD, sz' (by have := hl _ _ _ p; omega), ?_, _, upd_same, ?_⟩
      · exact same_mut (e.trans (same_fr e3)) Kp.upd
      · rw [fr_upd]
        exact p3
    | false =>
      rw [if_neg Bool.false_ne_true]
      exact ⟨e, kvs, gD, hs _ _ _ hf p⟩
  · have e2 : i = n := by omega
    subst e2
    exact .inl ⟨Nat.le_refl _, k D H' kvs hD (e.trans fr_le) gD p⟩
end
end LH
/-! a town: its going as plain mathematics, and how it stands in a heap -/
namespace TN
open PySem L2 LM HM
/-! ### the going -/
structure Ltr where
  n : Int
  s : Int
  r : Int
  w : Wrd
structure TSt where
  c : Int
  hn : List Int
  st : Int → HS
  n : Int
  lt : List Ltr
  sp : List Wrd
def setI {α : Type} (f : Int → α) (x : Int) (v : α) : Int → α := fun y => if y = x then v else f y
theorem setI_same {α : Type} {f : Int → α} {x : Int} {v : α} : setI f x v x = v := if_pos rfl
theorem setI_other {α : Type} {f : Int → α} {x y : Int} {v : α} (h : y ≠ x) : setI f x v y = f y := if_neg h
def TSt.send (ts : TSt) (s r : Int) (w : Wrd) : TSt := { ts with lt := ts.lt ++ [⟨ts.n, s, r, w⟩], n := ts.n + 1 }
def TSt.speak (ts : TSt) (w : Wrd) : TSt := { ts with sp := HM.learn ts.sp w }
/-- to the first i houses but s -/
def TSt.sends (ts : TSt) (s : Int) (w : Wrd) : Nat → TSt
  | 0 => ts
  | i + 1 => if (i : Int) = s then ts.sends s w i else (ts.sends s w i).send s i w
def TSt.tell1 (ts : TSt) (s : Int) (w : Wrd) : TSt := (ts.speak w).sends s w ts.c.toNat
def TSt.tell (ts : TSt) (s : Int) : List Wrd → TSt
  | [] => ts
  | w :: ws => (ts.tell1 s w).tell s ws
def TSt.put (ts : TSt) (x : Int) (st : HS) : TSt := { ts with st := setI ts.st x st }
def TSt.call (ts : TSt) (x : Int) (z : Str) : TSt := (ts.put x ((ts.st x).call z)).tell x ((ts.st x).callT z)
def TSt.take (ts : TSt) (i : Int) : TSt := { ts with lt := ts.lt.filter fun l => !decide (l.n = i) }
def TSt.bring (ts : TSt) (l : Ltr) : TSt := if l.r ∈ ts.hn then ((ts.take l.n).put l.r ((ts.st l.r).hear l.w)).tell l.r ((ts.st l.r).hearT l.w) else ts.take l.n
def TSt.bringT (ts : TSt) (l : Ltr) : List Wrd := if l.r ∈ ts.hn then (ts.st l.r).hearT l.w else []
def TSt.lie (ts : TSt) (s r : Int) (w : Wrd) : TSt := (ts.speak w).send s r w
def TSt.new (c : Int) (hn : List Int) : TSt := ⟨c, hn, fun x => HS.new c x, 0, [], []⟩
def FitW (c : Int) (w : Wrd) : Prop := w.Ok ∧ 0 ≤ w.h ∧ w.h < c
structure GT (ts : TSt) : Prop where
  c1 : 1 ≤ ts.c
  c2 : ts.c ≤ 12
  nd : ts.hn.Nodup
  hb : ∀ x ∈ ts.hn, 0 ≤ x ∧ x < ts.c
  hc : ∀ x ∈ ts.hn, (ts.st x).c = ts.c ∧ (ts.st x).own = x
  ln : (ts.lt.map (·.n)).Nodup
  lb : ∀ l ∈ ts.lt, 0 ≤ l.n ∧ l.n < ts.n
  n0 : 0 ≤ ts.n
  lw : ∀ l ∈ ts.lt, FitW ts.c l.w ∧ 0 ≤ l.s ∧ l.s < ts.c ∧ 0 ≤ l.r ∧ l.r < ts.c
  sw : ∀ w ∈ ts.sp, FitW ts.c w
  sn : ts.sp.Nodup
theorem GT.new {c : Int} {hn : List Int} (c1 : 1 ≤ c) (c2 : c ≤ 12) (nd : hn.Nodup) (hb : ∀ x ∈ hn, 0 ≤ x ∧ x < c) : GT (TSt.new c hn) :=
  ⟨c1, c2, nd, hb, fun _ _ => ⟨rfl, rfl⟩, List.nodup_nil, (fun _ h => nomatch h), Int.le_refl _, (fun _ h => nomatch h), (fun _ h => nomatch h), List.nodup_nil⟩
theorem GT.speak {ts : TSt} {w : Wrd} (g : GT ts) (f : FitW ts.c w) : GT (ts.speak w) :=
  ⟨g.c1, g.c2, g.nd, g.hb, g.hc, g.ln, g.lb, g.n0, g.lw, fun u hu => (mem_learn.mp hu).elim (g.sw u) fun e => e ▸ f, nodup_learn g.sn⟩
theorem GT.send {ts : TSt} {s r : Int} {w : Wrd} (g : GT ts) (f : FitW ts.c w) (s1 : 0 ≤ s) (s2 : s < ts.c) (r1 : 0 ≤ r) (r2 : r < ts.c) : GT (ts.send s r w) := by
  refine ⟨g.c1, g.c2, g.nd, g.hb, g.hc, ?_, fun l hl => ?_, ?_, fun l hl => ?_, g.sw, g.sn⟩
  · show ((ts.lt ++ [(⟨ts.n, s, r, w⟩ : Ltr)]).map (·.n)).Nodup
    rw [List.map_append]
    refine List.nodup_append.mpr ⟨g.ln, by simp, fun a ha b hb e => ?_⟩
    obtain ⟨l, hl, rfl⟩ := List.mem_map.mp ha
    have : b = ts.n := by simpa using hb
    have := (g.lb l hl).2
    omega
  · show 0 ≤ l.n ∧ l.n < ts.n + 1
    have n0 := g.n0
    rcases List.mem_append.mp hl with hl | hl
    · have := g.lb l hl
      omega
    · rw [List.mem_singleton.mp hl]
      exact ⟨n0, by show ts.n < ts.n + 1; omega⟩
  · show 0 ≤ ts.n + 1
    have := g.n0
    omega
  · rcases List.mem_append.mp hl with hl | hl
    · exact g.lw l hl
    · rw [List.mem_singleton.mp hl]
      exact ⟨f, s1, s2, r1, r2⟩
theorem sends_same {ts : TSt} {s : Int} {w : Wrd} : ∀ i, (ts.sends s w i).c = ts.c ∧ (ts.sends s w i).hn = ts.hn ∧ (ts.sends s w i).st = ts.st ∧ (ts.sends s w i).sp = ts.sp
  | 0 => ⟨rfl, rfl, rfl, rfl⟩
  | i + 1 => by
    have ih := sends_same (ts := ts) (s := s) (w := w) i
    unfold TSt.sends
    split
    · exact ih
    · exact ih
theorem sends_lt {ts : TSt} {s : Int} {w : Wrd} : ∀ i, (ts.sends s w i).lt.length ≤ ts.lt.length + i
  | 0 => Nat.le_refl _
  | i + 1 => by
    have ih := sends_lt (ts := ts) (s := s) (w := w) i
    unfold TSt.sends
    split
    · omega
    · show ((ts.sends s w i).lt ++ [_]).length ≤ _
      rw [List.length_append, List.length_singleton]
      omega
theorem GT.sends {ts : TSt} {s : Int} {w : Wrd} (g : GT ts) (f : FitW ts.c w) (s1 : 0 ≤ s) (s2 : s < ts.c) : ∀ i : Nat, (i : Int) ≤ ts.c → GT (ts.sends s w i)
  | 0, _ => g
  | i + 1, hi => by
    have ih := GT.sends g f s1 s2 i (by omega)
    obtain ⟨e1, _⟩ := sends_same (ts := ts) (s := s) (w := w) i
    unfold TSt.sends
    split
    · exact ih
    · exact ih.send (by rw [e1]; exact f) s1 (by rw [e1]; exact s2) (by omega) (by rw [e1]; omega)
theorem tell1_same {ts : TSt} {s : Int} {w : Wrd} : (ts.tell1 s w).c = ts.c ∧ (ts.tell1 s w).hn = ts.hn ∧ (ts.tell1 s w).st = ts.st := by
  obtain ⟨h1, h2, h3, _⟩ := sends_same (ts := ts.speak w) (s := s) (w := w) ts.c.toNat
  exact ⟨h1, h2, h3⟩
theorem tell_same : ∀ {ws : List Wrd} {ts : TSt} {s : Int}, (ts.tell s ws).c = ts.c ∧ (ts.tell s ws).hn = ts.hn ∧ (ts.tell s ws).st = ts.st
  | [], _, _ => ⟨rfl, rfl, rfl⟩
  | w :: ws, ts, s => by
    obtain ⟨h1, h2, h3⟩ := tell_same (ws := ws) (ts := ts.tell1 s w) (s := s)
    obtain ⟨g1, g2, g3⟩ := tell1_same (ts := ts) (s := s) (w := w)
    exact ⟨h1.trans g1, h2.trans g2, h3.trans g3⟩
theorem GT.tell1 {ts : TSt} {s : Int} {w : Wrd} (g : GT ts) (f : FitW ts.c w) (s1 : 0 ≤ s) (s2 : s < ts.c) : GT (ts.tell1 s w) :=
  GT.sends (g.speak f) f s1 s2 _ (by have := g.c1; show ((ts.c.toNat : Nat) : Int) ≤ ts.c; omega)
theorem GT.tell {s : Int} : ∀ {ws : List Wrd} {ts : TSt}, GT ts → (∀ w ∈ ws, FitW ts.c w) → 0 ≤ s → s < ts.c → GT (ts.tell s ws)
  | [], _, g, _, _, _ => g
  | w :: ws, ts, g, f, s1, s2 => by
    obtain ⟨e, _⟩ := tell1_same (ts := ts) (s := s) (w := w)
    exact GT.tell (ws := ws) (g.tell1 (f w (List.mem_cons_self ..)) s1 s2) (fun u hu => by rw [e]; exact f u (List.mem_cons.mpr (.inr hu))) s1 (by rw [e]; exact s2)
theorem GT.put {ts : TSt} {x : Int} {st : HS} (g : GT ts) (e : x ∈ ts.hn → st.c = ts.c ∧ st.own = x) : GT (ts.put x st) :=
  ⟨g.c1, g.c2, g.nd, g.hb, fun y hy => by
    show (setI ts.st x st y).c = ts.c ∧ (setI ts.st x st y).own = y
    by_cases c : y = x
    · subst c
      rw [setI_same]
      exact e hy
    · rw [setI_other c]
      exact g.hc y hy, g.ln, g.lb, g.n0, g.lw, g.sw, g.sn⟩
theorem GT.take {ts : TSt} {i : Int} (g : GT ts) : GT (ts.take i) :=
  ⟨g.c1, g.c2, g.nd, g.hb, g.hc, g.ln.sublist ((List.filter_sublist).map _), fun l hl => g.lb l (List.mem_filter.mp hl).1, g.n0, fun l hl => g.lw l (List.mem_filter.mp hl).1, g.sw, g.sn⟩
theorem learn_le {l : List Wrd} {w : Wrd} : (HM.learn l w).length ≤ l.length + 1 := learn_len
theorem tell1_len {ts : TSt} {s : Int} {w : Wrd} (c2 : ts.c ≤ 12) : (ts.tell1 s w).lt.length ≤ ts.lt.length + 12 ∧ (ts.tell1 s w).sp.length ≤ ts.sp.length + 1 := by
  have h1 := sends_lt (ts := ts.speak w) (s := s) (w := w) ts.c.toNat
  obtain ⟨_, _, _, h2⟩ := sends_same (ts := ts.speak w) (s := s) (w := w) ts.c.toNat
  refine ⟨?_, ?_⟩
  · show ((ts.speak w).sends s w ts.c.toNat).lt.length ≤ _
    have : (ts.speak w).lt.length = ts.lt.length := rfl
    omega
  · show ((ts.speak w).sends s w ts.c.toNat).sp.length ≤ _
    rw [h2]
    exact learn_le
theorem tell_len {s : Int} : ∀ {ws : List Wrd} {ts : TSt}, ts.c ≤ 12 → (ts.tell s ws).lt.length ≤ ts.lt.length + 12 * ws.length ∧ (ts.tell s ws).sp.length ≤ ts.sp.length + ws.length
  | [], _, _ => ⟨Nat.le_refl _, Nat.le_refl _⟩
  | w :: ws, ts, c2 => by
    obtain ⟨e, _⟩ := tell1_same (ts := ts) (s := s) (w := w)
    obtain ⟨h1, h2⟩ := tell_len (s := s) (ws := ws) (ts := ts.tell1 s w) (by rw [e]; exact c2)
    obtain ⟨h3, h4⟩ := tell1_len (ts := ts) (s := s) (w := w) c2
    show ((ts.tell1 s w).tell s ws).lt.length ≤ _ ∧ ((ts.tell1 s w).tell s ws).sp.length ≤ _
    rw [List.length_cons]
    omega
/-! what a house tells is known to it -/
theorem mark_tells {st : HS} {u x : Wrd} (h : x ∈ st.markT u) : x ∈ (st.mark u).known := by
  unfold HS.markT at h
  unfold HS.mark
  split at h
  · rename_i c
    rw [if_pos c, List.mem_singleton.mp h]
    exact mem_learn.mpr (.inr rfl)
  · cases h
theorem name_known {st : HS} {w : Wrd} : (st.name w).known = st.known := by
  unfold HS.name
  split <;> rfl
theorem hear_tells {st : HS} {u x : Wrd} (h : x ∈ st.hearT u) : x ∈ (st.hear u).known := by
  unfold HS.hearT at h
  unfold HS.hear
  split at h
  · cases h
  · rename_i c
    rw [if_neg c, name_known, write_known]
    rcases List.mem_append.mp h with h | h
    · rcases List.mem_append.mp h with h | h
      · exact mark_tells h
      · unfold HS.backT at h
        split at h
        · exact (List.mem_filter.mp (mem_rise h)).1
        · cases h
    · unfold HS.nameT at h
      split at h
      · have kn : u ∈ (((st.learn u).mark u).write u).known := by rw [write_known]; exact mark_known (mem_learn.mpr (.inr rfl))
        simp only [List.mem_cons, List.not_mem_nil, or_false] at h
        rcases h with rfl | rfl
        · have := (first_mem kn).1
          rwa [write_known] at this
        · rwa [write_known] at kn
      · cases h
theorem hear_fit {st : HS} {u x : Wrd} (g : Good st) (f : FitW st.c u) (h : x ∈ st.hearT u) : FitW st.c x := by
  have := (g.hear f).wd x (hear_tells h)
  rwa [hear_same.1] at this
theorem hear_len {st : HS} {u : Wrd} (c2 : st.c ≤ 12) : (st.hearT u).length ≤ 15 := by
  unfold HS.hearT
  split
  · simp
  · rw [List.length_append, List.length_append]
    have h1 : ((st.learn u).markT u).length ≤ 1 := by unfold HS.markT; split <;> simp
    have h2 : (((st.learn u).mark u).backT u).length ≤ 12 := by
      unfold HS.backT
      split
      · refine Nat.le_trans (?_ : _ ≤ ((List.range st.c.toNat).length)) (by rw [List.length_range]; omega)
        have e : ((st.learn u).mark u).c = st.c := mark_same.1
        rw [e]
        exact List.length_filterMap_le _ _
      · simp
    have h3 : ((((st.learn u).mark u).write u).nameT u).length ≤ 2 := by unfold HS.nameT; split <;> simp
    omega
theorem call_fit {st : HS} {z : Str} {x : Wrd} (g : Good st) (o : LM.Ok z) (h : x ∈ st.callT z) : FitW st.c x := by
  have g2 : Good ({ st with due := st.due + st.c } : HS) := ⟨g.c1, g.c2, g.o1, g.o2, g.nd, g.wd, g.mn, g.rn, g.bn, g.nn, g.rk, g.bk, g.nk⟩
  have f : FitW st.c (sayOf st z) := ⟨⟨ok_sayW, o⟩, g.o1, g.o2⟩
  rcases List.mem_cons.mp h with rfl | h
  · exact f
  · exact hear_fit (st := { st with due := st.due + st.c }) g2 f h
theorem call_len {st : HS} {z : Str} (c2 : st.c ≤ 12) : (st.callT z).length ≤ 16 := by
  have := hear_len (st := { st with due := st.due + st.c }) (u := sayOf st z) c2
  show (_ :: _).length ≤ 16
  rw [List.length_cons]
  omega
end TN
/-! a town in a heap -/
namespace TN
open PySem L2 LM HM
structure TAd where
  p : Addr
  hd : Addr
  po : Addr
  pd : Addr
  sp : Addr
def TAd.S (a : TAd) : List Addr := [a.p, a.hd, a.po, a.pd, a.sp]
def tf (a : TAd) (c : Int) : List (Str × V) := [("_count", .int c), ("_honest", .ref a.hd), ("_post", .ref a.po), ("_spoken", .ref a.sp)]
def pof (a : TAd) (n : Int) : List (Str × V) := [("_due", .int n), ("_letters", .ref a.pd)]
def hnK (h : Int → HA) (hn : List Int) : List (Key × V) := hn.map fun x => ((.inl x : Key), V.ref (h x).p)
def LtAt (F : Hp) (e : Key × V) (l : Ltr) : Prop := e.1 = .inl l.n ∧ ∃ t v, e.2 = .ref t ∧ F t = some (.tup [.int l.s, .int l.r, v]) ∧ WT F v l.w
theorem LtAt.up {F F' : Hp} {e : Key × V} {l : Ltr} (s : Same F F') (h : LtAt F e l) : LtAt F' e l := let ⟨h1, t, v, h2, h3, h4⟩ := h; ⟨h1, t, v, h2, s _ _ h3, h4.up s⟩
theorem HouseAt.noTup {C : Addr} {F H : Hp} {a : HA} {st : HS} (h : HouseAt C F H a st) {b : Addr} (hb : b ∈ a.S) (xs : List V) : H b ≠ some (.tup xs) := fun g => by
  unfold HA.S at hb
  simp only [List.mem_cons] at hb
  rcases hb with rfl | rfl | rfl | rfl | rfl | rfl | rfl | rfl | hb
  · obtain ⟨dx, q⟩ := h.ob; rw [g] at q; cases q
  · obtain ⟨k, q, _⟩ := h.kn; rw [g] at q; cases q
  · obtain ⟨k, q, _⟩ := h.ea; rw [g] at q; cases q
  · obtain ⟨k, q, _⟩ := h.ma; rw [g] at q; cases q
  · have q := h.ms.dt; rw [g] at q; cases q
  · have q := h.ro; unfold PRo at q; rw [g] at q; cases q
  · obtain ⟨k, q, _⟩ := h.ba; rw [g] at q; cases q
  · obtain ⟨k, q, _⟩ := h.nm; rw [g] at q; cases q
  · obtain ⟨e, he, rfl⟩ := List.mem_map.mp hb
    obtain ⟨k, q, _⟩ := h.ms.inn e he
    rw [g] at q
    cases q
/-- all places of a town that may change -/
def places (a : TAd) (h : Int → HA) (hn : List Int) : List Addr := a.S ++ hn.flatMap fun x => (h x).S
theorem mem_places {a : TAd} {h : Int → HA} {hn : List Int} {b : Addr} : b ∈ places a h hn ↔ b ∈ a.S ∨ ∃ x ∈ hn, b ∈ (h x).S := by
  unfold places
  rw [List.mem_append, List.mem_flatMap]
structure TownAt (CT CH CP : Addr) (M : List Addr) (H : Hp) (a : TAd) (h : Int → HA) (ts : TSt) : Prop where
  ob : ∃ dx, H a.p = some (.ins CT dx (tf a ts.c))
  hd : H a.hd = some (.dK (hnK h ts.hn))
  po : ∃ dx, H a.po = some (.ins CP dx (pof a ts.n))
  pd : ∃ kvs, H a.pd = some (.dK kvs) ∧ Paired (LtAt (LH.Fr M H)) kvs ts.lt
  sp : ∃ kvs : List (List Key × V), H a.sp = some (.dT kvs) ∧ kvs.map (·.1) = ts.sp.map ky
  hs : ∀ x ∈ ts.hn, HouseAt CH (LH.Fr M H) H (h x) (ts.st x)
  ds : ∀ x ∈ ts.hn, ∀ y ∈ ts.hn, x ≠ y → ∀ b ∈ (h x).S, b ∉ (h y).S
  fv : a.S.Nodup
  fd : ∀ x ∈ ts.hn, ∀ b ∈ (h x).S, b ∉ a.S
  inM : ∀ b ∈ places a h ts.hn, b ∈ M
  al : ∀ b ∈ M, ∃ o, H b = some o
  nt : ∀ b ∈ M, ∀ xs, H b ≠ some (.tup xs)
  go : GT ts
section
variable {CT CH CP : Addr} {M : List Addr} {H H' : Hp} {a : TAd} {h : Int → HA} {ts : TSt}
theorem TownAt.to {M' : List Addr} (S : TownAt CT CH CP M H a h ts) (f : Same (LH.Fr M H) (LH.Fr M' H')) (e : ∀ b o, b ∈ places a h ts.hn → H b = some o → H' b = some o) (i : ∀ b ∈ places a h ts.hn, b ∈ M') (al : ∀ b ∈ M', ∃ o, H' b = some o) (nt : ∀ b ∈ M', ∀ xs, H' b ≠ some (.tup xs)) : TownAt CT CH CP M' H' a h ts := by
  have s : ∀ b ∈ a.S, ∀ o, H b = some o → H' b = some o := fun b hb o => e b o (mem_places.mpr (.inl hb))
  refine ⟨let ⟨dx, q⟩ := S.ob; ⟨dx, s _ (by simp [TAd.S]) _ q⟩, s _ (by simp [TAd.S]) _ S.hd, let ⟨dx, q⟩ := S.po; ⟨dx, s _ (by simp [TAd.S]) _ q⟩, let ⟨k, q, r⟩ := S.pd; ⟨k, s _ (by simp [TAd.S]) _ q, LH.Paired.imp (fun _ _ z => z.up f) r⟩, let ⟨k, q, r⟩ := S.sp; ⟨k, s _ (by simp [TAd.S]) _ q, r⟩,
    fun x hx => (S.hs x hx).to f fun b o hb q => e b o (mem_places.mpr (.inr ⟨x, hx, hb⟩)) q, S.ds, S.fv, S.fd, i, al, nt, S.go⟩
theorem TownAt.same (S : TownAt CT CH CP M H a h ts) (e : Same H H') : TownAt CT CH CP M H' a h ts :=
  S.to (LH.same_fr e) (fun b o _ q => e _ _ q) S.inM (fun b hb => let ⟨o, q⟩ := S.al b hb; ⟨o, e _ _ q⟩) fun b hb xs q => by
    obtain ⟨o, q1⟩ := S.al b hb
    rw [e _ _ q1] at q
    injection q with q
    exact S.nt b hb xs (by rw [q1, q])
/-- other places changed -/
theorem TownAt.far {A : List Addr} (S : TownAt CT CH CP M H a h ts) (k : LH.Ks A H H') (dA : ∀ b ∈ places a h ts.hn, b ∉ A) {M' : List Addr} (f : Same (LH.Fr M H) (LH.Fr M' H')) (i : ∀ b ∈ places a h ts.hn, b ∈ M') (al : ∀ b ∈ M', ∃ o, H' b = some o) (nt : ∀ b ∈ M', ∀ xs, H' b ≠ some (.tup xs)) : TownAt CT CH CP M' H' a h ts :=
  S.to f (fun b o hb q => k b o q (dA b hb)) i al nt
/-- fewer places are left out -/
theorem TownAt.less {M' : List Addr} (S : TownAt CT CH CP M H a h ts) (s : ∀ b ∈ M', b ∈ M) (i : ∀ b ∈ places a h ts.hn, b ∈ M') : TownAt CT CH CP M' H a h ts :=
  S.to (fun b o q => by
    obtain ⟨q1, q2⟩ := LH.fr_some q
    exact LH.fr_of q1 fun m => q2 (s b m)) (fun _ _ _ q => q) i (fun b hb => S.al b (s b hb)) fun b hb => S.nt b (s b hb)
theorem TownAt.nes (S : TownAt CT CH CP M H a h ts) : a.p ≠ a.hd ∧ a.p ≠ a.po ∧ a.p ≠ a.pd ∧ a.p ≠ a.sp ∧ a.hd ≠ a.po ∧ a.hd ≠ a.pd ∧ a.hd ≠ a.sp ∧ a.po ≠ a.pd ∧ a.po ≠ a.sp ∧ a.pd ≠ a.sp := by
  have := S.fv
  unfold TAd.S at this
  simp only [List.nodup_cons, List.mem_cons, List.not_mem_nil, or_false, not_or, List.nodup_nil, and_true] at this
  obtain ⟨⟨a1, a2, a3, a4⟩, ⟨b1, b2, b3⟩, ⟨c1, c2⟩, d1⟩ := this
  exact ⟨a1, a2, a3, a4, b1, b2, b3, c1, c2, by simpa using d1⟩
/-- one of the five places put anew -/
theorem TownAt.frS (S : TownAt CT CH CP M H a h ts) {A : List Addr} (k : LH.Ks A H H') (sA : ∀ b ∈ A, b ∈ a.S) (al : ∀ b ∈ A, ∃ o, H' b = some o ∧ ∀ xs, o ≠ .tup xs) :
    Same (LH.Fr M H) (LH.Fr M H') ∧ (∀ b ∈ M, ∃ o, H' b = some o) ∧ (∀ b ∈ M, ∀ xs, H' b ≠ some (.tup xs)) ∧ (∀ x ∈ ts.hn, HouseAt CH (LH.Fr M H') H' (h x) (ts.st x)) := by
  have f : Same (LH.Fr M H) (LH.Fr M H') := k.frS fun b hb => S.inM b (mem_places.mpr (.inl (sA b hb)))
  refine ⟨f, fun b hb => ?_, fun b hb xs q => ?_, fun x hx => (S.hs x hx).to f fun b o hb q => k b o q fun m => S.fd x hx b hb (sA b m)⟩
  · by_cases c : b ∈ A
    · obtain ⟨o, q, _⟩ := al b c
      exact ⟨o, q⟩
    · obtain ⟨o, q⟩ := S.al b hb
      exact ⟨o, k b o q c⟩
  · by_cases c : b ∈ A
    · obtain ⟨o, q1, q2⟩ := al b c
      rw [q1] at q
      injection q with q
      exact q2 xs q
    · obtain ⟨o, q1⟩ := S.al b hb
      rw [k b o q1 c] at q
      injection q with q
      exact S.nt b hb xs (by rw [q1, q])
theorem keys_put {kvs : List (List Key × V)} {l : List Wrd} {w : Wrd} {v : V} (e : kvs.map (·.1) = l.map ky) : (putK kvs (ky w) v).map (·.1) = (HM.learn l w).map ky := by
  have mem : (kvs.any fun p => decide (p.1 = ky w)) = decide (w ∈ l) := by
    have h1 : (kvs.any fun p => decide (p.1 = ky w)) = ((kvs.map (·.1)).any fun k => decide (k = ky w)) := by
      rw [List.any_map]
      rfl
    rw [h1, e, List.any_map]
    by_cases c : w ∈ l
    · rw [decide_eq_true c]
      exact List.any_eq_true.mpr ⟨w, c, by simp⟩
    · rw [decide_eq_false c]
      refine List.any_eq_false.mpr fun u hu q => c ?_
      have : ky u = ky w := by simpa using q
      rw [← ky_inj this]
      exact hu
  unfold putK HM.learn
  rw [mem]
  by_cases c : w ∈ l
  · rw [decide_eq_true c, if_pos rfl, if_pos c, List.map_map, ← e]
    refine List.map_congr_left fun p _ => ?_
    show (if p.1 = ky w then (p.1, v) else p).1 = p.1
    split <;> rfl
  · rw [decide_eq_false c, if_neg (by decide), if_neg c, List.map_append, List.map_append, e]
    rfl
/-- a word is spoken -/
theorem TownAt.speak (S : TownAt CT CH CP M H a h ts) {w : Wrd} {v : V} {kvs : List (List Key × V)} (e : kvs.map (·.1) = ts.sp.map ky) (k : LH.Kp a.sp H H') (g : H' a.sp = some (.dT (putK kvs (ky w) v))) (f : FitW ts.c w) : TownAt CT CH CP M H' a h (ts.speak w) := by
  obtain ⟨n1, n2, n3, n4, n5, n6, n7, n8, n9, n10⟩ := S.nes
  obtain ⟨fr, al, nt, hs⟩ := S.frS (k.ks (List.mem_singleton.mpr rfl)) (fun b hb => by rw [List.mem_singleton.mp hb]; simp [TAd.S]) fun b hb => by rw [List.mem_singleton.mp hb]; exact ⟨_, g, fun xs q => nomatch q⟩
  exact ⟨let ⟨dx, q⟩ := S.ob; ⟨dx, k _ _ q n4⟩, k _ _ S.hd n7, let ⟨dx, q⟩ := S.po; ⟨dx, k _ _ q n9⟩, let ⟨kv, q, r⟩ := S.pd; ⟨kv, k _ _ q n10, LH.Paired.imp (fun _ _ z => z.up fr) r⟩, ⟨_, g, keys_put e⟩, hs, S.ds, S.fv, S.fd, S.inM, al, nt, S.go.speak f⟩
theorem lt_fresh {F : Hp} : ∀ {kvs : List (Key × V)} {lt : List Ltr} {n : Int}, Paired (LtAt F) kvs lt → (∀ l ∈ lt, l.n < n) → (kvs.any fun p => decide (p.1 = .inl n)) = false
  | _, _, _, .nil, _ => rfl
  | _, _, n, .cons (a := a) (b := l) q r, b => by
    have e : ¬ a.1 = (.inl n : Key) := fun e => by
      have := b l (List.mem_cons_self ..)
      rw [q.1] at e
      injection e with e
      omega
    rw [List.any_cons, decide_eq_false e, lt_fresh r fun l hl => b l (List.mem_cons.mpr (.inr hl))]
    rfl
/-- a letter is sent: its tuple lies there already -/
theorem TownAt.send (S : TownAt CT CH CP M H a h ts) {s r : Int} {w : Wrd} {t : Addr} {x : V} {kvs : List (Key × V)} (hp : Paired (LtAt (LH.Fr M H)) kvs ts.lt) (ht : LH.Fr M H t = some (.tup [.int s, .int r, x])) (hw : WT (LH.Fr M H) x w)
    (k : LH.Ks [a.po, a.pd] H H') (g1 : ∃ dx, H' a.po = some (.ins CP dx (pof a (ts.n + 1)))) (g2 : H' a.pd = some (.dK (putK kvs (.inl ts.n) (.ref t)))) (go : GT (ts.send s r w)) : TownAt CT CH CP M H' a h (ts.send s r w) := by
  obtain ⟨n1, n2, n3, n4, n5, n6, n7, n8, n9, n10⟩ := S.nes
  have n : ∀ b, b ≠ a.po → b ≠ a.pd → b ∉ [a.po, a.pd] := fun b h1 h2 m => by
    simp only [List.mem_cons, List.not_mem_nil, or_false] at m
    exact m.elim h1 h2
  obtain ⟨fr, al, nt, hs⟩ := S.frS k (fun b hb => by
    simp only [List.mem_cons, List.not_mem_nil, or_false] at hb
    rcases hb with rfl | rfl <;> simp [TAd.S]) fun b hb => by
    simp only [List.mem_cons, List.not_mem_nil, or_false] at hb
    rcases hb with rfl | rfl
    · obtain ⟨dx, g1⟩ := g1
      exact ⟨_, g1, fun xs q => nomatch q⟩
    · exact ⟨_, g2, fun xs q => nomatch q⟩
  refine ⟨let ⟨dx, q⟩ := S.ob; ⟨dx, k _ _ q (n _ n2 n3)⟩, k _ _ S.hd (n _ n5 n6), g1, ⟨_, g2, ?_⟩, let ⟨kv, q, r⟩ := S.sp; ⟨kv, k _ _ q (n _ (Ne.symm n9) (Ne.symm n10)), r⟩, hs, S.ds, S.fv, S.fd, S.inM, al, nt, go⟩
  have e : putK kvs (.inl ts.n) (.ref t) = kvs ++ [((.inl ts.n : Key), V.ref t)] := by
    unfold putK
    rw [lt_fresh hp fun l hl => (S.go.lb l hl).2, if_neg (by decide)]
  rw [e]
  exact LH.Paired.snoc (LH.Paired.imp (fun _ _ z => z.up fr) hp) ⟨rfl, t, x, rfl, fr _ _ ht, hw.up fr⟩
theorem paired_drop {F : Hp} {i : Int} : ∀ {kvs : List (Key × V)} {lt : List Ltr}, Paired (LtAt F) kvs lt → Paired (LtAt F) (dropK kvs (.inl i)) (lt.filter fun l => !decide (l.n = i))
  | _, _, .nil => .nil
  | _, _, .cons (a := e) (b := l) q r => by
    have ih := paired_drop (i := i) r
    unfold dropK at ih ⊢
    rw [List.filter_cons, List.filter_cons]
    by_cases c : l.n = i
    · have c2 : e.1 = .inl i := by rw [q.1, c]
      rw [if_neg (by simp [c2]), if_neg (by simp [c])]
      exact ih
    · have c2 : ¬ e.1 = .inl i := fun e2 => c (by rw [q.1] at e2; injection e2)
      rw [if_pos (by simp [c2]), if_pos (by simp [c])]
      exact .cons q ih
/-- a letter is taken -/
theorem TownAt.take (S : TownAt CT CH CP M H a h ts) {i : Int} {kvs : List (Key × V)} (hp : Paired (LtAt (LH.Fr M H)) kvs ts.lt) (k : LH.Ks [a.pd] H H') (g : H' a.pd = some (.dK (dropK kvs (.inl i)))) : TownAt CT CH CP M H' a h (ts.take i) := by
  obtain ⟨n1, n2, n3, n4, n5, n6, n7, n8, n9, n10⟩ := S.nes
  have n : ∀ b, b ≠ a.pd → b ∉ [a.pd] := fun b h2 m => h2 (List.mem_singleton.mp m)
  obtain ⟨fr, al, nt, hs⟩ := S.frS k (fun b hb => by rw [List.mem_singleton.mp hb]; simp [TAd.S]) fun b hb => by rw [List.mem_singleton.mp hb]; exact ⟨_, g, fun xs q => nomatch q⟩
  exact ⟨let ⟨dx, q⟩ := S.ob; ⟨dx, k _ _ q (n _ n3)⟩, k _ _ S.hd (n _ n6), let ⟨dx, q⟩ := S.po; ⟨dx, k _ _ q (n _ n8)⟩, ⟨_, g, paired_drop (LH.Paired.imp (fun _ _ z => z.up fr) hp)⟩, let ⟨kv, q, r⟩ := S.sp; ⟨kv, k _ _ q (n _ (Ne.symm n10)), r⟩, hs, S.ds, S.fv, S.fd, S.inM, al, nt, S.go.take⟩
/-- one house is another one -/
theorem TownAt.house (S : TownAt CT CH CP M H a h ts) {x : Int} (hx : x ∈ ts.hn) {st' : HS} {N : List Addr} {h' : HA} (nx : Nxt CH M H (h x) st' H' N h') (nt : ∀ b ∈ N, ∀ xs, H' b ≠ some (.tup xs)) (c : st'.c = ts.c) (o : st'.own = x) : TownAt CT CH CP (N ++ M) H' a (setI h x h') (ts.put x st') := by
  have iM : ∀ y ∈ ts.hn, ∀ b ∈ (h y).S, b ∈ M := fun y hy b hb => S.inM b (mem_places.mpr (.inr ⟨y, hy, hb⟩))
  have fr := nx.fr (iM x hx)
  have al := nx.alive S.al
  have pp : ∀ y, (setI h x h' y).p = (h y).p := fun y => by
    by_cases e : y = x
    · subst e; rw [setI_same]; exact nx.p
    · rw [setI_other e]
  have keep : ∀ b o, b ∈ a.S → H b = some o → H' b = some o := fun b o hb q => nx.ks b o q fun m => S.fd x hx b m hb
  have nN : ∀ b, b ∈ M → b ∉ N := fun b hb m => by
    obtain ⟨o, q⟩ := S.al b hb
    rw [nx.nw b m] at q
    cases q
  refine ⟨let ⟨dx, q⟩ := S.ob; ⟨dx, keep _ _ (by simp [TAd.S]) q⟩, ?_, let ⟨dx, q⟩ := S.po; ⟨dx, keep _ _ (by simp [TAd.S]) q⟩, let ⟨k, q, r⟩ := S.pd; ⟨k, keep _ _ (by simp [TAd.S]) q, LH.Paired.imp (fun _ _ z => z.up fr) r⟩, let ⟨k, q, r⟩ := S.sp; ⟨k, keep _ _ (by simp [TAd.S]) q, r⟩, fun y hy => ?_, fun y hy z hz n b hb m => ?_, S.fv, fun y hy b hb m => ?_, fun b hb => ?_, al, fun b hb xs q => ?_, S.go.put fun _ => ⟨c, o⟩⟩
  · have e : hnK (setI h x h') ts.hn = hnK h ts.hn := by
      unfold hnK
      exact List.map_congr_left fun y _ => by rw [pp]
    show H' a.hd = some (.dK (hnK (setI h x h') ts.hn))
    rw [e]
    exact keep _ _ (by simp [TAd.S]) S.hd
  · show HouseAt CH (LH.Fr (N ++ M) H') H' (setI h x h' y) (setI ts.st x st' y)
    by_cases e : y = x
    · subst e
      rw [setI_same, setI_same]
      exact nx.at_
    · rw [setI_other e, setI_other e]
      exact (S.hs y hy).to fr fun b o hb q => nx.ks b o q fun m => S.ds y hy x hx e b hb m
  · by_cases e1 : y = x
    · subst e1
      rw [setI_same] at hb
      rw [setI_other (Ne.symm n)] at m
      rcases nx.sub b hb with q | q
      · exact S.ds y hy z hz n b q m
      · exact nN b (iM z hz b m) q
    · rw [setI_other e1] at hb
      by_cases e2 : z = x
      · subst e2
        rw [setI_same] at m
        rcases nx.sub b m with q | q
        · exact S.ds y hy z hz n b hb q
        · exact nN b (iM y hy b hb) q
      · rw [setI_other e2] at m
        exact S.ds y hy z hz n b hb m
  · by_cases e1 : y = x
    · subst e1
      rw [setI_same] at hb
      rcases nx.sub b hb with q | q
      · exact S.fd y hy b q m
      · exact nN b (S.inM b (mem_places.mpr (.inl m))) q
    · rw [setI_other e1] at hb
      exact S.fd y hy b hb m
  · rcases mem_places.mp hb with hb | ⟨y, hy, hb⟩
    · exact List.mem_append.mpr (.inr (S.inM b (mem_places.mpr (.inl hb))))
    · by_cases e1 : y = x
      · subst e1
        rw [setI_same] at hb
        rcases nx.sub b hb with q | q
        · exact List.mem_append.mpr (.inr (iM y hy b q))
        · exact List.mem_append.mpr (.inl q)
      · rw [setI_other e1] at hb
        exact List.mem_append.mpr (.inr (iM y hy b hb))
  · rcases List.mem_append.mp hb with m | m
    · exact nt b m xs q
    · by_cases c1 : b ∈ (h x).S
      · have hk := nx.sup b c1
        exact TN.HouseAt.noTup nx.at_ hk xs q
      · obtain ⟨o, q1⟩ := S.al b m
        rw [nx.ks b o q1 c1] at q
        injection q with q
        exact S.nt b m xs (by rw [q1, q])
end
end TN
namespace TN
open PySem L2 LM HM
section
variable {CT CH CP C : Addr} {M N : List Addr} {H H' : Hp} {a : TAd} {h h' : Int → HA} {ts ts' : TSt}
def noTup (H : Hp) (b : Addr) : Bool := match H b with
  | some (.tup _) => false
  | _ => true
theorem noTup_ne {b : Addr} (e : noTup H b = true) (xs : List V) : H b ≠ some (.tup xs) := fun q => by
  unfold noTup at e
  rw [q] at e
  cases e
theorem noTup_of {b : Addr} (e : ∀ xs, H b ≠ some (.tup xs)) : noTup H b = true := by
  unfold noTup
  split
  · rename_i xs q
    exact absurd q (e xs)
  · rfl
/-- a deed of a house, its answer a list of its own; no tuple among the new places -/
theorem nxt_with {a : HA} {st' : HS} {a' : HA} {r : Addr} {xs : List V} (nx : Nxt C M H a st' H' N a') (f : H r = none) (g : H' r = some (.lst xs)) (ap : HouseAt C (LH.Fr (r :: (N ++ M)) H') H' a' st') :
    ∃ N2, r ∈ N2 ∧ Nxt C M H a st' H' N2 a' ∧ ∀ b ∈ N2, ∀ xs, H' b ≠ some (.tup xs) := by
  have le : ∀ b, b ∈ (r :: N).filter (noTup H') → b ∈ r :: N := fun b hb => (List.mem_filter.mp hb).1
  refine ⟨(r :: N).filter (noTup H'), List.mem_filter.mpr ⟨List.mem_cons_self .., noTup_of fun xs q => by rw [g] at q; cases q⟩, ⟨nx.ks, fun b hb => ?_, fun b hb => ?_, nx.p, fun b hb => ?_, nx.sup, ?_⟩, fun b hb => noTup_ne (List.mem_filter.mp hb).2⟩
  · rcases List.mem_cons.mp (le b hb) with e | m
    · rw [e]; exact f
    · exact nx.nw b m
  · rcases List.mem_cons.mp (le b hb) with e | m
    · rw [e]; exact ⟨_, g⟩
    · exact nx.al b m
  · rcases nx.sub b hb with m | m
    · exact .inl m
    · exact .inr (List.mem_filter.mpr ⟨List.mem_cons.mpr (.inr m), noTup_of (HouseAt.noTup ap hb)⟩)
  · refine ap.to (fun b o q => ?_) fun _ _ _ q => q
    obtain ⟨q1, q2⟩ := LH.fr_some q
    exact LH.fr_of q1 fun m => q2 (by
      rcases List.mem_append.mp m with m | m
      · rcases List.mem_cons.mp (le b m) with e | m
        · exact List.mem_cons.mpr (.inl e)
        · exact List.mem_cons.mpr (.inr (List.mem_append.mpr (.inl m)))
      · exact List.mem_cons.mpr (.inr (List.mem_append.mpr (.inr m))))
theorem tw_fr {M1 M2 : List Addr} {xs : List V} {ws : List Wrd} (h : Paired (fun x w => WT (LH.Fr M1 H) x w) xs ws) (n : ∀ b ∈ M2, ∀ ys, H b ≠ some (.tup ys)) : Paired (fun x w => WT (LH.Fr M2 H) x w) xs ws := LH.Paired.imp (fun _ _ q => by
  obtain ⟨t, h1, h2⟩ := q
  have h3 := (LH.fr_some h2).1
  exact ⟨t, h1, LH.fr_of h3 fun m => n t m _ h3⟩) h
/-- what comes of a town's deed -/
structure TNxt (CT CH CP : Addr) (M : List Addr) (H : Hp) (a : TAd) (h : Int → HA) (ts : TSt) (ts' : TSt) (H' : Hp) (N : List Addr) (h' : Int → HA) : Prop where
  ks : LH.Ks (places a h ts.hn) H H'
  nw : ∀ b ∈ N, H b = none
  hn : ts'.hn = ts.hn
  pp : ∀ x, (h' x).p = (h x).p
  sub : ∀ b ∈ places a h' ts.hn, b ∈ places a h ts.hn ∨ b ∈ N
  fr : Same (LH.Fr M H) (LH.Fr (N ++ M) H')
  at_ : TownAt CT CH CP (N ++ M) H' a h' ts'
theorem TNxt.same {H2 : Hp} (n : TNxt CT CH CP M H a h ts ts' H' N h') (e : Same H' H2) : TNxt CT CH CP M H a h ts ts' H2 N h' :=
  ⟨fun b o q m => e _ _ (n.ks b o q m), n.nw, n.hn, n.pp, n.sub, n.fr.trans (LH.same_fr e), n.at_.same e⟩
theorem TownAt.notAll (S : TownAt CT CH CP M H a h ts) {b : Addr} (f : H b = none) : b ∉ places a h ts.hn := fun m => by
  obtain ⟨o, q⟩ := S.al b (S.inM b m)
  rw [f] at q
  cases q
/-- a house's deed, and then its words told -/
theorem TownAt.comes (S : TownAt CT CH CP M H a h ts) {x : Int} (hx : x ∈ ts.hn) {st' : HS} {h1 : HA} {H2 : Hp} (nx : Nxt CH M H (h x) st' H' N h1) (nt : ∀ b ∈ N, ∀ xs, H' b ≠ some (.tup xs)) (k : LH.Ks a.S H' H2) (hn : ts'.hn = ts.hn) (at_ : TownAt CT CH CP (N ++ M) H2 a (setI h x h1) ts') : TNxt CT CH CP M H a h ts ts' H2 N (setI h x h1) := by
  have inS : ∀ b ∈ (h x).S, b ∈ places a h ts.hn := fun b hb => mem_places.mpr (.inr ⟨x, hx, hb⟩)
  refine ⟨fun b o q n => k b o (nx.ks b o q fun m => n (inS b m)) fun m => n (mem_places.mpr (.inl m)), nx.nw, hn, fun y => ?_, fun b hb => ?_, ?_, at_⟩
  · by_cases e : y = x
    · subst e; rw [setI_same]; exact nx.p
    · rw [setI_other e]
  · rcases mem_places.mp hb with m | ⟨y, hy, m⟩
    · exact .inl (mem_places.mpr (.inl m))
    · by_cases e : y = x
      · subst e
        rw [setI_same] at m
        exact (nx.sub b m).imp (inS b) id
      · rw [setI_other e] at m
        exact .inl (mem_places.mpr (.inr ⟨y, hy, m⟩))
  · have f1 := nx.fr fun b hb => S.inM b (inS b hb)
    exact f1.trans (k.frS fun b hb => at_.inM b (mem_places.mpr (.inl hb)))
/-- a deed that lays nothing -/
theorem TownAt.stays (S : TownAt CT CH CP M H a h ts) (k : LH.Ks a.S H H') (hn : ts'.hn = ts.hn) (at_ : TownAt CT CH CP M H' a h ts') : TNxt CT CH CP M H a h ts ts' H' [] h :=
  ⟨fun b o q n => k b o q fun m => n (mem_places.mpr (.inl m)), (fun _ m => nomatch m), hn, fun _ => rfl, fun b hb => .inl hb, k.frS fun b hb => S.inM b (mem_places.mpr (.inl hb)), at_⟩
theorem lt_get {F : Hp} : ∀ {kvs : List (Key × V)} {lt : List Ltr}, Paired (LtAt F) kvs lt → (lt.map (·.n)).Nodup → ∀ l ∈ lt, ∃ t v, valV kvs (.inl l.n) = some (.ref t) ∧ F t = some (.tup [.int l.s, .int l.r, v]) ∧ WT F v l.w
  | _, _, .nil, _, l, h => nomatch h
  | _, _, .cons (a := e) (b := l0) q r, nd, l, h => by
    rw [List.map_cons, List.nodup_cons] at nd
    obtain ⟨e1, t, v, e2, ht, hw⟩ := q
    unfold valV
    rw [List.find?_cons]
    rcases List.mem_cons.mp h with rfl | h
    · rw [decide_eq_true e1]
      exact ⟨t, v, by rw [← e2]; rfl, ht, hw⟩
    · have c : ¬ e.1 = .inl l.n := fun c => by
        rw [e1] at c
        injection c with c
        exact nd.1 (List.mem_map.mpr ⟨l, h, c.symm⟩)
      rw [decide_eq_false c]
      exact lt_get r nd.2 l h
theorem lt_none {F : Hp} {i : Int} : ∀ {kvs : List (Key × V)} {lt : List Ltr}, Paired (LtAt F) kvs lt → (∀ l ∈ lt, l.n ≠ i) → valV kvs (.inl i) = none
  | _, _, .nil, _ => rfl
  | _, _, .cons (a := e) (b := l0) q r, n => by
    have c : ¬ e.1 = .inl i := fun c => by
      rw [q.1] at c
      injection c with c
      exact n l0 (List.mem_cons_self ..) c
    have ih := lt_none r fun l hl => n l (List.mem_cons.mpr (.inr hl))
    unfold valV at ih ⊢
    rw [List.find?_cons, decide_eq_false c]
    exact ih
theorem hn_val {h : Int → HA} {x : Int} : ∀ {hn : List Int}, x ∈ hn → valV (hnK h hn) (.inl x) = some (.ref (h x).p)
  | [], m => nomatch m
  | y :: hn, m => by
    unfold valV hnK
    rw [List.map_cons, List.find?_cons]
    by_cases c : y = x
    · subst c
      rw [decide_eq_true (rfl : (Sum.inl y : Key) = Sum.inl y)]
      rfl
    · have c2 : ¬ (Sum.inl y : Key) = .inl x := fun e => c (by injection e)
      rw [decide_eq_false c2]
      exact hn_val ((List.mem_cons.mp m).resolve_left fun e => c e.symm)
theorem hn_none {h : Int → HA} {x : Int} : ∀ {hn : List Int}, x ∉ hn → valV (hnK h hn) (.inl x) = none
  | [], _ => rfl
  | y :: hn, m => by
    unfold valV hnK
    rw [List.map_cons, List.find?_cons]
    have c2 : ¬ (Sum.inl y : Key) = .inl x := fun e => m (by injection e with e; rw [e]; exact List.mem_cons_self ..)
    rw [decide_eq_false c2]
    exact hn_none fun q => m (List.mem_cons.mpr (.inr q))
end
end TN
/-! beside a town: houses, letters and words of one's own, in a dict -/
namespace TN
open PySem L2 LM HM
structure WA where
  w : Addr
  hd : Addr
  sd : Addr
  lt : Addr
  li : Addr
def WA.S (a : WA) : List Addr := [a.w, a.hd, a.sd, a.lt]
def wk (a : WA) (c : Int) : List (Key × V) := [(.inr "count", .int c), (.inr "liars", .ref a.li), (.inr "letters", .ref a.lt), (.inr "said", .ref a.sd), (.inr "houses", .ref a.hd)]
def LtT (F : Hp) (v : V) (l : Ltr) : Prop := ∃ t x, v = .ref t ∧ F t = some (.tup [.int l.s, .int l.r, x]) ∧ WT F x l.w
theorem LtT.up {F F' : Hp} {v : V} {l : Ltr} (s : Same F F') (h : LtT F v l) : LtT F' v l := let ⟨t, x, h2, h3, h4⟩ := h; ⟨t, x, h2, s _ _ h3, h4.up s⟩
def RowAt (F : Hp) (v : V) : Option Ltr → Prop
  | none => v = .non
  | some l => LtT F v l
theorem RowAt.up {F F' : Hp} {v : V} : ∀ {o : Option Ltr}, Same F F' → RowAt F v o → RowAt F' v o
  | none, _, h => h
  | some _, s, h => LtT.up s h
def wplaces (a : WA) (g : Int → HA) (hn : List Int) : List Addr := a.S ++ hn.flatMap fun x => (g x).S
theorem mem_wplaces {a : WA} {g : Int → HA} {hn : List Int} {b : Addr} : b ∈ wplaces a g hn ↔ b ∈ a.S ∨ ∃ x ∈ hn, b ∈ (g x).S := by
  unfold wplaces
  rw [List.mem_append, List.mem_flatMap]
/-- letters by their numbers: none where one was brought -/
structure Rows (rows : List (Option Ltr)) (ts : TSt) : Prop where
  n : (rows.length : Int) = ts.n
  k : ∀ (k : Nat) l, rows[k]? = some (some l) → l.n = (k : Int)
  l : ts.lt = rows.filterMap id
structure WorldAt (CH : Addr) (M : List Addr) (H : Hp) (a : WA) (g : Int → HA) (ts : TSt) (ln : List Int) (rows : List (Option Ltr)) : Prop where
  ob : H a.w = some (.dK (wk a ts.c))
  hd : H a.hd = some (.dK (hnK g ts.hn))
  sd : ∃ xs, H a.sd = some (.lst xs) ∧ Paired (fun x w => WT (LH.Fr M H) x w) xs ts.sp
  lt : ∃ ys, H a.lt = some (.lst ys) ∧ Paired (RowAt (LH.Fr M H)) ys rows
  li : LH.Fr M H a.li = some (.lst (ln.map V.int))
  hs : ∀ x ∈ ts.hn, HouseAt CH (LH.Fr M H) H (g x) (ts.st x)
  ds : ∀ x ∈ ts.hn, ∀ y ∈ ts.hn, x ≠ y → ∀ b ∈ (g x).S, b ∉ (g y).S
  fv : a.S.Nodup
  fd : ∀ x ∈ ts.hn, ∀ b ∈ (g x).S, b ∉ a.S
  inM : ∀ b ∈ wplaces a g ts.hn, b ∈ M
  al : ∀ b ∈ M, ∃ o, H b = some o
  c1 : 1 ≤ ts.c
  c2 : ts.c ≤ 12
  rw : Rows rows ts
section
variable {CT CH CP : Addr} {M : List Addr} {H H' : Hp} {a : WA} {g : Int → HA} {ts : TSt} {ln : List Int} {rows : List (Option Ltr)}
theorem WorldAt.to {M' : List Addr} (W : WorldAt CH M H a g ts ln rows) (f : Same (LH.Fr M H) (LH.Fr M' H')) (e : ∀ b o, b ∈ wplaces a g ts.hn → H b = some o → H' b = some o) (i : ∀ b ∈ wplaces a g ts.hn, b ∈ M') (al : ∀ b ∈ M', ∃ o, H' b = some o) : WorldAt CH M' H' a g ts ln rows := by
  have s : ∀ b ∈ a.S, ∀ o, H b = some o → H' b = some o := fun b hb o => e b o (mem_wplaces.mpr (.inl hb))
  exact ⟨s _ (by simp [WA.S]) _ W.ob, s _ (by simp [WA.S]) _ W.hd, let ⟨xs, q, r⟩ := W.sd; ⟨xs, s _ (by simp [WA.S]) _ q, LH.Paired.imp (fun _ _ z => z.up f) r⟩, let ⟨xs, q, r⟩ := W.lt; ⟨xs, s _ (by simp [WA.S]) _ q, LH.Paired.imp (fun _ _ z => z.up f) r⟩, f _ _ W.li,
    fun x hx => (W.hs x hx).to f fun b o hb q => e b o (mem_wplaces.mpr (.inr ⟨x, hx, hb⟩)) q, W.ds, W.fv, W.fd, i, al, W.c1, W.c2, W.rw⟩
theorem WorldAt.same (W : WorldAt CH M H a g ts ln rows) (e : Same H H') : WorldAt CH M H' a g ts ln rows :=
  W.to (LH.same_fr e) (fun b o _ q => e _ _ q) W.inM fun b hb => let ⟨o, q⟩ := W.al b hb; ⟨o, e _ _ q⟩
theorem WorldAt.nes (W : WorldAt CH M H a g ts ln rows) : a.w ≠ a.hd ∧ a.w ≠ a.sd ∧ a.w ≠ a.lt ∧ a.hd ≠ a.sd ∧ a.hd ≠ a.lt ∧ a.sd ≠ a.lt := by
  have := W.fv
  unfold WA.S at this
  simp only [List.nodup_cons, List.mem_cons, List.not_mem_nil, or_false, not_or, List.nodup_nil, and_true] at this
  obtain ⟨⟨a1, a2, a3⟩, ⟨b1, b2⟩, c1⟩ := this
  exact ⟨a1, a2, a3, b1, b2, by simpa using c1⟩
/-- one of its lists put anew -/
theorem WorldAt.frS (W : WorldAt CH M H a g ts ln rows) {q : Addr} (k : LH.Kp q H H') (qS : q ∈ a.S) (al : ∃ o, H' q = some o) :
    Same (LH.Fr M H) (LH.Fr M H') ∧ (∀ b ∈ M, ∃ o, H' b = some o) ∧ (∀ x ∈ ts.hn, HouseAt CH (LH.Fr M H') H' (g x) (ts.st x)) := by
  have f : Same (LH.Fr M H) (LH.Fr M H') := (k.ks (List.mem_singleton.mpr rfl)).frS fun b hb => by rw [List.mem_singleton.mp hb]; exact W.inM _ (mem_wplaces.mpr (.inl qS))
  refine ⟨f, fun b hb => ?_, fun x hx => (W.hs x hx).to f fun b o hb e => k b o e fun m => W.fd x hx b hb (m ▸ qS)⟩
  by_cases c : b = q
  · rw [c]; exact al
  · obtain ⟨o, e⟩ := W.al b hb
    exact ⟨o, k b o e c⟩
/-- a word is said -/
theorem WorldAt.say (W : WorldAt CH M H a g ts ln rows) {xs : List V} {x : V} {w : Wrd} (hp : Paired (fun x w => WT (LH.Fr M H) x w) xs ts.sp) (hx : WT (LH.Fr M H) x w) (k : LH.Kp a.sd H H') (q : H' a.sd = some (.lst (xs ++ [x]))) (n : w ∉ ts.sp) : WorldAt CH M H' a g (ts.speak w) ln rows := by
  obtain ⟨n1, n2, n3, n4, n5, n6⟩ := W.nes
  obtain ⟨f, al, hs⟩ := W.frS k (by simp [WA.S]) ⟨_, q⟩
  have e : (ts.speak w).sp = ts.sp ++ [w] := by
    show HM.learn ts.sp w = _
    unfold HM.learn
    rw [if_neg n]
  exact ⟨k _ _ W.ob n2, k _ _ W.hd n4, ⟨_, q, by rw [e]; exact LH.Paired.snoc (LH.Paired.imp (fun _ _ z => z.up f) hp) (hx.up f)⟩, let ⟨ys, q1, r⟩ := W.lt; ⟨ys, k _ _ q1 (Ne.symm n6), LH.Paired.imp (fun _ _ z => z.up f) r⟩, f _ _ W.li, hs, W.ds, W.fv, W.fd, W.inM, al, W.c1, W.c2, ⟨W.rw.n, W.rw.k, W.rw.l⟩⟩
theorem WorldAt.said (W : WorldAt CH M H a g ts ln rows) {w : Wrd} (n : w ∈ ts.sp) : WorldAt CH M H a g (ts.speak w) ln rows := by
  have e : ts.speak w = ts := by
    unfold TSt.speak HM.learn
    rw [if_pos n]
  rw [e]
  exact W
theorem Rows.send {s r : Int} {w : Wrd} (h : Rows rows ts) : Rows (rows ++ [some ⟨ts.n, s, r, w⟩]) (ts.send s r w) := by
  refine ⟨?_, fun k l e => ?_, ?_⟩
  · have := h.n
    rw [List.length_append, List.length_singleton]
    show _ = ts.n + 1
    omega
  · by_cases c : k < rows.length
    · rw [List.getElem?_append_left c] at e
      exact h.k k l e
    · rw [List.getElem?_append_right (by omega)] at e
      cases q : k - rows.length with
      | zero =>
        rw [q] at e
        injection e with e
        injection e with e
        rw [← e]
        have := h.n
        show ts.n = _
        omega
      | succ m => rw [q] at e; cases e
  · show ts.lt ++ [_] = _
    rw [h.l, List.filterMap_append]
    rfl
/-- a letter is sent -/
theorem WorldAt.send (W : WorldAt CH M H a g ts ln rows) {s r : Int} {w : Wrd} {ys : List V} {y : V} (hp : Paired (RowAt (LH.Fr M H)) ys rows) (hy : LtT (LH.Fr M H) y ⟨ts.n, s, r, w⟩) (k : LH.Kp a.lt H H') (q : H' a.lt = some (.lst (ys ++ [y]))) : WorldAt CH M H' a g (ts.send s r w) ln (rows ++ [some ⟨ts.n, s, r, w⟩]) := by
  obtain ⟨n1, n2, n3, n4, n5, n6⟩ := W.nes
  obtain ⟨f, al, hs⟩ := W.frS k (by simp [WA.S]) ⟨_, q⟩
  exact ⟨k _ _ W.ob n3, k _ _ W.hd n5, let ⟨xs, q1, r⟩ := W.sd; ⟨xs, k _ _ q1 n6, LH.Paired.imp (fun _ _ z => z.up f) r⟩, ⟨_, q, LH.Paired.snoc (LH.Paired.imp (fun _ _ z => z.up f) hp) (show RowAt _ _ (some _) from LtT.up f hy)⟩, f _ _ W.li, hs, W.ds, W.fv, W.fd, W.inM, al, W.c1, W.c2, W.rw.send⟩
theorem filterMap_set : ∀ {rows : List (Option Ltr)} {k : Nat} {b : Int}, (∀ (j : Nat) l, rows[j]? = some (some l) → l.n = b + (j : Int)) → (rows.set k none).filterMap id = (rows.filterMap id).filter fun l => !decide (l.n = b + (k : Int))
  | [], _, _, _ => rfl
  | o :: rows, 0, b, h => by
    have tl : (rows.filterMap id).filter (fun l => !decide (l.n = b + ((0 : Nat) : Int))) = rows.filterMap id := List.filter_eq_self.mpr fun l hl => by
      obtain ⟨o', ho, e⟩ := List.mem_filterMap.mp hl
      obtain ⟨j, hj⟩ := List.mem_iff_getElem?.mp ho
      have e : o' = some l := e
      subst e
      have := h (j + 1) l hj
      simp
      omega
    cases o with
    | none => rw [List.set_cons_zero]; exact tl.symm
    | some l =>
      have := h 0 l rfl
      rw [List.set_cons_zero]
      show rows.filterMap id = (l :: rows.filterMap id).filter _
      rw [List.filter_cons, tl, if_neg (by simp; omega)]
  | o :: rows, k + 1, b, h => by
    have ih := filterMap_set (rows := rows) (k := k) (b := b + 1) fun j l e => by
      have := h (j + 1) l e
      omega
    have e1 : b + 1 + (k : Int) = b + ((k + 1 : Nat) : Int) := by omega
    rw [e1] at ih
    rw [List.set_cons_succ]
    cases o with
    | none => exact ih
    | some l =>
      have := h 0 l rfl
      show l :: _ = (l :: rows.filterMap id).filter _
      rw [List.filter_cons, if_pos (by simp; omega), ih]
theorem Rows.take (h : Rows rows ts) {k : Nat} : Rows (rows.set k none) (ts.take k) := by
  refine ⟨by rw [List.length_set]; exact h.n, fun j l e => ?_, ?_⟩
  · rw [List.getElem?_set] at e
    split at e
    · split at e
      · injection e with e
        cases e
      · cases e
    · exact h.k j l e
  · show ts.lt.filter _ = _
    rw [h.l, filterMap_set (b := 0) (fun j l e => by have := h.k j l e; omega)]
    congr 1
    funext l
    congr 2
    apply propext
    constructor <;> (intro; omega)
theorem paired_set {F : V → Option Ltr → Prop} {x : V} {o : Option Ltr} (hx : F x o) : ∀ {ys : List V} {rows : List (Option Ltr)} {k : Nat}, Paired F ys rows → Paired F (ys.set k x) (rows.set k o)
  | _, _, _, .nil => .nil
  | _, _, 0, .cons _ r => .cons hx r
  | _, _, k + 1, .cons q r => .cons q (paired_set hx r)
/-- a letter is taken -/
theorem WorldAt.take (W : WorldAt CH M H a g ts ln rows) {n : Nat} {ys : List V} (hp : Paired (RowAt (LH.Fr M H)) ys rows) (k : LH.Kp a.lt H H') (q : H' a.lt = some (.lst (ys.set n .non))) : WorldAt CH M H' a g (ts.take n) ln (rows.set n none) := by
  obtain ⟨n1, n2, n3, n4, n5, n6⟩ := W.nes
  obtain ⟨f, al, hs⟩ := W.frS k (by simp [WA.S]) ⟨_, q⟩
  exact ⟨k _ _ W.ob n3, k _ _ W.hd n5, let ⟨xs, q1, r⟩ := W.sd; ⟨xs, k _ _ q1 n6, LH.Paired.imp (fun _ _ z => z.up f) r⟩, ⟨_, q, paired_set (x := .non) (o := none) rfl (LH.Paired.imp (fun _ _ z => z.up f) hp)⟩, f _ _ W.li, hs, W.ds, W.fv, W.fd, W.inM, al, W.c1, W.c2, W.rw.take⟩
/-- one house is another one -/
theorem WorldAt.house (W : WorldAt CH M H a g ts ln rows) {x : Int} (hx : x ∈ ts.hn) {st' : HS} {N : List Addr} {g' : HA} (nx : Nxt CH M H (g x) st' H' N g') : WorldAt CH (N ++ M) H' a (setI g x g') (ts.put x st') ln rows := by
  have iM : ∀ y ∈ ts.hn, ∀ b ∈ (g y).S, b ∈ M := fun y hy b hb => W.inM b (mem_wplaces.mpr (.inr ⟨y, hy, hb⟩))
  have fr := nx.fr (iM x hx)
  have al := nx.alive W.al
  have pp : ∀ y, (setI g x g' y).p = (g y).p := fun y => by
    by_cases e : y = x
    · subst e; rw [setI_same]; exact nx.p
    · rw [setI_other e]
  have keep : ∀ b o, b ∈ a.S → H b = some o → H' b = some o := fun b o hb q => nx.ks b o q fun m => W.fd x hx b m hb
  have nN : ∀ b, b ∈ M → b ∉ N := fun b hb m => by
    obtain ⟨o, q⟩ := W.al b hb
    rw [nx.nw b m] at q
    cases q
  refine ⟨keep _ _ (by simp [WA.S]) W.ob, ?_, let ⟨k, q, r⟩ := W.sd; ⟨k, keep _ _ (by simp [WA.S]) q, LH.Paired.imp (fun _ _ z => z.up fr) r⟩, let ⟨k, q, r⟩ := W.lt; ⟨k, keep _ _ (by simp [WA.S]) q, LH.Paired.imp (fun _ _ z => z.up fr) r⟩, fr _ _ W.li, fun y hy => ?_, fun y hy z hz n b hb m => ?_, W.fv, fun y hy b hb m => ?_, fun b hb => ?_, al, W.c1, W.c2, ⟨W.rw.n, W.rw.k, W.rw.l⟩⟩
  · have e : hnK (setI g x g') ts.hn = hnK g ts.hn := by
      unfold hnK
      exact List.map_congr_left fun y _ => by rw [pp]
    show H' a.hd = some (.dK (hnK (setI g x g') ts.hn))
    rw [e]
    exact keep _ _ (by simp [WA.S]) W.hd
  · show HouseAt CH (LH.Fr (N ++ M) H') H' (setI g x g' y) (setI ts.st x st' y)
    by_cases e : y = x
    · subst e
      rw [setI_same, setI_same]
      exact nx.at_
    · rw [setI_other e, setI_other e]
      exact (W.hs y hy).to fr fun b o hb q => nx.ks b o q fun m => W.ds y hy x hx e b hb m
  · by_cases e1 : y = x
    · subst e1
      rw [setI_same] at hb
      rw [setI_other (Ne.symm n)] at m
      rcases nx.sub b hb with q | q
      · exact W.ds y hy z hz n b q m
      · exact nN b (iM z hz b m) q
    · rw [setI_other e1] at hb
      by_cases e2 : z = x
      · subst e2
        rw [setI_same] at m
        rcases nx.sub b m with q | q
        · exact W.ds y hy z hz n b hb q
        · exact nN b (iM y hy b hb) q
      · rw [setI_other e2] at m
        exact W.ds y hy z hz n b hb m
  · by_cases e1 : y = x
    · subst e1
      rw [setI_same] at hb
      rcases nx.sub b hb with q | q
      · exact W.fd y hy b q m
      · exact nN b (W.inM b (mem_wplaces.mpr (.inl m))) q
    · rw [setI_other e1] at hb
      exact W.fd y hy b hb m
  · rcases mem_wplaces.mp hb with hb | ⟨y, hy, hb⟩
    · exact List.mem_append.mpr (.inr (W.inM b (mem_wplaces.mpr (.inl hb))))
    · by_cases e1 : y = x
      · subst e1
        rw [setI_same] at hb
        rcases nx.sub b hb with q | q
        · exact List.mem_append.mpr (.inr (iM y hy b q))
        · exact List.mem_append.mpr (.inl q)
      · rw [setI_other e1] at hb
        exact List.mem_append.mpr (.inr (iM y hy b hb))
end
/-! ### a town and what stands beside it -/
structure Sim (CT CH CP : Addr) (M : List Addr) (H : Hp) (ta : TAd) (h : Int → HA) (ts : TSt) (wa : WA) (g : Int → HA) (ws : TSt) (ln : List Int) (rows : List (Option Ltr)) : Prop where
  t : TownAt CT CH CP M H ta h ts
  w : WorldAt CH M H wa g ws ln rows
  dj : ∀ b ∈ places ta h ts.hn, b ∉ wplaces wa g ws.hn
section
variable {CT CH CP : Addr} {M : List Addr} {H H' : Hp} {ta : TAd} {h : Int → HA} {ts : TSt} {wa : WA} {g : Int → HA} {ws : TSt} {ln : List Int} {rows : List (Option Ltr)}
theorem Sim.same (S : Sim CT CH CP M H ta h ts wa g ws ln rows) (e : Same H H') : Sim CT CH CP M H' ta h ts wa g ws ln rows := ⟨S.t.same e, S.w.same e, S.dj⟩
theorem nt_ks {A : List Addr} (k : LH.Ks A H H') (al : ∀ b ∈ M, ∃ o, H b = some o) (nt : ∀ b ∈ M, ∀ xs, H b ≠ some (.tup xs)) (nA : ∀ b ∈ A, ∀ xs, H' b ≠ some (.tup xs)) : ∀ b ∈ M, ∀ xs, H' b ≠ some (.tup xs) := fun b hb xs q => by
  by_cases c : b ∈ A
  · exact nA b c xs q
  · obtain ⟨o, q1⟩ := al b hb
    rw [k b o q1 c] at q
    injection q with q
    exact nt b hb xs (by rw [q1, q])
/-- one of the lists beside the town put anew -/
theorem Sim.put {ws' : TSt} {rows' : List (Option Ltr)} {q : Addr} {ys : List V} (S : Sim CT CH CP M H ta h ts wa g ws ln rows) (k : LH.Kp q H H') (qS : q ∈ wa.S) (e : H' q = some (.lst ys)) (w : WorldAt CH M H' wa g ws' ln rows') (hn : ws'.hn = ws.hn) : Sim CT CH CP M H' ta h ts wa g ws' ln rows' := by
  have ks : LH.Ks [q] H H' := k.ks (List.mem_singleton.mpr rfl)
  have qW : q ∈ wplaces wa g ws.hn := mem_wplaces.mpr (.inl qS)
  refine ⟨S.t.far ks (fun b hb m => S.dj b hb (by rw [List.mem_singleton.mp m]; exact qW)) (ks.frS fun b hb => by rw [List.mem_singleton.mp hb]; exact S.w.inM _ qW) S.t.inM w.al (nt_ks ks S.t.al S.t.nt fun b hb xs q2 => by rw [List.mem_singleton.mp hb, e] at q2; cases q2), w, by rw [hn]; exact S.dj⟩
/-- a house beside the town is another one -/
theorem Sim.own (S : Sim CT CH CP M H ta h ts wa g ws ln rows) {x : Int} (hx : x ∈ ws.hn) {st' : HS} {N : List Addr} {g' : HA} (nx : Nxt CH M H (g x) st' H' N g') (nt : ∀ b ∈ N, ∀ xs, H' b ≠ some (.tup xs)) : Sim CT CH CP (N ++ M) H' ta h ts wa (setI g x g') (ws.put x st') ln rows := by
  have inW : ∀ b ∈ (g x).S, b ∈ wplaces wa g ws.hn := fun b hb => mem_wplaces.mpr (.inr ⟨x, hx, hb⟩)
  have w := S.w.house hx nx
  have fr := nx.fr fun b hb => S.w.inM b (inW b hb)
  refine ⟨S.t.far nx.ks (fun b hb m => S.dj b hb (inW b m)) fr (fun b hb => List.mem_append.mpr (.inr (S.t.inM b hb))) w.al (fun b hb xs q => ?_), w, fun b hb m => ?_⟩
  · rcases List.mem_append.mp hb with m | m
    · exact nt b m xs q
    · exact nt_ks nx.ks S.t.al S.t.nt (fun b hb => HouseAt.noTup nx.at_ (nx.sup b hb)) b m xs q
  · rcases mem_wplaces.mp m with m | ⟨y, hy, m⟩
    · exact S.dj b hb (mem_wplaces.mpr (.inl m))
    · by_cases e : y = x
      · subst e
        rw [setI_same] at m
        rcases nx.sub b m with q | q
        · exact S.dj b hb (inW b q)
        · obtain ⟨o, q2⟩ := S.t.al b (S.t.inM b hb)
          rw [nx.nw b q] at q2
          cases q2
      · rw [setI_other e] at m
        exact S.dj b hb (mem_wplaces.mpr (.inr ⟨y, hy, m⟩))
/-- the town does a deed -/
theorem Sim.town {N : List Addr} {h' : Int → HA} {ts' : TSt} (S : Sim CT CH CP M H ta h ts wa g ws ln rows) (n : TNxt CT CH CP M H ta h ts ts' H' N h') : Sim CT CH CP (N ++ M) H' ta h' ts' wa g ws ln rows := by
  refine ⟨n.at_, S.w.to n.fr (fun b o hb q => n.ks b o q fun m => S.dj b m hb) (fun b hb => List.mem_append.mpr (.inr (S.w.inM b hb))) n.at_.al, fun b hb m => ?_⟩
  rw [n.hn] at hb
  rcases n.sub b hb with q | q
  · exact S.dj b q m
  · obtain ⟨o, q2⟩ := S.w.al b (S.w.inM b m)
    rw [n.nw b q] at q2
    cases q2
/-- a place that is none of theirs is let go -/
theorem Sim.drop {q : Addr} (S : Sim CT CH CP M H ta h ts wa g ws ln rows) (q1 : q ∉ places ta h ts.hn) (q2 : q ∉ wplaces wa g ws.hn) : Sim CT CH CP (M.filter fun b => decide (b ≠ q)) H ta h ts wa g ws ln rows := by
  have le : ∀ b, b ∈ (M.filter fun b => decide (b ≠ q)) → b ∈ M := fun b hb => (List.mem_filter.mp hb).1
  have ge : ∀ b, b ∈ M → b ≠ q → b ∈ (M.filter fun b => decide (b ≠ q)) := fun b hb n => List.mem_filter.mpr ⟨hb, decide_eq_true n⟩
  refine ⟨S.t.less le fun b hb => ge b (S.t.inM b hb) fun e => q1 (e ▸ hb), S.w.to (fun b o hb => ?_) (fun _ _ _ e => e) (fun b hb => ge b (S.w.inM b hb) fun e => q2 (e ▸ hb)) fun b hb => S.w.al b (le b hb), S.dj⟩
  obtain ⟨e1, e2⟩ := LH.fr_some hb
  exact LH.fr_of e1 fun m => e2 (le b m)
end
end TN
namespace TN
open PySem L2 LM HM
/-- what went on: P may change, M is left out of what stands still -/
structure Went (M : List Addr) (H : Hp) (P : List Addr) (M' : List Addr) (H' : Hp) (P' : List Addr) : Prop where
  pm : ∀ b ∈ P, b ∈ M
  ks : LH.Ks P H H'
  sub : ∀ b ∈ P', b ∈ P ∨ H b = none
  fr : Same (LH.Fr M H) (LH.Fr M' H')
  nw : ∀ b ∈ M', b ∈ M ∨ H b = none
  mm : ∀ b ∈ M, b ∈ M'
section
variable {M M' M2 P P' P2 : List Addr} {H H' H2 : Hp}
theorem Went.refl (pm : ∀ b ∈ P, b ∈ M) : Went M H P M H P := ⟨pm, fun _ _ q _ => q, fun _ q => .inl q, Same.refl _, fun _ q => .inl q, fun _ q => q⟩
theorem Went.same (pm : ∀ b ∈ P, b ∈ M) (e : Same H H') : Went M H P M H' P := ⟨pm, fun _ _ q _ => e _ _ q, fun _ q => .inl q, LH.same_fr e, fun _ q => .inl q, fun _ q => q⟩
theorem Went.trans (a : Went M H P M' H' P') (b : Went M' H' P' M2 H2 P2) : Went M H P M2 H2 P2 := by
  have back : ∀ x, H' x = none → x ∈ P ∨ H x = none := fun x q => by
    cases e : H x with
    | none => exact .inr rfl
    | some o =>
      by_cases c : x ∈ P
      · exact .inl c
      · rw [a.ks x o e c] at q
        cases q
  refine ⟨a.pm, fun x o q n => b.ks x o (a.ks x o q n) fun m => ?_, fun x m => ?_, a.fr.trans b.fr, fun x m => ?_, fun x m => b.mm x (a.mm x m)⟩
  · rcases a.sub x m with m | m
    · exact n m
    · rw [m] at q
      cases q
  · rcases b.sub x m with m | m
    · exact a.sub x m
    · exact back x m
  · rcases b.nw x m with m | m
    · exact a.nw x m
    · exact (back x m).imp (a.pm x) id
theorem fr_filter {p : Addr → Bool} : Same (LH.Fr M H) (LH.Fr (M.filter p) H) := fun b o hb => by
  obtain ⟨e1, e2⟩ := LH.fr_some hb
  exact LH.fr_of e1 fun m => e2 (List.mem_filter.mp m).1
/-- a new place is let go -/
theorem Went.drop {q : Addr} (w : Went M H P M' H' P') (n : q ∉ M) : Went M H P (M'.filter fun b => decide (b ≠ q)) H' P' :=
  ⟨w.pm, w.ks, w.sub, w.fr.trans fr_filter, fun b hb => w.nw b (List.mem_filter.mp hb).1, fun b hb => List.mem_filter.mpr ⟨w.mm b hb, decide_eq_true fun e => n (e ▸ hb)⟩⟩
end
section
variable {CT CH CP : Addr} {M : List Addr} {H H' : Hp} {ta : TAd} {h : Int → HA} {ts : TSt} {wa : WA} {g : Int → HA} {ws : TSt} {ln : List Int} {rows : List (Option Ltr)}
def splaces (ta : TAd) (h : Int → HA) (ts : TSt) (wa : WA) (g : Int → HA) (ws : TSt) : List Addr := places ta h ts.hn ++ wplaces wa g ws.hn
theorem Sim.pm (S : Sim CT CH CP M H ta h ts wa g ws ln rows) : ∀ b ∈ splaces ta h ts wa g ws, b ∈ M := fun b hb => (List.mem_append.mp hb).elim (S.t.inM b) (S.w.inM b)
theorem Sim.wentPut {q : Addr} (S : Sim CT CH CP M H ta h ts wa g ws ln rows) (k : LH.Kp q H H') (qS : q ∈ wa.S) {ws' : TSt} (hn : ws'.hn = ws.hn) : Went M H (splaces ta h ts wa g ws) M H' (splaces ta h ts wa g ws') := by
  have qP : q ∈ splaces ta h ts wa g ws := List.mem_append.mpr (.inr (mem_wplaces.mpr (.inl qS)))
  have ks : LH.Ks [q] H H' := k.ks (List.mem_singleton.mpr rfl)
  refine ⟨S.pm, ks.sub fun b hb => by rw [List.mem_singleton.mp hb]; exact qP, fun b hb => .inl ?_, ks.frS fun b hb => by rw [List.mem_singleton.mp hb]; exact S.pm _ qP, fun b hb => .inl hb, fun b hb => hb⟩
  unfold splaces at hb ⊢
  rwa [hn] at hb
theorem Sim.wentOwn (S : Sim CT CH CP M H ta h ts wa g ws ln rows) {x : Int} (hx : x ∈ ws.hn) {st' : HS} {N : List Addr} {g' : HA} (nx : Nxt CH M H (g x) st' H' N g') : Went M H (splaces ta h ts wa g ws) (N ++ M) H' (splaces ta h ts wa (setI g x g') (ws.put x st')) := by
  have inW : ∀ b ∈ (g x).S, b ∈ splaces ta h ts wa g ws := fun b hb => List.mem_append.mpr (.inr (mem_wplaces.mpr (.inr ⟨x, hx, hb⟩)))
  refine ⟨S.pm, nx.ks.sub inW, fun b hb => ?_, nx.fr fun b hb => S.pm b (inW b hb), fun b hb => (List.mem_append.mp hb).elim (fun m => .inr (nx.nw b m)) .inl, fun b hb => List.mem_append.mpr (.inr hb)⟩
  rcases List.mem_append.mp hb with m | m
  · exact .inl (List.mem_append.mpr (.inl m))
  · rcases mem_wplaces.mp m with m | ⟨y, hy, m⟩
    · exact .inl (List.mem_append.mpr (.inr (mem_wplaces.mpr (.inl m))))
    · by_cases e : y = x
      · subst e
        rw [setI_same] at m
        exact (nx.sub b m).imp (inW b) (nx.nw b)
      · rw [setI_other e] at m
        exact .inl (List.mem_append.mpr (.inr (mem_wplaces.mpr (.inr ⟨y, hy, m⟩))))
theorem Sim.wentTown {N : List Addr} {h' : Int → HA} {ts' : TSt} (S : Sim CT CH CP M H ta h ts wa g ws ln rows) (n : TNxt CT CH CP M H ta h ts ts' H' N h') : Went M H (splaces ta h ts wa g ws) (N ++ M) H' (splaces ta h' ts' wa g ws) := by
  refine ⟨S.pm, n.ks.sub fun b hb => List.mem_append.mpr (.inl hb), fun b hb => ?_, n.fr, fun b hb => (List.mem_append.mp hb).elim (fun m => .inr (n.nw b m)) .inl, fun b hb => List.mem_append.mpr (.inr hb)⟩
  rcases List.mem_append.mp hb with m | m
  · rw [n.hn] at m
    exact (n.sub b m).imp (fun q => List.mem_append.mpr (.inl q)) (n.nw b)
  · exact .inl (List.mem_append.mpr (.inr m))
end
end TN
namespace TN
open PySem L2 LM HM
section
variable {CT CH CP : Addr} {M : List Addr} {H H' : Hp} {ta : TAd} {h : Int → HA} {ts : TSt}
theorem HouseAt.noLst {C : Addr} {F H : Hp} {a : HA} {st : HS} (h : HouseAt C F H a st) {b : Addr} (hb : b ∈ a.S) (xs : List V) : H b ≠ some (.lst xs) := fun g => by
  unfold HA.S at hb
  simp only [List.mem_cons] at hb
  rcases hb with rfl | rfl | rfl | rfl | rfl | rfl | rfl | rfl | hb
  · obtain ⟨dx, q⟩ := h.ob; rw [g] at q; cases q
  · obtain ⟨k, q, _⟩ := h.kn; rw [g] at q; cases q
  · obtain ⟨k, q, _⟩ := h.ea; rw [g] at q; cases q
  · obtain ⟨k, q, _⟩ := h.ma; rw [g] at q; cases q
  · have q := h.ms.dt; rw [g] at q; cases q
  · have q := h.ro; unfold PRo at q; rw [g] at q; cases q
  · obtain ⟨k, q, _⟩ := h.ba; rw [g] at q; cases q
  · obtain ⟨k, q, _⟩ := h.nm; rw [g] at q; cases q
  · obtain ⟨e, he, rfl⟩ := List.mem_map.mp hb
    obtain ⟨k, q, _⟩ := h.ms.inn e he
    rw [g] at q
    cases q
theorem TownAt.noLst (S : TownAt CT CH CP M H ta h ts) {b : Addr} {xs : List V} (gr : H b = some (.lst xs)) : b ∉ places ta h ts.hn := fun m => by
  rcases mem_places.mp m with m | ⟨x, hx, m⟩
  · unfold TAd.S at m
    simp only [List.mem_cons, List.not_mem_nil, or_false] at m
    rcases m with rfl | rfl | rfl | rfl | rfl
    · obtain ⟨dx, q⟩ := S.ob; rw [q] at gr; cases gr
    · have q := S.hd; rw [q] at gr; cases gr
    · obtain ⟨dx, q⟩ := S.po; rw [q] at gr; cases gr
    · obtain ⟨k, q, _⟩ := S.pd; rw [q] at gr; cases gr
    · obtain ⟨k, q, _⟩ := S.sp; rw [q] at gr; cases gr
  · exact TN.HouseAt.noLst (S.hs x hx) m xs gr
end
/-- how much more there is behind a deed -/
structure Step (ts ts' : TSt) : Prop where
  hn : ts'.hn = ts.hn
  c : ts'.c = ts.c
  h : ∀ x ∈ ts.hn, (ts'.st x).size ≤ (ts.st x).size + 5
  r : ∀ x ∈ ts.hn, (ts'.st x).rows.length ≤ (ts.st x).rows.length + 1
  n : ts'.n ≤ ts.n + 200
  l : ts'.lt.length ≤ ts.lt.length + 200
  s : ts'.sp.length ≤ ts.sp.length + 20
theorem Step.refl {ts : TSt} : Step ts ts := ⟨rfl, rfl, fun _ _ => by omega, fun _ _ => by omega, by omega, by omega, by omega⟩
/-- a letter heard, before the receiver tells -/
def TSt.heard (ts : TSt) (l : Ltr) : TSt := if l.r ∈ ts.hn then (ts.take l.n).put l.r ((ts.st l.r).hear l.w) else ts.take l.n
theorem bring_eq {ts : TSt} {l : Ltr} : ts.bring l = (ts.heard l).tell l.r (ts.bringT l) := by
  unfold TSt.bring TSt.heard TSt.bringT
  split <;> rfl
theorem heard_same {ts : TSt} {l : Ltr} : (ts.heard l).c = ts.c ∧ (ts.heard l).hn = ts.hn ∧ (ts.heard l).sp = ts.sp ∧ (ts.heard l).n = ts.n ∧ (ts.heard l).lt = (ts.take l.n).lt := by
  unfold TSt.heard
  split <;> exact ⟨rfl, rfl, rfl, rfl, rfl⟩
end TN
/-! a town's words: what is known was spoken -/
namespace TN
open PySem L2 LM HM
theorem sends_n {ts : TSt} {s : Int} {w : Wrd} : ∀ i : Nat, ts.n ≤ (ts.sends s w i).n ∧ (ts.sends s w i).n ≤ ts.n + i
  | 0 => ⟨Int.le_refl _, by show ts.n ≤ ts.n + 0; omega⟩
  | i + 1 => by
    have ih := sends_n (ts := ts) (s := s) (w := w) i
    unfold TSt.sends
    split
    · omega
    · show ts.n ≤ (ts.sends s w i).n + 1 ∧ (ts.sends s w i).n + 1 ≤ _
      omega
theorem tell_n {s : Int} : ∀ {ws : List Wrd} {ts : TSt}, ts.c ≤ 12 → (ts.tell s ws).n ≤ ts.n + 12 * ws.length
  | [], ts, _ => by show ts.n ≤ ts.n + 12 * 0; omega
  | w :: ws, ts, c2 => by
    obtain ⟨e, _⟩ := tell1_same (ts := ts) (s := s) (w := w)
    have h1 := tell_n (s := s) (ws := ws) (ts := ts.tell1 s w) (by rw [e]; exact c2)
    have h2 := (sends_n (ts := ts.speak w) (s := s) (w := w) ts.c.toNat).2
    have h3 : (ts.tell1 s w).n = ((ts.speak w).sends s w ts.c.toNat).n := rfl
    have h4 : (ts.speak w).n = ts.n := rfl
    show ((ts.tell1 s w).tell s ws).n ≤ _
    rw [List.length_cons]
    omega
theorem tell1_sp {ts : TSt} {s : Int} {w : Wrd} : (ts.tell1 s w).sp = HM.learn ts.sp w := (sends_same (ts := ts.speak w) (s := s) (w := w) ts.c.toNat).2.2.2
theorem tell_sp_le {s : Int} {u : Wrd} : ∀ {ws : List Wrd} {ts : TSt}, u ∈ ts.sp → u ∈ (ts.tell s ws).sp
  | [], _, h => h
  | w :: ws, ts, h => tell_sp_le (ws := ws) (ts := ts.tell1 s w) (by rw [tell1_sp]; exact mem_learn.mpr (.inl h))
theorem tell_sp_in {s : Int} {u : Wrd} : ∀ {ws : List Wrd} {ts : TSt}, u ∈ (ts.tell s ws).sp → u ∈ ts.sp ∨ u ∈ ws
  | [], _, h => .inl h
  | w :: ws, ts, h => by
    rcases tell_sp_in (ws := ws) (ts := ts.tell1 s w) h with h | h
    · rw [tell1_sp] at h
      rcases mem_learn.mp h with h | h
      · exact .inl h
      · exact .inr (by rw [h]; exact List.mem_cons_self ..)
    · exact .inr (List.mem_cons.mpr (.inr h))
theorem tell_sp_of {s : Int} {u : Wrd} : ∀ {ws : List Wrd} {ts : TSt}, u ∈ ws → u ∈ (ts.tell s ws).sp
  | w :: ws, ts, h => by
    rcases List.mem_cons.mp h with rfl | h
    · exact tell_sp_le (ws := ws) (ts := ts.tell1 s u) (by rw [tell1_sp]; exact mem_learn.mpr (.inr rfl))
    · exact tell_sp_of (ws := ws) (ts := ts.tell1 s w) h
theorem sends_lt_in {ts : TSt} {s : Int} {w : Wrd} {l : Ltr} : ∀ i, l ∈ (ts.sends s w i).lt → l ∈ ts.lt ∨ (l.w = w ∧ l.s = s)
  | 0, h => .inl h
  | i + 1, h => by
    unfold TSt.sends at h
    split at h
    · exact sends_lt_in i h
    · rcases List.mem_append.mp h with h | h
      · exact sends_lt_in i h
      · rw [List.mem_singleton.mp h]
        exact .inr ⟨rfl, rfl⟩
theorem tell_lt_in {s : Int} {l : Ltr} : ∀ {ws : List Wrd} {ts : TSt}, l ∈ (ts.tell s ws).lt → l ∈ ts.lt ∨ (l.w ∈ ws ∧ l.s = s)
  | [], _, h => .inl h
  | w :: ws, ts, h => by
    rcases tell_lt_in (ws := ws) (ts := ts.tell1 s w) h with h | h
    · rcases sends_lt_in (ts := ts.speak w) _ h with h | h
      · exact .inl h
      · exact .inr ⟨by rw [h.1]; exact List.mem_cons_self .., h.2⟩
    · exact .inr ⟨List.mem_cons.mpr (.inr h.1), h.2⟩
theorem mark_known_in {st : HS} {u z : Wrd} (h : z ∈ (st.mark u).known) : z ∈ st.known ∨ z = markOf st.own u := by
  unfold HS.mark at h
  split at h
  · exact mem_learn.mp h
  · exact .inl h
theorem hear_known {st : HS} {u z : Wrd} (h : z ∈ (st.hear u).known) : z ∈ st.known ∨ z = u ∨ z = markOf st.own u := by
  unfold HS.hear at h
  split at h
  · exact .inl h
  · rw [name_known, write_known] at h
    rcases mark_known_in h with h | h
    · exact (mem_learn.mp h).imp id .inl
    · exact .inr (.inr h)
theorem hear_keeps {st : HS} {u z : Wrd} (h : z ∈ st.known) : z ∈ (st.hear u).known := by
  unfold HS.hear
  split
  · exact h
  · rw [name_known, write_known]
    exact mark_known (mem_learn.mpr (.inl h))
theorem hear_knows {st : HS} {u : Wrd} : u ∈ (st.hear u).known := by
  unfold HS.hear
  split
  · assumption
  · rw [name_known, write_known]
    exact mark_known (mem_learn.mpr (.inr rfl))
/-- what a house knows is its own or was spoken; letters are of words that were spoken -/
structure KS (ts : TSt) : Prop where
  l : ∀ l ∈ ts.lt, l.w ∈ ts.sp
  k : ∀ x ∈ ts.hn, ∀ w ∈ (ts.st x).known, w.h = x ∨ w ∈ ts.sp
theorem KS.new {c : Int} {hn : List Int} : KS (TSt.new c hn) := ⟨(fun _ h => nomatch h), fun _ _ _ h => nomatch h⟩
/-- a house has other words by now, all its own or spoken; then it tells -/
theorem KS.tell {ts : TSt} {s : Int} {ws : List Wrd} (h : ∀ l ∈ ts.lt, l.w ∈ ts.sp) (k : ∀ x ∈ ts.hn, ∀ w ∈ (ts.st x).known, w.h = x ∨ w ∈ ts.sp) : KS (ts.tell s ws) := by
  obtain ⟨_, e2, e3⟩ := tell_same (ws := ws) (ts := ts) (s := s)
  refine ⟨fun l hl => ?_, fun x hx w hw => ?_⟩
  · rcases tell_lt_in hl with m | m
    · exact tell_sp_le (h l m)
    · exact tell_sp_of m.1
  · rw [e2] at hx
    rw [e3] at hw
    exact (k x hx w hw).imp id tell_sp_le
theorem KS.callW {ts : TSt} (g : GT ts) (K : KS ts) {x : Int} (hx : x ∈ ts.hn) {z : Str} {w : Wrd} (h : w ∈ (ts.st x).callT z) : w.h = x ∨ w ∈ ts.sp := by
  have ho := (g.hc x hx).2
  rcases List.mem_cons.mp h with rfl | h
  · exact .inl ho
  · rcases hear_known (st := { ts.st x with due := (ts.st x).due + (ts.st x).c }) (hear_tells h) with h | rfl | rfl
    · exact K.k x hx w h
    · exact .inl ho
    · exact .inl ho
theorem KS.bringW {ts : TSt} (g : GT ts) (K : KS ts) {l : Ltr} (hl : l ∈ ts.lt) (hx : l.r ∈ ts.hn) {w : Wrd} (h : w ∈ (ts.st l.r).hearT l.w) : w.h = l.r ∨ w ∈ ts.sp := by
  rcases hear_known (hear_tells h) with h | rfl | rfl
  · exact K.k _ hx w h
  · exact .inr (K.l l hl)
  · exact .inl (g.hc _ hx).2
theorem KS.call {ts : TSt} (g : GT ts) (K : KS ts) {x : Int} (hx : x ∈ ts.hn) {z : Str} : KS (ts.call x z) := by
  refine KS.tell (ts := ts.put x ((ts.st x).call z)) K.l fun y hy w hw => ?_
  by_cases e : y = x
  · subst e
    have hw : w ∈ (setI ts.st y ((ts.st y).call z) y).known := hw
    rw [setI_same] at hw
    have ho := (g.hc y hx).2
    rcases hear_known (st := { ts.st y with due := (ts.st y).due + (ts.st y).c }) hw with h | rfl | rfl
    · exact K.k y hx w h
    · exact .inl ho
    · exact .inl ho
  · have hw : w ∈ (setI ts.st x ((ts.st x).call z) y).known := hw
    rw [setI_other e] at hw
    exact K.k y hy w hw
theorem KS.bring {ts : TSt} (g : GT ts) (K : KS ts) {l : Ltr} (hl : l ∈ ts.lt) : KS (ts.bring l) := by
  have tk : ∀ m ∈ (ts.take l.n).lt, m.w ∈ ts.sp := fun m hm => K.l m (List.mem_filter.mp hm).1
  unfold TSt.bring
  split
  · next hx =>
    refine KS.tell (ts := (ts.take l.n).put l.r ((ts.st l.r).hear l.w)) tk fun y hy w hw => ?_
    by_cases e : y = l.r
    · subst e
      have hw : w ∈ (setI ts.st l.r ((ts.st l.r).hear l.w) l.r).known := hw
      rw [setI_same] at hw
      rcases hear_known hw with h | rfl | rfl
      · exact K.k _ hx w h
      · exact .inr (K.l l hl)
      · exact .inl (g.hc _ hx).2
    · have hw : w ∈ (setI ts.st l.r ((ts.st l.r).hear l.w) y).known := hw
      rw [setI_other e] at hw
      exact K.k y hy w hw
  · exact ⟨tk, K.k⟩
theorem KS.lie {ts : TSt} (K : KS ts) {s r : Int} {w : Wrd} : KS (ts.lie s r w) := by
  refine ⟨fun l hl => ?_, fun x hx u hu => (K.k x hx u hu).imp id fun m => mem_learn.mpr (.inl m)⟩
  rcases List.mem_append.mp hl with m | m
  · exact mem_learn.mpr (.inl (K.l l m))
  · rw [List.mem_singleton.mp m]
    exact mem_learn.mpr (.inr rfl)
end TN
namespace TN
open PySem L2 LM HM
theorem hear_rows_len {st : HS} {w : Wrd} : (st.hear w).rows.length ≤ st.rows.length + 1 := by
  unfold HS.hear
  split
  · exact Nat.le_succ _
  · have h1 : ((((st.learn w).mark w).write w).name w).rows = (((st.learn w).mark w).write w).rows := by unfold HS.name; split <;> rfl
    have h2 : ((st.learn w).mark w).rows = st.rows := by unfold HS.mark; split <;> rfl
    rw [h1]
    unfold HS.write
    split
    · show (((st.learn w).mark w).rows ++ [(w.n, w.r)]).length ≤ _
      rw [h2, List.length_append]
      exact Nat.le_refl _
    · rw [h2]
      exact Nat.le_succ _
theorem bring_st {ts : TSt} {l : Ltr} (x : Int) : (ts.bring l).st x = if x = l.r ∧ l.r ∈ ts.hn then (ts.st x).hear l.w else ts.st x := by
  unfold TSt.bring
  by_cases c : l.r ∈ ts.hn
  · rw [if_pos c, (tell_same).2.2]
    show setI ts.st l.r ((ts.st l.r).hear l.w) x = _
    by_cases e : x = l.r
    · subst e
      rw [setI_same, if_pos ⟨rfl, c⟩]
    · rw [setI_other e, if_neg fun q => e q.1]
  · rw [if_neg c, if_neg fun q => c q.2]
    rfl
theorem call_st {ts : TSt} {y : Int} {z : Str} (x : Int) : (ts.call y z).st x = if x = y then (ts.st x).call z else ts.st x := by
  unfold TSt.call
  rw [(tell_same).2.2]
  show setI ts.st y ((ts.st y).call z) x = _
  by_cases e : x = y
  · subst e
    rw [setI_same, if_pos rfl]
  · rw [setI_other e, if_neg e]
end TN
namespace TN
open PySem L2 LM HM
/-- a word of a town of c houses -/
structure Val (c : Int) (w : Wrd) : Prop where
  k : (w.k = "say" ∧ w.h = w.n % c) ∨ w.k = "mark"
  n0 : 0 ≤ w.n
  n1 : w.n ≤ 9999
  r : isRowS w.r = true
  h0 : 0 ≤ w.h
  h1 : w.h < c
structure VS (ts : TSt) : Prop where
  s : ∀ w ∈ ts.sp, Val ts.c w
  k : ∀ x ∈ ts.hn, ∀ w ∈ (ts.st x).known, Val ts.c w
  d : ∀ x ∈ ts.hn, 0 ≤ (ts.st x).due ∧ (ts.st x).due % ts.c = x
theorem VS.new {c : Int} {hn : List Int} (c1 : 1 ≤ c) (hb : ∀ x ∈ hn, 0 ≤ x ∧ x < c) : VS (TSt.new c hn) :=
  ⟨(fun _ h => nomatch h), (fun _ _ _ h => nomatch h), fun x hx => ⟨(hb x hx).1, Int.emod_eq_of_lt (hb x hx).1 (hb x hx).2⟩⟩
theorem Val.mark {c own : Int} {u : Wrd} (v : Val c u) (h0 : 0 ≤ own) (h1 : own < c) : Val c (markOf own u) := ⟨.inr rfl, v.n0, v.n1, v.r, h0, h1⟩
theorem hear_val {st : HS} {c : Int} {u : Wrd} (k : ∀ w ∈ st.known, Val c w) (v : Val c u) (h0 : 0 ≤ st.own) (h1 : st.own < c) : ∀ w ∈ (st.hear u).known, Val c w := fun w hw => by
  rcases hear_known hw with h | rfl | rfl
  · exact k w h
  · exact v
  · exact v.mark h0 h1
theorem VS.tell {ts : TSt} {s : Int} {ws : List Wrd} (h : VS ts) (v : ∀ w ∈ ws, Val ts.c w) : VS (ts.tell s ws) := by
  obtain ⟨e1, e2, e3⟩ := tell_same (ws := ws) (ts := ts) (s := s)
  refine ⟨fun w hw => ?_, fun x hx => ?_, fun x hx => ?_⟩
  · rw [e1]
    exact (tell_sp_in hw).elim (h.s w) (v w)
  · rw [e1, e3]
    rw [e2] at hx
    exact h.k x hx
  · rw [e1, e3]
    rw [e2] at hx
    exact h.d x hx
theorem VS.put {ts : TSt} {x : Int} {st' : HS} (h : VS ts) (k : x ∈ ts.hn → ∀ w ∈ st'.known, Val ts.c w) (d : x ∈ ts.hn → 0 ≤ st'.due ∧ st'.due % ts.c = x) : VS (ts.put x st') := by
  refine ⟨h.s, fun y hy => ?_, fun y hy => ?_⟩
  · show ∀ w ∈ (setI ts.st x st' y).known, Val ts.c w
    by_cases e : y = x
    · subst e; rw [setI_same]; exact k hy
    · rw [setI_other e]; exact h.k y hy
  · show 0 ≤ (setI ts.st x st' y).due ∧ (setI ts.st x st' y).due % ts.c = y
    by_cases e : y = x
    · subst e; rw [setI_same]; exact d hy
    · rw [setI_other e]; exact h.d y hy
theorem VS.bring {ts : TSt} (g : GT ts) (K : KS ts) (h : VS ts) {l : Ltr} (hl : l ∈ ts.lt) : VS (ts.bring l) := by
  have v := h.s _ (K.l l hl)
  unfold TSt.bring
  split
  · next hx =>
    obtain ⟨hc, ho⟩ := g.hc _ hx
    have hb := g.hb _ hx
    have kn := hear_val (h.k _ hx) v (by rw [ho]; exact hb.1) (by rw [ho]; exact hb.2)
    refine VS.tell (ts := (ts.take l.n).put l.r ((ts.st l.r).hear l.w)) (VS.put (ts := ts.take l.n) ⟨h.s, h.k, h.d⟩ (fun _ => kn) fun _ => ?_) fun w hw => kn w (hear_tells hw)
    rw [hear_same.2.2]
    exact h.d _ hx
  · exact ⟨h.s, h.k, h.d⟩
theorem VS.call {ts : TSt} (g : GT ts) (h : VS ts) {x : Int} (hx : x ∈ ts.hn) {z : Str} (r : isRowS z = true) (n : (ts.st x).due ≤ 9999) : VS (ts.call x z) := by
  obtain ⟨hc, ho⟩ := g.hc _ hx
  have hb := g.hb _ hx
  obtain ⟨d0, d1⟩ := h.d x hx
  have v : Val ts.c (sayOf (ts.st x) z) := ⟨.inl ⟨rfl, by show (ts.st x).own = (ts.st x).due % ts.c; rw [ho, d1]⟩, d0, n, r, by show 0 ≤ (ts.st x).own; rw [ho]; exact hb.1, by show (ts.st x).own < ts.c; rw [ho]; exact hb.2⟩
  have kn : ∀ w ∈ ((ts.st x).call z).known, Val ts.c w := hear_val (st := { ts.st x with due := (ts.st x).due + (ts.st x).c }) (h.k _ hx) v (by show 0 ≤ (ts.st x).own; rw [ho]; exact hb.1) (by show (ts.st x).own < ts.c; rw [ho]; exact hb.2)
  refine VS.tell (ts := ts.put x ((ts.st x).call z)) (VS.put h (fun _ => kn) fun _ => ?_) fun w hw => ?_
  · have e : ((ts.st x).call z).due = (ts.st x).due + (ts.st x).c := (hear_same (st := { ts.st x with due := (ts.st x).due + (ts.st x).c }) (w := sayOf (ts.st x) z)).2.2
    have c1 := g.c1
    rw [e, hc]
    exact ⟨by omega, by rw [Int.add_emod_right]; exact d1⟩
  · rcases List.mem_cons.mp hw with rfl | hw
    · exact v
    · exact kn w (hear_tells (st := { ts.st x with due := (ts.st x).due + (ts.st x).c }) hw)
theorem VS.lie {ts : TSt} (h : VS ts) {s r : Int} {w : Wrd} (v : Val ts.c w) : VS (ts.lie s r w) :=
  ⟨fun u hu => (mem_learn.mp hu).elim (h.s u) fun e => e ▸ v, h.k, h.d⟩
end TN
/-! a comprehension over a range with a test and new objects; a for over the keys of a dict that an expression tells -/
namespace LH
open PySem L2
section
variable {K : PySem.W.Frag} {σ : L2.St} {H : Hp} {Q : VK} {te td : TE} {t : TT}
/-- a comprehension over a range, what stands beside the new list told by P -/
theorem lc_RI {n j : Nat} {vs : List Nat} (hz : n ≤ 100000) (f : Nat → Bool) (P : Nat → List V → Hp → Prop) (hw : ∀ x, wipe ((wipe σ vs).set j (some x)) vs = wipe σ vs)
    (hl : ∀ i ys F, P i ys F → ys.length ≤ i) (h0 : ∀ D, H D = none → P 0 [] (Fr [D] H)) (hs : ∀ i ys F, f i = false → P i ys F → P (i + 1) ys F)
    (ht : ∀ i, i < n → ∀ H1, L2.Same H H1 → ∀ Q : Bool → Hp → Prop, Q (f i) H1 → t ((wipe σ vs).set j (some (.int (0 + (i : Nat))))) H1 Q)
    (he : ∀ i ys D H1, i < n → f i = true → L2.Same H (Fr [D] H1) → H1 D = some (.lst ys) → P i ys (Fr [D] H1) → ∀ Q : VK, (∀ y H2, L2.Same H1 H2 → P (i + 1) (ys ++ [y]) (Fr [D] H2) → Q y H2) → te ((wipe σ vs).set j (some (.int (0 + (i : Nat))))) H1 Q)
    (k : ∀ D H2 ys, H D = none → L2.Same H H2 → H2 D = some (.lst ys) → P n ys (Fr [D] H2) → Q (.ref D) H2) : LcJ (Itr 0 n) (gName j) t te vs σ H Q := by
  intro D hD
  refine ⟨fun i m H' => m = n - i ∧ i ≤ n ∧ L2.Same H (Fr [D] H') ∧ ∃ ys, H' D = some (.lst ys) ∧ P i ys (Fr [D] H'), ⟨n, rfl, Nat.zero_le _, fr_same (M := []) hD (LH.Same.new hD), [], upd_same, by rw [fr_upd]; exact h0 D hD⟩, ?_⟩
  rintro i m H' ⟨rfl, hi, e, ys, gD, p⟩
  by_cases hlt : i < n
  · refine .inr ⟨hlt, fun H2 => L2.Same H (Fr [D] H2) ∧ ∃ ys, H2 D = some (.lst ys) ∧ P (i + 1) ys (Fr [D] H2), fun H2 p2 => ⟨n - (i + 1), by omega, rfl, hlt, p2⟩, fun x H2 y => ?_⟩
    obtain ⟨rfl, rfl⟩ := y
    refine ⟨hw _, ht i hlt _ (e.trans fr_le) _ ?_⟩
    cases hf : f i with
    | true =>
      rw [if_pos rfl]
      refine he i ys D H2 hlt hf e gD p _ fun y H3 e3 p3 => ⟨ys, e3 _ _ gD, sz' (by have := hl _ _ _ p; omega), ?_, _, upd_same, ?_⟩
      · exact same_mut (e.trans (same_fr e3)) Kp.upd
      · rw [fr_upd]
        exact p3
    | false =>
      rw [if_neg Bool.false_ne_true]
      exact ⟨e, ys, gD, hs _ _ _ hf p⟩
  · have e2 : i = n := by omega
    subst e2
    exact .inl ⟨Nat.le_refl _, k D H' ys hD (e.trans fr_le) gD p⟩
/-- a for over the keys of a dict that an expression tells, the dict locked meanwhile -/
theorem lock_keysE {d : Addr} {kvs : List (Key × V)} {g : TG} {tb : TS} {D : Ends} (hd : H d = some (.dK kvs)) (ht : ∀ od (R : V → Hp → Prop), R (.ref d) (upd H d (.frz od (.dK kvs))) → td σ (upd H d (.frz od (.dK kvs))) R) (Pv : Obj → Nat → L2.St → Hp → Prop)
    (h0 : ∀ od, Pv od 0 σ (upd H d (.frz od (.dK kvs)))) (hl : ∀ od n σ H, Pv od n σ H → H d = some (.frz od (.dK kvs)))
    (hs : ∀ od n k v σ H, kvs[n]? = some (k, v) → Pv od n σ H → g (kV k) σ H fun σ2 H2 => tb { nx := Pv od (n + 1), rt := fun v H' => H' d = some (.frz od (.dK kvs)) ∧ D.rt v (upd H' d (.dK kvs)), ct := Pv od (n + 1), bk := fun σ' H' => H' d = some (.frz od (.dK kvs)) ∧ D.nx σ' (upd H' d (.dK kvs)) } σ2 H2)
    (he : ∀ od σ H, Pv od kvs.length σ H → D.nx σ (upd H d (.dK kvs))) : tLock (tFor (iKeys td) g tb) D σ H := by
  refine ⟨d, .dK kvs, hd, trivial, fun od => ht od _ ?_⟩
  refine ⟨d, od, rfl, .inl ⟨kvs, upd_same, ?_⟩⟩
  refine ⟨fun n m σ' H' => m = kvs.length - n ∧ n ≤ kvs.length ∧ Pv od n σ' H', ⟨kvs.length, by simp, Nat.zero_le _, h0 od⟩, ?_⟩
  rintro n m σ' H' ⟨rfl, hn, p⟩
  have hd' := hl od n σ' H' p
  by_cases hlt : n < kvs.length
  · refine .inr ⟨⟨hd', hlt⟩, Pv od (n + 1), fun σ2 H2 p2 => ⟨kvs.length - (n + 1), by omega, rfl, hlt, p2⟩, fun x H2 y => ?_⟩
    obtain ⟨rfl, k, v, e, rfl⟩ := y
    exact hs od n k v σ' _ e p
  · have e : n = kvs.length := by omega
    subst e
    exact .inl ⟨⟨hd', Nat.le_refl _⟩, hd', he od σ' H' p⟩
end
end LH
namespace LH
open PySem L2
theorem getIF {H : Hp} {a : Addr} {o : Obj} {kvs : List (Key × V)} {i : Int} (h : H a = some (.frz o (.dK kvs))) : DGet H a (.int i) (valV kvs (Sum.inl i)) := .inl ⟨kvs, .inl i, .inr ⟨o, h⟩, rfl, rfl⟩
end LH
namespace LH
open PySem L2
section
variable {K : PySem.W.Frag} {H : Hp} {Q : VK}
def rDictP (K : PySem.W.Frag) : List V → Hp → VK → Prop := fun xs H Q => ∃ (a : Addr) (ps : List Addr) (kvs : List (Key × V)), xs = [.ref a] ∧ SqL K H a (ps.map V.ref) ∧ Paired (fun p kv => SqT K H p [kV kv.1, kv.2]) ps kvs ∧ ∀ p, H p = none → Q (.ref p) (upd H p (.dK (mergeK [] kvs)))
theorem call_dictP0 {X : Cx} (hc : X.calm = true) : CallR X (.type "dict") (rDictP X.K) := call_dictP hc
theorem x_dictP {a : Addr} {ps : List Addr} {kvs : List (Key × V)} (h : SqL K H a (ps.map V.ref)) (hp : Paired (fun p kv => SqT K H p [kV kv.1, kv.2]) ps kvs) (k : ∀ p H2, H p = none → L2.Same H H2 → H2 p = some (.dK (mergeK [] kvs)) → Q (.ref p) H2) : rDictP K [.ref a] H Q :=
  ⟨a, ps, kvs, rfl, h, hp, fun p f => k p _ f (LH.Same.new f) upd_same⟩
end
/-- two items that are the same data, or equal as deep as n -/
def MixE (K : PySem.W.Frag) (H : Hp) (n : Nat) (x y : V) : Prop := EqV K H n x y ∨ ∃ d, Dp K H x d ∧ Dp K H y d ∧ SeqAt.shaped d = true
def rNeM (K : PySem.W.Frag) : R2 := fun x y H Q => ∃ n a b xs ys, n ≤ 60 ∧ x = .ref a ∧ y = .ref b ∧ SqL K H a xs ∧ SqL K H b ys ∧ Paired (MixE K H n) xs ys ∧ Q (.bl false) H
theorem op_neM {X : Cx} (hu : X.A.units + 65 < cLine) : OpR X (compareOp .NotEq) (rNeM X.K) := by
  intro pins s σ H x y v u Q I rx ry h
  obtain ⟨n, a, b, xs, ys, hn, rfl, rfl, ha, hb, hp, q⟩ := h
  cases (show v = Value.ref a from rx)
  cases (show u = Value.ref b from ry)
  obtain ⟨us, r1, p1, _⟩ := I.list ha
  obtain ⟨ws, r2, p2, _⟩ := I.list hb
  have hsz : us.toArray.size = ws.toArray.size := by
    rw [List.size_toArray, List.size_toArray, ← r1.length, ← r2.length]
    exact Paired.length hp
  refine rc_ne_lists p1.isList p2.isList hsz (by omega) (fun j h1 h2 => ?_) _ _ ⟨.bl false, H, I, rfl, q⟩
  have ih : ∀ x y v u, MixE X.K H n x y → RelV x v → RelV y u → SeqAt.EqP X.prog X.w X.A.in1 s v u true := fun x y v u m rx ry => by
    rcases m with m | ⟨d, h1, h2, sd⟩
    · exact eqV_run I n X.A.in1 (by show X.A.units + 1 + n < cLine; omega) x y v u m rx ry
    · obtain ⟨as, q1⟩ := Dp.reads I d x v h1 rx
      obtain ⟨bs, q2⟩ := Dp.reads I d y u h2 ry
      have e := SeqAt.eqAt_reads d d X.A.in1 s v u as bs q1 q2 (SeqAt.canLay_of_shaped sd) (SeqAt.canLay_of_shaped sd) (SeqAt.room_of_shaped sd (by show X.A.units + 1 + 64 < cLine; omega))
      have e2 : PyData.eqv d d = true := SeqAt.eqv_refl d (SeqAt.canLay_of_shaped sd)
      rw [e2] at e
      exact e.eqP
  have k := items_run (P := X.prog) (w := X.w) (s := s) (A := X.A.in1) (F := MixE X.K H n) ih hp r1 r2 j (by simpa using h1) (by simpa using h2)
  simpa using k
theorem x_neM {K : PySem.W.Frag} {a b : Addr} {xs ys : List V} {H : Hp} {Q : VK} (n : Nat) (hn : n ≤ 60) (h1 : SqL K H a xs) (h2 : SqL K H b ys) (hp : Paired (MixE K H n) xs ys) (q : Q (.bl false) H) : rNeM K (.ref a) (.ref b) H Q := ⟨n, a, b, xs, ys, hn, rfl, rfl, h1, h2, hp, q⟩
end LH
/-! tuples whose items are all equal; lists of such compared by != -/
namespace LH
open PySem PySem.Spec PyProof.Rows L2 SeqAt
open AutoSeq1 (wpAny_loadPart')
open MeetsSeq MeetsSeq2 MeetsSeq3 SeqRoads2
section
variable {prog : Program} {w : World}
theorem te_in (l b : Addr) (xs ys : Array Value) (n m : Nat) (d1 d2 : Option Addr) (t1 t2 : Array (Option Value)) (same : xs.size = ys.size) :
    MeetsIn prog w (Builtin.«tuple.__eq__» ⟨[.ref l, .ref b], []⟩) (fun A R s =>
      s.heap.get? l = some { cls := .type "tuple", dict := d1, data := .seq xs n, slots := t1 } ∧ s.heap.get? b = some { cls := .type "tuple", dict := d2, data := .seq ys m, slots := t2 } ∧
      (∀ j (h1 : j < xs.size) (h2 : j < ys.size), EqP prog w A.in1 s xs[j] ys[j] true) ∧ R (.ok (.ret (.bool true))) s) := by
  intro A R s h
  obtain ⟨hp, g, d, tk, os⟩ := s
  obtain ⟨hl, hb, he, h⟩ := h
  have sub := AutoSeq1.sub_tuple_tuple
  have len : (xs.toList.zip ys.toList).length = xs.size := by simp [same]
  wp_walk using wpAny_loadPart' hl, wpAny_loadPart' hb, wpAny_forIn_list _ (fun rest b s' => b.1 = none ∧ s' = ⟨hp, g, d, tk, os⟩ ∧ ∃ i, rest = (xs.toList.zip ys.toList).drop i) _
  case turn =>
    rintro ⟨y, x⟩ rest b s' ⟨nb, rfl, i, hz⟩
    have lt : i < (xs.toList.zip ys.toList).length := by
      by_cases c : i < (xs.toList.zip ys.toList).length
      · exact c
      · rw [List.drop_of_length_le (Nat.le_of_not_lt c)] at hz
        cases hz
    have i1 : i < xs.size := len ▸ lt
    have i2 : i < ys.size := same ▸ i1
    rw [List.drop_eq_getElem_cons lt] at hz
    injection hz with e1 e2
    have ey : y = xs[i] := by
      have := congrArg Prod.fst e1
      simpa using this
    have ex : x = ys[i] := by
      have := congrArg Prod.snd e1
      simpa using this
    subst ey ex
    refine wpAny_bind (he i i1 i2 _ _ ?_)
    wp_walk
    exact ⟨rfl, rfl, i + 1, e2⟩
  case fin =>
    rintro ⟨b1, b2⟩ s' ⟨nb, rfl, _⟩
    simp only at nb
    subst nb
    wp_walk using wpAny_loadPart' hl, wpAny_loadPart' hb
    show R (.ok (.ret (.bool (xs.size == ys.size)))) _
    rw [same]
    simpa using h
  case h => exact ⟨rfl, rfl, 0, rfl⟩
theorem rc_eq_tups {A : Around} {s : Shared} {l b : Addr} {xs ys : Array Value} (hl : IsTup s.heap l xs) (hb : IsTup s.heap b ys) (same : xs.size = ys.size) (hu : A.units < cLine)
    (he : ∀ j (h1 : j < xs.size) (h2 : j < ys.size), EqP prog w A.in1 s xs[j] ys[j] true) (E Q : Value → Shared → Prop) (h : Q (.bool true) s) : wpAny (model prog w) A (richCompare .Eq (.ref l) (.ref b)) Q E s := by
  obtain ⟨⟨c1, d1, x1, t1⟩, o1, hc1, n, hd1⟩ := id hl
  obtain ⟨⟨c2, d2, x2, t2⟩, o2, hc2, m, hd2⟩ := id hb
  simp only at hc1 hd1 hc2 hd2
  subst hc1 hd1 hc2 hd2
  have ta : s.TypeIs (.ref l) "tuple" := ⟨_, o1, rfl⟩
  have tb : s.TypeIs (.ref b) "tuple" := ⟨_, o2, rfl⟩
  refine wpAny_richCompare_same_room (op := .Eq) ta tb F.slot_tuple_eq (call_meetsIn F.slot_tuple_eq ta F.entry_tuple_eq (F.args_tuple_eq_2 _ _) (te_in l b xs ys n m d1 d2 t1 t2 same) ⟨o1, o2, he, ?_⟩) hu
  exact ⟨(fun x => nomatch x), h⟩
end
section
variable {X : Cx} {pins : List (Addr × Obj)} {σ : L2.St} {H : Hp} {s : Shared}
/-- equal as deep as n: tuples, lists and dicts of what is equal, or the same data -/
def EqW (K : PySem.W.Frag) (H : Hp) : Nat → V → V → Prop
  | 0 => fun _ _ => False
  | n + 1 => fun x y => (x = y ∧ flatB x = true) ∨ (∃ d, Dp K H x d ∧ Dp K H y d ∧ SeqAt.shaped d = true) ∨ (∃ a b xs ys, x = .ref a ∧ y = .ref b ∧ SqT K H a xs ∧ SqT K H b ys ∧ Paired (EqW K H n) xs ys) ∨ EqR K H (EqW K H n) x y
theorem eqW_run (I : L2.Inv X pins σ H s) : ∀ (n : Nat) (A : Around), A.units + n + 64 < cLine → ∀ (x y : V) (v u : Value), EqW X.K H n x y → RelV x v → RelV y u → SeqAt.EqP X.prog X.w A s v u true
  | 0, _, _, _, _, _, _, h, _, _ => (show False from h).elim
  | n + 1, A, hu, x, y, v, u, h, rx, ry => by
    have ih := eqW_run I n A.in1 (by show A.units + 1 + n + 64 < cLine; omega)
    rcases h with ⟨rfl, f⟩ | ⟨d, h1, h2, sd⟩ | ⟨a, b, xs, ys, rfl, rfl, ha, hb, hp⟩ | h
    · exact (eqAt_same rx ry f).eqP
    · obtain ⟨as, q1⟩ := Dp.reads I d x v h1 rx
      obtain ⟨bs, q2⟩ := Dp.reads I d y u h2 ry
      have e := SeqAt.eqAt_reads d d A s v u as bs q1 q2 (SeqAt.canLay_of_shaped sd) (SeqAt.canLay_of_shaped sd) (SeqAt.room_of_shaped sd (by omega))
      have e2 : PyData.eqv d d = true := SeqAt.eqv_refl d (SeqAt.canLay_of_shaped sd)
      rw [e2] at e
      exact e.eqP
    · cases (show v = Value.ref a from rx)
      cases (show u = Value.ref b from ry)
      by_cases e : a = b
      · subst e
        exact (SeqAt.EqAt.same _).eqP
      obtain ⟨us, r1, p1, _⟩ := I.tuple ha
      obtain ⟨ws, r2, p2, _⟩ := I.tuple hb
      have hsz : us.toArray.size = ws.toArray.size := by
        rw [List.size_toArray, List.size_toArray, ← r1.length, ← r2.length]
        exact Paired.length hp
      refine SeqAt.eqP_refs e fun E Q q => rc_eq_tups p1 p2 hsz (by omega) (fun j h1 h2 => ?_) E Q q
      have k := items_run (P := X.prog) (w := X.w) (s := s) (A := A.in1) (F := EqW X.K H n) ih hp r1 r2 j (by simpa using h1) (by simpa using h2)
      simpa using k
    · have step := eqR_run I (A := A) (by omega) ih h rx ry
      obtain ⟨a, b, rfl, rfl⟩ : ∃ a b, x = .ref a ∧ y = .ref b := by
        rcases h with ⟨a, b, _, _, e1, e2, _⟩ | ⟨a, b, _, _, e1, e2, _⟩
        · exact ⟨a, b, e1, e2⟩
        · exact ⟨a, b, e1, e2⟩
      cases (show v = Value.ref a from rx)
      cases (show u = Value.ref b from ry)
      by_cases e : a = b
      · subst e
        exact (SeqAt.EqAt.same _).eqP
      · exact SeqAt.eqP_refs e step
def rNeW (K : PySem.W.Frag) : R2 := fun x y H Q => ∃ n a b xs ys, n ≤ 20 ∧ x = .ref a ∧ y = .ref b ∧ SqL K H a xs ∧ SqL K H b ys ∧ Paired (EqW K H n) xs ys ∧ Q (.bl false) H
theorem op_neW {X : Cx} (hu : X.A.units + 100 < cLine) : OpR X (compareOp .NotEq) (rNeW X.K) := by
  intro pins s σ H x y v u Q I rx ry h
  obtain ⟨n, a, b, xs, ys, hn, rfl, rfl, ha, hb, hp, q⟩ := h
  cases (show v = Value.ref a from rx)
  cases (show u = Value.ref b from ry)
  obtain ⟨us, r1, p1, _⟩ := I.list ha
  obtain ⟨ws, r2, p2, _⟩ := I.list hb
  have hsz : us.toArray.size = ws.toArray.size := by
    rw [List.size_toArray, List.size_toArray, ← r1.length, ← r2.length]
    exact Paired.length hp
  refine rc_ne_lists p1.isList p2.isList hsz (by omega) (fun j h1 h2 => ?_) _ _ ⟨.bl false, H, I, rfl, q⟩
  have ih : ∀ x y v u, EqW X.K H n x y → RelV x v → RelV y u → SeqAt.EqP X.prog X.w X.A.in1 s v u true := eqW_run I n X.A.in1 (by show X.A.units + 1 + n + 64 < cLine; omega)
  have k := items_run (P := X.prog) (w := X.w) (s := s) (A := X.A.in1) (F := EqW X.K H n) ih hp r1 r2 j (by simpa using h1) (by simpa using h2)
  simpa using k
theorem x_neW {K : PySem.W.Frag} {a b : Addr} {xs ys : List V} {H : Hp} {Q : VK} (n : Nat) (hn : n ≤ 20) (h1 : SqL K H a xs) (h2 : SqL K H b ys) (hp : Paired (EqW K H n) xs ys) (q : Q (.bl false) H) : rNeW K (.ref a) (.ref b) H Q := ⟨n, a, b, xs, ys, hn, rfl, rfl, h1, h2, hp, q⟩
end
theorem units100 {k : Nat} {A : Around} (r : Room k A) : A.units + 100 < cLine := by have := r.un; omega
end LH
/-! a town's letters: what is sent, what stays, what is gone -/
namespace TN
open PySem L2 LM HM
theorem sends_lt_keep {ts : TSt} {s : Int} {w : Wrd} {l : Ltr} : ∀ i, l ∈ ts.lt → l ∈ (ts.sends s w i).lt
  | 0, h => h
  | i + 1, h => by
    unfold TSt.sends
    split
    · exact sends_lt_keep i h
    · exact List.mem_append.mpr (.inl (sends_lt_keep i h))
theorem tell_lt_keep {s : Int} {l : Ltr} : ∀ {ws : List Wrd} {ts : TSt}, l ∈ ts.lt → l ∈ (ts.tell s ws).lt
  | [], _, h => h
  | w :: ws, ts, h => tell_lt_keep (ws := ws) (ts := ts.tell1 s w) (sends_lt_keep (ts := ts.speak w) _ h)
theorem sends_lt_of {ts : TSt} {s r : Int} {w : Wrd} : ∀ i : Nat, 0 ≤ r → r < i → r ≠ s → ∃ l ∈ (ts.sends s w i).lt, l.r = r ∧ l.w = w
  | 0, h0, h1, _ => by omega
  | i + 1, h0, h1, n => by
    unfold TSt.sends
    by_cases e : r = i
    · subst e
      rw [if_neg n]
      exact ⟨_, List.mem_append.mpr (.inr (List.mem_singleton.mpr rfl)), rfl, rfl⟩
    · obtain ⟨l, h, q⟩ := sends_lt_of (ts := ts) (s := s) (w := w) i h0 (by omega) n
      split
      · exact ⟨l, h, q⟩
      · exact ⟨l, List.mem_append.mpr (.inl h), q⟩
theorem tell_lt_of {s r : Int} {w : Wrd} (n : r ≠ s) (r0 : 0 ≤ r) : ∀ {ws : List Wrd} {ts : TSt}, r < ts.c → w ∈ ws → ∃ l ∈ (ts.tell s ws).lt, l.r = r ∧ l.w = w
  | v :: ws, ts, hr, h => by
    rcases List.mem_cons.mp h with rfl | h
    · obtain ⟨l, h1, q⟩ := sends_lt_of (ts := ts.speak w) (s := s) (w := w) ts.c.toNat r0 (by omega) n
      exact ⟨l, tell_lt_keep (ws := ws) (ts := ts.tell1 s w) h1, q⟩
    · exact tell_lt_of n r0 (ws := ws) (ts := ts.tell1 s v) (by rw [tell1_same.1]; exact hr) h
theorem sends_lt_lb {ts : TSt} {s : Int} {w : Wrd} {l : Ltr} : ∀ i : Nat, l ∈ (ts.sends s w i).lt → l ∈ ts.lt ∨ ts.n ≤ l.n
  | 0, h => .inl h
  | i + 1, h => by
    unfold TSt.sends at h
    split at h
    · exact sends_lt_lb i h
    · rcases List.mem_append.mp h with h | h
      · exact sends_lt_lb i h
      · rw [List.mem_singleton.mp h]
        exact .inr (sends_n (ts := ts) (s := s) (w := w) i).1
theorem tell_lt_lb {s : Int} {l : Ltr} : ∀ {ws : List Wrd} {ts : TSt}, l ∈ (ts.tell s ws).lt → l ∈ ts.lt ∨ ts.n ≤ l.n
  | [], _, h => .inl h
  | w :: ws, ts, h => by
    have h1 := (sends_n (ts := ts.speak w) (s := s) (w := w) ts.c.toNat).1
    have h2 : (ts.tell1 s w).n = ((ts.speak w).sends s w ts.c.toNat).n := rfl
    have h3 : (ts.speak w).n = ts.n := rfl
    rcases tell_lt_lb (ws := ws) (ts := ts.tell1 s w) h with h | h
    · rcases sends_lt_lb (ts := ts.speak w) _ h with h | h
      · exact .inl h
      · exact .inr (by omega)
    · exact .inr (by omega)
theorem take_lt {ts : TSt} {i : Int} {l : Ltr} : l ∈ (ts.take i).lt ↔ l ∈ ts.lt ∧ l.n ≠ i := by
  unfold TSt.take
  rw [List.mem_filter]
  simp
theorem bring_keep {ts : TSt} {l m : Ltr} (h : m ∈ ts.lt) (n : m.n ≠ l.n) : m ∈ (ts.bring l).lt := by
  rw [bring_eq]
  refine tell_lt_keep ?_
  rw [heard_same.2.2.2.2]
  exact take_lt.mpr ⟨h, n⟩
theorem bring_gone {ts : TSt} {l : Ltr} (g : GT ts) (hl : l ∈ ts.lt) : ∀ m ∈ (ts.bring l).lt, m.n ≠ l.n := fun m h => by
  rw [bring_eq] at h
  have := (g.lb l hl).2
  rcases tell_lt_lb h with h | h
  · rw [heard_same.2.2.2.2] at h
    exact (take_lt.mp h).2
  · rw [heard_same.2.2.2.1] at h
    omega
theorem bring_n {ts : TSt} {l : Ltr} : (ts.bring l).c = ts.c ∧ (ts.bring l).hn = ts.hn := by
  rw [bring_eq]
  exact ⟨(tell_same).1.trans heard_same.1, (tell_same).2.1.trans heard_same.2.1⟩
theorem bring_sp {ts : TSt} {l : Ltr} {u : Wrd} (h : u ∈ ts.sp) : u ∈ (ts.bring l).sp := by
  rw [bring_eq]
  exact tell_sp_le (by rw [heard_same.2.2.1]; exact h)
theorem bring_told {ts : TSt} {l : Ltr} {u : Wrd} (h : u ∈ ts.bringT l) : u ∈ (ts.bring l).sp := by
  rw [bring_eq]
  exact tell_sp_of h
/-- what a new house says -/
theorem callT_new {c x : Int} {z : Str} {w : Wrd} (h : w ∈ (HS.new c x).callT z) : w = ⟨"say", x, z, x⟩ ∨ w = ⟨"mark", x, z, x⟩ := by
  unfold HS.callT at h
  rcases List.mem_cons.mp h with h | h
  · exact .inl h
  · rcases hear_known (hear_tells h) with h | h | h
    · cases h
    · exact .inl h
    · exact .inr h
theorem callT_say {st : HS} {z : Str} : sayOf st z ∈ st.callT z := List.mem_cons_self
/-- a new house marks what it hears said -/
theorem new_marks {c x n h : Int} {z : Str} : (⟨"mark", n, z, x⟩ : Wrd) ∈ (HS.new c x).hearT ⟨"say", n, z, h⟩ := by
  unfold HS.hearT
  rw [if_neg (by show ¬ _ ∈ ([] : List Wrd); exact List.not_mem_nil)]
  refine List.mem_append.mpr (.inl (List.mem_append.mpr (.inl ?_)))
  unfold HS.markT
  rw [if_pos (by unfold HS.marks; show (decide ("say" = "say") && !decide (n ∈ ([] : List Int))) = true; simp)]
  exact List.mem_singleton.mpr rfl
theorem hearT_old {st : HS} {w : Wrd} (h : w ∈ st.known) : st.hearT w = [] ∧ st.hear w = st := by
  unfold HS.hearT HS.hear
  rw [if_pos h, if_pos h]
  exact ⟨rfl, rfl⟩
theorem hear_it {st : HS} {w : Wrd} : w ∈ (st.hear w).known := by
  unfold HS.hear
  split
  · assumption
  · rw [name_known, write_known]
    exact mark_known (mem_learn.mpr (.inr rfl))
theorem lie_lt {ts : TSt} {s r : Int} {w : Wrd} : (ts.lie s r w).lt = ts.lt ++ [⟨ts.n, s, r, w⟩] := rfl
theorem lie_sp {ts : TSt} {s r : Int} {w : Wrd} : (ts.lie s r w).sp = HM.learn ts.sp w := rfl
theorem call_lt_in {ts : TSt} {x : Int} {z : Str} {l : Ltr} (h : l ∈ (ts.call x z).lt) : l ∈ ts.lt ∨ (l.w ∈ (ts.st x).callT z ∧ l.s = x) := tell_lt_in (ts := ts.put x _) h
theorem call_sp_in {ts : TSt} {x : Int} {z : Str} {u : Wrd} (h : u ∈ (ts.call x z).sp) : u ∈ ts.sp ∨ u ∈ (ts.st x).callT z := tell_sp_in (ts := ts.put x _) h
theorem call_lt_of {ts : TSt} {x r : Int} {z : Str} {w : Wrd} (n : r ≠ x) (r0 : 0 ≤ r) (r1 : r < ts.c) (h : w ∈ (ts.st x).callT z) : ∃ l ∈ (ts.call x z).lt, l.r = r ∧ l.w = w := tell_lt_of n r0 (ts := ts.put x _) r1 h
end TN
/-! comprehensions over a list with any target -/
namespace LH
open PySem L2
section
variable {K : PySem.W.Frag} {σ : L2.St} {H : Hp} {Q : VK} {t : TT} {te : TE} {g : TG}
theorem lc_LG {a : Addr} {xs : List V} {vs : List Nat} (hx : SqL K H a xs) (hz : xs.length ≤ 100000) (P : Nat → List V → Hp → Prop) (h0 : ∀ D, H D = none → P 0 [] (Fr [D] H))
    (hb : ∀ (i : Nat) x ys D H1, xs[i]? = some x → L2.Same H (Fr [D] H1) → H1 D = some (.lst ys) → P i ys (Fr [D] H1) → ∀ (Q : VK) (N : Hp → Prop), (∀ y H2, L2.Same H1 H2 → P (i + 1) (ys ++ [y]) (Fr [D] H2) → Q y H2) →
      g x (wipe σ vs) H1 fun σ2 H2 => wipe σ2 vs = wipe σ vs ∧ t σ2 H2 fun b H3 => if b = true then te σ2 H3 Q else N H3)
    (k : ∀ D H2 ys, H D = none → L2.Same H H2 → H2 D = some (.lst ys) → P xs.length ys (Fr [D] H2) → Q (.ref D) H2) : LcV K g t te vs σ (.ref a) H Q := by
  refine ⟨a, rfl, ⟨xs, hx⟩, fun D hD => ?_⟩
  refine lc_list (xs := xs) (fun i H' => L2.Same H (Fr [D] H') ∧ ∃ ys, H' D = some (.lst ys) ∧ ys.length ≤ i ∧ P i ys (Fr [D] H'))
    ⟨fr_same (M := []) hD (LH.Same.new hD), [], upd_same, Nat.le_refl _, by rw [fr_upd]; exact h0 D hD⟩ (fun i H' _ p => L2.Same.seq (p.1.trans fr_le) hx) ?_ ?_
  · rintro i x H' hi ⟨e0, ys, gD, ly, hy⟩
    have hlt : i < xs.length := (List.getElem?_eq_some_iff.mp hi).1
    refine hb i x ys D H' hi e0 gD hy _ _ fun y H3 e3 p3 => ⟨ys, e3 _ _ gD, sz' (by omega), ?_, ys ++ [y], upd_same, by rw [List.length_append]; exact Nat.add_le_add_right ly 1, ?_⟩
    · exact same_mut (e0.trans (same_fr e3)) Kp.upd
    · rw [fr_upd]
      exact p3
  · rintro H' ⟨e0, ys, gD, ly, hy⟩
    exact k D H' ys hD (e0.trans fr_le) gD hy
theorem x_max {a : Addr} {ns : List Int} {m : Int} (h : SqL K H a (ns.map V.int)) (hm : m ∈ ns) (ha : ∀ y ∈ ns, y ≤ m) (q : Q (.int m) H) : rMax K [.ref a] H Q :=
  ⟨a, ns, rfl, h, List.length_pos_of_mem hm, fun m' h1 h2 => by
    have e : m' = m := Int.le_antisymm (ha m' h1) (h2 m hm)
    rw [e]
    exact q⟩
end
end LH
/-! == of a thing with a number, the thing a dict or of data -/
namespace LH
open PySem PySem.Calls PySem.Spec PyProof.Rows PyProof.V L2 SeqAt
open AutoSeq1 (wpAny_loadPart')
theorem int_eq_declines_dict (b : Int) (u : Tok) (l : Addr) (c : Value) (es : Array DictEntry) (ep : Nat) (dd : Option Addr) (sl : Array (Option Value)) :
    Meets (Builtin.«int.__eq__» ⟨[.int b u, .ref l], []⟩) (fun _ R s => s.heap.get? l = some { cls := c, dict := dd, data := .dict es ep, slots := sl } ∧ R (.ok (.ret .notImplemented)) s) :=
  .of_wp fun prog w A R s h => by obtain ⟨hp, g, d, tk, os⟩ := s; obtain ⟨hl, h⟩ := h; wp_walk using wpAny_loadPart' hl, wpAny_load hl; exact ⟨_, rfl, h⟩
section
variable {prog : Program} {w : World} {K : Type} [DecidableEq K] {knd : KeyKind prog w K} {A : Around} {s : Shared}
theorem rc_dict_int {a : Addr} {ka : List (K × Value)} {i : Int} {t : Tok} (da : s.heap.DictOf knd a ka) (hu : A.units < cLine) (E Q : Value → Shared → Prop) (h : Q (.bool false) s) : wpAny (model prog w) A (richCompare .Eq (.ref a) (.int i t)) Q E s := by
  refine rc_eq_decline_or (k := false) da.typeIs (typeIs_int s i t) (by decide) F.sub_int_dict F.slot_dict_eq F.slot_int_eq_refl (fun Q' hq => ?_) (fun Q' hq => ?_) (fun _ hq => wpAny_of_eq (rfl : isSame (.ref a) (.int i t) = pure false) hq) (.inr hu) h
  · refine wpAny_call_entry PySem.F.slot_dict_eq da.typeIs PySem.F.entry_dict_eq ?_ (PySem.F.args_dict_eq_2 _ _)
    show wpAny _ _ (Builtin.Dict.dictSlotArgs "__eq__" ⟨[.ref a, .int i t], []⟩ >>= _) _ _ s
    refine wpAny_bind ?_
    unfold Builtin.Dict.dictSlotArgs
    refine wpAny_bind (wpAny_notOrdered_dict da.typeIs ?_)
    show wpAny _ _ (pure (Value.ref a, Value.int i t)) _ _ s
    refine wpAny_pure ?_
    refine wpAny_bind (wpAny_isInstance (T := "int") (typeIs_int s i t) PySem.F.sub_int_dict ?_)
    simp only [Bool.not_false, if_true]
    exact wpAny_bind (wpAny_rule (wpAny_pure ⟨_, rfl, hq⟩))
  · obtain ⟨⟨c, dd, dat, sl⟩, es, ep, ho, _, hd, _⟩ := id da
    simp only at hd
    subst hd
    exact call_meets F.slot_int_eq_refl (typeIs_int s i t) F.entry_int_eq (F.args_int_eq_2 _ _) (int_eq_declines_dict i t a c es ep dd sl) ⟨ho, hq⟩
end
section
variable {X : Cx}
/-- x == i : x of data, or a dict -/
def rEqO (K : PySem.W.Frag) : R2 := fun x y H Q => ∃ i : Int, y = .int i ∧ ((∃ d, Dp K H x d ∧ SeqAt.shaped d = true ∧ Q (.bl (PyData.eqv d (.int i))) H) ∨ ∃ a kvs, x = .ref a ∧ H a = some (.dK kvs) ∧ Q (.bl false) H)
theorem op_eqO (hu : X.A.units + 100 < cLine) : OpR X (compareOp .Eq) (rEqO X.K) := by
  intro pins s σ H x y v u Q I rx ry h
  obtain ⟨i, rfl, h⟩ := h
  rcases h with ⟨d, hd, sd, q⟩ | ⟨a, kvs, rfl, ha, q⟩
  · exact op_eqD (by omega) pins s σ H x (.int i) v u Q I rx ry ⟨d, .int i, hd, .int i, sd, rfl, q⟩
  · cases (show v = Value.ref a from rx)
    obtain ⟨t, rfl⟩ := (show ∃ t, u = Value.int i t from ry)
    obtain ⟨_, ya, va, ra, da⟩ := (show ObjOk X.prog X.w H s.heap a (.dK kvs) from I.hok a _ ha)
    exact rc_dict_int da (by omega) _ _ ⟨.bl false, H, I, rfl, q⟩
end
end LH
/-! what an honest house says of its own is one word for each kind and number -/
namespace TN
open PySem L2 LM HM
structure One (st : HS) : Prop where
  m : Mine st
  u : ∀ w ∈ st.known, ∀ v ∈ st.known, w.h = st.own → v.h = st.own → w.k = v.k → w.n = v.n → w = v
  d : ∀ w ∈ st.known, w.h = st.own → w.k = "say" → w.n < st.due
theorem One.new (c own : Int) : One (HS.new c own) := ⟨Mine.new c own, (fun _ h => nomatch h), fun _ h => nomatch h⟩
theorem One.later {st : HS} (o : One st) {d : Int} (h : st.due ≤ d) : One { st with due := d } :=
  ⟨o.m, o.u, fun w hw e k => Int.lt_of_lt_of_le (o.d w hw e k) h⟩
theorem hear_knownEq {st : HS} {w : Wrd} (n : w ∉ st.known) : (st.hear w).known = ((st.learn w).mark w).known := by
  unfold HS.hear
  rw [if_neg n, name_known, write_known]
theorem One.hear {st : HS} {w : Wrd} (o : One st) (h : w ∉ st.known → w.h ≠ st.own ∨ (w.k = "say" ∧ w.n < st.due ∧ ∀ v ∈ st.known, v.h = st.own → v.k = "say" → v.n ≠ w.n)) : One (st.hear w) := by
  by_cases kn : w ∈ st.known
  · rw [(hearT_old kn).2]
    exact o
  have h := h kn
  have no : ¬ (w.k = "mark" ∧ w.h = st.own) := fun q => by
    rcases h with h | ⟨h, _⟩
    · exact h q.2
    · rw [h] at q
      exact absurd q.1 (by decide)
  obtain ⟨_, eo, ed⟩ := hear_same (st := st) (w := w)
  have ek := hear_knownEq kn
  have kk := known_new o.m kn no
  rw [kk] at ek
  have inn : ∀ z ∈ (st.hear w).known, z ∈ st.known ∨ z = w ∨ (z = markOf st.own w ∧ w.k = "say" ∧ w.n ∉ st.marked) := fun z hz => by
    rw [ek] at hz
    rcases List.mem_append.mp hz with hz | hz
    · rcases List.mem_append.mp hz with hz | hz
      · exact .inl hz
      · exact .inr (.inl (List.mem_singleton.mp hz))
    · unfold HS.markT at hz
      split at hz
      · next hm =>
        unfold HS.marks at hm
        rw [Bool.and_eq_true, Bool.not_eq_true', decide_eq_false_iff_not, decide_eq_true_eq] at hm
        exact .inr (.inr ⟨List.mem_singleton.mp hz, hm.1, hm.2⟩)
      · cases hz
  refine ⟨o.m.hear no, ?_, ?_⟩
  · have mk : ∀ v ∈ st.known, v.h = st.own → v.k = "mark" → v.n = w.n → w.n ∈ st.marked := fun v hv e1 e2 e3 => (o.m w.n).mpr ⟨v, hv, e2, e3, e1⟩
    have old : ∀ v ∈ st.known, v.h = st.own → w.h = st.own → v.k = w.k → v.n = w.n → False := fun v hv e1 e2 e3 e4 => by
      rcases h with h | ⟨h1, _, h2⟩
      · exact h e2
      · exact h2 v hv e1 (e3.trans h1) e4
    intro a ha b hb
    rw [eo]
    intro e1 e2 e3 e4
    rcases inn a ha with ka | rfl | ⟨rfl, qa, na⟩
    · rcases inn b hb with kb | rfl | ⟨rfl, qb, nb⟩
      · exact o.u a ka b kb e1 e2 e3 e4
      · exact (old a ka e1 e2 e3 e4).elim
      · exact absurd (mk a ka e1 e3 e4) nb
    · rcases inn b hb with kb | rfl | ⟨rfl, qb, nb⟩
      · exact (old b kb e2 e1 e3.symm e4.symm).elim
      · rfl
      · rw [qb] at e3
        exact absurd e3 (by show ¬ ("say" : Str) = "mark"; decide)
    · rcases inn b hb with kb | rfl | ⟨rfl, qb, nb⟩
      · exact absurd (mk b kb e2 e3.symm e4.symm) na
      · rw [qa] at e3
        exact absurd e3 (by show ¬ ("mark" : Str) = "say"; decide)
      · rfl
  · intro a ha
    rw [eo, ed]
    intro e1 e2
    rcases inn a ha with ka | rfl | ⟨rfl, _, _⟩
    · exact o.d a ka e1 e2
    · rcases h with h | ⟨_, h, _⟩
      · exact absurd e1 h
      · exact h
    · exact absurd e2 (by show ¬ ("mark" : Str) = "say"; decide)
theorem One.call {st : HS} {z : Str} (o : One st) (c : 0 < st.c) : One (st.call z) := by
  refine One.hear (st := { st with due := st.due + st.c }) (o.later (by omega)) fun _ => .inr ⟨rfl, ?_, fun v hv e k => ?_⟩
  · show st.due < st.due + st.c
    omega
  · have := o.d v hv e k
    show v.n ≠ st.due
    omega
/-- no honest house's word is forged -/
structure OS (ts : TSt) : Prop where
  one : ∀ x ∈ ts.hn, One (ts.st x)
  own : ∀ w ∈ ts.sp, w.h ∈ ts.hn → w ∈ (ts.st w.h).known
theorem OS.new {c : Int} {hn : List Int} : OS (TSt.new c hn) := ⟨fun x _ => One.new c x, fun _ h => nomatch h⟩
theorem OS.tell {ts : TSt} {s : Int} {ws : List Wrd} (one : ∀ x ∈ ts.hn, One (ts.st x)) (own : ∀ w ∈ ts.sp, w.h ∈ ts.hn → w ∈ (ts.st w.h).known) (k : ∀ w ∈ ws, w.h ∈ ts.hn → w ∈ (ts.st w.h).known) : OS (ts.tell s ws) := by
  obtain ⟨_, e2, e3⟩ := tell_same (ws := ws) (ts := ts) (s := s)
  refine ⟨fun x hx => ?_, fun w hw hh => ?_⟩
  · rw [e2] at hx
    rw [e3]
    exact one x hx
  · rw [e2] at hh
    rw [e3]
    exact (tell_sp_in hw).elim (fun q => own w q hh) fun q => k w q hh
theorem OS.call {ts : TSt} (g : GT ts) (K : KS ts) (O : OS ts) {x : Int} (hx : x ∈ ts.hn) {z : Str} : OS (ts.call x z) := by
  have keep : ∀ w y, w ∈ (ts.st y).known → w ∈ (setI ts.st x ((ts.st x).call z) y).known := fun w y hw => by
    by_cases e : y = x
    · subst e
      rw [setI_same]
      exact hear_keeps (st := { ts.st y with due := (ts.st y).due + (ts.st y).c }) hw
    · rw [setI_other e]
      exact hw
  refine OS.tell (ts := ts.put x ((ts.st x).call z)) (fun y hy => ?_) (fun w hw hh => keep w _ (O.own w hw hh)) fun w hw hh => ?_
  · show One (setI ts.st x ((ts.st x).call z) y)
    by_cases e : y = x
    · subst e
      rw [setI_same]
      have := (g.hc y hy).1
      have := g.c1
      exact (O.one y hy).call (by omega)
    · rw [setI_other e]
      exact O.one y hy
  · show w ∈ (setI ts.st x ((ts.st x).call z) w.h).known
    have kc : w ∈ ((ts.st x).call z).known := by
      rcases List.mem_cons.mp hw with rfl | hw
      · exact hear_knows
      · exact hear_tells hw
    rcases KS.callW g K hx hw with e | m
    · rw [e, setI_same]
      exact kc
    · exact keep w _ (O.own w m hh)
theorem OS.bring {ts : TSt} (g : GT ts) (K : KS ts) (O : OS ts) {l : Ltr} (hl : l ∈ ts.lt) : OS (ts.bring l) := by
  unfold TSt.bring
  split
  · next hx =>
    have keep : ∀ w y, w ∈ (ts.st y).known → w ∈ (setI ts.st l.r ((ts.st l.r).hear l.w) y).known := fun w y hw => by
      by_cases e : y = l.r
      · subst e
        rw [setI_same]
        exact hear_keeps hw
      · rw [setI_other e]
        exact hw
    refine OS.tell (ts := (ts.take l.n).put l.r ((ts.st l.r).hear l.w)) (fun y hy => ?_) (fun w hw hh => keep w _ (O.own w hw hh)) fun w hw hh => ?_
    · show One (setI ts.st l.r ((ts.st l.r).hear l.w) y)
      by_cases e : y = l.r
      · subst e
        rw [setI_same]
        refine (O.one _ hx).hear fun n => .inl fun q => n ?_
        rw [(g.hc _ hx).2] at q
        have := O.own l.w (K.l l hl) (by rw [q]; exact hx)
        rw [q] at this
        exact this
      · rw [setI_other e]
        exact O.one y hy
    · show w ∈ (setI ts.st l.r ((ts.st l.r).hear l.w) w.h).known
      rcases KS.bringW g K hl hx hw with e | m
      · rw [e, setI_same]
        exact hear_tells hw
      · exact keep w _ (O.own w m hh)
  · exact ⟨O.one, O.own⟩
theorem OS.lie {ts : TSt} (O : OS ts) {s r : Int} {w : Wrd} (h : (w.h = s ∧ s ∉ ts.hn) ∨ w ∈ ts.sp) : OS (ts.lie s r w) := by
  refine ⟨O.one, fun u hu hh => ?_⟩
  show u ∈ (ts.st u.h).known
  rcases mem_learn.mp hu with m | rfl
  · exact O.own u m hh
  · rcases h with ⟨e, n⟩ | m
    · have hh : u.h ∈ ts.hn := hh
      rw [e] at hh
      exact absurd hh n
    · exact O.own u m hh
/-- two spoken words of an honest house, of one kind and number, are one -/
theorem OS.same {ts : TSt} (g : GT ts) (O : OS ts) {w v : Wrd} (hw : w ∈ ts.sp) (hv : v ∈ ts.sp) (hh : w.h ∈ ts.hn) (e : v.h = w.h) (k : w.k = v.k) (n : w.n = v.n) : w = v := by
  have o := (g.hc _ hh).2
  have kv := O.own v hv (by rw [e]; exact hh)
  rw [e] at kv
  exact (O.one _ hh).u w (O.own w hw hh) v kv o.symm (by rw [e, o]) k n
theorem sub_len : ∀ {A B : List Int}, A.Nodup → (∀ x ∈ A, x ∈ B) → A.length ≤ B.length
  | [], _, _, _ => Nat.zero_le _
  | a :: A, B, nd, h => by
    rw [List.nodup_cons] at nd
    have ha := h a List.mem_cons_self
    have := sub_len (A := A) (B := B.erase a) nd.2 fun x hx => (List.mem_erase_of_ne (fun e : x = a => nd.1 (e ▸ hx))).mpr (h x (List.mem_cons_of_mem _ hx))
    have l := List.length_erase_of_mem ha
    have p := List.length_pos_of_mem ha
    rw [List.length_cons]
    omega
theorem split_len (p : Int → Bool) : ∀ A : List Int, A.length = (A.filter p).length + (A.filter fun x => !p x).length
  | [] => rfl
  | a :: A => by
    have ih := split_len p A
    rw [List.filter_cons, List.filter_cons]
    cases p a <;> simp <;> omega
/-- two lists of enough houses share one that is none of few -/
theorem quorum {c : Int} {A B L : List Int} (c1 : 1 ≤ c) (nA : A.Nodup) (nB : B.Nodup) (rA : ∀ x ∈ A, 0 ≤ x ∧ x < c) (rB : ∀ x ∈ B, 0 ≤ x ∧ x < c) (lA : en c ≤ A.length) (lB : en c ≤ B.length) (few : (L.length : Int) ≤ (c - 1) / 3) : ∃ x ∈ A, x ∈ B ∧ x ∉ L := by
  apply Classical.byContradiction
  intro no
  have inL : ∀ x ∈ A, x ∈ B → x ∈ L := fun x h1 h2 => Classical.byContradiction fun h3 => no ⟨x, h1, h2, h3⟩
  have h1 := split_len (fun x => decide (x ∈ B)) A
  have h2 : (A.filter fun x => decide (x ∈ B)).length ≤ L.length := sub_len (nA.filter _) fun x hx => by
    obtain ⟨q1, q2⟩ := List.mem_filter.mp hx
    exact inL x q1 (of_decide_eq_true q2)
  have nd : ((A.filter fun x => !decide (x ∈ B)) ++ B).Nodup := List.nodup_append.mpr ⟨nA.filter _, nB, fun a ha b hb e => by
    have := (List.mem_filter.mp ha).2
    rw [e] at this
    simp [hb] at this⟩
  have h3 := sub_len (B := (List.range c.toNat).map fun i : Nat => (i : Int)) nd fun x hx => by
    have r : 0 ≤ x ∧ x < c := (List.mem_append.mp hx).elim (fun q => rA x (List.mem_filter.mp q).1) (rB x)
    exact List.mem_map.mpr ⟨x.toNat, List.mem_range.mpr (by omega), by omega⟩
  rw [List.length_append, List.length_map, List.length_range] at h3
  unfold en at lA lB
  omega
end TN
/-! what is written is backed by enough marks of different houses -/
namespace TN
open PySem L2 LM HM
theorem rise_h {l : List Wrd} : ∀ {R : List Nat}, R.Nodup → ((R.filterMap fun (h : Nat) => l.find? fun (w : Wrd) => decide (w.h = (h : Int))).map (·.h)).Nodup ∧ ∀ x ∈ (R.filterMap fun (h : Nat) => l.find? fun (w : Wrd) => decide (w.h = (h : Int))).map (·.h), ∃ i ∈ R, x = (i : Int)
  | [], _ => ⟨List.nodup_nil, fun _ h => nomatch h⟩
  | i :: R, nd => by
    rw [List.nodup_cons] at nd
    obtain ⟨h1, h2⟩ := rise_h (l := l) nd.2
    rw [List.filterMap_cons]
    cases e : l.find? fun (w : Wrd) => decide (w.h = (i : Int)) with
    | none => exact ⟨h1, fun x hx => let ⟨j, q1, q2⟩ := h2 x hx; ⟨j, List.mem_cons_of_mem _ q1, q2⟩⟩
    | some w =>
      have hw : w.h = i := by simpa using List.find?_some e
      refine ⟨?_, fun x hx => ?_⟩
      · rw [List.map_cons, List.nodup_cons]
        refine ⟨fun m => ?_, h1⟩
        obtain ⟨j, q1, q2⟩ := h2 _ m
        rw [hw] at q2
        have : i = j := by omega
        exact nd.1 (this ▸ q1)
      · rw [List.map_cons] at hx
        rcases List.mem_cons.mp hx with rfl | hx
        · exact ⟨i, List.mem_cons_self, hw⟩
        · obtain ⟨j, q1, q2⟩ := h2 x hx
          exact ⟨j, List.mem_cons_of_mem _ q1, q2⟩
theorem rise_all {c : Int} {l : List Wrd} {w : Wrd} (hw : w ∈ l) (h0 : 0 ≤ w.h) (h1 : w.h < c) : w.h ∈ (rise c l).map (·.h) := by
  unfold rise
  cases e : l.find? fun v => decide (v.h = ((w.h.toNat : Nat) : Int)) with
  | none =>
    have := List.find?_eq_none.mp e w hw
    simp at this
    omega
  | some v =>
    have hv : v.h = ((w.h.toNat : Nat) : Int) := by simpa using List.find?_some e
    exact List.mem_map.mpr ⟨v, List.mem_filterMap.mpr ⟨w.h.toNat, List.mem_range.mpr (by omega), e⟩, by rw [hv]; omega⟩
/-- a written row and its backing -/
def Backed (st : HS) (e : Int × Str) (b : Int × List Wrd) : Prop := b.1 = e.1 ∧ (∀ w ∈ b.2, w.k = "mark" ∧ w.n = e.1 ∧ w.r = e.2 ∧ w ∈ st.known) ∧ (b.2.map (·.h)).Nodup ∧ en st.c ≤ b.2.length
def BK (st : HS) : Prop := Paired (Backed st) st.rows st.backs
theorem BK.more {st st' : HS} (h : BK st) (r : st'.rows = st.rows) (b : st'.backs = st.backs) (c : st'.c = st.c) (k : ∀ w ∈ st.known, w ∈ st'.known) : BK st' := by
  unfold BK
  rw [r, b]
  exact LH.Paired.imp (fun e b q => ⟨q.1, fun w hw => let ⟨a1, a2, a3, a4⟩ := q.2.1 w hw; ⟨a1, a2, a3, k w a4⟩, q.2.2.1, by rw [c]; exact q.2.2.2⟩) h
theorem BK.write {st : HS} {w : Wrd} (g : Good st) (h : BK st) : BK (st.write w) := by
  unfold HS.write
  split
  · next hw =>
    unfold HS.writes at hw
    rw [Bool.and_eq_true, decide_eq_true_eq] at hw
    refine LH.Paired.snoc h ⟨rfl, fun v hv => ?_, (rise_h (List.nodup_range)).1, ?_⟩
    · obtain ⟨m1, m2⟩ := List.mem_filter.mp (mem_rise hv)
      obtain ⟨q1, q2⟩ := isM_nr m2
      obtain ⟨q3, q4⟩ := nr_eq.mp q2
      exact ⟨q1, q3, q4, m1⟩
    · refine Int.le_trans hw.2 (Int.ofNat_le.mpr ?_)
      have nd : ((marksOf st.known (nr w)).map (·.h)).Nodup := by
        have n1 : (marksOf st.known (nr w)).Nodup := g.nd.filter _
        refine List.pairwise_map.mpr (List.Pairwise.imp_of_mem (fun ha hb n e => n ?_) n1)
        exact mark_eq (List.mem_filter.mp ha).2 (List.mem_filter.mp hb).2 e
      have := sub_len (B := (rise st.c (marksOf st.known (nr w))).map (·.h)) nd fun x hx => by
        obtain ⟨v, hv, rfl⟩ := List.mem_map.mp hx
        have r := g.wd v (List.mem_filter.mp hv).1
        exact rise_all hv r.2.1 r.2.2
      rw [List.length_map, List.length_map] at this
      exact this
  · exact h
theorem paired_leftB {α β : Type} {F : α → β → Prop} : ∀ {xs : List α} {ys : List β}, Paired F xs ys → ∀ x ∈ xs, ∃ y, y ∈ ys ∧ F x y
  | _, _, .nil, _, h => nomatch h
  | _, _, .cons q r, x, h => by
    rcases List.mem_cons.mp h with rfl | h
    · exact ⟨_, List.mem_cons_self, q⟩
    · obtain ⟨y, h1, h2⟩ := paired_leftB r x h
      exact ⟨y, List.mem_cons_of_mem _ h1, h2⟩
theorem BK.new (c own : Int) : BK (HS.new c own) := .nil
theorem BK.hear {st : HS} {w : Wrd} (g : Good st) (o : FitW st.c w) (h : BK st) : BK (st.hear w) := by
  unfold HS.hear
  split
  · exact h
  · have g1 := g.learn o
    have g2 := g1.mark o.1
    have b1 : BK (st.learn w) := h.more rfl rfl rfl fun _ q => mem_learn.mpr (.inl q)
    have b2 : BK ((st.learn w).mark w) := b1.more (mark_same).2.2.2 (by unfold HS.mark; split <;> rfl) (mark_same).1 fun _ q => mark_known q
    have b3 := b2.write (w := w) g2
    exact b3.more (name_same).2.2.2 (by unfold HS.name; split <;> rfl) (name_same).1 fun _ q => by rw [name_known]; exact q
/-- all honest houses' rows are backed by words that were spoken -/
structure Safe (ts : TSt) : Prop where
  ks : KS ts
  os : OS ts
  gd : ∀ x ∈ ts.hn, Good (ts.st x)
  bk : ∀ x ∈ ts.hn, BK (ts.st x)
  kn : ∀ x ∈ ts.hn, ∀ w ∈ (ts.st x).known, w ∈ ts.sp
/-- rows of honest houses at one number are alike -/
theorem Safe.rows {ts : TSt} (g : GT ts) (S : Safe ts) {L : List Int} (hl : ∀ x : Int, 0 ≤ x → x < ts.c → x ∉ ts.hn → x ∈ L) (few : (L.length : Int) ≤ (ts.c - 1) / 3) {x y : Int} (hx : x ∈ ts.hn) (hy : y ∈ ts.hn) {n : Int} {z z' : Str} (h1 : (n, z) ∈ (ts.st x).rows) (h2 : (n, z') ∈ (ts.st y).rows) : z = z' := by
  have get : ∀ {x : Int} {z : Str}, x ∈ ts.hn → (n, z) ∈ (ts.st x).rows → ∃ ws : List Wrd, (∀ w ∈ ws, w.k = "mark" ∧ w.n = n ∧ w.r = z ∧ w ∈ ts.sp) ∧ (ws.map (·.h)).Nodup ∧ en ts.c ≤ ws.length ∧ ∀ w ∈ ws, 0 ≤ w.h ∧ w.h < ts.c := fun {x z} hx h => by
    obtain ⟨b, _, q1, q2, q3, q4⟩ := paired_leftB (S.bk x hx) _ h
    have ec := (g.hc x hx).1
    rw [ec] at q4
    exact ⟨b.2, fun w hw => let ⟨a1, a2, a3, a4⟩ := q2 w hw; ⟨a1, a2, a3, S.kn x hx w a4⟩, q3, q4, fun w hw => by
      have := ((S.gd x hx).wd w (q2 w hw).2.2.2).2
      rw [ec] at this
      exact this⟩
  obtain ⟨A, a1, a2, a3, a4⟩ := get hx h1
  obtain ⟨B, b1, b2, b3, b4⟩ := get hy h2
  obtain ⟨p, pA, pB, pL⟩ := quorum (A := A.map (·.h)) (B := B.map (·.h)) (L := L) g.c1 a2 b2
    (fun p hp => by obtain ⟨w, hw, rfl⟩ := List.mem_map.mp hp; exact a4 w hw) (fun p hp => by obtain ⟨w, hw, rfl⟩ := List.mem_map.mp hp; exact b4 w hw)
    (by rw [List.length_map]; exact a3) (by rw [List.length_map]; exact b3) few
  obtain ⟨w, hw, rfl⟩ := List.mem_map.mp pA
  obtain ⟨v, hv, e⟩ := List.mem_map.mp pB
  have hh : w.h ∈ ts.hn := Classical.byContradiction fun q => pL (hl _ (a4 w hw).1 (a4 w hw).2 q)
  obtain ⟨k1, n1, r1, s1⟩ := a1 w hw
  obtain ⟨k2, n2, r2, s2⟩ := b1 v hv
  have := S.os.same g s1 s2 hh e (k1.trans k2.symm) (n1.trans n2.symm)
  rw [← r1, ← r2, this]
/-- what comes to be known by hearing is heard or told -/
theorem hear_new {st : HS} {u z : Wrd} (h : z ∈ (st.hear u).known) : z ∈ st.known ∨ z = u ∨ z ∈ st.hearT u := by
  by_cases kn : u ∈ st.known
  · rw [(hearT_old kn).2] at h
    exact .inl h
  · rw [hear_knownEq kn] at h
    unfold HS.mark at h
    split at h
    · next hm =>
      rcases mem_learn.mp h with h | h
      · exact (mem_learn.mp h).imp id .inl
      · refine .inr (.inr ?_)
        unfold HS.hearT
        rw [if_neg kn]
        refine List.mem_append.mpr (.inl (List.mem_append.mpr (.inl ?_)))
        unfold HS.markT
        rw [if_pos hm, h]
        exact List.mem_singleton.mpr rfl
    · exact (mem_learn.mp h).imp id .inl
theorem Safe.new {c : Int} {hn : List Int} (g : GT (TSt.new c hn)) : Safe (TSt.new c hn) :=
  ⟨KS.new, OS.new, fun x hx => Good.new g.c1 g.c2 (g.hb x hx).1 (g.hb x hx).2, fun x _ => BK.new c x, fun _ _ _ h => nomatch h⟩
theorem Safe.call {ts : TSt} (g : GT ts) (S : Safe ts) {x : Int} (hx : x ∈ ts.hn) {z : Str} (o : LM.Ok z) : Safe (ts.call x z) := by
  have ec := (g.hc x hx).1
  have eo := (g.hc x hx).2
  have hb := g.hb x hx
  have hn : (ts.call x z).hn = ts.hn := tell_same.2.1
  have fw : FitW ({ ts.st x with due := (ts.st x).due + (ts.st x).c } : HS).c (sayOf (ts.st x) z) := ⟨⟨ok_sayW, o⟩, by show 0 ≤ (ts.st x).own; omega, by show (ts.st x).own < (ts.st x).c; omega⟩
  have gd := S.gd x hx
  have gd' : Good ({ ts.st x with due := (ts.st x).due + (ts.st x).c } : HS) := ⟨gd.c1, gd.c2, gd.o1, gd.o2, gd.nd, gd.wd, gd.mn, gd.rn, gd.bn, gd.nn, gd.rk, gd.bk, gd.nk⟩
  refine ⟨S.ks.call g hx, S.os.call g S.ks hx, fun y hy => ?_, fun y hy => ?_, fun y hy w hw => ?_⟩
  · rw [hn] at hy
    rw [call_st]
    split
    · next e => subst e; exact gd'.hear fw
    · exact S.gd y hy
  · rw [hn] at hy
    rw [call_st]
    split
    · next e => subst e; exact BK.hear gd' fw ((S.bk y hx).more rfl rfl rfl fun _ q => q)
    · exact S.bk y hy
  · rw [hn] at hy
    rw [call_st] at hw
    have up : ∀ u, u ∈ ts.sp → u ∈ (ts.call x z).sp := fun u q => tell_sp_le (ts := ts.put x _) q
    split at hw
    · next e =>
      subst e
      rcases hear_new (st := { ts.st y with due := (ts.st y).due + (ts.st y).c }) hw with q | q | q
      · exact up w (S.kn y hx w q)
      · exact tell_sp_of (ts := ts.put y _) (by rw [q]; exact List.mem_cons_self)
      · exact tell_sp_of (ts := ts.put y _) (List.mem_cons_of_mem _ q)
    · exact up w (S.kn y hy w hw)
theorem Safe.bring {ts : TSt} (g : GT ts) (S : Safe ts) {l : Ltr} (hl : l ∈ ts.lt) : Safe (ts.bring l) := by
  have hn : (ts.bring l).hn = ts.hn := bring_n.2
  refine ⟨S.ks.bring g hl, S.os.bring g S.ks hl, fun y hy => ?_, fun y hy => ?_, fun y hy w hw => ?_⟩
  · rw [hn] at hy
    rw [bring_st]
    split
    · next e =>
      refine (S.gd y hy).hear ?_
      rw [(g.hc y hy).1]
      exact (g.lw l hl).1
    · exact S.gd y hy
  · rw [hn] at hy
    rw [bring_st]
    split
    · next e =>
      refine BK.hear (S.gd y hy) ?_ (S.bk y hy)
      rw [(g.hc y hy).1]
      exact (g.lw l hl).1
    · exact S.bk y hy
  · rw [hn] at hy
    rw [bring_st] at hw
    split at hw
    · next e =>
      rcases hear_new hw with q | q | q
      · exact bring_sp (S.kn y hy w q)
      · exact bring_sp (by rw [q]; exact S.ks.l l hl)
      · refine bring_told ?_
        unfold TSt.bringT
        rw [if_pos e.2, ← e.1]
        exact q
    · exact bring_sp (S.kn y hy w hw)
theorem Safe.lie {ts : TSt} (S : Safe ts) {s r : Int} {w : Wrd} (h : (w.h = s ∧ s ∉ ts.hn) ∨ w ∈ ts.sp) : Safe (ts.lie s r w) :=
  ⟨S.ks.lie, S.os.lie h, S.gd, S.bk, fun x hx u hu => mem_learn.mpr (.inl (S.kn x hx u hu))⟩
end TN
/-! who is named said two unlike words at one place -/
namespace TN
open PySem L2 LM HM
def NM (st : HS) : Prop := ∀ z ∈ st.named, z.2.1.h = z.1 ∧ z.2.2.h = z.1 ∧ z.2.1.k = z.2.2.k ∧ z.2.1.n = z.2.2.n ∧ z.2.1.r ≠ z.2.2.r
theorem NM.new (c own : Int) : NM (HS.new c own) := fun _ h => nomatch h
theorem NM.hear {st : HS} {w : Wrd} (h : NM st) : NM (st.hear w) := by
  unfold HS.hear
  split
  · exact h
  · have e : (((st.learn w).mark w).write w).named = st.named := by
      unfold HS.write HS.mark
      split <;> split <;> rfl
    have kw : w ∈ (((st.learn w).mark w).write w).known := by
      rw [write_known]
      exact mark_known (mem_learn.mpr (.inr rfl))
    generalize ((st.learn w).mark w).write w = s2 at e kw
    unfold HS.name
    split
    · next hn =>
      unfold HS.names at hn
      rw [Bool.and_eq_true, Bool.not_eq_true', decide_eq_false_iff_not] at hn
      obtain ⟨_, p, _⟩ := first_mem kw
      obtain ⟨p1, p2, p3⟩ := pl_eq.mp p
      intro z hz
      rcases List.mem_append.mp hz with hz | hz
      · rw [e] at hz
        exact h z hz
      · rw [List.mem_singleton.mp hz]
        refine ⟨p3, rfl, p1, p2, fun q => hn.1 ?_⟩
        have q : (s2.first w).r = w.r := q
        cases hf : s2.first w with
        | mk a b c d =>
          rw [hf] at p1 p2 p3 q
          cases w
          simp only at p1 p2 p3 q
          rw [p1, p2, p3, q]
    · intro z hz
      rw [e] at hz
      exact h z hz
theorem NM.call {st : HS} {z : Str} (h : NM st) : NM (st.call z) := NM.hear (st := { st with due := st.due + st.c }) h
def NMS (ts : TSt) : Prop := ∀ x ∈ ts.hn, NM (ts.st x)
theorem NMS.new {c : Int} {hn : List Int} : NMS (TSt.new c hn) := fun x _ => NM.new c x
theorem NMS.call {ts : TSt} (h : NMS ts) {x : Int} {z : Str} : NMS (ts.call x z) := fun y hy => by
  have hn : (ts.call x z).hn = ts.hn := tell_same.2.1
  rw [hn] at hy
  rw [call_st]
  split
  · next e => subst e; exact (h y hy).call
  · exact h y hy
theorem NMS.bring {ts : TSt} (h : NMS ts) {l : Ltr} : NMS (ts.bring l) := fun y hy => by
  rw [bring_n.2] at hy
  rw [bring_st]
  split
  · exact (h y hy).hear
  · exact h y hy
theorem NMS.lie {ts : TSt} (h : NMS ts) {s r : Int} {w : Wrd} : NMS (ts.lie s r w) := h
/-- a named house is no honest one; its two words were spoken -/
theorem NMS.liar {ts : TSt} (g : GT ts) (S : Safe ts) (N : NMS ts) {x : Int} (hx : x ∈ ts.hn) {z : Int × Wrd × Wrd} (hz : z ∈ (ts.st x).named) : z.1 ∉ ts.hn ∧ z.2.1 ∈ ts.sp ∧ z.2.2 ∈ ts.sp := by
  obtain ⟨k1, k2⟩ := (S.gd x hx).nk z hz
  have s1 := S.kn x hx _ k1
  have s2 := S.kn x hx _ k2
  refine ⟨fun m => ?_, s1, s2⟩
  obtain ⟨e1, e2, e3, e4, e5⟩ := N x hx z hz
  exact e5 (congrArg Wrd.r (S.os.same g s1 s2 (by rw [e1]; exact m) (e2.trans e1.symm) e3 e4))
/-- rows only grow -/
theorem hear_rows_in {st : HS} {w : Wrd} {e : Int × Str} (h : e ∈ st.rows) : e ∈ (st.hear w).rows := by
  unfold HS.hear
  split
  · exact h
  · rw [name_same.2.2.2]
    have h2 : e ∈ ((st.learn w).mark w).rows := by rw [mark_same.2.2.2]; exact h
    unfold HS.write
    split
    · exact List.mem_append.mpr (.inl h2)
    · exact h2
theorem call_rows_in {ts : TSt} {x y : Int} {z : Str} {e : Int × Str} (h : e ∈ (ts.st y).rows) : e ∈ ((ts.call x z).st y).rows := by
  rw [call_st]
  split
  · exact hear_rows_in (st := { ts.st y with due := (ts.st y).due + (ts.st y).c }) h
  · exact h
theorem bring_rows_in {ts : TSt} {l : Ltr} {y : Int} {e : Int × Str} (h : e ∈ (ts.st y).rows) : e ∈ ((ts.bring l).st y).rows := by
  rw [bring_st]
  split
  · exact hear_rows_in h
  · exact h
end TN
/-! a small town's going stays small; the deeds that may be done in it -/
namespace TN
open PySem L2 LM HM
/-- what a house may have told of its own accord -/
def pot (st : HS) : Nat := st.marked.length + 7 * st.rows.length + 2 * st.named.length
theorem rise_len {c : Int} {l : List Wrd} : (rise c l).length ≤ c.toNat := by
  unfold rise
  refine Nat.le_trans (List.length_filterMap_le _ _) ?_
  rw [List.length_range]
  exact Nat.le_refl _
theorem hear_pot {st : HS} {w : Wrd} (c7 : st.c ≤ 7) : (st.hearT w).length + pot st ≤ pot (st.hear w) := by
  unfold HS.hearT HS.hear
  split
  · simp
  · rw [List.length_append, List.length_append]
    have h1 : ((st.learn w).markT w).length + pot (st.learn w) ≤ pot ((st.learn w).mark w) := by
      unfold HS.markT HS.mark
      split
      · show 1 + ((st.learn w).marked.length + 7 * (st.learn w).rows.length + 2 * (st.learn w).named.length) ≤ (((st.learn w).marked ++ [w.n]).length + 7 * (st.learn w).rows.length + 2 * (st.learn w).named.length)
        rw [List.length_append, List.length_singleton]
        omega
      · simp
    have e1 : pot (st.learn w) = pot st := rfl
    have ec : ((st.learn w).mark w).c = st.c := mark_same.1
    generalize (st.learn w).mark w = s2 at h1 ec
    have h2 : (s2.backT w).length + pot s2 ≤ pot (s2.write w) := by
      unfold HS.backT HS.write
      split
      · have := rise_len (c := s2.c) (l := marksOf s2.known (nr w))
        show _ + (s2.marked.length + 7 * s2.rows.length + 2 * s2.named.length) ≤ (s2.marked.length + 7 * (s2.rows ++ [(w.n, w.r)]).length + 2 * s2.named.length)
        rw [List.length_append, List.length_singleton]
        omega
      · simp
    generalize s2.write w = s3 at h2
    have h3 : (s3.nameT w).length + pot s3 ≤ pot (s3.name w) := by
      unfold HS.nameT HS.name
      split
      · show 2 + (s3.marked.length + 7 * s3.rows.length + 2 * s3.named.length) ≤ (s3.marked.length + 7 * s3.rows.length + 2 * (s3.named ++ [(w.h, s3.first w, w)]).length)
        rw [List.length_append, List.length_singleton]
        omega
      · simp
    omega
theorem call_pot {st : HS} {z : Str} (c7 : st.c ≤ 7) : (st.callT z).length + pot st ≤ pot (st.call z) + 1 := by
  have := hear_pot (st := { st with due := st.due + st.c }) (w := sayOf st z) c7
  have e : pot ({ st with due := st.due + st.c } : HS) = pot st := rfl
  rw [e] at this
  show (_ :: _).length + _ ≤ pot (({ st with due := st.due + st.c } : HS).hear (sayOf st z)) + 1
  rw [List.length_cons]
  omega
def pots (ts : TSt) : Nat := (ts.hn.map fun x => pot (ts.st x)).sum
theorem sum_set {f : Int → Nat} {g : Int → Nat} : ∀ {l : List Int} {x : Int}, l.Nodup → x ∈ l → (∀ y ∈ l, y ≠ x → g y = f y) → (l.map g).sum + f x = (l.map f).sum + g x
  | a :: l, x, nd, m, e => by
    rw [List.nodup_cons] at nd
    rw [List.map_cons, List.map_cons, List.sum_cons, List.sum_cons]
    by_cases c : x = a
    · subst c
      have : l.map g = l.map f := List.map_congr_left fun y hy => e y (List.mem_cons_of_mem _ hy) fun q => nd.1 (q ▸ hy)
      rw [this]
      omega
    · have ih := sum_set (l := l) nd.2 ((List.mem_cons.mp m).resolve_left c) fun y hy => e y (List.mem_cons_of_mem _ hy)
      have := e a List.mem_cons_self fun q => c q.symm
      omega
theorem pots_put {ts : TSt} {x : Int} {st' : HS} (nd : ts.hn.Nodup) (hx : x ∈ ts.hn) : pots (ts.put x st') + pot (ts.st x) = pots ts + pot st' := by
  have := sum_set (f := fun y => pot (ts.st y)) (g := fun y => pot (setI ts.st x st' y)) nd hx fun y _ n => by
    show pot (setI ts.st x st' y) = _
    rw [setI_other n]
  show ((ts.hn.map fun y => pot (setI ts.st x st' y)).sum) + _ = _
  rw [this]
  show _ + pot (setI ts.st x st' x) = _
  rw [setI_same]
  rfl
theorem pots_tell {ts : TSt} {s : Int} {ws : List Wrd} : pots (ts.tell s ws) = pots ts := by
  obtain ⟨_, e2, e3⟩ := tell_same (ws := ws) (ts := ts) (s := s)
  unfold pots
  rw [e2, e3]
theorem tell_n7 {s : Int} : ∀ {ws : List Wrd} {ts : TSt}, ts.c ≤ 7 → (ts.tell s ws).n ≤ ts.n + 7 * ws.length ∧ (ts.tell s ws).sp.length ≤ ts.sp.length + ws.length
  | [], ts, _ => ⟨by show ts.n ≤ ts.n + 7 * 0; omega, Nat.le_refl _⟩
  | w :: ws, ts, c2 => by
    obtain ⟨e, _⟩ := tell1_same (ts := ts) (s := s) (w := w)
    obtain ⟨h1, h5⟩ := tell_n7 (s := s) (ws := ws) (ts := ts.tell1 s w) (by rw [e]; exact c2)
    have h2 := (sends_n (ts := ts.speak w) (s := s) (w := w) ts.c.toNat).2
    have h3 : (ts.tell1 s w).n = ((ts.speak w).sends s w ts.c.toNat).n := rfl
    have h4 : (ts.speak w).n = ts.n := rfl
    have h6 : (ts.tell1 s w).sp.length ≤ ts.sp.length + 1 := by rw [tell1_sp]; exact learn_le
    show ((ts.tell1 s w).tell s ws).n ≤ _ ∧ ((ts.tell1 s w).tell s ws).sp.length ≤ _
    rw [List.length_cons]
    omega
/-- all that is kept of a small town: its words' numbers, how much was lied and called -/
structure Fine (Ns : List Int) (L : Nat) (ts : TSt) : Prop where
  c7 : ts.c ≤ 7
  s : Safe ts
  n : NMS ts
  v : VS ts
  num : ∀ w ∈ ts.sp, w.n ∈ Ns
  bs : ts.sp.length ≤ L + pots ts
  bn : ts.n ≤ 7 * ((L + pots ts : Nat) : Int)
  du : ∀ x ∈ ts.hn, (ts.st x).due ≤ 7 + 7 * (L : Int)
section
variable {Ns : List Int} {L : Nat} {ts : TSt}
theorem Fine.more (f : Fine Ns L ts) {Ns' : List Int} {L' : Nat} (hN : ∀ n ∈ Ns, n ∈ Ns') (hL : L ≤ L') : Fine Ns' L' ts :=
  ⟨f.c7, f.s, f.n, f.v, fun w hw => hN _ (f.num w hw), Nat.le_trans f.bs (by omega), by have := f.bn; omega, fun x hx => by have := f.du x hx; omega⟩
theorem pots_new {c : Int} {hn : List Int} : pots (TSt.new c hn) = 0 := by
  show ((hn.map fun x => pot (HS.new c x)).sum) = 0
  have : ∀ l : List Int, (l.map fun x => pot (HS.new c x)).sum = 0 := fun l => by
    induction l with
    | nil => rfl
    | cons a l ih => rw [List.map_cons, List.sum_cons, ih]; rfl
  exact this hn
theorem Fine.new {c : Int} {hn : List Int} (g : GT (TSt.new c hn)) (c7 : c ≤ 7) : Fine [] 0 (TSt.new c hn) :=
  ⟨c7, Safe.new g, NMS.new, VS.new g.c1 g.hb, (fun _ h => nomatch h), Nat.zero_le _, by show (0 : Int) ≤ _; omega, fun x hx => by
    have := (g.hb x hx).2
    show x ≤ _
    have : x < c := this
    omega⟩
theorem pots_call (g : GT ts) (c7 : ts.c ≤ 7) {x : Int} (hx : x ∈ ts.hn) {z : Str} : ((ts.st x).callT z).length + pots ts ≤ pots (ts.call x z) + 1 := by
  have h1 := pots_put (ts := ts) (st' := (ts.st x).call z) g.nd hx
  have h2 := call_pot (st := ts.st x) (z := z) (by rw [(g.hc x hx).1]; exact c7)
  have h3 : pots (ts.call x z) = pots (ts.put x ((ts.st x).call z)) := pots_tell (ts := ts.put x ((ts.st x).call z)) (s := x) (ws := (ts.st x).callT z)
  omega
theorem Fine.call (g : GT ts) (f : Fine Ns L ts) {x : Int} (hx : x ∈ ts.hn) {z : Str} (r : isRowS z = true) (d : (ts.st x).due ≤ 9999) : Fine ((ts.st x).due :: Ns) (L + 1) (ts.call x z) := by
  have hn : (ts.call x z).hn = ts.hn := tell_same.2.1
  have hc : (ts.call x z).c = ts.c := tell_same.1
  obtain ⟨t1, t2⟩ := tell_n7 (s := x) (ws := (ts.st x).callT z) (ts := ts.put x ((ts.st x).call z)) f.c7
  have e1 : (ts.put x ((ts.st x).call z)).n = ts.n := rfl
  have e2 : (ts.put x ((ts.st x).call z)).sp = ts.sp := rfl
  rw [e1] at t1
  rw [e2] at t2
  have pc := pots_call g f.c7 hx (z := z)
  have bs := f.bs
  have bn := f.bn
  refine ⟨by rw [hc]; exact f.c7, f.s.call g hx (row_ok r), f.n.call, f.v.call g hx r d, fun w hw => ?_, ?_, ?_, fun y hy => ?_⟩
  · rcases tell_sp_in (ts := ts.put x ((ts.st x).call z)) (s := x) (ws := (ts.st x).callT z) hw with m | m
    · exact List.mem_cons_of_mem _ (f.num w m)
    · rcases List.mem_cons.mp m with rfl | m
      · exact List.mem_cons_self
      · rcases hear_known (st := { ts.st x with due := (ts.st x).due + (ts.st x).c }) (hear_tells m) with q | rfl | rfl
        · exact List.mem_cons_of_mem _ (f.num w (f.s.kn x hx w q))
        · exact List.mem_cons_self
        · exact List.mem_cons_self
  · show ((ts.put x ((ts.st x).call z)).tell x ((ts.st x).callT z)).sp.length ≤ _
    omega
  · show ((ts.put x ((ts.st x).call z)).tell x ((ts.st x).callT z)).n ≤ _
    omega
  · rw [hn] at hy
    have := call_due7 g f.c7 (z := z) (x := x) y hy
    have := f.du y hy
    omega
where
  call_due7 {ts : TSt} (g : GT ts) (c7 : ts.c ≤ 7) {x : Int} {z : Str} : ∀ y ∈ ts.hn, ((ts.call x z).st y).due ≤ (ts.st y).due + 7 := fun y hy => by
    have hc := (g.hc y hy).1
    rw [call_st]
    split
    · have : ((ts.st y).call z).due = (ts.st y).due + (ts.st y).c := (hear_same (st := { ts.st y with due := (ts.st y).due + (ts.st y).c }) (w := sayOf (ts.st y) z)).2.2
      omega
    · omega
theorem pots_bring (g : GT ts) (c7 : ts.c ≤ 7) {l : Ltr} : (ts.bringT l).length + pots ts ≤ pots (ts.bring l) := by
  unfold TSt.bringT TSt.bring
  split
  · next hx =>
    have h1 := pots_put (ts := ts.take l.n) (st' := (ts.st l.r).hear l.w) g.nd hx
    have h2 := hear_pot (st := ts.st l.r) (w := l.w) (by rw [(g.hc _ hx).1]; exact c7)
    have e : pots (ts.take l.n) = pots ts := rfl
    have e2 : pot ((ts.take l.n).st l.r) = pot (ts.st l.r) := rfl
    rw [pots_tell]
    omega
  · show 0 + pots ts ≤ pots ts
    omega
theorem Fine.bring (g : GT ts) (f : Fine Ns L ts) {l : Ltr} (hl : l ∈ ts.lt) : Fine Ns L (ts.bring l) := by
  have hn : (ts.bring l).hn = ts.hn := bring_n.2
  have pb := pots_bring g f.c7 (l := l)
  have bs := f.bs
  have bn := f.bn
  have hc : (ts.bring l).c = ts.c := by
    unfold TSt.bring
    split
    · exact tell_same.1
    · rfl
  have key : (ts.bring l).n ≤ ts.n + 7 * ((ts.bringT l).length : Int) ∧ (ts.bring l).sp.length ≤ ts.sp.length + (ts.bringT l).length := by
    unfold TSt.bring TSt.bringT
    split
    · exact tell_n7 (s := l.r) (ws := (ts.st l.r).hearT l.w) (ts := (ts.take l.n).put l.r ((ts.st l.r).hear l.w)) f.c7
    · show ts.n ≤ ts.n + 7 * 0 ∧ ts.sp.length ≤ ts.sp.length + 0
      omega
  refine ⟨by rw [hc]; exact f.c7, f.s.bring g hl, f.n.bring, f.v.bring g f.s.ks hl, fun w hw => ?_, by omega, by omega, fun y hy => ?_⟩
  · unfold TSt.bring at hw
    split at hw
    · next hx =>
      rcases tell_sp_in hw with m | m
      · exact f.num w m
      · rcases hear_known (hear_tells m) with q | rfl | rfl
        · exact f.num w (f.s.kn _ hx w q)
        · exact f.num _ (f.s.ks.l l hl)
        · exact f.num l.w (f.s.ks.l l hl)
    · exact f.num w hw
  · rw [hn] at hy
    have e : ((ts.bring l).st y).due = (ts.st y).due := by
      rw [bring_st]
      split
      · exact hear_same.2.2
      · rfl
    rw [e]
    exact f.du y hy
theorem Fine.lie (f : Fine Ns L ts) {s r : Int} {w : Wrd} (h : (w.h = s ∧ s ∉ ts.hn) ∨ w ∈ ts.sp) (v : Val ts.c w) (n : w.n ∈ Ns) : Fine Ns (L + 1) (ts.lie s r w) := by
  have bs := f.bs
  have bn := f.bn
  have e : pots (ts.lie s r w) = pots ts := rfl
  refine ⟨f.c7, f.s.lie h, f.n.lie, f.v.lie v, fun u hu => ?_, ?_, ?_, fun x hx => ?_⟩
  · rcases mem_learn.mp hu with m | rfl
    · exact f.num u m
    · exact n
  · have := learn_le (l := ts.sp) (w := w)
    show (HM.learn ts.sp w).length ≤ _
    omega
  · show ts.n + 1 ≤ _
    omega
  · have := f.du x hx
    show (ts.st x).due ≤ _
    omega
/-- each house knows, has marked and has written at numbers that were spoken of alone -/
theorem Fine.mkd (g : GT ts) (f : Fine Ns L ts) {x : Int} (hx : x ∈ ts.hn) : ∀ i ∈ (ts.st x).marked, i ∈ Ns := fun i hi => by
  obtain ⟨v, hv, _, e, _⟩ := ((f.s.os.one x hx).m i).mp hi
  rw [← e]
  exact f.num v (f.s.kn x hx v hv)
theorem Fine.rw_ (g : GT ts) (f : Fine Ns L ts) {x : Int} (hx : x ∈ ts.hn) : ∀ e ∈ (ts.st x).rows, e.1 ∈ Ns := fun e he => by
  obtain ⟨b, _, _, q2, _, q4⟩ := paired_leftB (f.s.bk x hx) e he
  rw [(g.hc x hx).1] at q4
  have c1 := g.c1
  have : 0 < b.2.length := by
    unfold en at q4
    omega
  obtain ⟨v, hv⟩ := List.exists_mem_of_length_pos this
  obtain ⟨_, a2, _, a4⟩ := q2 v hv
  rw [← a2]
  exact f.num v (f.s.kn x hx v a4)
theorem Fine.nm (g : GT ts) (f : Fine Ns L ts) {x : Int} (hx : x ∈ ts.hn) : ∀ z ∈ (ts.st x).named, 0 ≤ z.1 ∧ z.1 < ts.c := fun z hz => by
  have h := (f.n x hx z hz).1
  have k := ((f.s.gd x hx).nk z hz).1
  have := ((f.s.gd x hx).wd _ k).2
  rw [(g.hc x hx).1, h] at this
  exact this
theorem rng_len {A : List Int} {c : Int} (nd : A.Nodup) (h : ∀ x ∈ A, 0 ≤ x ∧ x < c) : A.length ≤ c.toNat := by
  have := sub_len (B := (List.range c.toNat).map fun i : Nat => (i : Int)) nd fun x hx => by
    obtain ⟨h0, h1⟩ := h x hx
    exact List.mem_map.mpr ⟨x.toNat, List.mem_range.mpr (by omega), by omega⟩
  rwa [List.length_map, List.length_range] at this
theorem Fine.potx (g : GT ts) (f : Fine Ns L ts) {x : Int} (hx : x ∈ ts.hn) : pot (ts.st x) ≤ 8 * Ns.length + 14 ∧ (ts.st x).marked.length ≤ Ns.length ∧ (ts.st x).rows.length ≤ Ns.length ∧ (ts.st x).named.length ≤ 7 := by
  have gd := f.s.gd x hx
  have h1 := sub_len gd.mn (f.mkd g hx)
  have h2 := sub_len gd.rn fun i hi => by
    obtain ⟨e, he, rfl⟩ := List.mem_map.mp hi
    exact f.rw_ g hx e he
  have h3 := rng_len (c := ts.c) gd.nn fun i hi => by
    obtain ⟨e, he, rfl⟩ := List.mem_map.mp hi
    exact f.nm g hx e he
  rw [List.length_map] at h2 h3
  have := f.c7
  unfold pot
  omega
theorem Fine.few (g : GT ts) (f : Fine Ns L ts) (hN : Ns.length ≤ 20) (hL : L ≤ 1200) : pots ts ≤ 1218 ∧ ts.n ≤ 16926 ∧ ts.lt.length ≤ 16926 ∧ ts.sp.length ≤ 2418 ∧ ∀ x ∈ ts.hn, (ts.st x).size ≤ 2500 ∧ (ts.st x).rows.length ≤ 20 ∧ (ts.st x).named.length ≤ 7 ∧ (ts.st x).due ≤ 8407 := by
  have hp : pots ts ≤ 1218 := by
    have hl := rng_len g.nd g.hb
    have c7 := f.c7
    have : ∀ l : List Int, (∀ x ∈ l, x ∈ ts.hn) → (l.map fun x => pot (ts.st x)).sum ≤ l.length * 174 := fun l => by
      induction l with
      | nil => intro _; exact Nat.zero_le _
      | cons a l ih =>
        intro h
        have h1 := ih fun x hx => h x (List.mem_cons_of_mem _ hx)
        have h2 := (f.potx g (h a List.mem_cons_self)).1
        rw [List.map_cons, List.sum_cons, List.length_cons]
        omega
    have := this ts.hn fun _ h => h
    unfold pots
    omega
  have bs := f.bs
  have bn := f.bn
  have ll := rng_len (A := ts.lt.map (·.n)) (c := ts.n) g.ln fun i hi => by
    obtain ⟨l, hl, rfl⟩ := List.mem_map.mp hi
    exact g.lb l hl
  rw [List.length_map] at ll
  refine ⟨hp, by omega, by omega, by omega, fun x hx => ?_⟩
  obtain ⟨p1, p2, p3, p4⟩ := f.potx g hx
  have kl : (ts.st x).known.length ≤ ts.sp.length := by
    refine wsub_len (f.s.gd x hx).nd (f.s.kn x hx)
  have d := f.du x hx
  refine ⟨?_, by omega, p4, by omega⟩
  unfold HS.size
  omega
where
  wsub_len : ∀ {A B : List Wrd}, A.Nodup → (∀ x ∈ A, x ∈ B) → A.length ≤ B.length
  | [], _, _, _ => Nat.zero_le _
  | a :: A, B, nd, h => by
    rw [List.nodup_cons] at nd
    have ha := h a List.mem_cons_self
    have := wsub_len (A := A) (B := B.erase a) nd.2 fun x hx => (List.mem_erase_of_ne (fun e : x = a => nd.1 (e ▸ hx))).mpr (h x (List.mem_cons_of_mem _ hx))
    have l := List.length_erase_of_mem ha
    have p := List.length_pos_of_mem ha
    rw [List.length_cons]
    omega
end
/-- one deed that is no call -/
inductive Mv : TSt → TSt → Prop
  | bring {ts : TSt} {l : Ltr} : l ∈ ts.lt → Mv ts (ts.bring l)
  | lie {ts : TSt} {s r : Int} {w : Wrd} : s ∉ ts.hn → Val ts.c w → (w.h = s ∨ w ∈ ts.sp) → Mv ts (ts.lie s r w)
inductive Rch : TSt → TSt → Prop
  | refl {a : TSt} : Rch a a
  | step {a b c : TSt} : Rch a b → Mv b c → Rch a c
theorem Rch.trans {a b c : TSt} (h : Rch a b) (k : Rch b c) : Rch a c := by
  induction k with
  | refl => exact h
  | step _ m ih => exact .step ih m
theorem Mv.hn {a b : TSt} (h : Mv a b) : b.hn = a.hn ∧ b.c = a.c := by
  cases h with
  | bring =>
    refine ⟨bring_n.2, ?_⟩
    unfold TSt.bring
    split
    · exact tell_same.1
    · rfl
  | lie => exact ⟨rfl, rfl⟩
theorem Rch.hn {a b : TSt} (h : Rch a b) : b.hn = a.hn ∧ b.c = a.c := by
  induction h with
  | refl => exact ⟨rfl, rfl⟩
  | step _ m ih => exact ⟨m.hn.1.trans ih.1, m.hn.2.trans ih.2⟩
theorem Mv.rows {a b : TSt} (h : Mv a b) {x : Int} {e : Int × Str} (q : e ∈ (a.st x).rows) : e ∈ (b.st x).rows := by
  cases h with
  | bring => exact bring_rows_in q
  | lie => exact q
theorem Rch.rows {a b : TSt} (h : Rch a b) {x : Int} {e : Int × Str} (q : e ∈ (a.st x).rows) : e ∈ (b.st x).rows := by
  induction h with
  | refl => exact q
  | step _ m ih => exact m.rows ih
theorem Rch.due {a b : TSt} (h : Rch a b) (x : Int) : (b.st x).due = (a.st x).due := by
  induction h with
  | refl => rfl
  | step _ m ih =>
    rw [← ih]
    cases m with
    | bring =>
      rw [bring_st]
      split
      · exact hear_same.2.2
      · rfl
    | lie => rfl
end TN
/-! enumerate, xs[::k] with k 1 or -1, comprehensions whose items change the heap -/
namespace L2
open PySem PySem.Spec PyProof.Rows
def StV (K : PySem.W.Frag) (x : V) (i : Int) (H : Hp) (Q : VK) : Prop := ∃ a xs, x = .ref a ∧ SqL K H a xs ∧ ((i = 1 ∧ ∀ p, H p = none → Q (.ref p) (upd H p (.lst xs))) ∨ (i = -1 ∧ ∀ p, H p = none → Q (.ref p) (upd H p (.lst xs.reverse))))
def StO (K : PySem.W.Frag) (x : V) : Option Int → Hp → VK → Prop
  | some i, H, Q => StV K x i H Q
  | none, _, _ => False
def StY (K : PySem.W.Frag) (x y : V) (H : Hp) (Q : VK) : Prop := ∃ i, y = .int i ∧ StO K x (some i) H Q
def tStepL (K : PySem.W.Frag) (te tx : TE) : TE := fun σ H Q => te σ H fun x H1 => tx σ H1 fun y H2 => StY K x y H2 Q
theorem sp_bounds1 (n : Nat) : sliceBounds none none (some 1) n = (0, (n : Int), 1) := by
  first
  | rfl
  | simp [sliceBounds]
theorem sp_pick1 (its : List Value) : slicePick its.toArray none none (some 1) = its.toArray := by
  unfold slicePick
  rw [sp_bounds1]
  have h := slicePick_cut its none none
  unfold slicePick at h
  obtain ⟨h1, h2, h3⟩ := slice_bounds none none its.toArray.size
  rw [h1, h2, h3] at h
  show ((sliceRange 0 (its.toArray.size : Int) 1).filterMap (its.toArray[·]?)).toArray = _
  have e1 : HT.sIx its.toArray.size 0 none = 0 := by simp [HT.sIx]
  have e2 : HT.sIx its.toArray.size its.toArray.size none = its.toArray.size := by simp [HT.sIx]
  have e3 : HT.sIx its.length 0 none = 0 := by simp [HT.sIx]
  have e4 : HT.sIx its.length its.length none = its.length := by simp [HT.sIx]
  rw [e1, e2, e3, e4] at h
  simp only [List.drop_zero, Nat.sub_zero, List.take_length] at h
  exact h
section
variable {X : Cx}
theorem pe_stepL {e ex : Expr} {te tx : TE} {p3 pos : Pos} (he : PE X e te) (hx : PE X ex tx) : PE X (.Subscript e (.Slice none none (some ex) p3) pos) (tStepL X.K te tx) := by
  refine ⟨fun pins s σ H Q I h => ?_⟩
  refine Subscript_ (thn (he.run pins s σ H _ I h) fun v s1 ⟨x, H1, I1, r1, q1⟩ => ?_)
  have hst : PO X (some ex) (tPart tx) := po_some hx
  refine wpAny_Slice (thn (po_none.run pins s1 σ H1 (fun o H2 => o = none ∧ H2 = H1) I1 ⟨rfl, rfl⟩) fun vl s2 ⟨l, H2, I2, pl, el, e2⟩ => ?_)
  subst el e2
  refine thn (po_none.run pins s2 σ H2 (fun o H3 => o = none ∧ H3 = H2) I2 ⟨rfl, rfl⟩) fun vu s3 ⟨u, H3, I3, pu, eu, e3⟩ => ?_
  subst eu e3
  refine thn (hst.run pins s3 σ H3 (fun o H4 => StO X.K x o H4 Q) I3 q1) fun vs s4 ⟨o, H4, I4, ps, q⟩ => ?_
  cases o with
  | none => exact absurd q id
  | some i =>
  obtain ⟨a, xs, ex, hx, q⟩ := q
  subst ex
  cases r1
  have I5 : Inv X pins σ H4 { s4 with heap := s4.heap.push { cls := .type "slice", data := .fields #[vl, vu, vs] } } := I4.kept (t' := s4.toks) fun b ob q => Heap.get?_push_of_some _ q
  obtain ⟨its, r, ht, hz⟩ := I5.list hx
  have hlen := r.length
  show wpAny (model X.prog X.w) X.A (subscriptTail e (.Slice none none (some _) p3) (.ref a) (.ref s4.heap.objs.size)) (EP X pins σ Q) X.xe { s4 with heap := s4.heap.push { cls := .type "slice", data := .fields #[vl, vu, vs] } }
  refine tail_any (ops := [.ref a, .ref s4.heap.objs.size]) ht.isList.typeIs (PySem.slot_list_getitem.lookup) ?_ (by with_unfolding_all rfl)
  rcases q with ⟨rfl, q⟩ | ⟨rfl, q⟩
  · refine wpAny_getItem_list_slice ht.isList (Heap.IsSliceOf.new _ vl vu vs) pl pu ps (by decide) ?_ (by rw [List.size_toArray]; omega)
    rw [sp_pick1]
    refine ⟨.ref _, _, I5.laid (t' := s4.toks) (o := .lst xs) (fun b ob q => Heap.get?_push_of_some _ q) (Nat.le_refl _) ?_, rfl, q _ (I5.hok.fresh (Nat.le_refl _))⟩
    exact ⟨hz, _, 0, r, Heap.get?_push_size _ rfl⟩
  · refine wpAny_getItem_list_slice ht.isList (Heap.IsSliceOf.new _ vl vu vs) pl pu ps (by decide) ?_ (by rw [List.size_toArray]; omega)
    rw [PySem.W.krv_pick]
    refine ⟨.ref _, _, I5.laid (t' := s4.toks) (o := .lst xs.reverse) (fun b ob q => Heap.get?_push_of_some _ q) (Nat.le_refl _) ?_, rfl, q _ (I5.hok.fresh (Nat.le_refl _))⟩
    exact ⟨by rw [List.length_reverse]; exact hz, _, 0, r.reverse, Heap.get?_push_size _ rfl⟩
end
end L2
namespace LH
open PySem L2
section
variable {K : PySem.W.Frag} {σ : L2.St} {H : Hp} {Q : VK} {D : Ends} {te tx : TE} {ta : TA} {t : TT} {g : TG}
theorem x_stepL (h : te σ H fun x H1 => tx σ H1 fun y H2 => StY K x y H2 Q) : tStepL K te tx σ H Q := h
theorem sty {a : Addr} {xs : List V} {i : Int} (hx : SqL K H a xs) (hi : i = 1 ∨ i = -1) (k : ∀ p H2 ys, H p = none → L2.Same H H2 → H2 p = some (.lst ys) → (ys = xs ∨ ys = xs.reverse) → Q (.ref p) H2) : StY K (.ref a) (.int i) H Q := by
  refine ⟨i, rfl, a, xs, rfl, hx, ?_⟩
  rcases hi with rfl | rfl
  · exact .inl ⟨rfl, fun p hp => k p _ xs hp (LH.Same.new hp) upd_same (.inl rfl)⟩
  · exact .inr ⟨rfl, fun p hp => k p _ _ hp (LH.Same.new hp) upd_same (.inr rfl)⟩
/-! enumerate -/
def EnV (K : PySem.W.Frag) (vs : List V) (H : Hp) (R : It → Hp → Prop) : Prop := ∃ a xs, vs = [.ref a] ∧ SqL K H a xs ∧ R (Ite K a) H
theorem x_forE {tb : TS} (h : ta σ H fun vs H1 => EnV K vs H1 fun J H2 => ForJ J g tb D σ H2) : tFor (iEnum K ta) g tb D σ H := h
theorem env {a : Addr} {xs : List V} {R : It → Hp → Prop} (hx : SqL K H a xs) (h : R (Ite K a) H) : EnV K [.ref a] H R := ⟨a, xs, rfl, hx, h⟩
theorem for_E {tb : TS} {a : Addr} {xs : List V} (Pv : Nat → L2.St → Hp → Prop) (h0 : Pv 0 σ H) (hl : ∀ i σ H, i ≤ xs.length → Pv i σ H → SqL K H a xs)
    (hs : ∀ (i : Nat) x σ H H' T, xs[i]? = some x → Pv i σ H → H T = none → L2.Same H H' → H' T = some (.tup [.int (i : Int), x]) → g (.ref T) σ H' fun σ2 H2 => tb { nx := Pv (i + 1), rt := D.rt, ct := Pv (i + 1), bk := D.nx } σ2 H2)
    (hd : ∀ σ H, Pv xs.length σ H → D.nx σ H) : ForJ (Ite K a) g tb D σ H :=
  for_it walk_enum Pv h0 hl (fun i x σ H H' hi p y => by
    obtain ⟨T, x0, x1, rfl, fT, rfl, e1, e2⟩ := y
    injection e1 with e1
    subst e1
    exact hs i x1 σ H _ T e2 p fT (LH.Same.new fT) upd_same) hd
/-- a comprehension over a list, all its items kept, each item's making may change the heap -/
theorem lc_M {a : Addr} {xs : List V} {j : Nat} {vs : List Nat} (hx : SqL K H a xs) (hz : xs.length ≤ 100000) (hw : ∀ x, wipe ((wipe σ vs).set j (some x)) vs = wipe σ vs) (P : Nat → List V → Addr → Hp → Prop)
    (h0 : ∀ D H1, H D = none → L2.Same H H1 → H1 D = some (.lst []) → P 0 [] D H1)
    (hl : ∀ i ys D H1, i ≤ xs.length → P i ys D H1 → SqL K H1 a xs ∧ ys.length ≤ i ∧ H1 D = some (.lst ys))
    (hb : ∀ (i : Nat) x ys D H1, xs[i]? = some x → P i ys D H1 → ∀ Q : VK, (∀ y H2, H2 D = some (.lst ys) → (∀ H3, Kp D H2 H3 → H3 D = some (.lst (ys ++ [y])) → P (i + 1) (ys ++ [y]) D H3) → Q y H2) → te ((wipe σ vs).set j (some x)) H1 Q)
    (k : ∀ D H2 ys, P xs.length ys D H2 → H2 D = some (.lst ys) → Q (.ref D) H2) : LcV K (gName j) tYes te vs σ (.ref a) H Q := by
  refine ⟨a, rfl, ⟨xs, hx⟩, fun D hD => ?_⟩
  refine lc_list (xs := xs) (fun i H' => i ≤ xs.length ∧ ∃ ys, P i ys D H') ⟨Nat.zero_le _, [], h0 D _ hD (LH.Same.new hD) upd_same⟩ (fun i H' hi p => let ⟨h, ys, q⟩ := p; (hl i ys D H' hi q).1) ?_ ?_
  · rintro i x H' hi ⟨_, ys, p⟩
    have hlt : i < xs.length := (List.getElem?_eq_some_iff.mp hi).1
    obtain ⟨_, ly, gD⟩ := hl i ys D H' (by omega) p
    refine ⟨hw x, ?_⟩
    refine x_yes ?_
    rw [if_pos rfl]
    refine hb i x ys D H' hi p _ fun y H2 g2 q => ?_
    exact ⟨ys, g2, sz' (by omega), by omega, _, q _ Kp.upd upd_same⟩
  · rintro H' ⟨_, ys, p⟩
    exact k D H' ys p (hl _ ys D H' (Nat.le_refl _) p).2.2
/-- max of two -/
def rMaxI : List V → Hp → VK → Prop := fun xs H Q => ∃ i j, xs = [.int i, .int j] ∧ Q (.int (if j > i then j else i)) H
theorem call_maxI {X : Cx} (hc : X.calm = true) : CallR X (.builtin "max") rMaxI := call_max2 hc
theorem x_maxI {i j : Int} (q : Q (.int (max i j)) H) : rMaxI [.int i, .int j] H Q := ⟨i, j, rfl, by
  have e : (if j > i then j else i) = max i j := by
    by_cases h : j > i
    · rw [if_pos h]; omega
    · rw [if_neg h]; omega
  rw [e]
  exact q⟩
/-- a comprehension over a dict's keys, the dict locked meanwhile, that keeps none of them -/
theorem lockE_none {i j : Nat} {d : Addr} {kvs : List (Key × V)} {vs : List Nat} (hv : σ[i]? = some (some (.ref d))) (hd : H d = some (.dK kvs)) (hw : ∀ x, wipe ((wipe σ vs).set j (some x)) vs = wipe σ vs)
    (ht : ∀ od (n : Nat) k v H1, kvs[n]? = some (k, v) → H1 d = some (.frz od (.dK kvs)) → (∀ b o, b ≠ d → H b = some o → H1 b = some o) → ∀ Q : Bool → Hp → Prop, (∀ H2, L2.Same H1 H2 → Q false H2) → t ((wipe σ vs).set j (some (kV k))) H1 Q)
    (k : ∀ p H2, H p = none → L2.Same H H2 → H2 p = some (.lst []) → Q (.ref p) H2) : tLockE (tLc (iKeys (tVar i)) (gName j) t te vs) σ H Q := by
  refine ⟨d, .dK kvs, hd, trivial, fun od => ?_⟩
  refine ⟨_, hv, d, od, rfl, .inl ⟨kvs, upd_same, fun D hD => ?_⟩⟩
  have hDd : D ≠ d := fun e => by rw [e, upd_same] at hD; cases hD
  have hD0 : H D = none := by rwa [upd_ne hDd] at hD
  have gd : ∀ H', L2.Same (upd H d (.frz od (.dK kvs))) H' → H' d = some (.frz od (.dK kvs)) := fun H' e => e _ _ upd_same
  refine lc_it (walk_keys (d := d) (o := od) (kvs := kvs)) (fun _ H' => L2.Same (upd H d (.frz od (.dK kvs))) H' ∧ H' D = some (.lst [])) ⟨LH.Same.new hD, upd_same⟩ (fun _ H' _ p => gd H' p.1) ?_ ?_
  · rintro n x H1 H' hn ⟨e1, g1⟩ ⟨rfl, kk, v, hk, rfl⟩
    refine ⟨hw _, ?_⟩
    refine ht od n kk v _ hk (gd _ e1) (fun b o nb q => e1 _ _ (by rw [upd_ne nb]; exact q)) _ fun H2 e2 => ?_
    rw [if_neg Bool.false_ne_true]
    exact ⟨e1.trans e2, e2 _ _ g1⟩
  · rintro H' ⟨e1, g1⟩
    refine ⟨gd _ e1, k D _ hD0 (fun b o q => ?_) (by rw [upd_ne hDd]; exact g1)⟩
    by_cases c : b = d
    · rw [c] at q ⊢
      rw [upd_same, ← hd, q]
    · rw [upd_ne c]
      exact e1 _ _ (by rw [upd_ne c]; exact q)
end
end LH
/-! a town in a heap beside some places of one's own, and what went on since -/
namespace TN
open PySem L2 LM HM
section
variable {CT CH CP : Addr} {M M' M0 P0 N E E' : List Addr} {H H' H0 : Hp} {ta : TAd} {h h' : Int → HA} {ts ts' : TSt}
theorem Went.weak {P P' P'' : List Addr} (w : Went M H P M' H' P') (s : ∀ b ∈ P'', b ∈ P') : Went M H P M' H' P'' :=
  ⟨w.pm, w.ks, fun b hb => w.sub b (s b hb), w.fr, w.nw, w.mm⟩
/-- E: places that may change as well -/
structure Pl (CT CH CP : Addr) (M0 : List Addr) (H0 : Hp) (P0 E : List Addr) (M : List Addr) (H : Hp) (ta : TAd) (h : Int → HA) (ts : TSt) : Prop where
  t : TownAt CT CH CP M H ta h ts
  w : Went M0 H0 P0 M H (E ++ places ta h ts.hn)
  d : ∀ b ∈ E, b ∉ places ta h ts.hn
  e : ∀ b ∈ E, b ∈ M
theorem Pl.start (S : TownAt CT CH CP M H ta h ts) : Pl CT CH CP M H (places ta h ts.hn) [] M H ta h ts :=
  ⟨S, Went.refl S.inM, (fun _ q => nomatch q), fun _ q => nomatch q⟩
theorem Pl.startE (S : TownAt CT CH CP M H ta h ts) (d : ∀ b ∈ E, b ∉ places ta h ts.hn) (e : ∀ b ∈ E, b ∈ M) : Pl CT CH CP M H (E ++ places ta h ts.hn) E M H ta h ts :=
  ⟨S, Went.refl fun b hb => (List.mem_append.mp hb).elim (e b) (S.inM b), d, e⟩
theorem Pl.pm (p : Pl CT CH CP M0 H0 P0 E M H ta h ts) : ∀ b ∈ E ++ places ta h ts.hn, b ∈ M := fun b hb => (List.mem_append.mp hb).elim (p.e b) (p.t.inM b)
theorem Pl.same (p : Pl CT CH CP M0 H0 P0 E M H ta h ts) (s : Same H H') : Pl CT CH CP M0 H0 P0 E M H' ta h ts :=
  ⟨p.t.same s, p.w.trans (Went.same p.pm s), p.d, p.e⟩
theorem Pl.less (p : Pl CT CH CP M0 H0 P0 E M H ta h ts) (s : ∀ b ∈ E', b ∈ E) : Pl CT CH CP M0 H0 P0 E' M H ta h ts :=
  ⟨p.t, p.w.weak fun b hb => (List.mem_append.mp hb).elim (fun q => List.mem_append.mpr (.inl (s b q))) fun q => List.mem_append.mpr (.inr q), fun b hb => p.d b (s b hb), fun b hb => p.e b (s b hb)⟩
/-- the town's deed -/
theorem Pl.town (p : Pl CT CH CP M0 H0 P0 E M H ta h ts) (n : TNxt CT CH CP M H ta h ts ts' H' N h') : Pl CT CH CP M0 H0 P0 E (N ++ M) H' ta h' ts' := by
  have hn : ∀ b, b ∈ places ta h' ts'.hn ↔ b ∈ places ta h' ts.hn := fun b => by rw [n.hn]
  refine ⟨n.at_, p.w.trans ⟨p.pm, fun b o q m => n.ks b o q fun k => m (List.mem_append.mpr (.inr k)), fun b hb => ?_, n.fr, fun b hb => ?_, fun b hb => List.mem_append.mpr (.inr hb)⟩, fun b hb m => ?_, fun b hb => List.mem_append.mpr (.inr (p.e b hb))⟩
  · rcases List.mem_append.mp hb with hb | hb
    · exact .inl (List.mem_append.mpr (.inl hb))
    · rcases n.sub b ((hn b).mp hb) with q | q
      · exact .inl (List.mem_append.mpr (.inr q))
      · exact .inr (n.nw b q)
  · exact (List.mem_append.mp hb).elim (fun q => .inr (n.nw b q)) .inl
  · rcases n.sub b ((hn b).mp m) with q | q
    · exact p.d b hb q
    · obtain ⟨o, q2⟩ := p.t.al b (p.e b hb)
      rw [n.nw b q] at q2
      cases q2
theorem Pl.kept (p : Pl CT CH CP M0 H0 P0 E M H ta h ts) (n : TNxt CT CH CP M H ta h ts ts' H' N h') {b : Addr} (hb : b ∈ E) {o : HO} (q : H b = some o) : H' b = some o := n.ks b o q (p.d b hb)
/-- a new place that may change from now on -/
theorem Pl.grow (p : Pl CT CH CP M0 H0 P0 E M H ta h ts) {q : Addr} {o : HO} (f : H q = none) (s : Same H H') (g : H' q = some o) (nt : ∀ xs, o ≠ .tup xs) : Pl CT CH CP M0 H0 P0 (q :: E) (q :: M) H' ta h ts := by
  have qM : q ∉ M := LH.not_in f p.t.al
  have S := p.t.same s
  refine ⟨p.t.to (LH.fr_new f s) (fun b o _ z => s b o z) (fun b hb => List.mem_cons_of_mem _ (S.inM b hb)) (fun b hb => ?_) (fun b hb xs z => ?_), p.w.trans ⟨p.pm, fun b o z _ => s b o z, fun b hb => ?_, LH.fr_new f s, fun b hb => ?_, fun b hb => List.mem_cons_of_mem _ hb⟩, fun b hb m => ?_, fun b hb => ?_⟩
  · rcases List.mem_cons.mp hb with e | hb
    · rw [e]; exact ⟨_, g⟩
    · exact S.al b hb
  · rcases List.mem_cons.mp hb with e | hb
    · rw [e, g] at z
      injection z with z
      exact nt xs z
    · exact S.nt b hb xs z
  · have hb : b ∈ q :: (E ++ places ta h ts.hn) := hb
    rcases List.mem_cons.mp hb with rfl | hb
    · exact .inr f
    · exact .inl hb
  · rcases List.mem_cons.mp hb with rfl | hb
    · exact .inr f
    · exact .inl hb
  · rcases List.mem_cons.mp hb with rfl | hb
    · exact qM (p.t.inM _ m)
    · exact p.d b hb m
  · rcases List.mem_cons.mp hb with rfl | hb
    · exact List.mem_cons_self
    · exact List.mem_cons_of_mem _ (p.e b hb)
/-- such a place changes -/
theorem Pl.put (p : Pl CT CH CP M0 H0 P0 E M H ta h ts) {q : Addr} {o : HO} (hq : q ∈ E) (k : LH.Kp q H H') (g : H' q = some o) (nt : ∀ xs, o ≠ .tup xs) : Pl CT CH CP M0 H0 P0 E M H' ta h ts := by
  have f : Same (LH.Fr M H) (LH.Fr M H') := (k.ks (List.mem_singleton.mpr rfl)).frS fun b hb => by rw [List.mem_singleton.mp hb]; exact p.e q hq
  refine ⟨p.t.to f (fun b o hb z => k b o z fun e => p.d q hq (e ▸ hb)) p.t.inM (fun b hb => ?_) (fun b hb xs z => ?_), p.w.trans ⟨p.pm, k.ks (List.mem_append.mpr (.inl hq)), fun b hb => .inl hb, f, fun b hb => .inl hb, fun b hb => hb⟩, p.d, p.e⟩
  · by_cases c : b = q
    · rw [c]; exact ⟨_, g⟩
    · obtain ⟨o, z⟩ := p.t.al b hb
      exact ⟨o, k b o z c⟩
  · by_cases c : b = q
    · rw [c, g] at z
      injection z with z
      exact nt xs z
    · obtain ⟨o, z2⟩ := p.t.al b hb
      rw [k b o z2 c] at z
      injection z with z
      exact p.t.nt b hb xs (by rw [z2, z])
/-- what stood still at the start stands there -/
theorem Pl.up (p : Pl CT CH CP M0 H0 P0 E M H ta h ts) {b : Addr} {o : HO} (q : LH.Fr M0 H0 b = some o) : H b = some o := LH.fr_le _ _ (p.w.fr _ _ q)
/-- a new object that stands still -/
theorem Pl.new (p : Pl CT CH CP M0 H0 P0 E M H ta h ts) {b : Addr} {o : HO} (f : H b = none) (g : H' b = some o) : LH.Fr M H' b = some o := LH.fr_of g (LH.not_in f p.t.al)
/-- what was part of another's world is part of this one's -/
theorem Pl.from (p : Pl CT CH CP M0 H0 P0 E M H ta h ts) (q : Pl CT CH CP M H (E ++ places ta h ts.hn) E' M' H' ta h' ts') : Pl CT CH CP M0 H0 P0 E' M' H' ta h' ts' :=
  ⟨q.t, p.w.trans q.w, q.d, q.e⟩
/-- a def's deeds done beside places of one's own -/
theorem Pl.join (p : Pl CT CH CP M0 H0 P0 E M H ta h ts) (S : TownAt CT CH CP M' H' ta h' ts') (w : Went M H (places ta h ts.hn) M' H' (places ta h' ts'.hn)) : Pl CT CH CP M0 H0 P0 E M' H' ta h' ts' := by
  have d : ∀ b ∈ E, b ∉ places ta h' ts'.hn := fun b hb m => by
    rcases w.sub b m with q | q
    · exact p.d b hb q
    · obtain ⟨o, z⟩ := p.t.al b (p.e b hb)
      rw [q] at z
      cases z
  refine ⟨S, p.w.trans ⟨p.pm, fun b o z n => w.ks b o z fun m => n (List.mem_append.mpr (.inr m)), fun b hb => ?_, w.fr, w.nw, w.mm⟩, d, fun b hb => w.mm b (p.e b hb)⟩
  rcases List.mem_append.mp hb with m | m
  · exact .inl (List.mem_append.mpr (.inl m))
  · exact (w.sub b m).imp (fun q => List.mem_append.mpr (.inr q)) id
theorem Pl.keptJ (p : Pl CT CH CP M0 H0 P0 E M H ta h ts) (w : Went M H (places ta h ts.hn) M' H' (places ta h' ts'.hn)) {b : Addr} (hb : b ∈ E) {o : HO} (q : H b = some o) : H' b = some o := w.ks b o q (p.d b hb)
/-- a def's deeds at some of one's own places, the town as it was -/
theorem Pl.joinS {E1 : List Addr} (p : Pl CT CH CP M0 H0 P0 E M H ta h ts) (s : ∀ b ∈ E1, b ∈ E) (S : TownAt CT CH CP M' H' ta h ts) (w : Went M H (E1 ++ places ta h ts.hn) M' H' (E1 ++ places ta h ts.hn)) : Pl CT CH CP M0 H0 P0 E M' H' ta h ts := by
  refine ⟨S, p.w.trans ⟨p.pm, fun b o z n => w.ks b o z fun m => n ?_, fun b hb => .inl hb, w.fr, w.nw, w.mm⟩, p.d, fun b hb => w.mm b (p.e b hb)⟩
  rcases List.mem_append.mp m with m | m
  · exact List.mem_append.mpr (.inl (s b m))
  · exact List.mem_append.mpr (.inr m)
end
end TN
/-! the rows of honest houses, gathered -/
namespace TN
open PySem L2 LM HM
theorem rowAt_of {st : HS} (g : Good st) {e : Int × Str} (h : e ∈ st.rows) : st.rowAt e.1 = e.2 := by
  have go : ∀ {l : List (Int × Str)}, (l.map (·.1)).Nodup → e ∈ l → (l.find? fun x => decide (x.1 = e.1)) = some e := fun {l} nd m => by
    induction l with
    | nil => cases m
    | cons a l ih =>
      rw [List.map_cons, List.nodup_cons] at nd
      rw [List.find?_cons]
      rcases List.mem_cons.mp m with rfl | m
      · simp
      · have : ¬ a.1 = e.1 := fun q => nd.1 (by rw [q]; exact List.mem_map.mpr ⟨e, m, rfl⟩)
        rw [decide_eq_false this]
        exact ih nd.2 m
  unfold HS.rowAt
  rw [go g.rn h]
  rfl
theorem row_in {st : HS} (g : Good st) {n : Int} (h : n ∈ st.nums) : (n, st.rowAt n) ∈ st.rows := by
  obtain ⟨e, he, rfl⟩ := List.mem_map.mp (nums_mem.mp h)
  rw [rowAt_of g he]
  exact he
theorem paired_rightB {α β : Type} {F : α → β → Prop} : ∀ {xs : List α} {ys : List β}, Paired F xs ys → ∀ y ∈ ys, ∃ x, x ∈ xs ∧ F x y
  | _, _, .nil, _, h => nomatch h
  | _, _, .cons q r, y, h => by
    rcases List.mem_cons.mp h with rfl | h
    · exact ⟨_, List.mem_cons_self, q⟩
    · obtain ⟨x, h1, h2⟩ := paired_rightB r y h
      exact ⟨x, List.mem_cons_of_mem _ h1, h2⟩
theorem backed_at {st : HS} (g : Good st) (b : BK st) {n : Int} {ws : List Wrd} (h : (st.backs.find? fun e => decide (e.1 = n)) = some (n, ws)) :
    (∀ w ∈ ws, w.k = "mark" ∧ w.n = n ∧ w.r = st.rowAt n ∧ w ∈ st.known) ∧ (ws.map (·.h)).Nodup ∧ en st.c ≤ ws.length := by
  obtain ⟨e, he, q1, q2, q3, q4⟩ := paired_rightB b _ (List.mem_of_find?_eq_some h)
  have q1 : n = e.1 := q1
  have r := rowAt_of g he
  rw [← q1] at r
  refine ⟨fun w hw => ?_, q3, q4⟩
  obtain ⟨a1, a2, a3, a4⟩ := q2 w hw
  exact ⟨a1, by rw [a2, q1], by rw [a3, r], a4⟩
/-- rows by their numbers, each of them an honest house's -/
def RowsD (R : List (Key × V)) (ts : TSt) : Prop := ∀ (n : Int) v, valV R (Sum.inl n) = some v → ∃ z x, v = .str z ∧ x ∈ ts.hn ∧ (n, z) ∈ (ts.st x).rows
theorem RowsD.put {R : List (Key × V)} {ts : TSt} (r : RowsD R ts) {x : Int} (hx : x ∈ ts.hn) {n : Int} {z : Str} (h : (n, z) ∈ (ts.st x).rows) : RowsD (putK R (Sum.inl n) (.str z)) ts := fun m v q => by
  rw [valV_put] at q
  by_cases c : (Sum.inl m : Key) = Sum.inl n
  · rw [if_pos c] at q
    injection q with q
    injection c with c
    subst c
    exact ⟨z, x, q.symm, hx, h⟩
  · rw [if_neg c] at q
    exact r m v q
theorem RowsD.to {R : List (Key × V)} {ts ts' : TSt} (r : RowsD R ts) (hn : ts'.hn = ts.hn) (h : ∀ x e, e ∈ (ts.st x).rows → e ∈ (ts'.st x).rows) : RowsD R ts' := fun n v q => by
  obtain ⟨z, x, q1, q2, q3⟩ := r n v q
  exact ⟨z, x, q1, by rw [hn]; exact q2, h x _ q3⟩
theorem putK_lenB {R : List (Key × V)} {k : Key} {v : V} : (putK R k v).length ≤ R.length + 1 := by
  unfold putK
  split
  · rw [List.length_map]; omega
  · rw [List.length_append]; exact Nat.le_refl _
end TN
namespace KB
open PySem L2 LM HM
def top (i : Nat) : Stmt := PySem.Challenge.pw_latehouse_k11_whole_no_two_unlike_rows.main.body.getD i (.Pass ⟨0, 0, 0, 0⟩)
abbrev s_is_whole : Stmt := top 11
abbrev N_is_whole : List Str := ["thing", "least", "most"]
theorem sc_is_whole : FnScope N_is_whole ["thing", "least", "most"] (defScope s_is_whole) := ⟨rfl, rfl, rfl, by decide +kernel, rfl, by decide +kernel, by decide +kernel⟩
abbrev s_check_count : Stmt := top 12
abbrev N_check_count : List Str := ["count"]
theorem sc_check_count : FnScope N_check_count ["count"] (defScope s_check_count) := ⟨rfl, rfl, rfl, by decide +kernel, rfl, by decide +kernel, by decide +kernel⟩
abbrev s_is_house : Stmt := top 13
abbrev N_is_house : List Str := ["count", "thing"]
theorem sc_is_house : FnScope N_is_house ["count", "thing"] (defScope s_is_house) := ⟨rfl, rfl, rfl, by decide +kernel, rfl, by decide +kernel, by decide +kernel⟩
abbrev s_most_liars : Stmt := top 14
abbrev N_most_liars : List Str := ["count"]
theorem sc_most_liars : FnScope N_most_liars ["count"] (defScope s_most_liars) := ⟨rfl, rfl, rfl, by decide +kernel, rfl, by decide +kernel, by decide +kernel⟩
abbrev s_enough : Stmt := top 15
abbrev N_enough : List Str := ["count"]
theorem sc_enough : FnScope N_enough ["count"] (defScope s_enough) := ⟨rfl, rfl, rfl, by decide +kernel, rfl, by decide +kernel, by decide +kernel⟩
abbrev s_is_row : Stmt := top 22
abbrev N_is_row : List Str := ["thing", "letter"]
theorem sc_is_row : FnScope N_is_row ["thing"] (defScope s_is_row) := ⟨rfl, rfl, rfl, by decide +kernel, rfl, by decide +kernel, by decide +kernel⟩
abbrev s_caller : Stmt := top 23
abbrev N_caller : List Str := ["count", "number"]
theorem sc_caller : FnScope N_caller ["count", "number"] (defScope s_caller) := ⟨rfl, rfl, rfl, by decide +kernel, rfl, by decide +kernel, by decide +kernel⟩
abbrev s_is_word : Stmt := top 24
abbrev N_is_word : List Str := ["count", "thing", "kind", "number", "row", "house"]
theorem sc_is_word : FnScope N_is_word ["count", "thing"] (defScope s_is_word) := ⟨rfl, rfl, rfl, by decide +kernel, rfl, by decide +kernel, by decide +kernel⟩
abbrev s_place : Stmt := top 25
abbrev N_place : List Str := ["word", "kind", "number", "row", "house"]
theorem sc_place : FnScope N_place ["word"] (defScope s_place) := ⟨rfl, rfl, rfl, by decide +kernel, rfl, by decide +kernel, by decide +kernel⟩
abbrev s_House___init__ : Stmt := inClass (top 27) 0
abbrev N_House___init__ : List Str := ["self", "count", "own"]
theorem sc_House___init__ : FnScope N_House___init__ ["self", "count", "own"] (defScope s_House___init__) := ⟨rfl, rfl, rfl, by decide +kernel, rfl, by decide +kernel, by decide +kernel⟩
abbrev s_House_call : Stmt := inClass (top 27) 1
abbrev N_House_call : List Str := ["self", "row", "say"]
theorem sc_House_call : FnScope N_House_call ["self", "row"] (defScope s_House_call) := ⟨rfl, rfl, rfl, by decide +kernel, rfl, by decide +kernel, by decide +kernel⟩
abbrev s_House_hear : Stmt := inClass (top 27) 2
abbrev N_House_hear : List Str := ["self", "word", "mark", "backing", "pair"]
theorem sc_House_hear : FnScope N_House_hear ["self", "word"] (defScope s_House_hear) := ⟨rfl, rfl, rfl, by decide +kernel, rfl, by decide +kernel, by decide +kernel⟩
abbrev s_House_ledger : Stmt := inClass (top 27) 3
abbrev N_House_ledger : List Str := ["self", "number"]
theorem sc_House_ledger : FnScope N_House_ledger ["self"] (defScope s_House_ledger) := ⟨rfl, rfl, rfl, by decide +kernel, rfl, by decide +kernel, by decide +kernel⟩
abbrev s_House_backing : Stmt := inClass (top 27) 4
abbrev N_House_backing : List Str := ["self", "number"]
theorem sc_House_backing : FnScope N_House_backing ["self", "number"] (defScope s_House_backing) := ⟨rfl, rfl, rfl, by decide +kernel, rfl, by decide +kernel, by decide +kernel⟩
abbrev s_House_caught : Stmt := inClass (top 27) 5
abbrev N_House_caught : List Str := ["self"]
theorem sc_House_caught : FnScope N_House_caught ["self"] (defScope s_House_caught) := ⟨rfl, rfl, rfl, by decide +kernel, rfl, by decide +kernel, by decide +kernel⟩
abbrev s_House__learn : Stmt := inClass (top 27) 6
abbrev N_House__learn : List Str := ["self", "word", "kind", "number", "row", "house", "marks"]
theorem sc_House__learn : FnScope N_House__learn ["self", "word"] (defScope s_House__learn) := ⟨rfl, rfl, rfl, by decide +kernel, rfl, by decide +kernel, by decide +kernel⟩
abbrev s_House__mark : Stmt := inClass (top 27) 7
abbrev N_House__mark : List Str := ["self", "word", "kind", "number", "row", "house", "mark"]
theorem sc_House__mark : FnScope N_House__mark ["self", "word"] (defScope s_House__mark) := ⟨rfl, rfl, rfl, by decide +kernel, rfl, by decide +kernel, by decide +kernel⟩
abbrev s_House__write : Stmt := inClass (top 27) 8
abbrev N_House__write : List Str := ["self", "word", "kind", "number", "row", "house", "marks", "marker"]
theorem sc_House__write : FnScope N_House__write ["self", "word"] (defScope s_House__write) := ⟨rfl, rfl, rfl, by decide +kernel, rfl, by decide +kernel, by decide +kernel⟩
abbrev s_House__name : Stmt := inClass (top 27) 9
abbrev N_House__name : List Str := ["self", "word", "house", "earliest"]
theorem sc_House__name : FnScope N_House__name ["self", "word"] (defScope s_House__name) := ⟨rfl, rfl, rfl, by decide +kernel, rfl, by decide +kernel, by decide +kernel⟩
abbrev s_Post___init__ : Stmt := inClass (top 29) 0
abbrev N_Post___init__ : List Str := ["self"]
theorem sc_Post___init__ : FnScope N_Post___init__ ["self"] (defScope s_Post___init__) := ⟨rfl, rfl, rfl, by decide +kernel, rfl, by decide +kernel, by decide +kernel⟩
abbrev s_Post_send : Stmt := inClass (top 29) 1
abbrev N_Post_send : List Str := ["self", "letter", "number"]
theorem sc_Post_send : FnScope N_Post_send ["self", "letter"] (defScope s_Post_send) := ⟨rfl, rfl, rfl, by decide +kernel, rfl, by decide +kernel, by decide +kernel⟩
abbrev s_Post_bring : Stmt := inClass (top 29) 2
abbrev N_Post_bring : List Str := ["self", "number"]
theorem sc_Post_bring : FnScope N_Post_bring ["self", "number"] (defScope s_Post_bring) := ⟨rfl, rfl, rfl, by decide +kernel, rfl, by decide +kernel, by decide +kernel⟩
abbrev s_Post_waiting : Stmt := inClass (top 29) 3
abbrev N_Post_waiting : List Str := ["self"]
theorem sc_Post_waiting : FnScope N_Post_waiting ["self"] (defScope s_Post_waiting) := ⟨rfl, rfl, rfl, by decide +kernel, rfl, by decide +kernel, by decide +kernel⟩
abbrev s_are_different_houses : Stmt := top 31
abbrev N_are_different_houses : List Str := ["count", "thing", "house", "houses"]
theorem sc_are_different_houses : FnScope N_are_different_houses ["count", "thing"] (defScope s_are_different_houses) := ⟨rfl, rfl, rfl, by decide +kernel, rfl, by decide +kernel, by decide +kernel⟩
abbrev s_Town___init__ : Stmt := inClass (top 32) 0
abbrev N_Town___init__ : List Str := ["self", "count", "liars", "house"]
theorem sc_Town___init__ : FnScope N_Town___init__ ["self", "count", "liars"] (defScope s_Town___init__) := ⟨rfl, rfl, rfl, by decide +kernel, rfl, by decide +kernel, by decide +kernel⟩
abbrev s_Town_call : Stmt := inClass (top 32) 1
abbrev N_Town_call : List Str := ["self", "house", "row", "told"]
theorem sc_Town_call : FnScope N_Town_call ["self", "house", "row"] (defScope s_Town_call) := ⟨rfl, rfl, rfl, by decide +kernel, rfl, by decide +kernel, by decide +kernel⟩
abbrev s_Town_bring : Stmt := inClass (top 32) 2
abbrev N_Town_bring : List Str := ["self", "number", "sender", "receiver", "word", "told"]
theorem sc_Town_bring : FnScope N_Town_bring ["self", "number"] (defScope s_Town_bring) := ⟨rfl, rfl, rfl, by decide +kernel, rfl, by decide +kernel, by decide +kernel⟩
abbrev s_Town_lie : Stmt := inClass (top 32) 3
abbrev N_Town_lie : List Str := ["self", "house", "receiver", "word"]
theorem sc_Town_lie : FnScope N_Town_lie ["self", "house", "receiver", "word"] (defScope s_Town_lie) := ⟨rfl, rfl, rfl, by decide +kernel, rfl, by decide +kernel, by decide +kernel⟩
abbrev s_Town_waiting : Stmt := inClass (top 32) 4
abbrev N_Town_waiting : List Str := ["self"]
theorem sc_Town_waiting : FnScope N_Town_waiting ["self"] (defScope s_Town_waiting) := ⟨rfl, rfl, rfl, by decide +kernel, rfl, by decide +kernel, by decide +kernel⟩
abbrev s_Town_spoken : Stmt := inClass (top 32) 5
abbrev N_Town_spoken : List Str := ["self"]
theorem sc_Town_spoken : FnScope N_Town_spoken ["self"] (defScope s_Town_spoken) := ⟨rfl, rfl, rfl, by decide +kernel, rfl, by decide +kernel, by decide +kernel⟩
abbrev s_Town_ledger : Stmt := inClass (top 32) 6
abbrev N_Town_ledger : List Str := ["self", "house"]
theorem sc_Town_ledger : FnScope N_Town_ledger ["self", "house"] (defScope s_Town_ledger) := ⟨rfl, rfl, rfl, by decide +kernel, rfl, by decide +kernel, by decide +kernel⟩
abbrev s_Town_backing : Stmt := inClass (top 32) 7
abbrev N_Town_backing : List Str := ["self", "house", "number"]
theorem sc_Town_backing : FnScope N_Town_backing ["self", "house", "number"] (defScope s_Town_backing) := ⟨rfl, rfl, rfl, by decide +kernel, rfl, by decide +kernel, by decide +kernel⟩
abbrev s_Town_caught : Stmt := inClass (top 32) 8
abbrev N_Town_caught : List Str := ["self", "house"]
theorem sc_Town_caught : FnScope N_Town_caught ["self", "house"] (defScope s_Town_caught) := ⟨rfl, rfl, rfl, by decide +kernel, rfl, by decide +kernel, by decide +kernel⟩
abbrev s_Town__honest_house : Stmt := inClass (top 32) 9
abbrev N_Town__honest_house : List Str := ["self", "house"]
theorem sc_Town__honest_house : FnScope N_Town__honest_house ["self", "house"] (defScope s_Town__honest_house) := ⟨rfl, rfl, rfl, by decide +kernel, rfl, by decide +kernel, by decide +kernel⟩
abbrev s_Town__tell : Stmt := inClass (top 32) 10
abbrev N_Town__tell : List Str := ["self", "house", "words", "word", "receiver"]
theorem sc_Town__tell : FnScope N_Town__tell ["self", "house", "words"] (defScope s_Town__tell) := ⟨rfl, rfl, rfl, by decide +kernel, rfl, by decide +kernel, by decide +kernel⟩
abbrev s__law_at : Stmt := top 34
abbrev N__law_at : List Str := ["_law_script", "_law_k"]
theorem sc__law_at : FnScope N__law_at ["_law_script", "_law_k"] (defScope s__law_at) := ⟨rfl, rfl, rfl, by decide +kernel, rfl, by decide +kernel, by decide +kernel⟩
abbrev s__law_row : Stmt := top 36
abbrev N__law_row : List Str := ["_law_base", "_law_k", "_law_letters", "_law_turned", "_law_size", "_law_tail", "_law_j", "_law_at_here"]
theorem sc__law_row : FnScope N__law_row ["_law_base", "_law_k"] (defScope s__law_row) := ⟨rfl, rfl, rfl, by decide +kernel, rfl, by decide +kernel, by decide +kernel⟩
abbrev s__law_liars : Stmt := top 37
abbrev N__law_liars : List Str := ["_law_cell", "_law_count_here", "_law_many", "_law_left", "_law_found"]
theorem sc__law_liars : FnScope N__law_liars ["_law_cell", "_law_count_here", "_law_many"] (defScope s__law_liars) := ⟨rfl, rfl, rfl, by decide +kernel, rfl, by decide +kernel, by decide +kernel⟩
abbrev s__law_count : Stmt := top 38
abbrev N__law_count : List Str := ["_law_cell"]
theorem sc__law_count : FnScope N__law_count ["_law_cell"] (defScope s__law_count) := ⟨rfl, rfl, rfl, by decide +kernel, rfl, by decide +kernel, by decide +kernel⟩
abbrev s__law_split : Stmt := top 39
abbrev N__law_split : List Str := ["_law_town", "_law_count_here", "_law_liars_here", "_law_cell", "_law_rows", "_law_liar", "_law_number", "_law_told", "_law_k", "_law_house", "_law_one", "_law_row_here", "_law_letter"]
theorem sc__law_split : FnScope N__law_split ["_law_town", "_law_count_here", "_law_liars_here", "_law_cell", "_law_rows"] (defScope s__law_split) := ⟨rfl, rfl, rfl, by decide +kernel, rfl, by decide +kernel, by decide +kernel⟩
abbrev s__law_lie : Stmt := top 40
abbrev N__law_lie : List Str := ["_law_town", "_law_count_here", "_law_liars_here", "_law_cell", "_law_rows", "_law_liar", "_law_receiver", "_law_number", "_law_word", "_law_spoken"]
theorem sc__law_lie : FnScope N__law_lie ["_law_town", "_law_count_here", "_law_liars_here", "_law_cell", "_law_rows"] (defScope s__law_lie) := ⟨rfl, rfl, rfl, by decide +kernel, rfl, by decide +kernel, by decide +kernel⟩
abbrev s__law_deed : Stmt := top 41
abbrev N__law_deed : List Str := ["_law_town", "_law_count_here", "_law_liars_here", "_law_cell", "_law_rows", "_law_honest", "_law_house", "_law_way", "_law_more", "_law_k", "_law_waiting"]
theorem sc__law_deed : FnScope N__law_deed ["_law_town", "_law_count_here", "_law_liars_here", "_law_cell", "_law_rows"] (defScope s__law_deed) := ⟨rfl, rfl, rfl, by decide +kernel, rfl, by decide +kernel, by decide +kernel⟩
abbrev s__law_enough : Stmt := top 42
abbrev N__law_enough : List Str := ["_law_count_here", "_law_wanted"]
theorem sc__law_enough : FnScope N__law_enough ["_law_count_here"] (defScope s__law_enough) := ⟨rfl, rfl, rfl, by decide +kernel, rfl, by decide +kernel, by decide +kernel⟩
abbrev s__law_is_backing : Stmt := top 43
abbrev N__law_is_backing : List Str := ["_law_backing", "_law_count_here", "_law_number", "_law_row_here", "_law_spoken", "_law_word"]
theorem sc__law_is_backing : FnScope N__law_is_backing ["_law_backing", "_law_count_here", "_law_number", "_law_row_here", "_law_spoken"] (defScope s__law_is_backing) := ⟨rfl, rfl, rfl, by decide +kernel, rfl, by decide +kernel, by decide +kernel⟩
abbrev s__law_named_right : Stmt := top 44
abbrev N__law_named_right : List Str := ["_law_names", "_law_liars_here", "_law_spoken", "_law_house", "_law_one", "_law_other", "_law_name"]
theorem sc__law_named_right : FnScope N__law_named_right ["_law_names", "_law_liars_here", "_law_spoken"] (defScope s__law_named_right) := ⟨rfl, rfl, rfl, by decide +kernel, rfl, by decide +kernel, by decide +kernel⟩
abbrev s__law_good : Stmt := top 45
abbrev N__law_good : List Str := ["_law_town", "_law_count_here", "_law_liars_here", "_law_rows", "_law_spoken", "_law_house", "_law_found", "_law_number"]
theorem sc__law_good : FnScope N__law_good ["_law_town", "_law_count_here", "_law_liars_here", "_law_rows"] (defScope s__law_good) := ⟨rfl, rfl, rfl, by decide +kernel, rfl, by decide +kernel, by decide +kernel⟩
abbrev s_law : Stmt := top 46
abbrev N_law : List Str := ["_law_script", "_law_first", "_law_count_here", "_law_liars_here", "_law_texts", "_law_k", "_law_town", "_law_rows", "_law_ledgers", "_law_cell", "_law_house", "_law_now", "_law_ahead", "_law_number"]
theorem sc_law : FnScope N_law ["_law_script"] (defScope s_law) := ⟨rfl, rfl, rfl, by decide +kernel, rfl, by decide +kernel, by decide +kernel⟩
structure Ad where
  (is_whole check_count is_house most_liars enough is_row caller is_word place House___init__ House_call House_hear House_ledger House_backing House_caught House__learn House__mark House__write House__name Post___init__ Post_send Post_bring Post_waiting are_different_houses Town___init__ Town_call Town_bring Town_lie Town_waiting Town_spoken Town_ledger Town_backing Town_caught Town__honest_house Town__tell _law_at _law_row _law_liars _law_count _law_split _law_lie _law_deed _law_enough _law_is_backing _law_named_right _law_good law : Addr)
  (d_is_whole d_check_count d_is_house d_most_liars d_enough d_is_row d_caller d_is_word d_place d_House___init__ d_House_call d_House_hear d_House_ledger d_House_backing d_House_caught d_House__learn d_House__mark d_House__write d_House__name d_Post___init__ d_Post_send d_Post_bring d_Post_waiting d_are_different_houses d_Town___init__ d_Town_call d_Town_bring d_Town_lie d_Town_waiting d_Town_spoken d_Town_ledger d_Town_backing d_Town_caught d_Town__honest_house d_Town__tell d__law_at d__law_row d__law_liars d__law_count d__law_split d__law_lie d__law_deed d__law_enough d__law_is_backing d__law_named_right d__law_good d_law : FuncData)
  (HouseError BadCount BadHouse BadRow BadWord Forged NoLetter NotWritten House Post Town : Addr)
  (t_MOST_HOUSES t_SAY t_MARK t_LAST_NUMBER t_LONGEST_ROW t_LETTERS : Tok)
abbrev VEs : List Value := [.type "ValueError", .type "Exception", .type "BaseException", .type "object"]
structure Txt (K : PySem.W.Frag) (mg : Str → Option Value) (a : Ad) : Prop where
  F_is_whole : Fun K "is_whole" "is_whole" s_is_whole a.is_whole a.d_is_whole
  g_is_whole : mg "is_whole" = some (.ref a.is_whole)
  b_is_whole : Binds K a.d_is_whole ["thing", "least", "most"] []
  F_check_count : Fun K "check_count" "check_count" s_check_count a.check_count a.d_check_count
  g_check_count : mg "check_count" = some (.ref a.check_count)
  b_check_count : Binds K a.d_check_count ["count"] []
  F_is_house : Fun K "is_house" "is_house" s_is_house a.is_house a.d_is_house
  g_is_house : mg "is_house" = some (.ref a.is_house)
  b_is_house : Binds K a.d_is_house ["count", "thing"] []
  F_most_liars : Fun K "most_liars" "most_liars" s_most_liars a.most_liars a.d_most_liars
  g_most_liars : mg "most_liars" = some (.ref a.most_liars)
  b_most_liars : Binds K a.d_most_liars ["count"] []
  F_enough : Fun K "enough" "enough" s_enough a.enough a.d_enough
  g_enough : mg "enough" = some (.ref a.enough)
  b_enough : Binds K a.d_enough ["count"] []
  F_is_row : Fun K "is_row" "is_row" s_is_row a.is_row a.d_is_row
  g_is_row : mg "is_row" = some (.ref a.is_row)
  b_is_row : Binds K a.d_is_row ["thing"] []
  F_caller : Fun K "caller" "caller" s_caller a.caller a.d_caller
  g_caller : mg "caller" = some (.ref a.caller)
  b_caller : Binds K a.d_caller ["count", "number"] []
  F_is_word : Fun K "is_word" "is_word" s_is_word a.is_word a.d_is_word
  g_is_word : mg "is_word" = some (.ref a.is_word)
  b_is_word : Binds K a.d_is_word ["count", "thing"] []
  F_place : Fun K "place" "place" s_place a.place a.d_place
  g_place : mg "place" = some (.ref a.place)
  b_place : Binds K a.d_place ["word"] []
  F_House___init__ : Fun K "__init__" "House.__init__" s_House___init__ a.House___init__ a.d_House___init__
  me_House___init__ : Meth K a.House "__init__" a.House___init__
  b_House___init__ : Binds K a.d_House___init__ ["self", "count", "own"] []
  F_House_call : Fun K "call" "House.call" s_House_call a.House_call a.d_House_call
  me_House_call : Meth K a.House "call" a.House_call
  b_House_call : Binds K a.d_House_call ["self", "row"] []
  F_House_hear : Fun K "hear" "House.hear" s_House_hear a.House_hear a.d_House_hear
  me_House_hear : Meth K a.House "hear" a.House_hear
  b_House_hear : Binds K a.d_House_hear ["self", "word"] []
  F_House_ledger : Fun K "ledger" "House.ledger" s_House_ledger a.House_ledger a.d_House_ledger
  me_House_ledger : Meth K a.House "ledger" a.House_ledger
  b_House_ledger : Binds K a.d_House_ledger ["self"] []
  F_House_backing : Fun K "backing" "House.backing" s_House_backing a.House_backing a.d_House_backing
  me_House_backing : Meth K a.House "backing" a.House_backing
  b_House_backing : Binds K a.d_House_backing ["self", "number"] []
  F_House_caught : Fun K "caught" "House.caught" s_House_caught a.House_caught a.d_House_caught
  me_House_caught : Meth K a.House "caught" a.House_caught
  b_House_caught : Binds K a.d_House_caught ["self"] []
  F_House__learn : Fun K "_learn" "House._learn" s_House__learn a.House__learn a.d_House__learn
  me_House__learn : Meth K a.House "_learn" a.House__learn
  b_House__learn : Binds K a.d_House__learn ["self", "word"] []
  F_House__mark : Fun K "_mark" "House._mark" s_House__mark a.House__mark a.d_House__mark
  me_House__mark : Meth K a.House "_mark" a.House__mark
  b_House__mark : Binds K a.d_House__mark ["self", "word"] []
  F_House__write : Fun K "_write" "House._write" s_House__write a.House__write a.d_House__write
  me_House__write : Meth K a.House "_write" a.House__write
  b_House__write : Binds K a.d_House__write ["self", "word"] []
  F_House__name : Fun K "_name" "House._name" s_House__name a.House__name a.d_House__name
  me_House__name : Meth K a.House "_name" a.House__name
  b_House__name : Binds K a.d_House__name ["self", "word"] []
  F_Post___init__ : Fun K "__init__" "Post.__init__" s_Post___init__ a.Post___init__ a.d_Post___init__
  me_Post___init__ : Meth K a.Post "__init__" a.Post___init__
  b_Post___init__ : Binds K a.d_Post___init__ ["self"] []
  F_Post_send : Fun K "send" "Post.send" s_Post_send a.Post_send a.d_Post_send
  me_Post_send : Meth K a.Post "send" a.Post_send
  b_Post_send : Binds K a.d_Post_send ["self", "letter"] []
  F_Post_bring : Fun K "bring" "Post.bring" s_Post_bring a.Post_bring a.d_Post_bring
  me_Post_bring : Meth K a.Post "bring" a.Post_bring
  b_Post_bring : Binds K a.d_Post_bring ["self", "number"] []
  F_Post_waiting : Fun K "waiting" "Post.waiting" s_Post_waiting a.Post_waiting a.d_Post_waiting
  me_Post_waiting : Meth K a.Post "waiting" a.Post_waiting
  b_Post_waiting : Binds K a.d_Post_waiting ["self"] []
  F_are_different_houses : Fun K "are_different_houses" "are_different_houses" s_are_different_houses a.are_different_houses a.d_are_different_houses
  g_are_different_houses : mg "are_different_houses" = some (.ref a.are_different_houses)
  b_are_different_houses : Binds K a.d_are_different_houses ["count", "thing"] []
  F_Town___init__ : Fun K "__init__" "Town.__init__" s_Town___init__ a.Town___init__ a.d_Town___init__
  me_Town___init__ : Meth K a.Town "__init__" a.Town___init__
  b_Town___init__ : Binds K a.d_Town___init__ ["self", "count", "liars"] []
  F_Town_call : Fun K "call" "Town.call" s_Town_call a.Town_call a.d_Town_call
  me_Town_call : Meth K a.Town "call" a.Town_call
  b_Town_call : Binds K a.d_Town_call ["self", "house", "row"] []
  F_Town_bring : Fun K "bring" "Town.bring" s_Town_bring a.Town_bring a.d_Town_bring
  me_Town_bring : Meth K a.Town "bring" a.Town_bring
  b_Town_bring : Binds K a.d_Town_bring ["self", "number"] []
  F_Town_lie : Fun K "lie" "Town.lie" s_Town_lie a.Town_lie a.d_Town_lie
  me_Town_lie : Meth K a.Town "lie" a.Town_lie
  b_Town_lie : Binds K a.d_Town_lie ["self", "house", "receiver", "word"] []
  F_Town_waiting : Fun K "waiting" "Town.waiting" s_Town_waiting a.Town_waiting a.d_Town_waiting
  me_Town_waiting : Meth K a.Town "waiting" a.Town_waiting
  b_Town_waiting : Binds K a.d_Town_waiting ["self"] []
  F_Town_spoken : Fun K "spoken" "Town.spoken" s_Town_spoken a.Town_spoken a.d_Town_spoken
  me_Town_spoken : Meth K a.Town "spoken" a.Town_spoken
  b_Town_spoken : Binds K a.d_Town_spoken ["self"] []
  F_Town_ledger : Fun K "ledger" "Town.ledger" s_Town_ledger a.Town_ledger a.d_Town_ledger
  me_Town_ledger : Meth K a.Town "ledger" a.Town_ledger
  b_Town_ledger : Binds K a.d_Town_ledger ["self", "house"] []
  F_Town_backing : Fun K "backing" "Town.backing" s_Town_backing a.Town_backing a.d_Town_backing
  me_Town_backing : Meth K a.Town "backing" a.Town_backing
  b_Town_backing : Binds K a.d_Town_backing ["self", "house", "number"] []
  F_Town_caught : Fun K "caught" "Town.caught" s_Town_caught a.Town_caught a.d_Town_caught
  me_Town_caught : Meth K a.Town "caught" a.Town_caught
  b_Town_caught : Binds K a.d_Town_caught ["self", "house"] []
  F_Town__honest_house : Fun K "_honest_house" "Town._honest_house" s_Town__honest_house a.Town__honest_house a.d_Town__honest_house
  me_Town__honest_house : Meth K a.Town "_honest_house" a.Town__honest_house
  b_Town__honest_house : Binds K a.d_Town__honest_house ["self", "house"] []
  F_Town__tell : Fun K "_tell" "Town._tell" s_Town__tell a.Town__tell a.d_Town__tell
  me_Town__tell : Meth K a.Town "_tell" a.Town__tell
  b_Town__tell : Binds K a.d_Town__tell ["self", "house", "words"] []
  F__law_at : Fun K "_law_at" "_law_at" s__law_at a._law_at a.d__law_at
  g__law_at : mg "_law_at" = some (.ref a._law_at)
  b__law_at : Binds K a.d__law_at ["_law_script", "_law_k"] []
  F__law_row : Fun K "_law_row" "_law_row" s__law_row a._law_row a.d__law_row
  g__law_row : mg "_law_row" = some (.ref a._law_row)
  b__law_row : Binds K a.d__law_row ["_law_base", "_law_k"] []
  F__law_liars : Fun K "_law_liars" "_law_liars" s__law_liars a._law_liars a.d__law_liars
  g__law_liars : mg "_law_liars" = some (.ref a._law_liars)
  b__law_liars : Binds K a.d__law_liars ["_law_cell", "_law_count_here", "_law_many"] []
  F__law_count : Fun K "_law_count" "_law_count" s__law_count a._law_count a.d__law_count
  g__law_count : mg "_law_count" = some (.ref a._law_count)
  b__law_count : Binds K a.d__law_count ["_law_cell"] []
  F__law_split : Fun K "_law_split" "_law_split" s__law_split a._law_split a.d__law_split
  g__law_split : mg "_law_split" = some (.ref a._law_split)
  b__law_split : Binds K a.d__law_split ["_law_town", "_law_count_here", "_law_liars_here", "_law_cell", "_law_rows"] []
  F__law_lie : Fun K "_law_lie" "_law_lie" s__law_lie a._law_lie a.d__law_lie
  g__law_lie : mg "_law_lie" = some (.ref a._law_lie)
  b__law_lie : Binds K a.d__law_lie ["_law_town", "_law_count_here", "_law_liars_here", "_law_cell", "_law_rows"] []
  F__law_deed : Fun K "_law_deed" "_law_deed" s__law_deed a._law_deed a.d__law_deed
  g__law_deed : mg "_law_deed" = some (.ref a._law_deed)
  b__law_deed : Binds K a.d__law_deed ["_law_town", "_law_count_here", "_law_liars_here", "_law_cell", "_law_rows"] []
  F__law_enough : Fun K "_law_enough" "_law_enough" s__law_enough a._law_enough a.d__law_enough
  g__law_enough : mg "_law_enough" = some (.ref a._law_enough)
  b__law_enough : Binds K a.d__law_enough ["_law_count_here"] []
  F__law_is_backing : Fun K "_law_is_backing" "_law_is_backing" s__law_is_backing a._law_is_backing a.d__law_is_backing
  g__law_is_backing : mg "_law_is_backing" = some (.ref a._law_is_backing)
  b__law_is_backing : Binds K a.d__law_is_backing ["_law_backing", "_law_count_here", "_law_number", "_law_row_here", "_law_spoken"] []
  F__law_named_right : Fun K "_law_named_right" "_law_named_right" s__law_named_right a._law_named_right a.d__law_named_right
  g__law_named_right : mg "_law_named_right" = some (.ref a._law_named_right)
  b__law_named_right : Binds K a.d__law_named_right ["_law_names", "_law_liars_here", "_law_spoken"] []
  F__law_good : Fun K "_law_good" "_law_good" s__law_good a._law_good a.d__law_good
  g__law_good : mg "_law_good" = some (.ref a._law_good)
  b__law_good : Binds K a.d__law_good ["_law_town", "_law_count_here", "_law_liars_here", "_law_rows"] []
  F_law : Fun K "law" "law" s_law a.law a.d_law
  g_HouseError : mg "HouseError" = some (.ref a.HouseError)
  g_BadCount : mg "BadCount" = some (.ref a.BadCount)
  g_BadHouse : mg "BadHouse" = some (.ref a.BadHouse)
  g_BadRow : mg "BadRow" = some (.ref a.BadRow)
  g_BadWord : mg "BadWord" = some (.ref a.BadWord)
  g_Forged : mg "Forged" = some (.ref a.Forged)
  g_NoLetter : mg "NoLetter" = some (.ref a.NoLetter)
  g_NotWritten : mg "NotWritten" = some (.ref a.NotWritten)
  g_House : mg "House" = some (.ref a.House)
  g_Post : mg "Post" = some (.ref a.Post)
  g_Town : mg "Town" = some (.ref a.Town)
  cl_House : Cls K a.House
  mk_House : Mk K a.House a.House___init__
  na_House__count : NoAttr K a.House "_count"
  na_House__own : NoAttr K a.House "_own"
  na_House__due : NoAttr K a.House "_due"
  na_House__known : NoAttr K a.House "_known"
  na_House__earliest : NoAttr K a.House "_earliest"
  na_House__marked : NoAttr K a.House "_marked"
  na_House__marks : NoAttr K a.House "_marks"
  na_House__rows : NoAttr K a.House "_rows"
  na_House__backings : NoAttr K a.House "_backings"
  na_House__named : NoAttr K a.House "_named"
  cl_Post : Cls K a.Post
  mk_Post : Mk K a.Post a.Post___init__
  na_Post__due : NoAttr K a.Post "_due"
  na_Post__letters : NoAttr K a.Post "_letters"
  cl_Town : Cls K a.Town
  mk_Town : Mk K a.Town a.Town___init__
  na_Town__count : NoAttr K a.Town "_count"
  na_Town__honest : NoAttr K a.Town "_honest"
  na_Town__post : NoAttr K a.Town "_post"
  na_Town__spoken : NoAttr K a.Town "_spoken"
  x_BadCount : PySem.W.excIn K a.BadCount VEs "ValueError.__new__" = true
  k_BadCount : PySem.W.keepIn K (.ref a.BadCount) = true
  bx_BadCount : PySem.W.subIn K (.ref a.BadCount) (.type "BaseException") = some true
  t_BadCount : PySem.W.typeIn K (.ref a.BadCount) = some (.type "type")
  e_BadCount : PySem.W.exmOne K (.ref a.BadCount) (.ref a.HouseError) = some true
  c_BadCount : ExcC K a.BadCount
  i_BadCount_BadCount : PySem.W.kitOne K (.ref a.BadCount) (.ref a.BadCount) = some true
  i_BadCount_BadHouse : PySem.W.kitOne K (.ref a.BadCount) (.ref a.BadHouse) = some false
  i_BadCount_BadRow : PySem.W.kitOne K (.ref a.BadCount) (.ref a.BadRow) = some false
  i_BadCount_BadWord : PySem.W.kitOne K (.ref a.BadCount) (.ref a.BadWord) = some false
  i_BadCount_Forged : PySem.W.kitOne K (.ref a.BadCount) (.ref a.Forged) = some false
  i_BadCount_NoLetter : PySem.W.kitOne K (.ref a.BadCount) (.ref a.NoLetter) = some false
  i_BadCount_NotWritten : PySem.W.kitOne K (.ref a.BadCount) (.ref a.NotWritten) = some false
  i_BadCount_NoText : PySem.W.kitOne K (.ref a.BadCount) (.type "NoText") = some false
  i_BadCount_ValueError : PySem.W.kitOne K (.ref a.BadCount) (.type "ValueError") = some true
  x_BadHouse : PySem.W.excIn K a.BadHouse VEs "ValueError.__new__" = true
  k_BadHouse : PySem.W.keepIn K (.ref a.BadHouse) = true
  bx_BadHouse : PySem.W.subIn K (.ref a.BadHouse) (.type "BaseException") = some true
  t_BadHouse : PySem.W.typeIn K (.ref a.BadHouse) = some (.type "type")
  e_BadHouse : PySem.W.exmOne K (.ref a.BadHouse) (.ref a.HouseError) = some true
  c_BadHouse : ExcC K a.BadHouse
  i_BadHouse_BadCount : PySem.W.kitOne K (.ref a.BadHouse) (.ref a.BadCount) = some false
  i_BadHouse_BadHouse : PySem.W.kitOne K (.ref a.BadHouse) (.ref a.BadHouse) = some true
  i_BadHouse_BadRow : PySem.W.kitOne K (.ref a.BadHouse) (.ref a.BadRow) = some false
  i_BadHouse_BadWord : PySem.W.kitOne K (.ref a.BadHouse) (.ref a.BadWord) = some false
  i_BadHouse_Forged : PySem.W.kitOne K (.ref a.BadHouse) (.ref a.Forged) = some false
  i_BadHouse_NoLetter : PySem.W.kitOne K (.ref a.BadHouse) (.ref a.NoLetter) = some false
  i_BadHouse_NotWritten : PySem.W.kitOne K (.ref a.BadHouse) (.ref a.NotWritten) = some false
  i_BadHouse_NoText : PySem.W.kitOne K (.ref a.BadHouse) (.type "NoText") = some false
  i_BadHouse_ValueError : PySem.W.kitOne K (.ref a.BadHouse) (.type "ValueError") = some true
  x_BadRow : PySem.W.excIn K a.BadRow VEs "ValueError.__new__" = true
  k_BadRow : PySem.W.keepIn K (.ref a.BadRow) = true
  bx_BadRow : PySem.W.subIn K (.ref a.BadRow) (.type "BaseException") = some true
  t_BadRow : PySem.W.typeIn K (.ref a.BadRow) = some (.type "type")
  e_BadRow : PySem.W.exmOne K (.ref a.BadRow) (.ref a.HouseError) = some true
  c_BadRow : ExcC K a.BadRow
  i_BadRow_BadCount : PySem.W.kitOne K (.ref a.BadRow) (.ref a.BadCount) = some false
  i_BadRow_BadHouse : PySem.W.kitOne K (.ref a.BadRow) (.ref a.BadHouse) = some false
  i_BadRow_BadRow : PySem.W.kitOne K (.ref a.BadRow) (.ref a.BadRow) = some true
  i_BadRow_BadWord : PySem.W.kitOne K (.ref a.BadRow) (.ref a.BadWord) = some false
  i_BadRow_Forged : PySem.W.kitOne K (.ref a.BadRow) (.ref a.Forged) = some false
  i_BadRow_NoLetter : PySem.W.kitOne K (.ref a.BadRow) (.ref a.NoLetter) = some false
  i_BadRow_NotWritten : PySem.W.kitOne K (.ref a.BadRow) (.ref a.NotWritten) = some false
  i_BadRow_NoText : PySem.W.kitOne K (.ref a.BadRow) (.type "NoText") = some false
  i_BadRow_ValueError : PySem.W.kitOne K (.ref a.BadRow) (.type "ValueError") = some true
  x_BadWord : PySem.W.excIn K a.BadWord VEs "ValueError.__new__" = true
  k_BadWord : PySem.W.keepIn K (.ref a.BadWord) = true
  bx_BadWord : PySem.W.subIn K (.ref a.BadWord) (.type "BaseException") = some true
  t_BadWord : PySem.W.typeIn K (.ref a.BadWord) = some (.type "type")
  e_BadWord : PySem.W.exmOne K (.ref a.BadWord) (.ref a.HouseError) = some true
  c_BadWord : ExcC K a.BadWord
  i_BadWord_BadCount : PySem.W.kitOne K (.ref a.BadWord) (.ref a.BadCount) = some false
  i_BadWord_BadHouse : PySem.W.kitOne K (.ref a.BadWord) (.ref a.BadHouse) = some false
  i_BadWord_BadRow : PySem.W.kitOne K (.ref a.BadWord) (.ref a.BadRow) = some false
  i_BadWord_BadWord : PySem.W.kitOne K (.ref a.BadWord) (.ref a.BadWord) = some true
  i_BadWord_Forged : PySem.W.kitOne K (.ref a.BadWord) (.ref a.Forged) = some false
  i_BadWord_NoLetter : PySem.W.kitOne K (.ref a.BadWord) (.ref a.NoLetter) = some false
  i_BadWord_NotWritten : PySem.W.kitOne K (.ref a.BadWord) (.ref a.NotWritten) = some false
  i_BadWord_NoText : PySem.W.kitOne K (.ref a.BadWord) (.type "NoText") = some false
  i_BadWord_ValueError : PySem.W.kitOne K (.ref a.BadWord) (.type "ValueError") = some true
  x_Forged : PySem.W.excIn K a.Forged VEs "ValueError.__new__" = true
  k_Forged : PySem.W.keepIn K (.ref a.Forged) = true
  bx_Forged : PySem.W.subIn K (.ref a.Forged) (.type "BaseException") = some true
  t_Forged : PySem.W.typeIn K (.ref a.Forged) = some (.type "type")
  e_Forged : PySem.W.exmOne K (.ref a.Forged) (.ref a.HouseError) = some true
  c_Forged : ExcC K a.Forged
  i_Forged_BadCount : PySem.W.kitOne K (.ref a.Forged) (.ref a.BadCount) = some false
  i_Forged_BadHouse : PySem.W.kitOne K (.ref a.Forged) (.ref a.BadHouse) = some false
  i_Forged_BadRow : PySem.W.kitOne K (.ref a.Forged) (.ref a.BadRow) = some false
  i_Forged_BadWord : PySem.W.kitOne K (.ref a.Forged) (.ref a.BadWord) = some false
  i_Forged_Forged : PySem.W.kitOne K (.ref a.Forged) (.ref a.Forged) = some true
  i_Forged_NoLetter : PySem.W.kitOne K (.ref a.Forged) (.ref a.NoLetter) = some false
  i_Forged_NotWritten : PySem.W.kitOne K (.ref a.Forged) (.ref a.NotWritten) = some false
  i_Forged_NoText : PySem.W.kitOne K (.ref a.Forged) (.type "NoText") = some false
  i_Forged_ValueError : PySem.W.kitOne K (.ref a.Forged) (.type "ValueError") = some true
  x_NoLetter : PySem.W.excIn K a.NoLetter VEs "ValueError.__new__" = true
  k_NoLetter : PySem.W.keepIn K (.ref a.NoLetter) = true
  bx_NoLetter : PySem.W.subIn K (.ref a.NoLetter) (.type "BaseException") = some true
  t_NoLetter : PySem.W.typeIn K (.ref a.NoLetter) = some (.type "type")
  e_NoLetter : PySem.W.exmOne K (.ref a.NoLetter) (.ref a.HouseError) = some true
  c_NoLetter : ExcC K a.NoLetter
  i_NoLetter_BadCount : PySem.W.kitOne K (.ref a.NoLetter) (.ref a.BadCount) = some false
  i_NoLetter_BadHouse : PySem.W.kitOne K (.ref a.NoLetter) (.ref a.BadHouse) = some false
  i_NoLetter_BadRow : PySem.W.kitOne K (.ref a.NoLetter) (.ref a.BadRow) = some false
  i_NoLetter_BadWord : PySem.W.kitOne K (.ref a.NoLetter) (.ref a.BadWord) = some false
  i_NoLetter_Forged : PySem.W.kitOne K (.ref a.NoLetter) (.ref a.Forged) = some false
  i_NoLetter_NoLetter : PySem.W.kitOne K (.ref a.NoLetter) (.ref a.NoLetter) = some true
  i_NoLetter_NotWritten : PySem.W.kitOne K (.ref a.NoLetter) (.ref a.NotWritten) = some false
  i_NoLetter_NoText : PySem.W.kitOne K (.ref a.NoLetter) (.type "NoText") = some false
  i_NoLetter_ValueError : PySem.W.kitOne K (.ref a.NoLetter) (.type "ValueError") = some true
  x_NotWritten : PySem.W.excIn K a.NotWritten VEs "ValueError.__new__" = true
  k_NotWritten : PySem.W.keepIn K (.ref a.NotWritten) = true
  bx_NotWritten : PySem.W.subIn K (.ref a.NotWritten) (.type "BaseException") = some true
  t_NotWritten : PySem.W.typeIn K (.ref a.NotWritten) = some (.type "type")
  e_NotWritten : PySem.W.exmOne K (.ref a.NotWritten) (.ref a.HouseError) = some true
  c_NotWritten : ExcC K a.NotWritten
  i_NotWritten_BadCount : PySem.W.kitOne K (.ref a.NotWritten) (.ref a.BadCount) = some false
  i_NotWritten_BadHouse : PySem.W.kitOne K (.ref a.NotWritten) (.ref a.BadHouse) = some false
  i_NotWritten_BadRow : PySem.W.kitOne K (.ref a.NotWritten) (.ref a.BadRow) = some false
  i_NotWritten_BadWord : PySem.W.kitOne K (.ref a.NotWritten) (.ref a.BadWord) = some false
  i_NotWritten_Forged : PySem.W.kitOne K (.ref a.NotWritten) (.ref a.Forged) = some false
  i_NotWritten_NoLetter : PySem.W.kitOne K (.ref a.NotWritten) (.ref a.NoLetter) = some false
  i_NotWritten_NotWritten : PySem.W.kitOne K (.ref a.NotWritten) (.ref a.NotWritten) = some true
  i_NotWritten_NoText : PySem.W.kitOne K (.ref a.NotWritten) (.type "NoText") = some false
  i_NotWritten_ValueError : PySem.W.kitOne K (.ref a.NotWritten) (.type "ValueError") = some true
  m_MOST_HOUSES : mg "MOST_HOUSES" = some (.int 12 a.t_MOST_HOUSES)
  m_SAY : mg "SAY" = some (.str "say" a.t_SAY)
  m_MARK : mg "MARK" = some (.str "mark" a.t_MARK)
  m_LAST_NUMBER : mg "LAST_NUMBER" = some (.int 9999 a.t_LAST_NUMBER)
  m_LONGEST_ROW : mg "LONGEST_ROW" = some (.int 8 a.t_LONGEST_ROW)
  m_LETTERS : mg "LETTERS" = some (.str "abcdefghijklmnopqrstuvwxyz" a.t_LETTERS)
  n_abs : mg "abs" = none
  n_all : mg "all" = none
  n_enumerate : mg "enumerate" = none
  n_int : mg "int" = none
  n_len : mg "len" = none
  n_list : mg "list" = none
  n_max : mg "max" = none
  n_min : mg "min" = none
  n_range : mg "range" = none
  n_set : mg "set" = none
  n_sorted : mg "sorted" = none
  n_str : mg "str" = none
  n_tuple : mg "tuple" = none
  n_type : mg "type" = none

local macro_rules | `(tactic| walk_at "rd1") => `(tactic| first
  | with_reducible refine LH.x_seq ?_
  | with_reducible refine LH.x_asg ?_
  | with_reducible refine LH.x_cons ?_
  | with_reducible refine LH.x_var (by with_unfolding_all exact rfl) ?_
  | with_reducible refine LH.x_c ?_
  | with_reducible refine LH.x_op ?_
  | with_reducible refine LH.x_gname ?_
  | with_reducible refine LH.x_nil ?_
  | with_reducible refine LH.x_I0 ?_
  | ((with_reducible refine LH.x_I ?k1 ?_); (case k1 => first | exact (by decide) | exact ⟨by decide, by decide⟩ | exact ⟨by decide, by decide, by decide⟩ | exact .inl ⟨by decide, by decide⟩ | exact .inr ⟨by decide, by decide⟩ | exact .inr ⟨by omega, by omega⟩ | exact .inl ⟨by omega, by omega⟩ | exact (by omega)))
  | with_reducible refine LH.x_ifS ?_
  | with_reducible refine LH.x_test ?_
  | with_reducible refine LH.x_tB ?_
  | with_reducible refine LH.bx ?_
  | with_reducible refine LH.x_and ?_
  | with_reducible refine LH.x_or ?_
  | with_reducible refine LH.x_not ?_
  | with_reducible refine LH.x_ret ?_
  | with_reducible refine LH.x_call ?_
  | with_reducible refine LH.x_cb ?_
  | with_reducible refine LH.x_lst ?_
  | with_reducible refine LH.x_tup ?_
  | with_reducible refine LH.x_bm ?_
  | with_reducible refine LH.x_drop ?_
  | with_reducible refine LH.x_next ?_
  | with_reducible refine LH.x_cont ?_
  | with_reducible refine LH.x_un ?_
  | with_reducible refine LH.x_U ?_
  | with_reducible refine LH.x_eq (by with_unfolding_all exact rfl) ?_
  | with_reducible refine LH.x_ne (by with_unfolding_all exact rfl) ?_
  | with_reducible refine LH.x_andV ?_
  | with_reducible refine LH.x_orV ?_
  | with_reducible refine LH.x_notV ?_
  | with_reducible refine LH.band ?_
  | with_reducible refine LH.bor ?_
  | with_reducible refine LH.x_if ?_
  | with_reducible refine LH.x_chain ?_
  | with_reducible refine LH.chk ?_
  | with_reducible refine LH.x_callS ?_
  | with_reducible refine LH.x_callE ?_
  | with_reducible refine LH.x_callV ?_
  | with_reducible refine LH.x_lrg ?_
  | with_reducible refine LH.x_lcS ?_
  | with_reducible refine LH.x_lcR1 ?_
  | with_reducible refine LH.x_forR1 ?_
  | with_reducible refine LH.x_forR3 ?_
  | with_reducible refine LH.strv ?_
  | with_reducible refine LH.x_yes ?_
  | with_reducible refine LH.x_sl ?_
  | with_reducible refine LH.x_noPart ?_
  | with_reducible refine LH.x_part ?_
  | with_reducible refine LH.pav ?_
  | with_reducible refine LH.x_jnv ?_
  | with_reducible refine LH.x_join ?_
  | with_reducible refine LH.x_inS ?_
  | with_reducible refine LH.x_niS ?_
  | with_reducible refine LH.x_isB ?_
  | with_reducible refine LH.x_isnB ?_
  | with_reducible refine LH.x_gcons ?_
  | with_reducible refine LH.x_gnil ?_
  | with_reducible refine LH.x_intB ?_
  | with_reducible refine LH.x_orT ?_
  | with_reducible refine LH.x_isTy ?_
  | with_reducible refine LH.x_niTy ?_
  | with_reducible refine LH.x_split ?_
  | with_reducible refine LH.x_spv ?_
  | with_reducible refine LH.x_gsub ?_
  | with_reducible refine LH.x_fmt ?_
  | with_reducible refine LH.x_js0 ?_
  | with_reducible refine LH.x_js ?_
  | with_reducible refine LH.x_rg1 ?_
  | with_reducible refine LH.x_forL ?_
  | with_reducible refine LH.x_abs ?_
  | with_reducible refine LH.x_rg2 ?_
  | with_reducible refine LH.rg1v ?_
  | with_reducible refine LH.rg2v ?_
  | with_reducible refine LH.x_forR2 ?_
  | with_reducible refine LH.x_lenSetG ?_
  | with_reducible refine LH.x_lc ?_
  | with_reducible refine LH.x_fld ?_
  | with_reducible refine LH.x_sfld ?_
  | with_reducible refine LH.x_afld ?_
  | with_reducible refine LH.x_meth ?_
  | with_reducible refine LH.x_make ?_
  | with_reducible refine LH.x_methSl ?_
  | with_reducible refine LH.x_makeSl ?_
  | with_reducible refine LH.x_din ?_
  | with_reducible refine LH.x_dni ?_
  | with_reducible refine LH.x_dget ?_
  | with_reducible refine LH.x_dput ?_
  | with_reducible refine LH.x_dget2 ?_
  | with_reducible refine LH.x_dpop1 ?_
  | with_reducible refine LH.x_litems ?_
  | with_reducible refine LH.x_tru ?_
  | with_reducible refine LH.x_revL ?_
  | with_reducible refine LH.x_dsetT ?_
  | with_reducible refine LH.x_lvals ?_
  | with_reducible refine LH.br_nt ?_
  | with_reducible refine LH.br_nf ?_
  | with_reducible refine LH.br_t ?_
  | with_reducible refine LH.br_f ?_)
local macro_rules | `(tactic| walk_at "rd") => `(tactic| repeat (walk_at "rd1"))
local macro_rules | `(tactic| walk_at "rs1") => `(tactic| first
  | with_reducible refine LH.x_seq ?_
  | with_reducible refine LH.x_cons ?_
  | with_reducible refine LH.x_var (by with_unfolding_all exact rfl) ?_
  | with_reducible refine LH.x_c ?_
  | with_reducible refine LH.x_op ?_
  | with_reducible refine LH.x_gname ?_
  | with_reducible refine LH.x_nil ?_
  | with_reducible refine LH.x_I0 ?_
  | ((with_reducible refine LH.x_I ?k1 ?_); (case k1 => first | exact (by decide) | exact ⟨by decide, by decide⟩ | exact ⟨by decide, by decide, by decide⟩ | exact .inl ⟨by decide, by decide⟩ | exact .inr ⟨by decide, by decide⟩ | exact .inr ⟨by omega, by omega⟩ | exact .inl ⟨by omega, by omega⟩ | exact (by omega)))
  | with_reducible refine LH.x_test ?_
  | with_reducible refine LH.x_tB ?_
  | with_reducible refine LH.bx ?_
  | with_reducible refine LH.x_and ?_
  | with_reducible refine LH.x_or ?_
  | with_reducible refine LH.x_not ?_
  | with_reducible refine LH.x_call ?_
  | with_reducible refine LH.x_cb ?_
  | with_reducible refine LH.x_lst ?_
  | with_reducible refine LH.x_tup ?_
  | with_reducible refine LH.x_bm ?_
  | with_reducible refine LH.x_next ?_
  | with_reducible refine LH.x_cont ?_
  | with_reducible refine LH.x_un ?_
  | with_reducible refine LH.x_U ?_
  | with_reducible refine LH.x_eq (by with_unfolding_all exact rfl) ?_
  | with_reducible refine LH.x_ne (by with_unfolding_all exact rfl) ?_
  | with_reducible refine LH.x_andV ?_
  | with_reducible refine LH.x_orV ?_
  | with_reducible refine LH.x_notV ?_
  | with_reducible refine LH.band ?_
  | with_reducible refine LH.bor ?_
  | with_reducible refine LH.x_if ?_
  | with_reducible refine LH.x_chain ?_
  | with_reducible refine LH.chk ?_
  | with_reducible refine LH.x_callS ?_
  | with_reducible refine LH.x_callE ?_
  | with_reducible refine LH.x_callV ?_
  | with_reducible refine LH.x_lrg ?_
  | with_reducible refine LH.x_lcS ?_
  | with_reducible refine LH.x_lcR1 ?_
  | with_reducible refine LH.strv ?_
  | with_reducible refine LH.x_yes ?_
  | with_reducible refine LH.x_sl ?_
  | with_reducible refine LH.x_noPart ?_
  | with_reducible refine LH.x_part ?_
  | with_reducible refine LH.pav ?_
  | with_reducible refine LH.x_jnv ?_
  | with_reducible refine LH.x_join ?_
  | with_reducible refine LH.x_inS ?_
  | with_reducible refine LH.x_niS ?_
  | with_reducible refine LH.x_isB ?_
  | with_reducible refine LH.x_isnB ?_
  | with_reducible refine LH.x_gcons ?_
  | with_reducible refine LH.x_gnil ?_
  | with_reducible refine LH.x_intB ?_
  | with_reducible refine LH.x_orT ?_
  | with_reducible refine LH.x_isTy ?_
  | with_reducible refine LH.x_niTy ?_
  | with_reducible refine LH.x_split ?_
  | with_reducible refine LH.x_spv ?_
  | with_reducible refine LH.x_gsub ?_
  | with_reducible refine LH.x_fmt ?_
  | with_reducible refine LH.x_js0 ?_
  | with_reducible refine LH.x_js ?_
  | with_reducible refine LH.x_rg1 ?_
  | with_reducible refine LH.x_abs ?_
  | with_reducible refine LH.x_rg2 ?_
  | with_reducible refine LH.rg1v ?_
  | with_reducible refine LH.rg2v ?_
  | with_reducible refine LH.x_lenSetG ?_
  | with_reducible refine LH.x_lc ?_
  | with_reducible refine LH.x_fld ?_
  | with_reducible refine LH.x_sfld ?_
  | with_reducible refine LH.x_afld ?_
  | with_reducible refine LH.x_meth ?_
  | with_reducible refine LH.x_make ?_
  | with_reducible refine LH.x_methSl ?_
  | with_reducible refine LH.x_makeSl ?_
  | with_reducible refine LH.x_din ?_
  | with_reducible refine LH.x_dni ?_
  | with_reducible refine LH.x_dget ?_
  | with_reducible refine LH.x_dput ?_
  | with_reducible refine LH.x_dget2 ?_
  | with_reducible refine LH.x_dpop1 ?_
  | with_reducible refine LH.x_litems ?_
  | with_reducible refine LH.x_tru ?_
  | with_reducible refine LH.x_revL ?_
  | with_reducible refine LH.x_dsetT ?_
  | with_reducible refine LH.x_lvals ?_
  | with_reducible refine LH.br_nt ?_
  | with_reducible refine LH.br_nf ?_
  | with_reducible refine LH.br_t ?_
  | with_reducible refine LH.br_f ?_)
local macro_rules | `(tactic| walk_at "rs") => `(tactic| repeat (walk_at "rs1"))

section
variable {P : Program} {w : World} {K : PySem.W.Frag} {mg : Str → Option Value} {base : Heap} {a : Ad}
def spWhole (K : PySem.W.Frag) : Sp := fun vs H Q _ => ∃ x T lo hi, vs = [x, .int lo, .int hi] ∧ TyB K H x T ∧ Q (.bl (isW x lo hi)) H
theorem ok_is_whole (T : Txt K mg a) : FnOk P w K mg base CX0 1 a.is_whole a.d_is_whole ["thing", "least", "most"] (spWhole K) := by
  refine T.F_is_whole.ok sc_is_whole (fun vs H Q E h => ?_) (fun cdv A outer s H vs Q E hr h => ?_)
  · obtain ⟨x, t, lo, hi, rfl, _⟩ := h
    rfl
  · obtain ⟨x, t, lo, hi, rfl, ht, k⟩ := h
    refine ⟨_, (pss_one (ps_ret (pe_and (pe_cmpR LH.op_isTy (pe_callTy (r := rTyp K) call_type1 rfl T.n_type (by decide +kernel) (pa_cons (pv 0) pa_nil)) (pe_bltn (v := .ty "int") rfl T.n_int (by decide +kernel) rfl) (nomark _)) (pe_one (pe_chain op_le op_le (pv 1) (pv 0) (pv 2)))))), ?_⟩
    walk_at "rd"
    refine LH.x_typ ht ?_
    walk_at "rd"
    cases ht with
    | int i =>
      refine LH.br_p rfl ?_
      walk_at "rd"
      by_cases c : lo ≤ i
      · refine LH.br_p c ?_
        walk_at "rd"
        simpa [isW, c] using k
      · refine LH.br_n c ?_
        simpa [isW, c] using k
    | _ => exact LH.br_n (by decide) k
def spCheck (K : PySem.W.Frag) (C : Addr) : Sp := fun vs H Q E => ∃ x T, vs = [x] ∧ TyB K H x T ∧ (isW x 1 12 = true → Q .non H) ∧ (isW x 1 12 = false → E (.ref C) none H)
theorem ok_check_count (T : Txt K mg a) : FnOk P w K mg base (L2N.CX P w) 2 a.check_count a.d_check_count ["count"] (spCheck K a.BadCount) := by
  have G_is_whole := ok_is_whole (P := P) (w := w) (base := base) T
  refine LH.okN T.F_check_count sc_check_count (fun vs H Q E h => ?_) (fun cdv A outer s H vs Q E hr h => ?_)
  · obtain ⟨x, t, rfl, _⟩ := h
    rfl
  · obtain ⟨x, t, rfl, ht, k1, k2⟩ := h
    have HR_is_whole : Room 1 _ := hr.mono (by decide)
    refine ⟨_, (pss_one (ps_if (pt_not (pt_val (pe_call G_is_whole HR_is_whole rfl T.g_is_whole T.F_is_whole.kp T.b_is_whole .nil pass0 (pa_cons (pv 0) (pa_cons pe_int (pa_cons (pe_glob (v := .int 12) rfl T.m_MOST_HOUSES ⟨_, rfl⟩) pa_nil))))))
    (pss_one (L2N.ps_raise rfl (LH.tkN (E := E)) (LH.pmkN PySem.F.excBase_ValueError T.x_BadCount T.g_BadCount T.k_BadCount (raises_own T.bx_BadCount T.t_BadCount) rfl (pa_cons (pe_joined (.cons pe_str (.cons (pe_fmt (pe_glob (v := .int 12) rfl T.m_MOST_HOUSES ⟨_, rfl⟩)) .nil))) pa_nil))))
    pss_nil)), ?_⟩
    walk_at "rd"
    refine ⟨x, t, 1, 12, rfl, ht, ?_⟩
    walk_at "rd"
    cases e : isW x 1 12 with
    | true =>
      refine LH.br_nt ?_
      walk_at "rd"
      exact k1 e
    | false =>
      refine LH.br_nf ?_
      refine ⟨_, rfl, by decide +kernel, Or.inr ⟨12, rfl, by decide, _, rfl, by decide +kernel, ?_⟩⟩
      exact ⟨by show 1 ≤ sizeLine; decide, k2 e⟩
def spHouse (K : PySem.W.Frag) : Sp := fun vs H Q _ => ∃ (c : Int) (x : V) (T : String), vs = [.int c, x] ∧ TyB K H x T ∧ Q (.bl (isW x 0 (c - 1))) H
theorem ok_is_house (T : Txt K mg a) : FnOk P w K mg base CX0 2 a.is_house a.d_is_house ["count", "thing"] (spHouse K) := by
  have G_is_whole := ok_is_whole (P := P) (w := w) (base := base) T
  refine T.F_is_house.ok sc_is_house (fun vs H Q E h => ?_) (fun cdv A outer s H vs Q E hr h => ?_)
  · obtain ⟨c, x, t, rfl, _⟩ := h
    rfl
  · obtain ⟨c, x, t, rfl, ht, k⟩ := h
    have HR_is_whole : Room 1 _ := hr.mono (by decide)
    refine ⟨_, (pss_one (ps_ret (pe_call G_is_whole HR_is_whole rfl T.g_is_whole T.F_is_whole.kp T.b_is_whole .nil pass0 (pa_cons (pv 1) (pa_cons pe_int (pa_cons (pe_op op_sub (pv 0) pe_int) pa_nil)))))), ?_⟩
    walk_at "rd"
    refine ⟨x, t, _, _, rfl, ht, ?_⟩
    exact k
def spRow (K : PySem.W.Frag) : Sp := fun vs H Q _ => ∃ x T, vs = [x] ∧ TyB K H x T ∧ Sm x ∧ ∀ H', Same H H' → Q (.bl (isRow x)) H'
theorem ok_is_row (T : Txt K mg a) : FnOk P w K mg base CX0 1 a.is_row a.d_is_row ["thing"] (spRow K) := by
  refine T.F_is_row.ok sc_is_row (fun vs H Q E h => ?_) (fun cdv A outer s H vs Q E hr h => ?_)
  · obtain ⟨x, t, rfl, _⟩ := h
    rfl
  · obtain ⟨x, t, rfl, ht, sm, k⟩ := h
    refine ⟨_, (pss_cons (ps_if (pt_cmpR op_notTyB (pe_callTy (r := rTyp K) call_type1 rfl T.n_type (by decide +kernel) (pa_cons (pv 0) pa_nil)) (pe_bltn (v := .ty "str") rfl T.n_str (by decide +kernel) rfl) (nomark _))
    (pss_one (ps_ret pe_bl))
    pss_nil)
  (pss_cons (ps_if (PW.pt (pw_or (pt_cmpR op_lt (pe_callB LH.call_lenS rfl T.n_len (by decide +kernel) (pa_cons (pv 0) pa_nil)) pe_int (nomark _)) (pw_or1 (pt_cmpR op_gt (pe_callB LH.call_lenS rfl T.n_len (by decide +kernel) (pa_cons (pv 0) pa_nil)) (pe_glob (v := .int 8) rfl T.m_LONGEST_ROW ⟨_, rfl⟩) (nomark _)))))
    (pss_one (ps_ret pe_bl))
    pss_nil)
  (pss_one (ps_ret (pe_callB (r := rAll K) (cr_all rfl) rfl T.n_all (by decide +kernel) (pa_cons (pe_lc (own := [("letter", 1)]) (g := gName 1) (tt := tYes) rfl sc_is_row.nd (pi_str (pv 0)) (blkOk_by (N := N_is_row) (sc := defScope s_is_row) (by decide +kernel)) (fun _ _ _ _ _ => pg_name (i := 1) sc_is_row.nd rfl (Or.inl rfl)) (fun _ _ _ _ _ => pts_nil) (fun _ _ _ _ _ => (pe_cmpR (r := LH.rInS false) LH.op_inS (pv 1) (pe_glob (v := .str "abcdefghijklmnopqrstuvwxyz") rfl T.m_LETTERS ⟨_, rfl⟩) (by rfl)))) pa_nil)))))), ?_⟩
    walk_at "rd"
    refine LH.x_typ ht ?_
    walk_at "rd"
    cases ht with
    | str z =>
      have hz := (sm z rfl).1
      refine LH.br_nd (fun c => absurd rfl c) (fun _ => ?_)
      walk_at "rd"
      refine LH.x_lenS hz ?_
      walk_at "rd"
      refine LH.br_d (fun c => ?_) (fun c1 => ?_)
      · walk_at "rd"
        have e : isRow (.str z) = false := by
          have : ¬ 1 ≤ z.length := by omega
          simp [isRow, isRowS, this]
        rw [e] at k
        exact k _ (Same.refl _)
      · walk_at "rd"
        refine LH.x_lenS hz ?_
        walk_at "rd"
        refine LH.br_d (fun c => ?_) (fun c2 => ?_)
        · walk_at "rd"
          have e : isRow (.str z) = false := by
            have : ¬ z.length ≤ 8 := by omega
            simp [isRow, isRowS, this]
          rw [e] at k
          exact k _ (Same.refl _)
        · walk_at "rd"
          refine LH.lc_S (by exact hz) (fun _ => true) (fun x => V.bl (signV x)) (fun _ => rfl) ?_ ?_ fun p1 H1 f1 e1 g1 => ?_
          · intro x hx H3 e3 Q3 q3
            walk_at "rd"
            exact q3 _ (Same.refl _)
          · intro x hx _ H3 e3 Q3 q3
            obtain ⟨c, _, rfl⟩ := List.mem_map.mp hx
            walk_at "rd"
            exact q3 _ (Same.refl _)
          walk_at "rd"
          rw [signs_let] at g1
          refine LH.x_all (SqL.of g1) ?_
          walk_at "rd"
          have e : isRow (.str z) = (z.cps.toList.map isLet).all id := by
            have h1 : 1 ≤ z.length := by omega
            have h2 : z.length ≤ 8 := by omega
            rw [all_id]
            simp [isRow, isRowS, h1, h2]
          rw [e] at k
          exact k _ e1
    | _ =>
      refine LH.br_nd (fun _ => ?_) (fun c => absurd c (by decide))
      walk_at "rd"
      exact k _ (Same.refl _)
def spNum (f : Int → Int) : Sp := fun vs H Q _ => ∃ c : Int, vs = [.int c] ∧ 1 ≤ c ∧ c ≤ 12 ∧ Q (.int (f c)) H
theorem ok_most_liars (T : Txt K mg a) : FnOk P w K mg base (L2N.CX P w) 3 a.most_liars a.d_most_liars ["count"] (spNum fun c => (c - 1) / 3) := by
  have G_check_count := ok_check_count (P := P) (w := w) (base := base) T
  refine LH.okN T.F_most_liars sc_most_liars (fun vs H Q E h => ?_) (fun cdv A outer s H vs Q E hr h => ?_)
  · obtain ⟨c, rfl, _⟩ := h
    rfl
  · obtain ⟨c, rfl, c1, c2, k⟩ := h
    have HR_check_count : Room 2 _ := hr.mono (by decide)
    refine ⟨_, (pss_cons (ps_expr (pe_call (E := E) G_check_count HR_check_count rfl T.g_check_count T.F_check_count.kp T.b_check_count .nil (L2N.passes_call (LH.tkN (E := E)) fun _ _ _ _ z => z) (pa_cons (pv 0) pa_nil)))
  (pss_one (ps_ret (pe_op op_fdiv (pe_op op_sub (pv 0) pe_int) pe_int)))), ?_⟩
    walk_at "rd"
    refine ⟨_, _, rfl, .int c, fun _ => ?_, fun e => (by rw [isW_yes c1 c2] at e; cases e)⟩
    walk_at "rd"
    exact k
theorem ok_enough (T : Txt K mg a) : FnOk P w K mg base (L2N.CX P w) 4 a.enough a.d_enough ["count"] (spNum en) := by
  have G_most_liars := ok_most_liars (P := P) (w := w) (base := base) T
  refine LH.okN T.F_enough sc_enough (fun vs H Q E h => ?_) (fun cdv A outer s H vs Q E hr h => ?_)
  · obtain ⟨c, rfl, _⟩ := h
    rfl
  · obtain ⟨c, rfl, c1, c2, k⟩ := h
    have HR_most_liars : Room 3 _ := hr.mono (by decide)
    refine ⟨_, (pss_one (ps_ret (pe_op op_add (pe_op op_fdiv (pe_op op_add (pv 0) (pe_call (E := E) G_most_liars HR_most_liars rfl T.g_most_liars T.F_most_liars.kp T.b_most_liars .nil (L2N.passes_call (LH.tkN (E := E)) fun _ _ _ _ z => z) (pa_cons (pv 0) pa_nil))) pe_int) pe_int))), ?_⟩
    walk_at "rd"
    refine ⟨c, rfl, c1, c2, ?_⟩
    walk_at "rd"
    exact k
def spPlace (K : PySem.W.Frag) : Sp := fun vs H Q _ => ∃ p k n r h, vs = [.ref p] ∧ SqT K H p (wd k n r h) ∧ ∀ q H', Same H H' → H' q = some (.tup [.str k, .int n, .int h]) → Q (.ref q) H'
theorem ok_place (T : Txt K mg a) : FnOk P w K mg base CX0 1 a.place a.d_place ["word"] (spPlace K) := by
  refine T.F_place.ok sc_place (fun vs H Q E h => ?_) (fun cdv A outer s H vs Q E hr h => ?_)
  · obtain ⟨p, k, n, r, h, rfl, _⟩ := h
    rfl
  · obtain ⟨p, kd, n, r, h, rfl, hp, k⟩ := h
    refine ⟨_, (pss_cons (ps_asg (pv 0) (pg_tup rfl (pgs_cons (pg_name (i := 1) sc_place.nd rfl (Or.inl rfl)) (pgs_cons (pg_name (i := 2) sc_place.nd rfl (Or.inl rfl)) (pgs_cons (pg_name (i := 3) sc_place.nd rfl (Or.inl rfl)) (pgs_cons (pg_name (i := 4) sc_place.nd rfl (Or.inl rfl)) pgs_nil))))))
  (pss_one (ps_ret (pe_tup (pa_cons (pv 1) (pa_cons (pv 2) (pa_cons (pv 4) pa_nil))))))), ?_⟩
    walk_at "rd"
    refine LH.x_gtup hp rfl ?_
    walk_at "rd"
    refine LH.newt (LH.small rfl) fun q H1 f1 e1 g1 => ?_
    exact k q H1 e1 g1
end
end KB
namespace KB
open PySem L2 LM HM
local macro_rules | `(tactic| walk_at "rd1") => `(tactic| first
  | with_reducible refine LH.x_seq ?_
  | with_reducible refine LH.x_asg ?_
  | with_reducible refine LH.x_cons ?_
  | with_reducible refine LH.x_var (by with_unfolding_all exact rfl) ?_
  | with_reducible refine LH.x_c ?_
  | with_reducible refine LH.x_op ?_
  | with_reducible refine LH.x_gname ?_
  | with_reducible refine LH.x_nil ?_
  | with_reducible refine LH.x_I0 ?_
  | ((with_reducible refine LH.x_I ?k1 ?_); (case k1 => first | exact (by decide) | exact ⟨by decide, by decide⟩ | exact ⟨by decide, by decide, by decide⟩ | exact .inl ⟨by decide, by decide⟩ | exact .inr ⟨by decide, by decide⟩ | exact .inr ⟨by omega, by omega⟩ | exact .inl ⟨by omega, by omega⟩ | exact (by omega)))
  | with_reducible refine LH.x_ifS ?_
  | with_reducible refine LH.x_test ?_
  | with_reducible refine LH.x_tB ?_
  | with_reducible refine LH.bx ?_
  | with_reducible refine LH.x_and ?_
  | with_reducible refine LH.x_or ?_
  | with_reducible refine LH.x_not ?_
  | with_reducible refine LH.x_ret ?_
  | with_reducible refine LH.x_call ?_
  | with_reducible refine LH.x_cb ?_
  | with_reducible refine LH.x_lst ?_
  | with_reducible refine LH.x_tup ?_
  | with_reducible refine LH.x_bm ?_
  | with_reducible refine LH.x_drop ?_
  | with_reducible refine LH.x_next ?_
  | with_reducible refine LH.x_cont ?_
  | with_reducible refine LH.x_un ?_
  | with_reducible refine LH.x_U ?_
  | with_reducible refine LH.x_eq (by with_unfolding_all exact rfl) ?_
  | with_reducible refine LH.x_ne (by with_unfolding_all exact rfl) ?_
  | with_reducible refine LH.x_andV ?_
  | with_reducible refine LH.x_orV ?_
  | with_reducible refine LH.x_notV ?_
  | with_reducible refine LH.band ?_
  | with_reducible refine LH.bor ?_
  | with_reducible refine LH.x_if ?_
  | with_reducible refine LH.x_chain ?_
  | with_reducible refine LH.chk ?_
  | with_reducible refine LH.x_callS ?_
  | with_reducible refine LH.x_callE ?_
  | with_reducible refine LH.x_callV ?_
  | with_reducible refine LH.x_lrg ?_
  | with_reducible refine LH.x_lcS ?_
  | with_reducible refine LH.x_lcR1 ?_
  | with_reducible refine LH.x_forR1 ?_
  | with_reducible refine LH.x_forR3 ?_
  | with_reducible refine LH.strv ?_
  | with_reducible refine LH.x_yes ?_
  | with_reducible refine LH.x_sl ?_
  | with_reducible refine LH.x_noPart ?_
  | with_reducible refine LH.x_part ?_
  | with_reducible refine LH.pav ?_
  | with_reducible refine LH.x_jnv ?_
  | with_reducible refine LH.x_join ?_
  | with_reducible refine LH.x_inS ?_
  | with_reducible refine LH.x_niS ?_
  | with_reducible refine LH.x_isB ?_
  | with_reducible refine LH.x_isnB ?_
  | with_reducible refine LH.x_gcons ?_
  | with_reducible refine LH.x_gnil ?_
  | with_reducible refine LH.x_intB ?_
  | with_reducible refine LH.x_orT ?_
  | with_reducible refine LH.x_isTy ?_
  | with_reducible refine LH.x_niTy ?_
  | with_reducible refine LH.x_split ?_
  | with_reducible refine LH.x_spv ?_
  | with_reducible refine LH.x_gsub ?_
  | with_reducible refine LH.x_fmt ?_
  | with_reducible refine LH.x_js0 ?_
  | with_reducible refine LH.x_js ?_
  | with_reducible refine LH.x_rg1 ?_
  | with_reducible refine LH.x_forL ?_
  | with_reducible refine LH.x_abs ?_
  | with_reducible refine LH.x_rg2 ?_
  | with_reducible refine LH.rg1v ?_
  | with_reducible refine LH.rg2v ?_
  | with_reducible refine LH.x_forR2 ?_
  | with_reducible refine LH.x_lenSetG ?_
  | with_reducible refine LH.x_lc ?_
  | with_reducible refine LH.x_fld ?_
  | with_reducible refine LH.x_sfld ?_
  | with_reducible refine LH.x_afld ?_
  | with_reducible refine LH.x_meth ?_
  | with_reducible refine LH.x_make ?_
  | with_reducible refine LH.x_methSl ?_
  | with_reducible refine LH.x_makeSl ?_
  | with_reducible refine LH.x_din ?_
  | with_reducible refine LH.x_dni ?_
  | with_reducible refine LH.x_dget ?_
  | with_reducible refine LH.x_dput ?_
  | with_reducible refine LH.x_dget2 ?_
  | with_reducible refine LH.x_dpop1 ?_
  | with_reducible refine LH.x_litems ?_
  | with_reducible refine LH.x_tru ?_
  | with_reducible refine LH.x_revL ?_
  | with_reducible refine LH.x_dsetT ?_
  | with_reducible refine LH.x_lvals ?_
  | with_reducible refine LH.br_nt ?_
  | with_reducible refine LH.br_nf ?_
  | with_reducible refine LH.br_t ?_
  | with_reducible refine LH.br_f ?_)
local macro_rules | `(tactic| walk_at "rd") => `(tactic| repeat (walk_at "rd1"))
local macro_rules | `(tactic| walk_at "rs1") => `(tactic| first
  | with_reducible refine LH.x_seq ?_
  | with_reducible refine LH.x_cons ?_
  | with_reducible refine LH.x_var (by with_unfolding_all exact rfl) ?_
  | with_reducible refine LH.x_c ?_
  | with_reducible refine LH.x_op ?_
  | with_reducible refine LH.x_gname ?_
  | with_reducible refine LH.x_nil ?_
  | with_reducible refine LH.x_I0 ?_
  | ((with_reducible refine LH.x_I ?k1 ?_); (case k1 => first | exact (by decide) | exact ⟨by decide, by decide⟩ | exact ⟨by decide, by decide, by decide⟩ | exact .inl ⟨by decide, by decide⟩ | exact .inr ⟨by decide, by decide⟩ | exact .inr ⟨by omega, by omega⟩ | exact .inl ⟨by omega, by omega⟩ | exact (by omega)))
  | with_reducible refine LH.x_test ?_
  | with_reducible refine LH.x_tB ?_
  | with_reducible refine LH.bx ?_
  | with_reducible refine LH.x_and ?_
  | with_reducible refine LH.x_or ?_
  | with_reducible refine LH.x_not ?_
  | with_reducible refine LH.x_call ?_
  | with_reducible refine LH.x_cb ?_
  | with_reducible refine LH.x_lst ?_
  | with_reducible refine LH.x_tup ?_
  | with_reducible refine LH.x_bm ?_
  | with_reducible refine LH.x_next ?_
  | with_reducible refine LH.x_cont ?_
  | with_reducible refine LH.x_un ?_
  | with_reducible refine LH.x_U ?_
  | with_reducible refine LH.x_eq (by with_unfolding_all exact rfl) ?_
  | with_reducible refine LH.x_ne (by with_unfolding_all exact rfl) ?_
  | with_reducible refine LH.x_andV ?_
  | with_reducible refine LH.x_orV ?_
  | with_reducible refine LH.x_notV ?_
  | with_reducible refine LH.band ?_
  | with_reducible refine LH.bor ?_
  | with_reducible refine LH.x_if ?_
  | with_reducible refine LH.x_chain ?_
  | with_reducible refine LH.chk ?_
  | with_reducible refine LH.x_callS ?_
  | with_reducible refine LH.x_callE ?_
  | with_reducible refine LH.x_callV ?_
  | with_reducible refine LH.x_lrg ?_
  | with_reducible refine LH.x_lcS ?_
  | with_reducible refine LH.x_lcR1 ?_
  | with_reducible refine LH.strv ?_
  | with_reducible refine LH.x_yes ?_
  | with_reducible refine LH.x_sl ?_
  | with_reducible refine LH.x_noPart ?_
  | with_reducible refine LH.x_part ?_
  | with_reducible refine LH.pav ?_
  | with_reducible refine LH.x_jnv ?_
  | with_reducible refine LH.x_join ?_
  | with_reducible refine LH.x_inS ?_
  | with_reducible refine LH.x_niS ?_
  | with_reducible refine LH.x_isB ?_
  | with_reducible refine LH.x_isnB ?_
  | with_reducible refine LH.x_gcons ?_
  | with_reducible refine LH.x_gnil ?_
  | with_reducible refine LH.x_intB ?_
  | with_reducible refine LH.x_orT ?_
  | with_reducible refine LH.x_isTy ?_
  | with_reducible refine LH.x_niTy ?_
  | with_reducible refine LH.x_split ?_
  | with_reducible refine LH.x_spv ?_
  | with_reducible refine LH.x_gsub ?_
  | with_reducible refine LH.x_fmt ?_
  | with_reducible refine LH.x_js0 ?_
  | with_reducible refine LH.x_js ?_
  | with_reducible refine LH.x_rg1 ?_
  | with_reducible refine LH.x_abs ?_
  | with_reducible refine LH.x_rg2 ?_
  | with_reducible refine LH.rg1v ?_
  | with_reducible refine LH.rg2v ?_
  | with_reducible refine LH.x_lenSetG ?_
  | with_reducible refine LH.x_lc ?_
  | with_reducible refine LH.x_fld ?_
  | with_reducible refine LH.x_sfld ?_
  | with_reducible refine LH.x_afld ?_
  | with_reducible refine LH.x_meth ?_
  | with_reducible refine LH.x_make ?_
  | with_reducible refine LH.x_methSl ?_
  | with_reducible refine LH.x_makeSl ?_
  | with_reducible refine LH.x_din ?_
  | with_reducible refine LH.x_dni ?_
  | with_reducible refine LH.x_dget ?_
  | with_reducible refine LH.x_dput ?_
  | with_reducible refine LH.x_dget2 ?_
  | with_reducible refine LH.x_dpop1 ?_
  | with_reducible refine LH.x_litems ?_
  | with_reducible refine LH.x_tru ?_
  | with_reducible refine LH.x_revL ?_
  | with_reducible refine LH.x_dsetT ?_
  | with_reducible refine LH.x_lvals ?_
  | with_reducible refine LH.br_nt ?_
  | with_reducible refine LH.br_nf ?_
  | with_reducible refine LH.br_t ?_
  | with_reducible refine LH.br_f ?_)
local macro_rules | `(tactic| walk_at "rs") => `(tactic| repeat (walk_at "rs1"))

section
variable {P : Program} {w : World} {K : PySem.W.Frag} {mg : Str → Option Value} {base : Heap} {a : Ad}
theorem HA.nes {h : HA} (nd : h.S.Nodup) : h.p ∉ [h.kn, h.ea, h.ma, h.ms, h.ro, h.ba, h.nm] ∧ h.kn ∉ [h.ea, h.ma, h.ms, h.ro, h.ba, h.nm] ∧ h.ea ∉ [h.ma, h.ms, h.ro, h.ba, h.nm] ∧ h.ma ∉ [h.ms, h.ro, h.ba, h.nm] ∧ h.ms ∉ [h.ro, h.ba, h.nm] ∧ h.ro ∉ [h.ba, h.nm] ∧ h.ba ≠ h.nm ∧
    (∀ b ∈ h.ins.map (·.2), b ∉ [h.p, h.kn, h.ea, h.ma, h.ms, h.ro, h.ba, h.nm]) ∧ (h.ins.map (·.2)).Nodup := by
  unfold HA.S at nd
  simp only [List.nodup_cons, List.mem_cons, not_or] at nd
  obtain ⟨n1, n2, n3, n4, n5, n6, n7, n8, n9⟩ := nd
  refine ⟨?_, ?_, ?_, ?_, ?_, ?_, n7.1, fun b hb m => ?_, n9⟩
  · simp [n1]
  · simp [n2]
  · simp [n3]
  · simp [n4]
  · simp [n5]
  · simp [n6]
  · simp only [List.mem_cons, List.not_mem_nil, or_false] at m
    rcases m with rfl | rfl | rfl | rfl | rfl | rfl | rfl | rfl
    · exact n1.2.2.2.2.2.2.2 hb
    · exact n2.2.2.2.2.2.2 hb
    · exact n3.2.2.2.2.2 hb
    · exact n4.2.2.2.2 hb
    · exact n5.2.2.2 hb
    · exact n6.2.2 hb
    · exact n7.2 hb
    · exact n8 hb
/-- what a deed asks of the house: it stands, all its places may change -/
structure Std (C : Addr) (M : List Addr) (H : Hp) (h : HA) (st : HS) : Prop where
  at_ : HouseAt C (LH.Fr M H) H h st
  sub : ∀ b ∈ h.S, b ∈ M
  al : ∀ b ∈ M, ∃ o, H b = some o
  sm : st.size ≤ 20000
theorem Std.same {C : Addr} {M : List Addr} {H H' : Hp} {h : HA} {st : HS} (s : Std C M H h st) (e : Same H H') : Std C M H' h st :=
  ⟨s.at_.to (LH.same_fr e) fun b o _ q => e _ _ q, s.sub, fun b hb => let ⟨o, q⟩ := s.al b hb; ⟨o, e _ _ q⟩, s.sm⟩
theorem Std.next {C : Addr} {M N : List Addr} {H H' : Hp} {h h' : HA} {st st' : HS} (s : Std C M H h st) (n : Nxt C M H h st' H' N h') (l : st'.size ≤ 20000) : Std C (N ++ M) H' h' st' :=
  ⟨n.at_, n.subM s.sub, n.alive s.al, l⟩
theorem Std.kl {C : Addr} {M : List Addr} {H : Hp} {h : HA} {st : HS} (s : Std C M H h st) : st.known.length ≤ 20000 := by have := s.sm; unfold HS.size at this; omega
theorem Std.ml {C : Addr} {M : List Addr} {H : Hp} {h : HA} {st : HS} (s : Std C M H h st) : st.marked.length ≤ 20000 := by have := s.sm; unfold HS.size at this; omega
theorem Std.rl {C : Addr} {M : List Addr} {H : Hp} {h : HA} {st : HS} (s : Std C M H h st) : st.rows.length ≤ 20000 := by have := s.sm; unfold HS.size at this; omega
theorem Std.nl {C : Addr} {M : List Addr} {H : Hp} {h : HA} {st : HS} (s : Std C M H h st) : st.named.length ≤ 20000 := by have := s.sm; unfold HS.size at this; omega
/-- a word of the town -/
def Fit (st : HS) (u : Wrd) : Prop := u.Ok ∧ 0 ≤ u.h ∧ u.h < st.c
def spLearn (C : Addr) : Sp := fun vs H Q _ => ∃ h st x u M, vs = [.ref (h : HA).p, x] ∧ Std C M H h st ∧ WT (LH.Fr M H) x u ∧ Fit st u ∧ ∀ H' N h', Nxt C M H h (st.learn u) H' N h' → Q .non H'
theorem ok_House__learn (T : Txt K mg a) : FnOk P w K mg base CX0 2 a.House__learn a.d_House__learn ["self", "word"] (spLearn a.House) := by
  have G_place := ok_place (P := P) (w := w) (base := base) T
  refine T.F_House__learn.ok sc_House__learn (fun vs H Q E h => ?_) (fun cdv A outer s H vs Q E hr h => ?_)
  · obtain ⟨h, st, x, u, M, rfl, _⟩ := h
    rfl
  · obtain ⟨h, st, x, u, M, rfl, S, ⟨b, rfl, hb⟩, fit, k⟩ := h
    obtain ⟨⟨dx, hp⟩, ⟨kv1, g1, l1, i1⟩, ⟨kv2, g2, l2, i2⟩, pma, pms, pro, pba, pnm, nd, go⟩ := id S.at_
    obtain ⟨n1, n2, n3, n4, n5, n6, n7, n8, n9⟩ := HA.nes nd
    simp only [List.mem_cons, List.not_mem_nil, or_false, not_or] at n1 n2 n3 n4 n5 n6
    have hb' := LH.fr_le _ _ hb
    have bM := (LH.fr_some hb).2
    have inS : ∀ y, y ∈ [h.p, h.kn, h.ea, h.ma, h.ms, h.ro, h.ba, h.nm] → y ∈ h.S := fun y hy => by unfold HA.S; simp only [List.mem_cons, List.not_mem_nil, or_false] at hy ⊢; rcases hy with q | q | q | q | q | q | q | q <;> simp [q]
    have sm := S.kl
    have HR_place : Room 1 _ := hr.mono (by decide)
    refine ⟨_, (pss_cons (ps_dput (hu_of hr) (pe_fld (pv 0) rfl) (pv 1) pe_bl rfl)
  (pss_cons (ps_expr (LH.pe_dsetdT (hu_of hr) (pe_fld (pv 0) rfl) (pe_call G_place HR_place rfl T.g_place T.F_place.kp T.b_place .nil pass0 (pa_cons (pv 1) pa_nil)) (pv 1) ⟨rfl, rfl, rfl, rfl⟩))
  (pss_cons (ps_asg (pv 1) (pg_tup rfl (pgs_cons (pg_name (i := 2) sc_House__learn.nd rfl (Or.inl rfl)) (pgs_cons (pg_name (i := 3) sc_House__learn.nd rfl (Or.inl rfl)) (pgs_cons (pg_name (i := 4) sc_House__learn.nd rfl (Or.inl rfl)) (pgs_cons (pg_name (i := 5) sc_House__learn.nd rfl (Or.inl rfl)) pgs_nil))))))
  (pss_one (ps_if (pt_cmpR op_eq (pv 2) (pe_glob (v := .str "mark") rfl T.m_MARK ⟨_, rfl⟩) (nomark _))
    (pss_cons (ps_set (i := 6) sc_House__learn.nd rfl (Or.inl rfl) (LH.pe_dsetdT (hu_of hr) (pe_fld (pv 0) rfl) (pe_tup (pa_cons (pv 3) (pa_cons (pv 4) pa_nil))) pe_dnewK ⟨rfl, rfl, rfl, rfl⟩))
    (pss_one (ps_dput (hu_of hr) (pv 6) (pv 5) (pv 1) rfl)))
    pss_nil))))), ?_⟩
    walk_at "rd"
    refine LH.fldv hp T.cl_House T.na_House__known rfl ?_
    walk_at "rd"
    refine LH.putvT (ks := ky u) g1 (by rw [ky_vs]; exact hb') (by omega) fun H1 k1 g1' => ?_
    have K1 : PKn H1 h.kn (HM.learn st.known u) := PKn.learn l1 i1 g1'
    have hp1 := k1 _ _ hp n1.1
    have hb1 := k1 _ _ hb' (fun e => bM (e ▸ S.sub _ (inS _ (by simp))))
    have hbF : ∀ {H2 : Hp}, LH.Ks h.S H H2 → LH.Fr M H2 b = some (.tup u.vs) := fun ks => LH.fr_of (ks _ _ hb' fun m => bM (S.sub _ m)) bM
    walk_at "rs"
    refine LH.cutS (fun σ' H' => σ' = [some (.ref h.p), some (.ref b), none, none, none, none, none] ∧ PEa (LH.Fr M H') H' h.ea (HM.learn st.known u) ∧ ∀ b o, H1 b = some o → b ≠ h.ea → H' b = some o) (fun N hN => ?_) ?_
    · walk_at "rd"
      refine LH.fldv hp1 T.cl_House T.na_House__earliest rfl ?_
      have g2' := k1 _ _ g2 (Ne.symm n2.1)
      refine LH.sdv (LH.isdT g2') ?_
      walk_at "rd"
      refine ⟨b, _, _, _, _, rfl, SqT.of hb1, fun t H2 e2 g3 => ?_⟩
      walk_at "rd"
      have ks2 : LH.Ks h.S H H2 := (k1.ks (inS _ (by simp))).trans (.of e2)
      refine LH.sdw (k := u.pl) (e2 _ _ g2') (by rw [pl_vs]; exact g3) (by omega) (fun v hv => ?_) (fun hv H3 k3 g3' => ?_)
      · walk_at "rd"
        refine hN _ _ ⟨rfl, PEa.there (e2 _ _ g2') l2 (fun k0 => ⟨(i2 k0).1, fun w0 q => let ⟨y, a1, a2⟩ := (i2 k0).2 w0 q; ⟨y, a1, a2.up (ks2.frS S.sub)⟩⟩) hv, fun b o q _ => e2 _ _ q⟩
      · walk_at "rd"
        have ks3 : LH.Ks h.S H H3 := ks2.trans (k3.ks (inS _ (by simp)))
        refine hN _ _ ⟨rfl, PEa.fresh l2 (fun k0 => ⟨(i2 k0).1, fun w0 q => let ⟨y, a1, a2⟩ := (i2 k0).2 w0 q; ⟨y, a1, a2.up (ks3.frS S.sub)⟩⟩) hv ⟨b, rfl, hbF ks3⟩ g3', fun b o q n => k3 _ _ (e2 _ _ q) n⟩
    rintro σ' H2 ⟨rfl, E2, k2⟩
    have ks2 : LH.Ks h.S H H2 := fun y o q n => k2 _ _ (k1 _ _ q fun e => n (e ▸ inS _ (by simp))) fun e => n (e ▸ inS _ (by simp))
    have hp2 := k2 _ _ hp1 n1.2.1
    have hb2 := ks2 _ _ hb' fun m => bM (S.sub _ m)
    have keep2 : ∀ y o, y ≠ h.kn → y ≠ h.ea → H y = some o → H2 y = some o := fun y o q1 q2 q => k2 _ _ (k1 _ _ q q1) q2
    have f2 := ks2.frS S.sub
    have K2 : PKn H2 h.kn (HM.learn st.known u) := K1.to fun o q => k2 _ _ q n2.1
    have goL : Good (st.learn u) := go.learn ⟨fit.1, fit.2⟩
    walk_at "rd"
    refine LH.x_gtup (xs := wd u.k u.n u.r u.h) (SqT.of hb2) rfl ?_
    walk_at "rd"
    rw [dstr]
    refine LH.br_d (fun c => ?_) (fun c => ?_)
    · -- a mark
      walk_at "rs"
      refine LH.x_asg ?_
      have inner_ne : ∀ e ∈ h.ins, e.2 ∉ [h.p, h.kn, h.ea, h.ma, h.ms, h.ro, h.ba, h.nm] := fun e he => n8 _ (List.mem_map.mpr ⟨e, he, rfl⟩)
      have hm : isM (nr u) u = true := by unfold isM; simp [c]
      have pms2 : PMs (LH.Fr M H2) H2 h.ms h.ins st.known := pms.to f2 fun y o hy q => by
        rcases hy with rfl | hy
        · exact keep2 _ _ (Ne.symm n2.2.2.1) (Ne.symm n3.2.1) q
        · have := n8 _ hy
          simp only [List.mem_cons, List.not_mem_nil, or_false, not_or] at this
          exact keep2 _ _ this.2.1 this.2.2.1 q
      walk_at "rd"
      refine LH.fldv hp2 T.cl_House T.na_House__marks rfl ?_
      refine LH.sdv (LH.isdT pms2.dt) ?_
      walk_at "rd"
      refine LH.newt (LH.small rfl) fun t3 H3 f3 e3 g3 => ?_
      walk_at "rd"
      refine LH.x_dnew fun d H4 f4 e4 g4 => ?_
      have e24 := e3.trans e4
      have pms4 := pms2.to (LH.same_fr e24) fun y o _ q => e24 _ _ q
      refine LH.sdw (k := nr u) pms4.dt (by exact e4 _ _ g3) (by
        rw [List.length_map]
        have := pms.few
        omega) (fun v hv => ?_) (fun hv H5 k5 g5 => ?_)
      · -- a row that has marks
        obtain ⟨e0, he0, ee0, rfl⟩ := lookup_ins hv
        obtain ⟨kv, gd, kd1, kd2⟩ := pms4.inn e0 he0
        have m0 : e0.2 ∈ h.ins.map (·.2) := List.mem_map.mpr ⟨e0, he0, rfl⟩
        have in0 := n8 _ m0
        simp only [List.mem_cons, List.not_mem_nil, or_false, not_or] at in0
        have S0 : e0.2 ∈ h.S := by unfold HA.S; simp only [List.mem_cons]; simp [m0]
        walk_at "rd"
        have lk : kv.length ≤ 100000 := by
          have h1 := congrArg List.length kd1
          rw [List.length_map, List.length_map] at h1
          have h2 := List.length_filter_le (isM e0.1) st.known
          unfold marksOf at h1
          omega
        refine LH.putvI gd lk fun H5 k5 g5 => ?_
        walk_at "rd"
        have ks5 : LH.Ks h.S H H5 := (ks2.trans (.of e24)).trans (k5.ks S0)
        have f45 : Same (LH.Fr M H4) (LH.Fr M H5) := (k5.ks (S.sub _ S0)).fr
        have f25 : Same (LH.Fr M H2) (LH.Fr M H5) := (LH.same_fr e24).trans f45
        have keep5 : ∀ y o, y ≠ e0.2 → H2 y = some o → H5 y = some o := fun y o n q => k5 _ _ (e24 _ _ q) n
        have pin : PIn (LH.Fr M H5) H5 e0.2 (marksOf (HM.learn st.known u) e0.1) := PIn.put (by rw [ee0]; exact hm) kd1 (fun w0 hw0 => let ⟨y, a1, a2⟩ := kd2 w0 hw0; ⟨y, a1, a2.up f45⟩) ⟨b, rfl, hbF ks5⟩ g5
        refine k H5 [] h ⟨ks5, (fun _ m => by cases m), (fun _ m => by cases m), rfl, fun y q => .inl q, fun y q => q, ?_⟩
        have fHF : Same (LH.Fr M H) (LH.Fr ([] ++ M) H5) := f2.trans f25
        refine ⟨⟨dx, keep5 _ _ (Ne.symm in0.1) hp2⟩, K2.to fun o q => keep5 _ o (Ne.symm in0.2.1) q, E2.to f25 fun o q => keep5 _ o (Ne.symm in0.2.2.1) q, pma.to fun o q => keep5 _ o (Ne.symm in0.2.2.2.1) (keep2 _ _ (Ne.symm n2.2.1) (Ne.symm n3.1) q), ?_, pro.to fun o q => keep5 _ o (Ne.symm in0.2.2.2.2.2.1) (keep2 _ _ (Ne.symm n2.2.2.2.1) (Ne.symm n3.2.2.1) q), pba.to fHF fun o q => keep5 _ o (Ne.symm in0.2.2.2.2.2.2.1) (keep2 _ _ (Ne.symm n2.2.2.2.2.1) (Ne.symm n3.2.2.2.1) q), pnm.to fHF fun o q => keep5 _ o (Ne.symm in0.2.2.2.2.2.2.2) (keep2 _ _ (Ne.symm n2.2.2.2.2.2) (Ne.symm n3.2.2.2.2) q), nd, goL⟩
        exact (pms4.to f45 fun y o _ q => q).more he0 ee0 c n9 (fun y o q n => k5 _ _ q n) (Ne.symm in0.2.2.2.2.1) pin
      · -- the first mark of a row
        have noK := no_ins hv
        have nu : u ∉ st.known := fun m => noK ((pms.all (nr u)).mp (by
          have : u ∈ marksOf st.known (nr u) := List.mem_filter.mpr ⟨m, hm⟩
          exact List.ne_nil_of_mem this))
        walk_at "rd"
        have fd2 : H2 d = none := LH.Same.none e3 f4
        have dS : d ∉ h.S := fun m => by
          obtain ⟨o, q⟩ := S.at_.alive d m
          by_cases c1 : d = h.kn
          · rw [c1] at fd2
            obtain ⟨kv, q1, _⟩ := K2
            rw [q1] at fd2
            cases fd2
          · by_cases c2 : d = h.ea
            · rw [c2] at fd2
              obtain ⟨kv, q1, _⟩ := E2
              rw [q1] at fd2
              cases fd2
            · rw [keep2 _ _ c1 c2 q] at fd2
              cases fd2
        have dH : H d = none := by
          cases q : H d with
          | none => rfl
          | some o => rw [ks2 _ _ q dS] at fd2; cases fd2
        have dM : d ∉ M := LH.not_in dH S.al
        have dms : d ≠ h.ms := fun e => dS (e ▸ inS _ (by simp))
        have g4' : H5 d = some (.dK []) := k5 _ _ g4 dms
        refine LH.putvI g4' (by decide) fun H6 k6 g6 => ?_
        walk_at "rd"
        have keep6 : ∀ y o, y ≠ h.ms → y ≠ d → H2 y = some o → H6 y = some o := fun y o q1 q2 q => k6 _ _ (k5 _ _ (e24 _ _ q) q1) q2
        have ne_d : ∀ y, y ∈ [h.p, h.kn, h.ea, h.ma, h.ms, h.ro, h.ba, h.nm] → y ≠ d := fun y hy e => dS (e ▸ inS y hy)
        have ks6 : LH.Ks h.S H H6 := fun y o q n => keep6 y o (fun e => n (e ▸ inS _ (by simp))) (fun e => by rw [e, dH] at q; cases q) (ks2 _ _ q n)
        have fM : Same (LH.Fr M H) (LH.Fr ([d] ++ M) H6) := fun y o q => by
          obtain ⟨q1, q2⟩ := LH.fr_some q
          refine LH.fr_of (ks6 _ _ q1 fun m => q2 (S.sub _ m)) fun m => ?_
          rcases List.mem_append.mp m with m | m
          · rw [List.mem_singleton.mp m, dH] at q1
            cases q1
          · exact q2 m
        have f26 : Same (LH.Fr M H2) (LH.Fr ([d] ++ M) H6) := fun y o q => by
          obtain ⟨q1, q2⟩ := LH.fr_some q
          refine LH.fr_of (keep6 _ _ (fun e => q2 (e ▸ S.sub _ (inS _ (by simp)))) (fun e => by rw [e, fd2] at q1; cases q1) q1) fun m => ?_
          rcases List.mem_append.mp m with m | m
          · rw [List.mem_singleton.mp m, fd2] at q1
            cases q1
          · exact q2 m
        have wt6 : WT (LH.Fr ([d] ++ M) H6) (.ref b) u := ⟨b, rfl, fM _ _ hb⟩
        have pin : PIn (LH.Fr ([d] ++ M) H6) H6 d (marksOf (HM.learn st.known u) (nr u)) := PIn.put (l := st.known) (kvs := []) hm (by
            have : marksOf st.known (nr u) = [] := by
              cases q : marksOf st.known (nr u) with
              | nil => rfl
              | cons z zs => exact absurd ((pms.all _).mp (by rw [q]; exact List.cons_ne_nil _ _)) noK
            rw [this]
            rfl) (fun w0 hw0 => by
            have : marksOf st.known (nr u) = [] := by
              cases q : marksOf st.known (nr u) with
              | nil => rfl
              | cons z zs => exact absurd ((pms.all _).mp (by rw [q]; exact List.cons_ne_nil _ _)) noK
            rw [this] at hw0
            cases hw0) wt6 g6
        have g5' : H6 h.ms = some (.dT ((h.ins ++ [(nr u, d)]).map fun e => (e.1, V.ref e.2))) := by
          rw [k6 _ _ g5 (Ne.symm dms), putK_new _ hv, List.map_append]
          rfl
        let h' : HA := { h with ins := h.ins ++ [(nr u, d)] }
        have eS : h'.S = h.S ++ [d] := by unfold HA.S; simp [h']
        refine k H6 [d] h' ⟨ks6, fun y hy => by rw [List.mem_singleton.mp hy]; exact dH, fun y hy => by rw [List.mem_singleton.mp hy]; exact ⟨_, g6⟩, rfl, fun y hy => by
            rw [eS] at hy
            exact (List.mem_append.mp hy), fun y hy => by rw [eS]; exact List.mem_append.mpr (.inl hy), ?_⟩
        refine ⟨⟨dx, keep6 _ _ n1.2.2.2.1 (ne_d h.p (by simp)) hp2⟩, K2.to fun o q => keep6 _ o n2.2.2.1 (ne_d _ (by simp)) q, E2.to f26 fun o q => keep6 _ o n3.2.1 (ne_d _ (by simp)) q, pma.to fun o q => keep6 _ o n4.1 (ne_d _ (by simp)) (keep2 _ _ (Ne.symm n2.2.1) (Ne.symm n3.1) q), ?_, pro.to fun o q => keep6 _ o (Ne.symm n5.1) (ne_d _ (by simp)) (keep2 _ _ (Ne.symm n2.2.2.2.1) (Ne.symm n3.2.2.1) q), pba.to fM fun o q => keep6 _ o (Ne.symm n5.2.1) (ne_d _ (by simp)) (keep2 _ _ (Ne.symm n2.2.2.2.2.1) (Ne.symm n3.2.2.2.1) q), pnm.to fM fun o q => keep6 _ o (Ne.symm n5.2.2) (ne_d _ (by simp)) (keep2 _ _ (Ne.symm n2.2.2.2.2.2) (Ne.symm n3.2.2.2.2) q), ?_, goL⟩
        · refine (pms2.to f26 fun y o hy q => q).first c noK nu (fun y o q n => ?_) (fun e he q => ?_) g5' pin
          · by_cases c1 : y = d
            · rw [c1, fd2] at q
              cases q
            · exact keep6 y o n c1 q
          · have := n8 e.2 (List.mem_map.mpr ⟨e, he, rfl⟩)
            simp [q] at this
        · rw [eS]
          exact List.nodup_append.mpr ⟨nd, by simp, fun x hx y hy e => dS (by rw [List.mem_singleton.mp hy] at e; rw [← e]; exact hx)⟩
    · -- no mark
      walk_at "rd"
      have c : ¬ u.k = "mark" := c
      refine k H2 [] h ⟨ks2, (fun _ m => by cases m), (fun _ m => by cases m), rfl, fun y q => .inl q, fun y q => q, ?_⟩
      refine ⟨⟨dx, hp2⟩, K2, E2, pma.to fun o q => keep2 _ _ (Ne.symm n2.2.1) (Ne.symm n3.1) q, ?_, pro.to fun o q => keep2 _ _ (Ne.symm n2.2.2.2.1) (Ne.symm n3.2.2.1) q, pba.to f2 fun o q => keep2 _ _ (Ne.symm n2.2.2.2.2.1) (Ne.symm n3.2.2.2.1) q, pnm.to f2 fun o q => keep2 _ _ (Ne.symm n2.2.2.2.2.2) (Ne.symm n3.2.2.2.2) q, nd, goL⟩
      refine pms.say c f2 fun y o hy q => ?_
      rcases hy with rfl | hy
      · exact keep2 _ _ (Ne.symm n2.2.2.1) (Ne.symm n3.2.1) q
      · have := n8 _ hy
        simp only [List.mem_cons, List.not_mem_nil, or_false, not_or] at this
        exact keep2 _ _ this.2.1 this.2.2.1 q
/-! ### marks, writes, names -/
def TW (F : Hp) (xs : List V) (ws : List Wrd) : Prop := Paired (fun x u => WT F x u) xs ws
theorem TW.up {F F' : Hp} {xs : List V} {ws : List Wrd} (e : Same F F') (h : TW F xs ws) : TW F' xs ws := LH.Paired.imp (fun _ _ q => q.up e) h
theorem TW.app {F : Hp} {xs ys : List V} {ws us : List Wrd} (h : TW F xs ws) (k : TW F ys us) : TW F (xs ++ ys) (ws ++ us) := by
  induction h with
  | nil => exact k
  | cons a _ ih => exact .cons a ih
/-- a deed whose answer is a list of words -/
def spTells (C : Addr) (f : HS → Wrd → HS) (t : HS → Wrd → List Wrd) (ok : HS → Wrd → Prop) : Sp := fun vs H Q _ => ∃ h st x u M, vs = [.ref (h : HA).p, x] ∧ Std C M H h st ∧ WT (LH.Fr M H) x u ∧ Fit st u ∧ ok st u ∧
  ∀ H' N h' r xs, Nxt C M H h (f st u) H' N h' → H r = none → r ∉ N → H' r = some (.lst xs) → TW (LH.Fr (N ++ M) H') xs (t st u) → Q (.ref r) H'
theorem inS8 {h : HA} : ∀ y, y ∈ [h.p, h.kn, h.ea, h.ma, h.ms, h.ro, h.ba, h.nm] → y ∈ h.S := fun y hy => by
  unfold HA.S
  simp only [List.mem_cons, List.not_mem_nil, or_false] at hy ⊢
  rcases hy with q | q | q | q | q | q | q | q <;> simp [q]
theorem ok_House__mark (T : Txt K mg a) : FnOk P w K mg base CX0 3 a.House__mark a.d_House__mark ["self", "word"] (spTells a.House HS.mark HS.markT fun st _ => st.size ≤ 19990) := by
  have G_House__learn := ok_House__learn (P := P) (w := w) (base := base) T
  refine T.F_House__mark.ok sc_House__mark (fun vs H Q E h => ?_) (fun cdv A outer s H vs Q E hr h => ?_)
  · obtain ⟨h, st, x, u, M, rfl, _⟩ := h
    rfl
  · obtain ⟨h, st, x, u, M, rfl, S, ⟨b, rfl, hb⟩, fit, sz, k⟩ := h
    obtain ⟨⟨dx, hp⟩, pkn, pea, ⟨kv, g1, l1, i1⟩, pms, pro, pba, pnm, nd, go⟩ := id S.at_
    obtain ⟨n1, n2, n3, n4, n5, n6, n7, n8, n9⟩ := HA.nes nd
    simp only [List.mem_cons, List.not_mem_nil, or_false, not_or] at n1 n2 n3 n4 n5 n6
    have hb' := LH.fr_le _ _ hb
    have bM := (LH.fr_some hb).2
    have sm := S.kl
    have HR_House__learn : Room 2 _ := hr.mono (by decide)
    refine ⟨_, (pss_cons (ps_asg (pv 1) (pg_tup rfl (pgs_cons (pg_name (i := 2) sc_House__mark.nd rfl (Or.inl rfl)) (pgs_cons (pg_name (i := 3) sc_House__mark.nd rfl (Or.inl rfl)) (pgs_cons (pg_name (i := 4) sc_House__mark.nd rfl (Or.inl rfl)) (pgs_cons (pg_name (i := 5) sc_House__mark.nd rfl (Or.inl rfl)) pgs_nil))))))
  (pss_cons (ps_if (PW.pt (pw_or (pt_cmpR op_ne (pv 2) (pe_glob (v := .str "say") rfl T.m_SAY ⟨_, rfl⟩) (nomark _)) (pw_or1 (pt_cmp (pc_din (hu_of hr) (pv 3) (pe_fld (pv 0) rfl))))))
    (pss_one (ps_ret (pe_lst pa_nil)))
    pss_nil)
  (pss_cons (ps_dput (hu_of hr) (pe_fld (pv 0) rfl) (pv 3) pe_bl rfl)
  (pss_cons (ps_set (i := 6) sc_House__mark.nd rfl (Or.inl rfl) (pe_tup (pa_cons (pe_glob (v := .str "mark") rfl T.m_MARK ⟨_, rfl⟩) (pa_cons (pv 3) (pa_cons (pv 4) (pa_cons (pe_fld (pv 0) rfl) pa_nil))))))
  (pss_cons (ps_expr (pe_meth (pv 0) T.cl_House T.me_House__learn G_House__learn HR_House__learn T.b_House__learn .nil pass0 (pa_cons (pv 6) pa_nil)))
  (pss_one (ps_ret (pe_lst (pa_cons (pv 6) pa_nil))))))))), ?_⟩
    walk_at "rd"
    refine LH.x_gtup (xs := wd u.k u.n u.r u.h) (SqT.of hb') rfl ?_
    walk_at "rs"
    -- nothing to mark
    have no : st.marks u = false → ∀ r (H1 : Hp), H r = none → Same H H1 → H1 r = some (.lst []) → Q (.ref r) H1 := fun e r H1 fr e1 g => by
      refine k H1 [] h r [] ?_ fr (by simp) g ?_
      · have : st.mark u = st := by unfold HS.mark; rw [if_neg (by rw [e]; exact Bool.false_ne_true)]
        rw [this]
        exact Nxt.refl S.at_ e1
      · have : st.markT u = [] := by unfold HS.markT; rw [if_neg (by rw [e]; exact Bool.false_ne_true)]
        rw [this]
        exact .nil
    walk_at "rd"
    rw [dstr]
    by_cases c : u.k = "say"
    · rw [decide_eq_true c]
      refine LH.br_f ?_
      walk_at "rd"
      refine LH.fldv hp T.cl_House T.na_House__marked rfl ?_
      refine LH.inv (LH.getI g1) ?_
      walk_at "rd"
      cases e : (valV kv (Sum.inl u.n)).isSome with
      | true =>
        walk_at "rd"
        have e2 : st.marks u = false := by unfold HS.marks; rw [decide_eq_true ((i1 u.n).mp e)]; simp
        refine LH.newl (LH.small rfl) fun r H1 f1 e1 g => ?_
        exact no e2 r H1 f1 e1 g
      | false =>
        walk_at "rd"
        have nin : u.n ∉ st.marked := fun m => by rw [(i1 u.n).mpr m] at e; cases e
        have e2 : st.marks u = true := by unfold HS.marks; rw [decide_eq_true c, decide_eq_false nin]; rfl
        refine LH.fldv hp T.cl_House T.na_House__marked rfl ?_
        walk_at "rd"
        refine LH.putvI g1 (by have := S.ml; omega) fun H1 k1 g1' => ?_
        walk_at "rd"
        refine LH.fldv (k1 _ _ hp n1.2.2.1) T.cl_House T.na_House__own rfl ?_
        walk_at "rd"
        refine LH.newt (LH.small rfl) fun t H2 f2 e2' g2 => ?_
        walk_at "rd"
        have kM : LH.Ks M H H1 := k1.ks (S.sub _ (inS8 _ (by simp)))
        have f1 : Same (LH.Fr M H) (LH.Fr M H1) := kM.fr
        let st1 : HS := { st with marked := st.marked ++ [u.n] }
        have at1 : HouseAt a.House (LH.Fr M H1) H1 h st1 := by
          refine ⟨⟨dx, k1 _ _ hp n1.2.2.1⟩, pkn.to fun o q => k1 _ _ q n2.2.1, pea.to f1 fun o q => k1 _ _ q n3.1, PMa.put l1 i1 g1', pms.to f1 fun y o hy q => ?_, pro.to fun o q => k1 _ _ q (Ne.symm n4.2.1), pba.to f1 fun o q => k1 _ _ q (Ne.symm n4.2.2.1), pnm.to f1 fun o q => k1 _ _ q (Ne.symm n4.2.2.2), nd, ?_⟩
          · rcases hy with rfl | hy
            · exact k1 _ _ q (Ne.symm n4.1)
            · have := n8 _ hy
              simp only [List.mem_cons, List.not_mem_nil, or_false, not_or] at this
              exact k1 _ _ q this.2.2.2.1
          · exact ⟨go.c1, go.c2, go.o1, go.o2, go.nd, go.wd, List.nodup_append.mpr ⟨go.mn, by simp, fun y hy z hz e => nin (by rw [List.mem_singleton.mp hz] at e; exact e ▸ hy)⟩, go.rn, go.bn, go.nn, go.rk, go.bk, go.nk⟩
        have S1 : Std a.House M H1 h st1 := ⟨at1, S.sub, fun y hy => by
            by_cases c1 : y = h.ma
            · rw [c1]; exact ⟨_, g1'⟩
            · obtain ⟨o, q⟩ := S.al y hy
              exact ⟨o, k1 _ _ q c1⟩, by
            show st.known.length + (st.marked ++ [u.n]).length + st.rows.length + st.named.length ≤ 20000
            rw [List.length_append, List.length_singleton]
            unfold HS.size at sz
            omega⟩
        have S2 := S1.same e2'
        have tM : t ∉ M := LH.not_in f2 S1.al
        refine LH.methv (e2' _ _ (k1 _ _ hp n1.2.2.1)) rfl ?_
        walk_at "rd"
        refine ⟨h, st1, .ref t, markOf st.own u, M, rfl, S2, ⟨t, rfl, LH.fr_of g2 tM⟩, ⟨⟨ok_markW, fit.1.2⟩, go.o1, go.o2⟩, fun H3 N h' nx => ?_⟩
        walk_at "rd"
        refine LH.newl (LH.small rfl) fun r H4 f4 e4 g4 => ?_
        have nx4 := nx.same e4
        have t3 : H3 t = some (.tup (markOf st.own u).vs) := nx.ks _ _ g2 fun m => tM (S.sub _ m)
        have rH : H r = none := by
          cases q : H r with
          | none => rfl
          | some o =>
            exfalso
            by_cases c1 : r ∈ h.S
            · obtain ⟨o2, q2⟩ := nx.at_.alive r (nx.sup r c1)
              rw [f4] at q2
              cases q2
            · rw [nx.ks _ _ (e2' _ _ (k1 _ _ q fun e => c1 (e ▸ inS8 _ (by simp)))) c1] at f4
              cases f4
        have rN : r ∉ N := fun m => by
          obtain ⟨o, q⟩ := nx.al r m
          rw [f4] at q
          cases q
        have em : st.mark u = st1.learn (markOf st.own u) := by unfold HS.mark; rw [if_pos e2]; rfl
        have et : st.markT u = [markOf st.own u] := by unfold HS.markT; rw [if_pos e2]
        refine k H4 N h' r _ ⟨fun y o q n => nx4.ks _ _ (e2' _ _ (k1 _ _ q fun e => n (e ▸ inS8 _ (by simp)))) n, fun y hy => ?_, nx4.al, nx4.p, nx4.sub, nx4.sup, by rw [em]; exact nx4.at_⟩ rH rN g4 ?_
        · cases q : H y with
          | none => rfl
          | some o =>
            have := nx.nw y hy
            by_cases c1 : y = h.ma
            · rw [c1, e2' _ _ g1'] at this
              cases this
            · rw [e2' _ _ (k1 _ _ q c1)] at this
              cases this
        · rw [et]
          refine .cons ⟨t, rfl, LH.fr_of (e4 _ _ t3) fun m => ?_⟩ .nil
          rcases List.mem_append.mp m with m | m
          · rw [nx.nw t m] at g2
            cases g2
          · exact tM m
    · rw [decide_eq_false c]
      refine LH.br_t ?_
      walk_at "rd"
      have e2 : st.marks u = false := by unfold HS.marks; rw [decide_eq_false c]; rfl
      refine LH.newl (LH.small rfl) fun r H1 f1 e1 g => ?_
      exact no e2 r H1 f1 e1 g
end
end KB
namespace KB
open PySem L2 LM HM
local macro_rules | `(tactic| walk_at "rd1") => `(tactic| first
  | with_reducible refine LH.x_seq ?_
  | with_reducible refine LH.x_asg ?_
  | with_reducible refine LH.x_cons ?_
  | with_reducible refine LH.x_var (by with_unfolding_all exact rfl) ?_
  | with_reducible refine LH.x_c ?_
  | with_reducible refine LH.x_op ?_
  | with_reducible refine LH.x_gname ?_
  | with_reducible refine LH.x_nil ?_
  | with_reducible refine LH.x_I0 ?_
  | ((with_reducible refine LH.x_I ?k1 ?_); (case k1 => first | exact (by decide) | exact ⟨by decide, by decide⟩ | exact ⟨by decide, by decide, by decide⟩ | exact .inl ⟨by decide, by decide⟩ | exact .inr ⟨by decide, by decide⟩ | exact .inr ⟨by omega, by omega⟩ | exact .inl ⟨by omega, by omega⟩ | exact (by omega)))
  | with_reducible refine LH.x_ifS ?_
  | with_reducible refine LH.x_test ?_
  | with_reducible refine LH.x_tB ?_
  | with_reducible refine LH.bx ?_
  | with_reducible refine LH.x_and ?_
  | with_reducible refine LH.x_or ?_
  | with_reducible refine LH.x_not ?_
  | with_reducible refine LH.x_ret ?_
  | with_reducible refine LH.x_call ?_
  | with_reducible refine LH.x_cb ?_
  | with_reducible refine LH.x_lst ?_
  | with_reducible refine LH.x_tup ?_
  | with_reducible refine LH.x_bm ?_
  | with_reducible refine LH.x_drop ?_
  | with_reducible refine LH.x_next ?_
  | with_reducible refine LH.x_cont ?_
  | with_reducible refine LH.x_un ?_
  | with_reducible refine LH.x_U ?_
  | with_reducible refine LH.x_eq (by with_unfolding_all exact rfl) ?_
  | with_reducible refine LH.x_ne (by with_unfolding_all exact rfl) ?_
  | with_reducible refine LH.x_andV ?_
  | with_reducible refine LH.x_orV ?_
  | with_reducible refine LH.x_notV ?_
  | with_reducible refine LH.band ?_
  | with_reducible refine LH.bor ?_
  | with_reducible refine LH.x_if ?_
  | with_reducible refine LH.x_chain ?_
  | with_reducible refine LH.chk ?_
  | with_reducible refine LH.x_callS ?_
  | with_reducible refine LH.x_callE ?_
  | with_reducible refine LH.x_callV ?_
  | with_reducible refine LH.x_lrg ?_
  | with_reducible refine LH.x_lcS ?_
  | with_reducible refine LH.x_lcR1 ?_
  | with_reducible refine LH.x_forR1 ?_
  | with_reducible refine LH.x_forR3 ?_
  | with_reducible refine LH.strv ?_
  | with_reducible refine LH.x_yes ?_
  | with_reducible refine LH.x_sl ?_
  | with_reducible refine LH.x_noPart ?_
  | with_reducible refine LH.x_part ?_
  | with_reducible refine LH.pav ?_
  | with_reducible refine LH.x_jnv ?_
  | with_reducible refine LH.x_join ?_
  | with_reducible refine LH.x_inS ?_
  | with_reducible refine LH.x_niS ?_
  | with_reducible refine LH.x_isB ?_
  | with_reducible refine LH.x_isnB ?_
  | with_reducible refine LH.x_gcons ?_
  | with_reducible refine LH.x_gnil ?_
  | with_reducible refine LH.x_intB ?_
  | with_reducible refine LH.x_orT ?_
  | with_reducible refine LH.x_isTy ?_
  | with_reducible refine LH.x_niTy ?_
  | with_reducible refine LH.x_split ?_
  | with_reducible refine LH.x_spv ?_
  | with_reducible refine LH.x_gsub ?_
  | with_reducible refine LH.x_fmt ?_
  | with_reducible refine LH.x_js0 ?_
  | with_reducible refine LH.x_js ?_
  | with_reducible refine LH.x_rg1 ?_
  | with_reducible refine LH.x_forL ?_
  | with_reducible refine LH.x_abs ?_
  | with_reducible refine LH.x_rg2 ?_
  | with_reducible refine LH.rg1v ?_
  | with_reducible refine LH.rg2v ?_
  | with_reducible refine LH.x_forR2 ?_
  | with_reducible refine LH.x_lenSetG ?_
  | with_reducible refine LH.x_lc ?_
  | with_reducible refine LH.x_fld ?_
  | with_reducible refine LH.x_sfld ?_
  | with_reducible refine LH.x_afld ?_
  | with_reducible refine LH.x_meth ?_
  | with_reducible refine LH.x_make ?_
  | with_reducible refine LH.x_methSl ?_
  | with_reducible refine LH.x_makeSl ?_
  | with_reducible refine LH.x_din ?_
  | with_reducible refine LH.x_dni ?_
  | with_reducible refine LH.x_dget ?_
  | with_reducible refine LH.x_dput ?_
  | with_reducible refine LH.x_dget2 ?_
  | with_reducible refine LH.x_dpop1 ?_
  | with_reducible refine LH.x_litems ?_
  | with_reducible refine LH.x_tru ?_
  | with_reducible refine LH.x_revL ?_
  | with_reducible refine LH.x_dsetT ?_
  | with_reducible refine LH.x_lvals ?_
  | with_reducible refine LH.br_nt ?_
  | with_reducible refine LH.br_nf ?_
  | with_reducible refine LH.br_t ?_
  | with_reducible refine LH.br_f ?_)
local macro_rules | `(tactic| walk_at "rd") => `(tactic| repeat (walk_at "rd1"))
local macro_rules | `(tactic| walk_at "rs1") => `(tactic| first
  | with_reducible refine LH.x_seq ?_
  | with_reducible refine LH.x_cons ?_
  | with_reducible refine LH.x_var (by with_unfolding_all exact rfl) ?_
  | with_reducible refine LH.x_c ?_
  | with_reducible refine LH.x_op ?_
  | with_reducible refine LH.x_gname ?_
  | with_reducible refine LH.x_nil ?_
  | with_reducible refine LH.x_I0 ?_
  | ((with_reducible refine LH.x_I ?k1 ?_); (case k1 => first | exact (by decide) | exact ⟨by decide, by decide⟩ | exact ⟨by decide, by decide, by decide⟩ | exact .inl ⟨by decide, by decide⟩ | exact .inr ⟨by decide, by decide⟩ | exact .inr ⟨by omega, by omega⟩ | exact .inl ⟨by omega, by omega⟩ | exact (by omega)))
  | with_reducible refine LH.x_test ?_
  | with_reducible refine LH.x_tB ?_
  | with_reducible refine LH.bx ?_
  | with_reducible refine LH.x_and ?_
  | with_reducible refine LH.x_or ?_
  | with_reducible refine LH.x_not ?_
  | with_reducible refine LH.x_call ?_
  | with_reducible refine LH.x_cb ?_
  | with_reducible refine LH.x_lst ?_
  | with_reducible refine LH.x_tup ?_
  | with_reducible refine LH.x_bm ?_
  | with_reducible refine LH.x_next ?_
  | with_reducible refine LH.x_cont ?_
  | with_reducible refine LH.x_un ?_
  | with_reducible refine LH.x_U ?_
  | with_reducible refine LH.x_eq (by with_unfolding_all exact rfl) ?_
  | with_reducible refine LH.x_ne (by with_unfolding_all exact rfl) ?_
  | with_reducible refine LH.x_andV ?_
  | with_reducible refine LH.x_orV ?_
  | with_reducible refine LH.x_notV ?_
  | with_reducible refine LH.band ?_
  | with_reducible refine LH.bor ?_
  | with_reducible refine LH.x_if ?_
  | with_reducible refine LH.x_chain ?_
  | with_reducible refine LH.chk ?_
  | with_reducible refine LH.x_callS ?_
  | with_reducible refine LH.x_callE ?_
  | with_reducible refine LH.x_callV ?_
  | with_reducible refine LH.x_lrg ?_
  | with_reducible refine LH.x_lcS ?_
  | with_reducible refine LH.x_lcR1 ?_
  | with_reducible refine LH.strv ?_
  | with_reducible refine LH.x_yes ?_
  | with_reducible refine LH.x_sl ?_
  | with_reducible refine LH.x_noPart ?_
  | with_reducible refine LH.x_part ?_
  | with_reducible refine LH.pav ?_
  | with_reducible refine LH.x_jnv ?_
  | with_reducible refine LH.x_join ?_
  | with_reducible refine LH.x_inS ?_
  | with_reducible refine LH.x_niS ?_
  | with_reducible refine LH.x_isB ?_
  | with_reducible refine LH.x_isnB ?_
  | with_reducible refine LH.x_gcons ?_
  | with_reducible refine LH.x_gnil ?_
  | with_reducible refine LH.x_intB ?_
  | with_reducible refine LH.x_orT ?_
  | with_reducible refine LH.x_isTy ?_
  | with_reducible refine LH.x_niTy ?_
  | with_reducible refine LH.x_split ?_
  | with_reducible refine LH.x_spv ?_
  | with_reducible refine LH.x_gsub ?_
  | with_reducible refine LH.x_fmt ?_
  | with_reducible refine LH.x_js0 ?_
  | with_reducible refine LH.x_js ?_
  | with_reducible refine LH.x_rg1 ?_
  | with_reducible refine LH.x_abs ?_
  | with_reducible refine LH.x_rg2 ?_
  | with_reducible refine LH.rg1v ?_
  | with_reducible refine LH.rg2v ?_
  | with_reducible refine LH.x_lenSetG ?_
  | with_reducible refine LH.x_lc ?_
  | with_reducible refine LH.x_fld ?_
  | with_reducible refine LH.x_sfld ?_
  | with_reducible refine LH.x_afld ?_
  | with_reducible refine LH.x_meth ?_
  | with_reducible refine LH.x_make ?_
  | with_reducible refine LH.x_methSl ?_
  | with_reducible refine LH.x_makeSl ?_
  | with_reducible refine LH.x_din ?_
  | with_reducible refine LH.x_dni ?_
  | with_reducible refine LH.x_dget ?_
  | with_reducible refine LH.x_dput ?_
  | with_reducible refine LH.x_dget2 ?_
  | with_reducible refine LH.x_dpop1 ?_
  | with_reducible refine LH.x_litems ?_
  | with_reducible refine LH.x_tru ?_
  | with_reducible refine LH.x_revL ?_
  | with_reducible refine LH.x_dsetT ?_
  | with_reducible refine LH.x_lvals ?_
  | with_reducible refine LH.br_nt ?_
  | with_reducible refine LH.br_nf ?_
  | with_reducible refine LH.br_t ?_
  | with_reducible refine LH.br_f ?_)
local macro_rules | `(tactic| walk_at "rs") => `(tactic| repeat (walk_at "rs1"))

section
variable {P : Program} {w : World} {K : PySem.W.Frag} {mg : Str → Option Value} {base : Heap} {a : Ad}
theorem paired_left {α β : Type} {F : α → β → Prop} : ∀ {xs : List α} {ys : List β}, Paired F xs ys → ∀ x ∈ xs, ∃ y ∈ ys, F x y
  | _, _, .nil, _, h => by cases h
  | _, _, .cons (b := b) f r, x, h => by
    rcases List.mem_cons.mp h with rfl | h
    · exact ⟨b, List.mem_cons_self, f⟩
    · obtain ⟨y, hy, e⟩ := paired_left r x h
      exact ⟨y, List.mem_cons_of_mem _ hy, e⟩
theorem rows_in {α : Type} {l : List α} {f : α → Int} {g : α → V} {n : Int} : (valV (l.map fun e => ((Sum.inl (f e) : Key), g e)) (Sum.inl n)).isSome = decide (n ∈ l.map f) := by
  unfold valV
  induction l with
  | nil => rfl
  | cons e l ih =>
    simp only [List.map_cons, List.find?_cons, List.mem_cons]
    by_cases c : f e = n
    · have : decide ((Sum.inl (f e) : Key) = Sum.inl n) = true := by simp [c]
      simp [c]
    · have h1 : ¬ n = f e := fun q => c q.symm
      have : decide ((Sum.inl (f e) : Key) = Sum.inl n) = false := by simp [c]
      rw [this]
      simp only [h1, false_or]
      exact ih
theorem rise_of {c : Int} {l : List Wrd} {ks : List Int} (so : ks.Pairwise (· ≤ ·)) (nd : ks.Nodup) (me : ∀ k, k ∈ ks ↔ k ∈ l.map (·.h)) (rg : ∀ w ∈ l, 0 ≤ w.h ∧ w.h < c) :
    rise c l = ks.filterMap fun k => l.find? fun w => decide (w.h = k) := by
  have e : ks = ((List.range c.toNat).map fun n : Nat => (n : Int)).filter fun k => decide (k ∈ ks) := by
    refine rise_eq so ?_ nd ?_ fun k => ?_
    · exact List.Pairwise.filter _ (List.pairwise_map.mpr (List.Pairwise.imp (fun h => Int.ofNat_le.mpr (Nat.le_of_lt h)) List.pairwise_lt_range))
    · exact List.Pairwise.filter _ (List.pairwise_map.mpr (List.Pairwise.imp (fun h q => Nat.ne_of_lt h (Int.ofNat.inj q)) List.pairwise_lt_range))
    · rw [List.mem_filter, List.mem_map, decide_eq_true_eq]
      refine ⟨fun h => ⟨?_, h⟩, fun h => h.2⟩
      obtain ⟨w, hw, rfl⟩ := List.mem_map.mp ((me k).mp h)
      obtain ⟨r1, r2⟩ := rg w hw
      exact ⟨w.h.toNat, List.mem_range.mpr (by omega), by omega⟩
  have e2 : ∀ L : List Int, (L.filter fun k => decide (k ∈ ks)).filterMap (fun k => l.find? fun w => decide (w.h = k)) = L.filterMap fun k => l.find? fun w => decide (w.h = k) := fun L => by
    induction L with
    | nil => rfl
    | cons k L ih =>
      by_cases m : k ∈ ks
      · rw [List.filter_cons_of_pos (by simpa using m), List.filterMap_cons, List.filterMap_cons, ih]
      · rw [List.filter_cons_of_neg (by simpa using m), List.filterMap_cons, ih]
        have : l.find? (fun w => decide (w.h = k)) = none := List.find?_eq_none.mpr fun w hw q => m ((me k).mpr (List.mem_map.mpr ⟨w, hw, by simpa using q⟩))
        rw [this]
  have e3 := e2 ((List.range c.toNat).map fun n : Nat => (n : Int))
  rw [← e, List.filterMap_map] at e3
  rw [e3]
  rfl
theorem paired_find {G : V → Wrd → Prop} {v : Int → V} {f : Int → Option Wrd} : ∀ ks : List Int, (∀ k ∈ ks, ∃ w, f k = some w ∧ G (v k) w) → Paired G (ks.map v) (ks.filterMap f)
  | [], _ => .nil
  | k :: ks, h => by
    obtain ⟨w, h1, h2⟩ := h k (List.mem_cons_self ..)
    rw [List.filterMap_cons, h1]
    exact .cons h2 (paired_find ks fun k hk => h k (List.mem_cons_of_mem _ hk))
theorem nodup_map_on {α β : Type} {f : α → β} : ∀ {l : List α}, l.Nodup → (∀ a ∈ l, ∀ b ∈ l, f a = f b → a = b) → (l.map f).Nodup
  | [], _, _ => List.nodup_nil
  | a :: l, nd, h => by
    rw [List.map_cons, List.nodup_cons]
    have nd := List.nodup_cons.mp nd
    refine ⟨fun m => ?_, nodup_map_on nd.2 fun x hx y hy => h x (List.mem_cons_of_mem _ hx) y (List.mem_cons_of_mem _ hy)⟩
    obtain ⟨b, hb, e⟩ := List.mem_map.mp m
    exact nd.1 (h a (List.mem_cons_self ..) b (List.mem_cons_of_mem _ hb) e.symm ▸ hb)
theorem marks_nodup {st : HS} (go : Good st) (k : List Key) : ((marksOf st.known k).map (·.h)).Nodup :=
  nodup_map_on (go.nd.filter _) fun x hx y hy e => mark_eq (List.mem_filter.mp hx).2 (List.mem_filter.mp hy).2 e
theorem marks_few {st : HS} (go : Good st) (k : List Key) : (marksOf st.known k).length ≤ 12 := by
  have := nodup_le 12 ((marksOf st.known k).map (·.h)) (marks_nodup go k) fun x hx => by
    obtain ⟨w, hw, rfl⟩ := List.mem_map.mp hx
    have := go.wd w (List.mem_filter.mp hw).1
    have := go.c2
    exact ⟨by omega, by omega⟩
  rwa [List.length_map] at this
theorem ok_House__write (T : Txt K mg a) : FnOk P w K mg base CX0 5 a.House__write a.d_House__write ["self", "word"] (spTells a.House HS.write HS.backT fun st _ => st.size ≤ 19990) := by
  have G_enough := ok_enough (P := P) (w := w) (base := base) T
  refine T.F_House__write.ok sc_House__write (fun vs H Q E h => ?_) (fun cdv A outer s H vs Q E hr h => ?_)
  · obtain ⟨h, st, x, u, M, rfl, _⟩ := h
    rfl
  · obtain ⟨h, st, x, u, M, rfl, S, ⟨b, rfl, hb⟩, fit, sz, k⟩ := h
    obtain ⟨⟨dx, hp⟩, pkn, pea, pma, pms, pro, pba, pnm, nd, go⟩ := id S.at_
    obtain ⟨n1, n2, n3, n4, n5, n6, n7, n8, n9⟩ := HA.nes nd
    simp only [List.mem_cons, List.not_mem_nil, or_false, not_or] at n1 n2 n3 n4 n5 n6
    have hb' := LH.fr_le _ _ hb
    have sm := S.kl
    have few := marks_few go (nr u)
    have HR_enough : Room 4 _ := hr.mono (by decide)
    refine ⟨_, (pss_cons (ps_asg (pv 1) (pg_tup rfl (pgs_cons (pg_name (i := 2) sc_House__write.nd rfl (Or.inl rfl)) (pgs_cons (pg_name (i := 3) sc_House__write.nd rfl (Or.inl rfl)) (pgs_cons (pg_name (i := 4) sc_House__write.nd rfl (Or.inl rfl)) (pgs_cons (pg_name (i := 5) sc_House__write.nd rfl (Or.inl rfl)) pgs_nil))))))
  (pss_cons (ps_set (i := 6) sc_House__write.nd rfl (Or.inr rfl) (pe_dget2 (hu_of hr) (pe_fld (pv 0) rfl) (pe_tup (pa_cons (pv 3) (pa_cons (pv 4) pa_nil))) pe_dnewK ⟨rfl, rfl, rfl, rfl⟩))
  (pss_cons (ps_if (PW.pt (pw_or (pt_cmp (pc_din (hu_of hr) (pv 3) (pe_fld (pv 0) rfl))) (pw_or1 (pt_cmpR op_lt (pe_callB LH.call_lenDk rfl T.n_len (by decide +kernel) (pa_cons (pv 6) pa_nil)) (pe_call G_enough HR_enough rfl T.g_enough T.F_enough.kp T.b_enough .nil LH.passN (pa_cons (pe_fld (pv 0) rfl) pa_nil)) (nomark _)))))
    (pss_one (ps_ret (pe_lst pa_nil)))
    pss_nil)
  (pss_cons (ps_dput (hu_of hr) (pe_fld (pv 0) rfl) (pv 3) (pv 4) rfl)
  (pss_cons (ps_dput (hu_of hr) (pe_fld (pv 0) rfl) (pv 3) (pe_lc (own := [("marker", 7)]) (g := gName 7) (tt := tYes) rfl sc_House__write.nd (pi_list (pe_callB (LH.call_srtD rfl) rfl T.n_sorted (by decide +kernel) (pa_cons (pv 6) pa_nil))) (blkOk_by (N := N_House__write) (sc := defScope s_House__write) (by decide +kernel)) (fun _ _ _ _ _ => pg_name (i := 7) sc_House__write.nd rfl (Or.inl rfl)) (fun _ _ _ _ _ => pts_nil) (fun _ _ _ _ _ => (pe_dget (hu_of hr) (pv 6) (pv 7) (fun _ _ => rfl)))) rfl)
  (pss_one (ps_ret (pe_callTy (r := LH.rListOf K) LH.call_listOf rfl T.n_list (by decide +kernel) (pa_cons (pe_dget (hu_of hr) (pe_fld (pv 0) rfl) (pv 3) (fun _ _ => rfl)) pa_nil))))))))), ?_⟩
    walk_at "rd"
    refine LH.x_gtup (xs := wd u.k u.n u.r u.h) (SqT.of hb') rfl ?_
    walk_at "rs"
    refine LH.x_asg ?_
    refine LH.cut (fun y H1 => Same H H1 ∧ ∃ d kvs, y = .ref d ∧ H1 d = some (.dK kvs) ∧ kvs.map (·.1) = (marksOf st.known (nr u)).map (fun w => (Sum.inl w.h : Key)) ∧ ∀ w ∈ marksOf st.known (nr u), ∃ x, valV kvs (Sum.inl w.h) = some x ∧ WT (LH.Fr M H) x w) (fun Q1 q1 => ?_) ?_
    · walk_at "rd"
      refine LH.fldv hp T.cl_House T.na_House__marks rfl ?_
      refine LH.get2v (LH.isdT pms.dt) ?_
      walk_at "rd"
      refine LH.newt (LH.small rfl) fun t H1 f1 e1 g1 => ?_
      walk_at "rd"
      refine LH.x_dnew fun p H2 f2 e2 g2 => ?_
      have e12 := e1.trans e2
      refine LH.get2w (LH.getT (k := nr u) (e12 _ _ pms.dt) (e2 _ _ g1)) ?_
      cases hv : valV (h.ins.map fun e => (e.1, V.ref e.2)) (nr u) with
      | some v =>
        obtain ⟨e, he, ee, rfl⟩ := lookup_ins hv
        obtain ⟨kvs, h1, h2, h3⟩ := pms.inn e he
        rw [ee] at h2 h3
        exact q1 _ _ ⟨e12, e.2, kvs, rfl, e12 _ _ h1, h2, h3⟩
      | none =>
        have nil : marksOf st.known (nr u) = [] := by
          cases q : marksOf st.known (nr u) with
          | nil => rfl
          | cons z zs => exact absurd ((pms.all _).mp (by rw [q]; exact List.cons_ne_nil _ _)) (no_ins hv)
        refine q1 _ _ ⟨e12, p, [], rfl, g2, ?_, fun w hw => ?_⟩
        · rw [nil]
          rfl
        · rw [nil] at hw
          cases hw
    · rintro y H1 ⟨e1, d, kvm, rfl, gm, km, vm⟩
      have len : kvm.length = (marksOf st.known (nr u)).length := by
        have := congrArg List.length km
        rwa [List.length_map, List.length_map] at this
      have no : st.writes u = false → ∀ r (H2 : Hp), H r = none → Same H H2 → H2 r = some (.lst []) → Q (.ref r) H2 := fun e r H2 fr e1 g => by
        refine k H2 [] h r [] ?_ fr (by simp) g ?_
        · have : st.write u = st := by unfold HS.write; rw [if_neg (by rw [e]; exact Bool.false_ne_true)]
          rw [this]
          exact Nxt.refl S.at_ e1
        · have : st.backT u = [] := by unfold HS.backT; rw [if_neg (by rw [e]; exact Bool.false_ne_true)]
          rw [this]
          exact .nil
      walk_at "rd"
      refine LH.fldv (e1 _ _ hp) T.cl_House T.na_House__rows rfl ?_
      refine LH.inv (LH.getI (e1 _ _ pro)) ?_
      rw [rows_in]
      walk_at "rd"
      by_cases c : u.n ∈ st.rows.map (·.1)
      · rw [decide_eq_true c]
        walk_at "rd"
        refine LH.newl (LH.small rfl) fun r H2 f2 e2 g2 => ?_
        exact no (by unfold HS.writes; rw [decide_eq_true c]; rfl) r H2 (LH.Same.none e1 f2) (e1.trans e2) g2
      · rw [decide_eq_false c]
        walk_at "rd"
        refine LH.x_lenDk gm ?_
        walk_at "rd"
        refine LH.fldv (e1 _ _ hp) T.cl_House T.na_House__count rfl ?_
        walk_at "rd"
        refine ⟨st.c, rfl, go.c1, go.c2, ?_⟩
        walk_at "rd"
        rw [len]
        by_cases c2 : ((marksOf st.known (nr u)).length : Int) < en st.c
        · rw [decide_eq_true c2]
          walk_at "rd"
          refine LH.newl (LH.small rfl) fun r H2 f2 e2 g2 => ?_
          exact no (by unfold HS.writes; rw [decide_eq_false (show ¬ en st.c ≤ ((marksOf st.known (nr u)).length : Int) by omega), Bool.and_false]) r H2 (LH.Same.none e1 f2) (e1.trans e2) g2
        · rw [decide_eq_false c2]
          walk_at "rd"
          have yes : st.writes u = true := by unfold HS.writes; rw [decide_eq_true (show en st.c ≤ ((marksOf st.known (nr u)).length : Int) by omega), decide_eq_false c]; rfl
          refine LH.fldv (e1 _ _ hp) T.cl_House T.na_House__rows rfl ?_
          walk_at "rd"
          refine LH.putvI (e1 _ _ pro) (by rw [List.length_map]; have := S.rl; omega) fun H2 k2 g2 => ?_
          have noro : valV (st.rows.map fun e => ((Sum.inl e.1 : Key), V.str e.2)) (Sum.inl u.n) = none := by
            have := rows_in (l := st.rows) (f := fun e => e.1) (g := fun e => V.str e.2) (n := u.n)
            rw [decide_eq_false c] at this
            cases q : valV (st.rows.map fun e => ((Sum.inl e.1 : Key), V.str e.2)) (Sum.inl u.n) with
            | none => rfl
            | some z => rw [q] at this; cases this
          rw [putK_new _ noro] at g2
          walk_at "rd"
          have dro : d ≠ h.ro := fun q => by
            rw [q, e1 _ _ pro] at gm
            injection gm with gm
            injection gm with gm
            rw [← gm] at km vm
            have lenr : (marksOf st.known (nr u)).length = st.rows.length := by rw [← len, ← gm, List.length_map]
            cases q2 : marksOf st.known (nr u) with
            | nil =>
              rw [q2] at c2
              have := go.c1
              unfold en at c2
              simp at c2
              omega
            | cons z zs =>
              obtain ⟨x, h1, ⟨y, rfl, h2⟩⟩ := vm z (by rw [q2]; exact List.mem_cons_self ..)
              unfold valV at h1
              obtain ⟨e, he, q3⟩ := Option.map_eq_some_iff.mp h1
              obtain ⟨z, _, rfl⟩ := List.mem_map.mp (List.mem_of_find?_eq_some he)
              cases q3
          refine LH.x_srtD (ks := (marksOf st.known (nr u)).map (·.h)) (k2 _ _ gm dro) (by rw [km, List.map_map]; rfl) (by rw [List.length_map]; omega) fun ys s H3 per so f3 e3 g3 => ?_
          have ynd : ys.Nodup := per.nodup_iff.mpr (marks_nodup go _)
          have yme : ∀ j, j ∈ ys ↔ j ∈ (marksOf st.known (nr u)).map (·.h) := fun j => per.mem_iff
          let val : V → V := fun x => match x with | .int j => (valV kvm (Sum.inl j)).getD .non | _ => .non
          have fnd : ∀ j ∈ ys, ∃ w, (marksOf st.known (nr u)).find? (fun w => decide (w.h = j)) = some w ∧ valV kvm (Sum.inl j) = some (val (.int j)) ∧ WT (LH.Fr M H) (val (.int j)) w := fun j hj => by
            obtain ⟨w, hw, rfl⟩ := List.mem_map.mp ((yme j).mp hj)
            cases q : (marksOf st.known (nr u)).find? (fun z => decide (z.h = w.h)) with
            | none =>
              have := List.find?_eq_none.mp q w hw
              simp at this
            | some z =>
              have e : z.h = w.h := by simpa using List.find?_some q
              obtain ⟨x, h1, h2⟩ := vm z (List.mem_of_find?_eq_some q)
              rw [e] at h1
              refine ⟨z, rfl, ?_, ?_⟩
              · show _ = some ((valV kvm (Sum.inl w.h)).getD .non)
                rw [h1]
                rfl
              · show WT _ ((valV kvm (Sum.inl w.h)).getD .non) z
                rw [h1]
                exact h2
          refine LH.lc_L (SqL.of g3) (by rw [List.length_map, per.length_eq, List.length_map]; omega) (fun _ => true) val (fun _ => rfl) ?_ ?_ fun r H4 f4 e4 g4 => ?_
          · intro x hx H5 e5 Q3 q3
            walk_at "rd"
            exact q3 _ (Same.refl _)
          · intro x hx _ H5 e5 Q3 q3
            obtain ⟨j, hj, rfl⟩ := List.mem_map.mp hx
            obtain ⟨z, _, h1, _⟩ := fnd j hj
            walk_at "rd"
            refine LH.getv (LH.getI ((e3.trans e5) _ _ (k2 _ _ gm dro))) h1 ?_
            exact q3 _ (Same.refl H5)
          · rw [List.filter_eq_self.mpr (fun _ _ => rfl), List.map_map] at g4
            walk_at "rd"
            have e34 := e3.trans e4
            refine LH.fldv (e34 _ _ (k2 _ _ (e1 _ _ hp) n1.2.2.2.2.1)) T.cl_House T.na_House__backings rfl ?_
            walk_at "rd"
            obtain ⟨kvb, gb, pb⟩ := pba
            have lb : kvb.length = st.rows.length := by
              rw [LH.Paired.len pb]
              have := congrArg List.length go.bn
              rwa [List.length_map, List.length_map] at this
            refine LH.putvI (e34 _ _ (k2 _ _ (e1 _ _ gb) (Ne.symm n6.1))) (by have := S.rl; omega) fun H5 k5 g5 => ?_
            walk_at "rd"
            have rba : r ≠ h.ba := fun q => by
              rw [q, e3 _ _ (k2 _ _ (e1 _ _ gb) (Ne.symm n6.1))] at f4
              cases f4
            have g4' : H5 r = some (.lst (ys.map (val ∘ V.int))) := k5 _ _ g4 rba
            have keep5 : ∀ y o, H y = some o → y ≠ h.ro → y ≠ h.ba → H5 y = some o := fun y o q q1 q2 => k5 _ _ (e34 _ _ (k2 _ _ (e1 _ _ q) q1)) q2
            refine LH.fldv (keep5 _ _ hp n1.2.2.2.2.1 n1.2.2.2.2.2.1) T.cl_House T.na_House__backings rfl ?_
            walk_at "rd"
            refine LH.getv (LH.getI g5) (by rw [valV_put, if_pos rfl]) ?_
            walk_at "rd"
            refine LH.x_listOf (.inl (SqL.of g4')) fun l H6 f6 e6 g6 => ?_
            have rise_ : rise st.c (marksOf st.known (nr u)) = ys.filterMap fun j => (marksOf st.known (nr u)).find? fun w => decide (w.h = j) :=
              rise_of so ynd yme fun w hw => (go.wd w (List.mem_filter.mp hw).1).2
            have tw : TW (LH.Fr M H) (ys.map (val ∘ V.int)) (rise st.c (marksOf st.known (nr u))) := by
              rw [rise_]
              exact paired_find ys fun j hj => let ⟨w, h1, _, h3⟩ := fnd j hj; ⟨w, h1, h3⟩
            have keep6 : ∀ y o, H y = some o → y ≠ h.ro → y ≠ h.ba → H6 y = some o := fun y o q q1 q2 => e6 _ _ (keep5 y o q q1 q2)
            have ks6 : LH.Ks h.S H H6 := fun y o q n => keep6 y o q (fun e => n (e ▸ inS8 _ (by simp))) (fun e => n (e ▸ inS8 _ (by simp)))
            have fM : Same (LH.Fr M H) (LH.Fr ([] ++ M) H6) := (ks6.sub S.sub).fr
            have rnone : ∀ y, H6 y ≠ none → H y = none → True := fun _ _ _ => trivial
            have rH : H r = none := by
              cases q : H r with
              | none => rfl
              | some o =>
                exfalso
                by_cases c3 : r = h.ro
                · rw [c3, e3 _ _ g2] at f4
                  cases f4
                · rw [e3 _ _ (k2 _ _ (e1 _ _ q) c3)] at f4
                  cases f4
            have rM : r ∉ M := LH.not_in rH S.al
            have lH : H l = none := by
              cases q : H l with
              | none => rfl
              | some o =>
                exfalso
                by_cases c3 : l = h.ro
                · rw [c3, k5 _ _ (e34 _ _ g2) n6.1] at f6
                  cases f6
                · by_cases c4 : l = h.ba
                  · rw [c4, g5] at f6
                    cases f6
                  · rw [keep5 _ _ q c3 c4] at f6
                    cases f6
            have ew : st.write u = { st with rows := st.rows ++ [(u.n, u.r)], backs := st.backs ++ [(u.n, rise st.c (marksOf st.known (nr u)))] } := by unfold HS.write; rw [if_pos yes]
            have et : st.backT u = rise st.c (marksOf st.known (nr u)) := by unfold HS.backT; rw [if_pos yes]
            have gow : Good (st.write u) := go.write fit.1
            refine k H6 [] h l _ ⟨ks6, (fun _ m => by cases m), (fun _ m => by cases m), rfl, fun y q => .inl q, fun y q => q, ?_⟩ lH (by simp) g6 (by rw [et]; exact tw.up fM)
            rw [ew] at gow ⊢
            refine ⟨⟨dx, keep6 _ _ hp n1.2.2.2.2.1 n1.2.2.2.2.2.1⟩, pkn.to fun o q => keep6 _ o q n2.2.2.2.1 n2.2.2.2.2.1, pea.to fM fun o q => keep6 _ o q n3.2.2.1 n3.2.2.2.1, pma.to fun o q => keep6 _ o q n4.2.1 n4.2.2.1, pms.to fM fun y o hy q => ?_, ?_, ?_, pnm.to fM fun o q => keep6 _ o q (Ne.symm n6.2) (Ne.symm n7), nd, gow⟩
            · rcases hy with rfl | hy
              · exact keep6 _ _ q n5.1 n5.2.1
              · have := n8 _ hy
                simp only [List.mem_cons, List.not_mem_nil, or_false, not_or] at this
                exact keep6 _ _ q this.2.2.2.2.2.1 this.2.2.2.2.2.2.1
            · show H6 h.ro = some (.dK ((st.rows ++ [(u.n, u.r)]).map fun e => (Sum.inl e.1, V.str e.2)))
              rw [List.map_append]
              exact e6 _ _ (k5 _ _ (e34 _ _ g2) n6.1)
            · have nob : valV kvb (Sum.inl u.n) = none := by
                cases q : valV kvb (Sum.inl u.n) with
                | none => rfl
                | some z =>
                  exfalso
                  unfold valV at q
                  obtain ⟨e, he, _⟩ := Option.map_eq_some_iff.mp q
                  obtain ⟨x, hx, q1, _⟩ := paired_left pb _ (List.mem_of_find?_eq_some he)
                  have q2 : e.1 = Sum.inl u.n := by simpa using List.find?_some he
                  rw [q1] at q2
                  exact c (by rw [← go.bn]; exact List.mem_map.mpr ⟨x, hx, Sum.inl.inj q2⟩)
              refine ⟨_, e6 _ _ g5, ?_⟩
              rw [putK_new _ nob]
              exact LH.Paired.snoc (LH.Paired.imp (fun _ _ q => ⟨q.1, q.2.up fM⟩) pb) ⟨rfl, r, _, rfl, LH.fr_of (e6 _ _ g4') (by simpa using rM), tw.up fM⟩
end
end KB
namespace KB
open PySem L2 LM HM
local macro_rules | `(tactic| walk_at "rd1") => `(tactic| first
  | with_reducible refine LH.x_seq ?_
  | with_reducible refine LH.x_asg ?_
  | with_reducible refine LH.x_cons ?_
  | with_reducible refine LH.x_var (by with_unfolding_all exact rfl) ?_
  | with_reducible refine LH.x_c ?_
  | with_reducible refine LH.x_op ?_
  | with_reducible refine LH.x_gname ?_
  | with_reducible refine LH.x_nil ?_
  | with_reducible refine LH.x_I0 ?_
  | ((with_reducible refine LH.x_I ?k1 ?_); (case k1 => first | exact (by decide) | exact ⟨by decide, by decide⟩ | exact ⟨by decide, by decide, by decide⟩ | exact .inl ⟨by decide, by decide⟩ | exact .inr ⟨by decide, by decide⟩ | exact .inr ⟨by omega, by omega⟩ | exact .inl ⟨by omega, by omega⟩ | exact (by omega)))
  | with_reducible refine LH.x_ifS ?_
  | with_reducible refine LH.x_test ?_
  | with_reducible refine LH.x_tB ?_
  | with_reducible refine LH.bx ?_
  | with_reducible refine LH.x_and ?_
  | with_reducible refine LH.x_or ?_
  | with_reducible refine LH.x_not ?_
  | with_reducible refine LH.x_ret ?_
  | with_reducible refine LH.x_call ?_
  | with_reducible refine LH.x_cb ?_
  | with_reducible refine LH.x_lst ?_
  | with_reducible refine LH.x_tup ?_
  | with_reducible refine LH.x_bm ?_
  | with_reducible refine LH.x_drop ?_
  | with_reducible refine LH.x_next ?_
  | with_reducible refine LH.x_cont ?_
  | with_reducible refine LH.x_un ?_
  | with_reducible refine LH.x_U ?_
  | with_reducible refine LH.x_eq (by with_unfolding_all exact rfl) ?_
  | with_reducible refine LH.x_ne (by with_unfolding_all exact rfl) ?_
  | with_reducible refine LH.x_andV ?_
  | with_reducible refine LH.x_orV ?_
  | with_reducible refine LH.x_notV ?_
  | with_reducible refine LH.band ?_
  | with_reducible refine LH.bor ?_
  | with_reducible refine LH.x_if ?_
  | with_reducible refine LH.x_chain ?_
  | with_reducible refine LH.chk ?_
  | with_reducible refine LH.x_callS ?_
  | with_reducible refine LH.x_callE ?_
  | with_reducible refine LH.x_callV ?_
  | with_reducible refine LH.x_lrg ?_
  | with_reducible refine LH.x_lcS ?_
  | with_reducible refine LH.x_lcR1 ?_
  | with_reducible refine LH.x_forR1 ?_
  | with_reducible refine LH.x_forR3 ?_
  | with_reducible refine LH.strv ?_
  | with_reducible refine LH.x_yes ?_
  | with_reducible refine LH.x_sl ?_
  | with_reducible refine LH.x_noPart ?_
  | with_reducible refine LH.x_part ?_
  | with_reducible refine LH.pav ?_
  | with_reducible refine LH.x_jnv ?_
  | with_reducible refine LH.x_join ?_
  | with_reducible refine LH.x_inS ?_
  | with_reducible refine LH.x_niS ?_
  | with_reducible refine LH.x_isB ?_
  | with_reducible refine LH.x_isnB ?_
  | with_reducible refine LH.x_gcons ?_
  | with_reducible refine LH.x_gnil ?_
  | with_reducible refine LH.x_intB ?_
  | with_reducible refine LH.x_orT ?_
  | with_reducible refine LH.x_isTy ?_
  | with_reducible refine LH.x_niTy ?_
  | with_reducible refine LH.x_split ?_
  | with_reducible refine LH.x_spv ?_
  | with_reducible refine LH.x_gsub ?_
  | with_reducible refine LH.x_fmt ?_
  | with_reducible refine LH.x_js0 ?_
  | with_reducible refine LH.x_js ?_
  | with_reducible refine LH.x_rg1 ?_
  | with_reducible refine LH.x_forL ?_
  | with_reducible refine LH.x_abs ?_
  | with_reducible refine LH.x_rg2 ?_
  | with_reducible refine LH.rg1v ?_
  | with_reducible refine LH.rg2v ?_
  | with_reducible refine LH.x_forR2 ?_
  | with_reducible refine LH.x_lenSetG ?_
  | with_reducible refine LH.x_lc ?_
  | with_reducible refine LH.x_fld ?_
  | with_reducible refine LH.x_sfld ?_
  | with_reducible refine LH.x_afld ?_
  | with_reducible refine LH.x_meth ?_
  | with_reducible refine LH.x_make ?_
  | with_reducible refine LH.x_methSl ?_
  | with_reducible refine LH.x_makeSl ?_
  | with_reducible refine LH.x_din ?_
  | with_reducible refine LH.x_dni ?_
  | with_reducible refine LH.x_dget ?_
  | with_reducible refine LH.x_dput ?_
  | with_reducible refine LH.x_dget2 ?_
  | with_reducible refine LH.x_dpop1 ?_
  | with_reducible refine LH.x_litems ?_
  | with_reducible refine LH.x_tru ?_
  | with_reducible refine LH.x_revL ?_
  | with_reducible refine LH.x_dsetT ?_
  | with_reducible refine LH.x_lvals ?_
  | with_reducible refine LH.br_nt ?_
  | with_reducible refine LH.br_nf ?_
  | with_reducible refine LH.br_t ?_
  | with_reducible refine LH.br_f ?_)
local macro_rules | `(tactic| walk_at "rd") => `(tactic| repeat (walk_at "rd1"))
local macro_rules | `(tactic| walk_at "rs1") => `(tactic| first
  | with_reducible refine LH.x_seq ?_
  | with_reducible refine LH.x_cons ?_
  | with_reducible refine LH.x_var (by with_unfolding_all exact rfl) ?_
  | with_reducible refine LH.x_c ?_
  | with_reducible refine LH.x_op ?_
  | with_reducible refine LH.x_gname ?_
  | with_reducible refine LH.x_nil ?_
  | with_reducible refine LH.x_I0 ?_
  | ((with_reducible refine LH.x_I ?k1 ?_); (case k1 => first | exact (by decide) | exact ⟨by decide, by decide⟩ | exact ⟨by decide, by decide, by decide⟩ | exact .inl ⟨by decide, by decide⟩ | exact .inr ⟨by decide, by decide⟩ | exact .inr ⟨by omega, by omega⟩ | exact .inl ⟨by omega, by omega⟩ | exact (by omega)))
  | with_reducible refine LH.x_test ?_
  | with_reducible refine LH.x_tB ?_
  | with_reducible refine LH.bx ?_
  | with_reducible refine LH.x_and ?_
  | with_reducible refine LH.x_or ?_
  | with_reducible refine LH.x_not ?_
  | with_reducible refine LH.x_call ?_
  | with_reducible refine LH.x_cb ?_
  | with_reducible refine LH.x_lst ?_
  | with_reducible refine LH.x_tup ?_
  | with_reducible refine LH.x_bm ?_
  | with_reducible refine LH.x_next ?_
  | with_reducible refine LH.x_cont ?_
  | with_reducible refine LH.x_un ?_
  | with_reducible refine LH.x_U ?_
  | with_reducible refine LH.x_eq (by with_unfolding_all exact rfl) ?_
  | with_reducible refine LH.x_ne (by with_unfolding_all exact rfl) ?_
  | with_reducible refine LH.x_andV ?_
  | with_reducible refine LH.x_orV ?_
  | with_reducible refine LH.x_notV ?_
  | with_reducible refine LH.band ?_
  | with_reducible refine LH.bor ?_
  | with_reducible refine LH.x_if ?_
  | with_reducible refine LH.x_chain ?_
  | with_reducible refine LH.chk ?_
  | with_reducible refine LH.x_callS ?_
  | with_reducible refine LH.x_callE ?_
  | with_reducible refine LH.x_callV ?_
  | with_reducible refine LH.x_lrg ?_
  | with_reducible refine LH.x_lcS ?_
  | with_reducible refine LH.x_lcR1 ?_
  | with_reducible refine LH.strv ?_
  | with_reducible refine LH.x_yes ?_
  | with_reducible refine LH.x_sl ?_
  | with_reducible refine LH.x_noPart ?_
  | with_reducible refine LH.x_part ?_
  | with_reducible refine LH.pav ?_
  | with_reducible refine LH.x_jnv ?_
  | with_reducible refine LH.x_join ?_
  | with_reducible refine LH.x_inS ?_
  | with_reducible refine LH.x_niS ?_
  | with_reducible refine LH.x_isB ?_
  | with_reducible refine LH.x_isnB ?_
  | with_reducible refine LH.x_gcons ?_
  | with_reducible refine LH.x_gnil ?_
  | with_reducible refine LH.x_intB ?_
  | with_reducible refine LH.x_orT ?_
  | with_reducible refine LH.x_isTy ?_
  | with_reducible refine LH.x_niTy ?_
  | with_reducible refine LH.x_split ?_
  | with_reducible refine LH.x_spv ?_
  | with_reducible refine LH.x_gsub ?_
  | with_reducible refine LH.x_fmt ?_
  | with_reducible refine LH.x_js0 ?_
  | with_reducible refine LH.x_js ?_
  | with_reducible refine LH.x_rg1 ?_
  | with_reducible refine LH.x_abs ?_
  | with_reducible refine LH.x_rg2 ?_
  | with_reducible refine LH.rg1v ?_
  | with_reducible refine LH.rg2v ?_
  | with_reducible refine LH.x_lenSetG ?_
  | with_reducible refine LH.x_lc ?_
  | with_reducible refine LH.x_fld ?_
  | with_reducible refine LH.x_sfld ?_
  | with_reducible refine LH.x_afld ?_
  | with_reducible refine LH.x_meth ?_
  | with_reducible refine LH.x_make ?_
  | with_reducible refine LH.x_methSl ?_
  | with_reducible refine LH.x_makeSl ?_
  | with_reducible refine LH.x_din ?_
  | with_reducible refine LH.x_dni ?_
  | with_reducible refine LH.x_dget ?_
  | with_reducible refine LH.x_dput ?_
  | with_reducible refine LH.x_dget2 ?_
  | with_reducible refine LH.x_dpop1 ?_
  | with_reducible refine LH.x_litems ?_
  | with_reducible refine LH.x_tru ?_
  | with_reducible refine LH.x_revL ?_
  | with_reducible refine LH.x_dsetT ?_
  | with_reducible refine LH.x_lvals ?_
  | with_reducible refine LH.br_nt ?_
  | with_reducible refine LH.br_nf ?_
  | with_reducible refine LH.br_t ?_
  | with_reducible refine LH.br_f ?_)
local macro_rules | `(tactic| walk_at "rs") => `(tactic| repeat (walk_at "rs1"))

section
variable {P : Program} {w : World} {K : PySem.W.Frag} {mg : Str → Option Value} {base : Heap} {a : Ad}
theorem paired_in {α : Type} {F : Key × V → α → Prop} {f : α → Int} (hf : ∀ e x, F e x → e.1 = Sum.inl (f x)) {n : Int} : ∀ {kvs : List (Key × V)} {l : List α}, Paired F kvs l → (valV kvs (Sum.inl n)).isSome = decide (n ∈ l.map f)
  | _, _, .nil => rfl
  | _, _, .cons (a := e) (b := x) q r => by
    have ih := paired_in hf (n := n) r
    have e1 := hf _ _ q
    unfold valV at ih ⊢
    simp only [List.map_cons, List.find?_cons, List.mem_cons, e1]
    by_cases c : f x = n
    · simp [c]
    · have h1 : ¬ n = f x := fun q => c q.symm
      have : decide ((Sum.inl (f x) : Key) = Sum.inl n) = false := by simp [c]
      rw [this]
      simp only [h1, false_or]
      exact ih
theorem dat_eqv (w u : Wrd) : PyData.eqv w.dat u.dat = decide (w = u) := by
  cases w with | mk k n r h =>
  cases u with | mk k2 n2 r2 h2 =>
  rw [Bool.eq_iff_iff]
  simp [Wrd.dat, PyData.eqv, PyData.eqvAll]
theorem ok_House__name (T : Txt K mg a) : FnOk P w K mg base CX0 2 a.House__name a.d_House__name ["self", "word"] (spTells a.House HS.name HS.nameT fun st u => u ∈ st.known ∧ st.size ≤ 19990) := by
  have G_place := ok_place (P := P) (w := w) (base := base) T
  refine T.F_House__name.ok sc_House__name (fun vs H Q E h => ?_) (fun cdv A outer s H vs Q E hr h => ?_)
  · obtain ⟨h, st, x, u, M, rfl, _⟩ := h
    rfl
  · obtain ⟨h, st, x, u, M, rfl, S, ⟨b, rfl, hb⟩, fit, ⟨kn, sz⟩, k⟩ := h
    obtain ⟨⟨dx, hp⟩, pkn, pea, pma, pms, pro, pba, pnm, nd, go⟩ := id S.at_
    obtain ⟨n1, n2, n3, n4, n5, n6, n7, n8, n9⟩ := HA.nes nd
    simp only [List.mem_cons, List.not_mem_nil, or_false, not_or] at n1 n2 n3 n4 n5 n6
    have hb' := LH.fr_le _ _ hb
    have bM := (LH.fr_some hb).2
    have sm := S.kl
    obtain ⟨fk, fp, ff⟩ := first_mem kn
    obtain ⟨kve, ge, le, ie⟩ := id pea
    obtain ⟨y, hy, ⟨c, rfl, hc⟩⟩ := (ie u.pl).2 _ ff
    have hc' := LH.fr_le _ _ hc
    obtain ⟨kvn, gn, pn⟩ := id pnm
    have ln := LH.Paired.len pn
    have HR_place : Room 1 _ := hr.mono (by decide)
    refine ⟨_, (pss_cons (ps_set (i := 2) sc_House__name.nd rfl (Or.inl rfl) (pe_ix (r := rIxT K) ix_tup (pv 1) pe_int (fun _ _ => rfl)))
  (pss_cons (ps_set (i := 3) sc_House__name.nd rfl (Or.inl rfl) (pe_dget (hu_of hr) (pe_fld (pv 0) rfl) (pe_call G_place HR_place rfl T.g_place T.F_place.kp T.b_place .nil pass0 (pa_cons (pv 1) pa_nil)) (fun _ _ => rfl)))
  (pss_cons (ps_if (PW.pt (pw_or (pt_cmpR (r := rEqD K) (op_eqD hr.units) (pv 3) (pv 1) (nomark _)) (pw_or1 (pt_cmp (pc_din (hu_of hr) (pv 2) (pe_fld (pv 0) rfl))))))
    (pss_one (ps_ret (pe_lst pa_nil)))
    pss_nil)
  (pss_cons (ps_dput (hu_of hr) (pe_fld (pv 0) rfl) (pv 2) (pe_tup (pa_cons (pv 2) (pa_cons (pv 3) (pa_cons (pv 1) pa_nil)))) rfl)
  (pss_one (ps_ret (pe_lst (pa_cons (pv 3) (pa_cons (pv 1) pa_nil))))))))), ?_⟩
    walk_at "rd"
    refine LH.x_ixT (SqT.of hb') rfl ?_
    walk_at "rd"
    refine LH.fldv hp T.cl_House T.na_House__earliest rfl ?_
    walk_at "rd"
    refine ⟨b, u.k, u.n, u.r, u.h, rfl, SqT.of hb', fun q H1 e1 g1 => ?_⟩
    refine LH.getv (LH.getT (k := u.pl) (e1 _ _ ge) g1) hy ?_
    walk_at "rd"
    have no : st.names u = false → ∀ r (H1 : Hp), H r = none → Same H H1 → H1 r = some (.lst []) → Q (.ref r) H1 := fun e r H1 fr e1 g => by
      refine k H1 [] h r [] ?_ fr (by simp) g ?_
      · have : st.name u = st := by unfold HS.name; rw [if_neg (by rw [e]; exact Bool.false_ne_true)]
        rw [this]
        exact Nxt.refl S.at_ e1
      · have : st.nameT u = [] := by unfold HS.nameT; rw [if_neg (by rw [e]; exact Bool.false_ne_true)]
        rw [this]
        exact .nil
    have wf : WT H (.ref c) (st.first u) := ⟨c, rfl, hc'⟩
    have wu : WT H (.ref b) u := ⟨b, rfl, hb'⟩
    refine LH.x_eqD (wf.up e1).dp (wu.up e1).dp (Wrd.lay (go.wd _ fk).1).shaped (Wrd.lay fit.1).shaped ?_
    rw [dat_eqv]
    walk_at "rd"
    by_cases c1 : st.first u = u
    · rw [decide_eq_true c1]
      walk_at "rd"
      refine LH.newl (LH.small rfl) fun r H2 f2 e2 g2 => ?_
      exact no (by unfold HS.names; rw [decide_eq_true c1]; rfl) r H2 (LH.Same.none e1 f2) (e1.trans e2) g2
    · rw [decide_eq_false c1]
      walk_at "rd"
      refine LH.fldv (e1 _ _ hp) T.cl_House T.na_House__named rfl ?_
      refine LH.inv (LH.getI (e1 _ _ gn)) ?_
      rw [paired_in (f := fun z : Int × Wrd × Wrd => z.1) (fun _ _ q => q.1) pn]
      walk_at "rd"
      by_cases c2 : u.h ∈ st.named.map (·.1)
      · rw [decide_eq_true c2]
        walk_at "rd"
        refine LH.newl (LH.small rfl) fun r H2 f2 e2 g2 => ?_
        exact no (by unfold HS.names; rw [decide_eq_true c2, Bool.not_true, Bool.and_false]) r H2 (LH.Same.none e1 f2) (e1.trans e2) g2
      · rw [decide_eq_false c2]
        walk_at "rd"
        have yes : st.names u = true := by unfold HS.names; rw [decide_eq_false c1, decide_eq_false c2]; rfl
        refine LH.newt (LH.small rfl) fun t H2 f2 e2 g2 => ?_
        walk_at "rd"
        have e12 := e1.trans e2
        have tH : H t = none := LH.Same.none e1 f2
        have tM : t ∉ M := LH.not_in tH S.al
        refine LH.fldv (e12 _ _ hp) T.cl_House T.na_House__named rfl ?_
        walk_at "rd"
        refine LH.putvI (e12 _ _ gn) (by rw [ln]; have := S.nl; omega) fun H3 k3 g3 => ?_
        walk_at "rd"
        refine LH.newl (LH.small rfl) fun r H4 f4 e4 g4 => ?_
        have keep3 : ∀ y o, H y = some o → y ≠ h.nm → H3 y = some o := fun y o q q1 => k3 _ _ (e12 _ _ q) q1
        have keep : ∀ y o, H y = some o → y ≠ h.nm → H4 y = some o := fun y o q q1 => e4 _ _ (keep3 y o q q1)
        have ks : LH.Ks h.S H H4 := fun y o q n => keep y o q (fun e => n (e ▸ inS8 _ (by simp)))
        have fM : Same (LH.Fr M H) (LH.Fr ([] ++ M) H4) := (ks.sub S.sub).fr
        have rH : H r = none := by
          cases q : H r with
          | none => rfl
          | some o =>
            exfalso
            by_cases c3 : r = h.nm
            · rw [c3, g3] at f4
              cases f4
            · rw [keep3 _ _ q c3] at f4
              cases f4
        have tnm : t ≠ h.nm := fun q => tM (q ▸ S.sub _ (inS8 _ (by simp)))
        have g2' : H4 t = some (.tup [.int u.h, .ref c, .ref b]) := e4 _ _ (k3 _ _ g2 tnm)
        have wf4 : WT (LH.Fr ([] ++ M) H4) (.ref c) (st.first u) := ⟨c, rfl, fM _ _ hc⟩
        have wu4 : WT (LH.Fr ([] ++ M) H4) (.ref b) u := ⟨b, rfl, fM _ _ hb⟩
        have ew : st.name u = { st with named := st.named ++ [(u.h, st.first u, u)] } := by unfold HS.name; rw [if_pos yes]
        have et : st.nameT u = [st.first u, u] := by unfold HS.nameT; rw [if_pos yes]
        have gow : Good (st.name u) := go.name kn
        refine k H4 [] h r _ ⟨ks, (fun _ m => by cases m), (fun _ m => by cases m), rfl, fun y q => .inl q, fun y q => q, ?_⟩ rH (by simp) g4 (by rw [et]; exact .cons wf4 (.cons wu4 .nil))
        rw [ew] at gow ⊢
        refine ⟨⟨dx, keep _ _ hp n1.2.2.2.2.2.2⟩, pkn.to fun o q => keep _ o q n2.2.2.2.2.2, pea.to fM fun o q => keep _ o q n3.2.2.2.2, pma.to fun o q => keep _ o q n4.2.2.2, pms.to fM fun y o hy q => ?_, pro.to fun o q => keep _ o q n6.2, pba.to fM fun o q => keep _ o q n7, ?_, nd, gow⟩
        · rcases hy with rfl | hy
          · exact keep _ _ q n5.2.2
          · have := n8 _ hy
            simp only [List.mem_cons, List.not_mem_nil, or_false, not_or] at this
            exact keep _ _ q this.2.2.2.2.2.2.2
        · have nob : valV kvn (Sum.inl u.h) = none := by
            have := paired_in (f := fun z : Int × Wrd × Wrd => z.1) (fun _ _ q => q.1) (n := u.h) pn
            rw [decide_eq_false c2] at this
            cases q : valV kvn (Sum.inl u.h) with
            | none => rfl
            | some z => rw [q] at this; cases this
          refine ⟨_, e4 _ _ g3, ?_⟩
          rw [putK_new _ nob]
          exact LH.Paired.snoc (LH.Paired.imp (fun _ _ q => ⟨q.1, q.2.up fM⟩) pn) ⟨rfl, t, _, _, rfl, LH.fr_of g2' (by simpa using tM), wf4, wu4⟩
theorem Std.fresh {C : Addr} {M N : List Addr} {H H' : Hp} {h h' : HA} {st st' : HS} {r : Addr} (S : Std C M H h st) (n : Nxt C M H h st' H' N h') (f : H' r = none) : H r = none ∧ r ∉ N := by
  refine ⟨?_, fun m => ?_⟩
  · cases q : H r with
    | none => rfl
    | some o =>
      by_cases c : r ∈ h.S
      · obtain ⟨o2, q2⟩ := n.at_.alive r (n.sup r c)
        rw [f] at q2
        cases q2
      · rw [n.ks _ _ q c] at f
        cases f
  · obtain ⟨o, q⟩ := n.al r m
    rw [f] at q
    cases q
theorem Std.out {C : Addr} {M N : List Addr} {H H' : Hp} {h h' : HA} {st st' : HS} {r : Addr} (S : Std C M H h st) (n : Nxt C M H h st' H' N h') (f : H r = none) (o : r ∉ N) : r ∉ h'.S := fun m => by
  rcases n.sub r m with m | m
  · obtain ⟨u, q⟩ := S.at_.alive r m
    rw [f] at q
    cases q
  · exact o m
theorem Std.self {C : Addr} {M : List Addr} {H : Hp} {h h0 : HA} {st : HS} (S : Std C M H h st) (e : h.p = h0.p) : ∃ dx, H h0.p = some (.ins C dx (hf h st.c st.own st.due)) := e ▸ S.at_.ob
theorem fit_mark {st : HS} {u : Wrd} (f : Fit st u) : Fit (st.mark u) u := by
  unfold HS.mark
  split <;> exact f
theorem fit_write {st : HS} {u : Wrd} (f : Fit st u) : Fit (st.write u) u := by
  unfold HS.write
  split <;> exact f
/-- hearing: a list of words of its own -/
def spHears (C : Addr) : Sp := fun vs H Q _ => ∃ h st x u M, vs = [.ref (h : HA).p, x] ∧ Std C M H h st ∧ WT (LH.Fr M H) x u ∧ Fit st u ∧ st.size ≤ 19980 ∧
  ∀ H' N h' r xs, Nxt C M H h (st.hear u) H' N h' → H r = none → r ∉ N → H' r = some (.lst xs) → TW (LH.Fr (N ++ M) H') xs (st.hearT u) → HouseAt C (LH.Fr (r :: (N ++ M)) H') H' h' (st.hear u) → Q (.ref r) H'
theorem ok_House_hear (T : Txt K mg a) : FnOk P w K mg base CX0 6 a.House_hear a.d_House_hear ["self", "word"] (spHears a.House) := by
  have G_House__learn := ok_House__learn (P := P) (w := w) (base := base) T
  have G_House__mark := ok_House__mark (P := P) (w := w) (base := base) T
  have G_House__write := ok_House__write (P := P) (w := w) (base := base) T
  have G_House__name := ok_House__name (P := P) (w := w) (base := base) T
  refine T.F_House_hear.ok sc_House_hear (fun vs H Q E h => ?_) (fun cdv A outer s H vs Q E hr h => ?_)
  · obtain ⟨h, st, x, u, M, rfl, _⟩ := h
    rfl
  · obtain ⟨h, st, x, u, M, rfl, S, ⟨b, rfl, hb⟩, fit, sz, k⟩ := h
    obtain ⟨dx, hp⟩ := S.at_.ob
    have hb' := LH.fr_le _ _ hb
    obtain ⟨kvs, gk, lk, ik⟩ := S.at_.kn
    have HR_House__learn : Room 2 _ := hr.mono (by decide)
    have HR_House__mark : Room 3 _ := hr.mono (by decide)
    have HR_House__write : Room 5 _ := hr.mono (by decide)
    have HR_House__name : Room 2 _ := hr.mono (by decide)
    refine ⟨_, (pss_cons (ps_if (pt_cmp (pc_din (hu_of hr) (pv 1) (pe_fld (pv 0) rfl)))
    (pss_one (ps_ret (pe_lst pa_nil)))
    pss_nil)
  (pss_cons (ps_expr (pe_meth (pv 0) T.cl_House T.me_House__learn G_House__learn HR_House__learn T.b_House__learn .nil pass0 (pa_cons (pv 1) pa_nil)))
  (pss_cons (ps_set (i := 2) sc_House_hear.nd rfl (Or.inl rfl) (pe_meth (pv 0) T.cl_House T.me_House__mark G_House__mark HR_House__mark T.b_House__mark .nil pass0 (pa_cons (pv 1) pa_nil)))
  (pss_cons (ps_set (i := 3) sc_House_hear.nd rfl (Or.inl rfl) (pe_meth (pv 0) T.cl_House T.me_House__write G_House__write HR_House__write T.b_House__write .nil pass0 (pa_cons (pv 1) pa_nil)))
  (pss_cons (ps_set (i := 4) sc_House_hear.nd rfl (Or.inl rfl) (pe_meth (pv 0) T.cl_House T.me_House__name G_House__name HR_House__name T.b_House__name .nil pass0 (pa_cons (pv 1) pa_nil)))
  (pss_one (ps_ret (pe_op (r := LH.rCatS K) LH.op_catS (pe_op (r := LH.rCatS K) LH.op_catS (pv 2) (pv 3)) (pv 4))))))))), ?_⟩
    walk_at "rd"
    refine LH.fldv hp T.cl_House T.na_House__known rfl ?_
    refine LH.inv (LH.getT (k := ky u) gk hb') ?_
    have ein : (valV kvs (ky u)).isSome = decide (u ∈ st.known) := by
      by_cases c : u ∈ st.known
      · rw [decide_eq_true c]
        exact (ik _).mpr ⟨u, c, rfl⟩
      · rw [decide_eq_false c]
        cases q : (valV kvs (ky u)).isSome with
        | false => rfl
        | true =>
          obtain ⟨z, hz, e⟩ := (ik _).mp q
          exact absurd (ky_inj e ▸ hz) c
    rw [ein]
    walk_at "rd"
    by_cases c : u ∈ st.known
    · rw [decide_eq_true c]
      walk_at "rd"
      refine LH.newl (LH.small rfl) fun r H1 f1 e1 g1 => ?_
      have e2 : st.hear u = st := by unfold HS.hear; rw [if_pos c]
      have e3 : st.hearT u = [] := by unfold HS.hearT; rw [if_pos c]
      exact k H1 [] h r [] (by rw [e2]; exact Nxt.refl S.at_ e1) f1 (by simp) g1 (by rw [e3]; exact .nil) (by rw [e2]; exact S.at_.to (LH.fr_new f1 e1) fun b o _ q => e1 _ _ q)
    · rw [decide_eq_false c]
      walk_at "rd"
      refine LH.methv hp rfl ?_
      walk_at "rd"
      refine ⟨h, st, .ref b, u, M, rfl, S, ⟨b, rfl, hb⟩, fit, fun H1 N1 h1 n1 => ?_⟩
      walk_at "rd"
      have z1 := size_learn (st := st) (w := u)
      have S1 := S.next n1 (by omega)
      have fit1 : Fit (st.learn u) u := fit
      have f1 := n1.fr S.sub
      obtain ⟨dx1, hp1⟩ := S1.self n1.p
      refine LH.methv hp1 rfl ?_
      walk_at "rd"
      refine ⟨h1, st.learn u, .ref b, u, _, by rw [n1.p]; rfl, S1, ⟨b, rfl, f1 _ _ hb⟩, fit1, by omega, fun H2 N2 h2 r2 xs2 n2 fr2 rn2 g2 t2 => ?_⟩
      walk_at "rd"
      have z2 := size_mark (st := st.learn u) (w := u)
      have S2 := S1.next n2 (by omega)
      have fit2 : Fit ((st.learn u).mark u) u := fit_mark fit1
      have f2 := f1.trans (n2.fr S1.sub)
      have p2 : h2.p = h.p := n2.p.trans n1.p
      obtain ⟨dx2, hp2⟩ := S2.self p2
      refine LH.methv hp2 rfl ?_
      walk_at "rd"
      refine ⟨h2, (st.learn u).mark u, .ref b, u, _, by rw [p2]; rfl, S2, ⟨b, rfl, f2 _ _ hb⟩, fit2, by omega, fun H3 N3 h3 r3 xs3 n3 fr3 rn3 g3 t3 => ?_⟩
      walk_at "rd"
      have z3 := size_write (st := (st.learn u).mark u) (w := u)
      have S3 := S2.next n3 (by omega)
      have fit3 : Fit (((st.learn u).mark u).write u) u := fit_write fit2
      have f23 := n3.fr S2.sub
      have p3 : h3.p = h.p := n3.p.trans p2
      obtain ⟨dx3, hp3⟩ := S3.self p3
      refine LH.methv hp3 rfl ?_
      walk_at "rd"
      refine ⟨h3, ((st.learn u).mark u).write u, .ref b, u, _, by rw [p3]; rfl, S3, ⟨b, rfl, (f2.trans f23) _ _ hb⟩, fit3, ⟨by rw [write_known]; exact mark_known (mem_learn.mpr (.inr rfl)), by omega⟩, fun H4 N4 h4 r4 xs4 n4 fr4 rn4 g4 t4 => ?_⟩
      walk_at "rd"
      have f34 := n4.fr S3.sub
      have o2 := S1.out n2 fr2 rn2
      have g2' : H3 r2 = some (.lst xs2) := n3.ks _ _ g2 o2
      have o2' : r2 ∉ h3.S := fun m => by
        rcases n3.sub r2 m with m | m
        · exact o2 m
        · rw [n3.nw r2 m] at g2
          cases g2
      have g2'' : H4 r2 = some (.lst xs2) := n4.ks _ _ g2' o2'
      have g3' : H4 r3 = some (.lst xs3) := n4.ks _ _ g3 (S2.out n3 fr3 rn3)
      have l2 : xs2.length ≤ 1 := by
        rw [LH.Paired.len t2]
        unfold HS.markT
        split <;> simp
      have l3 : xs3.length ≤ 12 := by
        rw [LH.Paired.len t3]
        unfold HS.backT
        split
        · refine Nat.le_trans (?_ : _ ≤ ((List.range st.c.toNat).length)) (by rw [List.length_range]; have := S.at_.go.c2; omega)
          have e : ((st.learn u).mark u).c = st.c := by unfold HS.mark; split <;> rfl
          rw [e]
          exact List.length_filterMap_le _ _
        · simp
      have l4 : xs4.length ≤ 2 := by
        rw [LH.Paired.len t4]
        unfold HS.nameT
        split <;> simp
      refine LH.x_catS (.of g2'') (.of g3') (by omega) fun r5 H5 f5 e5 g5 => ?_
      walk_at "rd"
      refine LH.x_catS (.of g5) (.of (e5 _ _ g4)) (by rw [List.length_append]; omega) fun r6 H6 f6 e6 g6 => ?_
      have n := Nxt.comp S.sub n1 (Nxt.comp S1.sub n2 (Nxt.comp S2.sub n3 n4 S2.al) S1.al) S.al
      have n' := n.same (e5.trans e6)
      have eh : st.hear u = (((st.learn u).mark u).write u).name u := by unfold HS.hear; rw [if_neg c]
      have et : st.hearT u = (st.learn u).markT u ++ ((st.learn u).mark u).backT u ++ (((st.learn u).mark u).write u).nameT u := by unfold HS.hearT; rw [if_neg c]
      obtain ⟨q1, q2⟩ := S.fresh n (LH.Same.none e5 f6)
      refine k H6 _ h4 r6 _ (by rw [eh]; exact n') q1 q2 g6 ?_ (by rw [eh]; exact n.at_.to (LH.fr_new (LH.Same.none e5 f6) (e5.trans e6)) fun b o _ q => (e5.trans e6) _ _ q)
      rw [et]
      have e56 : Same (LH.Fr (N4 ++ (N3 ++ (N2 ++ (N1 ++ M)))) H4) (LH.Fr (N4 ++ N3 ++ N2 ++ N1 ++ M) H6) := by
        simp only [List.append_assoc]
        exact LH.same_fr (e5.trans e6)
      exact ((t2.up ((f23.trans f34).trans e56)).app (t3.up (f34.trans e56))).app (t4.up e56)
end
end KB
namespace KB
open PySem L2 LM HM
local macro_rules | `(tactic| walk_at "rd1") => `(tactic| first
  | with_reducible refine LH.x_seq ?_
  | with_reducible refine LH.x_asg ?_
  | with_reducible refine LH.x_cons ?_
  | with_reducible refine LH.x_var (by with_unfolding_all exact rfl) ?_
  | with_reducible refine LH.x_c ?_
  | with_reducible refine LH.x_op ?_
  | with_reducible refine LH.x_gname ?_
  | with_reducible refine LH.x_nil ?_
  | with_reducible refine LH.x_I0 ?_
  | ((with_reducible refine LH.x_I ?k1 ?_); (case k1 => first | exact (by decide) | exact ⟨by decide, by decide⟩ | exact ⟨by decide, by decide, by decide⟩ | exact .inl ⟨by decide, by decide⟩ | exact .inr ⟨by decide, by decide⟩ | exact .inr ⟨by omega, by omega⟩ | exact .inl ⟨by omega, by omega⟩ | exact (by omega)))
  | with_reducible refine LH.x_ifS ?_
  | with_reducible refine LH.x_test ?_
  | with_reducible refine LH.x_tB ?_
  | with_reducible refine LH.bx ?_
  | with_reducible refine LH.x_and ?_
  | with_reducible refine LH.x_or ?_
  | with_reducible refine LH.x_not ?_
  | with_reducible refine LH.x_ret ?_
  | with_reducible refine LH.x_call ?_
  | with_reducible refine LH.x_cb ?_
  | with_reducible refine LH.x_lst ?_
  | with_reducible refine LH.x_tup ?_
  | with_reducible refine LH.x_bm ?_
  | with_reducible refine LH.x_drop ?_
  | with_reducible refine LH.x_next ?_
  | with_reducible refine LH.x_cont ?_
  | with_reducible refine LH.x_un ?_
  | with_reducible refine LH.x_U ?_
  | with_reducible refine LH.x_eq (by with_unfolding_all exact rfl) ?_
  | with_reducible refine LH.x_ne (by with_unfolding_all exact rfl) ?_
  | with_reducible refine LH.x_andV ?_
  | with_reducible refine LH.x_orV ?_
  | with_reducible refine LH.x_notV ?_
  | with_reducible refine LH.band ?_
  | with_reducible refine LH.bor ?_
  | with_reducible refine LH.x_if ?_
  | with_reducible refine LH.x_chain ?_
  | with_reducible refine LH.chk ?_
  | with_reducible refine LH.x_callS ?_
  | with_reducible refine LH.x_callE ?_
  | with_reducible refine LH.x_callV ?_
  | with_reducible refine LH.x_lrg ?_
  | with_reducible refine LH.x_lcS ?_
  | with_reducible refine LH.x_lcR1 ?_
  | with_reducible refine LH.x_forR1 ?_
  | with_reducible refine LH.x_forR3 ?_
  | with_reducible refine LH.strv ?_
  | with_reducible refine LH.x_yes ?_
  | with_reducible refine LH.x_sl ?_
  | with_reducible refine LH.x_noPart ?_
  | with_reducible refine LH.x_part ?_
  | with_reducible refine LH.pav ?_
  | with_reducible refine LH.x_jnv ?_
  | with_reducible refine LH.x_join ?_
  | with_reducible refine LH.x_inS ?_
  | with_reducible refine LH.x_niS ?_
  | with_reducible refine LH.x_isB ?_
  | with_reducible refine LH.x_isnB ?_
  | with_reducible refine LH.x_gcons ?_
  | with_reducible refine LH.x_gnil ?_
  | with_reducible refine LH.x_intB ?_
  | with_reducible refine LH.x_orT ?_
  | with_reducible refine LH.x_isTy ?_
  | with_reducible refine LH.x_niTy ?_
  | with_reducible refine LH.x_split ?_
  | with_reducible refine LH.x_spv ?_
  | with_reducible refine LH.x_gsub ?_
  | with_reducible refine LH.x_fmt ?_
  | with_reducible refine LH.x_js0 ?_
  | with_reducible refine LH.x_js ?_
  | with_reducible refine LH.x_rg1 ?_
  | with_reducible refine LH.x_forL ?_
  | with_reducible refine LH.x_abs ?_
  | with_reducible refine LH.x_rg2 ?_
  | with_reducible refine LH.rg1v ?_
  | with_reducible refine LH.rg2v ?_
  | with_reducible refine LH.x_forR2 ?_
  | with_reducible refine LH.x_lenSetG ?_
  | with_reducible refine LH.x_lc ?_
  | with_reducible refine LH.x_fld ?_
  | with_reducible refine LH.x_sfld ?_
  | with_reducible refine LH.x_afld ?_
  | with_reducible refine LH.x_meth ?_
  | with_reducible refine LH.x_make ?_
  | with_reducible refine LH.x_methSl ?_
  | with_reducible refine LH.x_makeSl ?_
  | with_reducible refine LH.x_din ?_
  | with_reducible refine LH.x_dni ?_
  | with_reducible refine LH.x_dget ?_
  | with_reducible refine LH.x_dput ?_
  | with_reducible refine LH.x_dget2 ?_
  | with_reducible refine LH.x_dpop1 ?_
  | with_reducible refine LH.x_litems ?_
  | with_reducible refine LH.x_tru ?_
  | with_reducible refine LH.x_revL ?_
  | with_reducible refine LH.x_dsetT ?_
  | with_reducible refine LH.x_lvals ?_
  | with_reducible refine LH.br_nt ?_
  | with_reducible refine LH.br_nf ?_
  | with_reducible refine LH.br_t ?_
  | with_reducible refine LH.br_f ?_)
local macro_rules | `(tactic| walk_at "rd") => `(tactic| repeat (walk_at "rd1"))
local macro_rules | `(tactic| walk_at "rs1") => `(tactic| first
  | with_reducible refine LH.x_seq ?_
  | with_reducible refine LH.x_cons ?_
  | with_reducible refine LH.x_var (by with_unfolding_all exact rfl) ?_
  | with_reducible refine LH.x_c ?_
  | with_reducible refine LH.x_op ?_
  | with_reducible refine LH.x_gname ?_
  | with_reducible refine LH.x_nil ?_
  | with_reducible refine LH.x_I0 ?_
  | ((with_reducible refine LH.x_I ?k1 ?_); (case k1 => first | exact (by decide) | exact ⟨by decide, by decide⟩ | exact ⟨by decide, by decide, by decide⟩ | exact .inl ⟨by decide, by decide⟩ | exact .inr ⟨by decide, by decide⟩ | exact .inr ⟨by omega, by omega⟩ | exact .inl ⟨by omega, by omega⟩ | exact (by omega)))
  | with_reducible refine LH.x_test ?_
  | with_reducible refine LH.x_tB ?_
  | with_reducible refine LH.bx ?_
  | with_reducible refine LH.x_and ?_
  | with_reducible refine LH.x_or ?_
  | with_reducible refine LH.x_not ?_
  | with_reducible refine LH.x_call ?_
  | with_reducible refine LH.x_cb ?_
  | with_reducible refine LH.x_lst ?_
  | with_reducible refine LH.x_tup ?_
  | with_reducible refine LH.x_bm ?_
  | with_reducible refine LH.x_next ?_
  | with_reducible refine LH.x_cont ?_
  | with_reducible refine LH.x_un ?_
  | with_reducible refine LH.x_U ?_
  | with_reducible refine LH.x_eq (by with_unfolding_all exact rfl) ?_
  | with_reducible refine LH.x_ne (by with_unfolding_all exact rfl) ?_
  | with_reducible refine LH.x_andV ?_
  | with_reducible refine LH.x_orV ?_
  | with_reducible refine LH.x_notV ?_
  | with_reducible refine LH.band ?_
  | with_reducible refine LH.bor ?_
  | with_reducible refine LH.x_if ?_
  | with_reducible refine LH.x_chain ?_
  | with_reducible refine LH.chk ?_
  | with_reducible refine LH.x_callS ?_
  | with_reducible refine LH.x_callE ?_
  | with_reducible refine LH.x_callV ?_
  | with_reducible refine LH.x_lrg ?_
  | with_reducible refine LH.x_lcS ?_
  | with_reducible refine LH.x_lcR1 ?_
  | with_reducible refine LH.strv ?_
  | with_reducible refine LH.x_yes ?_
  | with_reducible refine LH.x_sl ?_
  | with_reducible refine LH.x_noPart ?_
  | with_reducible refine LH.x_part ?_
  | with_reducible refine LH.pav ?_
  | with_reducible refine LH.x_jnv ?_
  | with_reducible refine LH.x_join ?_
  | with_reducible refine LH.x_inS ?_
  | with_reducible refine LH.x_niS ?_
  | with_reducible refine LH.x_isB ?_
  | with_reducible refine LH.x_isnB ?_
  | with_reducible refine LH.x_gcons ?_
  | with_reducible refine LH.x_gnil ?_
  | with_reducible refine LH.x_intB ?_
  | with_reducible refine LH.x_orT ?_
  | with_reducible refine LH.x_isTy ?_
  | with_reducible refine LH.x_niTy ?_
  | with_reducible refine LH.x_split ?_
  | with_reducible refine LH.x_spv ?_
  | with_reducible refine LH.x_gsub ?_
  | with_reducible refine LH.x_fmt ?_
  | with_reducible refine LH.x_js0 ?_
  | with_reducible refine LH.x_js ?_
  | with_reducible refine LH.x_rg1 ?_
  | with_reducible refine LH.x_abs ?_
  | with_reducible refine LH.x_rg2 ?_
  | with_reducible refine LH.rg1v ?_
  | with_reducible refine LH.rg2v ?_
  | with_reducible refine LH.x_lenSetG ?_
  | with_reducible refine LH.x_lc ?_
  | with_reducible refine LH.x_fld ?_
  | with_reducible refine LH.x_sfld ?_
  | with_reducible refine LH.x_afld ?_
  | with_reducible refine LH.x_meth ?_
  | with_reducible refine LH.x_make ?_
  | with_reducible refine LH.x_methSl ?_
  | with_reducible refine LH.x_makeSl ?_
  | with_reducible refine LH.x_din ?_
  | with_reducible refine LH.x_dni ?_
  | with_reducible refine LH.x_dget ?_
  | with_reducible refine LH.x_dput ?_
  | with_reducible refine LH.x_dget2 ?_
  | with_reducible refine LH.x_dpop1 ?_
  | with_reducible refine LH.x_litems ?_
  | with_reducible refine LH.x_tru ?_
  | with_reducible refine LH.x_revL ?_
  | with_reducible refine LH.x_dsetT ?_
  | with_reducible refine LH.x_lvals ?_
  | with_reducible refine LH.br_nt ?_
  | with_reducible refine LH.br_nf ?_
  | with_reducible refine LH.br_t ?_
  | with_reducible refine LH.br_f ?_)
local macro_rules | `(tactic| walk_at "rs") => `(tactic| repeat (walk_at "rs1"))

section
variable {P : Program} {w : World} {K : PySem.W.Frag} {mg : Str → Option Value} {base : Heap} {a : Ad}
def spHInit (K : PySem.W.Frag) (C BC BH : Addr) : Sp := fun vs H Q E => ∃ p dx x y T1 T2, vs = [.ref p, x, y] ∧ H p = some (.ins C dx []) ∧ TyB K H x T1 ∧ TyB K H y T2 ∧
  (isW x 1 12 = false → E (.ref BC) none H) ∧ (∀ c, x = .int c → isW x 1 12 = true → isW y 0 (c - 1) = false → E (.ref BH) none H) ∧
  ∀ c o, x = .int c → y = .int o → 1 ≤ c → c ≤ 12 → 0 ≤ o → o < c → ∀ (h : HA) H', h.p = p → (∀ b ∈ h.S, b ≠ p → H b = none) → LH.Ks [p] H H' → (∀ F, HouseAt C F H' h (HS.new c o)) → Q .non H'
theorem ok_House___init__ (T : Txt K mg a) : FnOk P w K mg base (L2N.CX P w) 3 a.House___init__ a.d_House___init__ ["self", "count", "own"] (spHInit K a.House a.BadCount a.BadHouse) := by
  have G_check_count := ok_check_count (P := P) (w := w) (base := base) T
  have G_is_house := ok_is_house (P := P) (w := w) (base := base) T
  refine LH.okN T.F_House___init__ sc_House___init__ (fun vs H Q E h => ?_) (fun cdv A outer s H vs Q E hr h => ?_)
  · obtain ⟨p, dx, x, y, T1, T2, rfl, _⟩ := h
    rfl
  · obtain ⟨p, dx, x, y, T1, T2, rfl, hp, t1, t2, b1, b2, k⟩ := h
    have HR_check_count : Room 2 _ := hr.mono (by decide)
    have HR_is_house : Room 2 _ := hr.mono (by decide)
    refine ⟨_, (pss_cons (ps_expr (pe_call (E := E) G_check_count HR_check_count rfl T.g_check_count T.F_check_count.kp T.b_check_count .nil (L2N.passes_call (LH.tkN (E := E)) fun _ _ _ _ z => z) (pa_cons (pv 1) pa_nil)))
  (pss_cons (ps_if (pt_not (pt_val (pe_call G_is_house HR_is_house rfl T.g_is_house T.F_is_house.kp T.b_is_house .nil pass0 (pa_cons (pv 1) (pa_cons (pv 2) pa_nil)))))
    (pss_one (L2N.ps_raise rfl (LH.tkN (E := E)) (LH.pmkN PySem.F.excBase_ValueError T.x_BadHouse T.g_BadHouse T.k_BadHouse (raises_own T.bx_BadHouse T.t_BadHouse) rfl (pa_cons pe_str pa_nil))))
    pss_nil)
  (pss_cons (ps_fld (pv 0) (pv 1) rfl)
  (pss_cons (ps_fld (pv 0) (pv 2) rfl)
  (pss_cons (ps_fld (pv 0) (pv 2) rfl)
  (pss_cons (ps_fld (pv 0) pe_dnewT rfl)
  (pss_cons (ps_fld (pv 0) pe_dnewT rfl)
  (pss_cons (ps_fld (pv 0) pe_dnewK rfl)
  (pss_cons (ps_fld (pv 0) pe_dnewT rfl)
  (pss_cons (ps_fld (pv 0) pe_dnewK rfl)
  (pss_cons (ps_fld (pv 0) pe_dnewK rfl)
  (pss_one (ps_fld (pv 0) pe_dnewK rfl))))))))))))), ?_⟩
    walk_at "rd"
    refine ⟨x, T1, rfl, t1, fun e1 => ?_, fun e1 => b1 e1⟩
    obtain ⟨c, rfl, c1, c2⟩ := isW_int e1
    walk_at "rd"
    refine ⟨c, y, T2, rfl, t2, ?_⟩
    walk_at "rd"
    cases e2 : isW y 0 (c - 1) with
    | false =>
      refine LH.br_nf ?_
      walk_at "rd"
      exact ⟨by show 1 ≤ sizeLine; decide, b2 c rfl e1 e2⟩
    | true =>
    obtain ⟨w0, rfl, o1, o2⟩ := isW_int e2
    refine LH.br_nt ?_
    walk_at "rd"
    refine LH.sfldv hp T.cl_House T.na_House__count (by show 0 < 1000; decide) fun H1 k1 g1 => ?_
    walk_at "rd"
    refine LH.sfldv (fs := [("_count", .int c)]) g1 T.cl_House T.na_House__own (by show 1 < 1000; decide) fun H2 k2 g2 => ?_
    walk_at "rd"
    refine LH.sfldv (fs := [("_count", .int c), ("_own", .int w0)]) g2 T.cl_House T.na_House__due (by show 2 < 1000; decide) fun H3 k3 g3 => ?_
    walk_at "rd"
    have c3 : ∀ y o, y ≠ p → H y = some o → H3 y = some o := fun y o n q => k3 _ _ (k2 _ _ (k1 _ _ q n) n) n
    refine LH.x_dnewT fun kn A0 fa0 ea0 ga0 => ?_
    walk_at "rd"
    refine LH.sfldv (fs := [("_count", .int c), ("_own", .int w0), ("_due", .int w0)]) (ea0 _ _ g3) T.cl_House T.na_House__known (by show 3 < 1000; decide) fun B0 kb0 gb0 => ?_
    walk_at "rd"
    have np0 : kn ≠ p := fun q => by rw [q, g3] at fa0; cases fa0
    have st0 : ∀ y o, y ≠ p → H3 y = some o → B0 y = some o := fun y o n q => kb0 _ _ (ea0 _ _ q) n
    have d0_0 : B0 kn = some (.dT []) := kb0 _ _ ga0 np0
    have fr0 : H kn = none := by
      cases q : H kn with
      | none => rfl
      | some o => rw [c3 _ _ np0 q] at fa0; cases fa0
    have cc0 : ∀ y o, y ≠ p → H y = some o → B0 y = some o := fun y o n q => st0 _ _ n (c3 _ _ n q)
    refine LH.x_dnewT fun ea A1 fa1 ea1 ga1 => ?_
    walk_at "rd"
    refine LH.sfldv (fs := [("_count", .int c), ("_own", .int w0), ("_due", .int w0), ("_known", .ref kn)]) (ea1 _ _ gb0) T.cl_House T.na_House__earliest (by show 4 < 1000; decide) fun B1 kb1 gb1 => ?_
    walk_at "rd"
    have np1 : ea ≠ p := fun q => by rw [q, gb0] at fa1; cases fa1
    have st1 : ∀ y o, y ≠ p → B0 y = some o → B1 y = some o := fun y o n q => kb1 _ _ (ea1 _ _ q) n
    have d1_1 : B1 ea = some (.dT []) := kb1 _ _ ga1 np1
    have ne1_0 : ea ≠ kn := fun q => by rw [q, d0_0] at fa1; cases fa1
    have d0_1 : B1 kn = some (.dT []) := st1 _ _ np0 d0_0
    have fr1 : H ea = none := by
      cases q : H ea with
      | none => rfl
      | some o => rw [cc0 _ _ np1 q] at fa1; cases fa1
    have cc1 : ∀ y o, y ≠ p → H y = some o → B1 y = some o := fun y o n q => st1 _ _ n (cc0 _ _ n q)
    refine LH.x_dnew fun ma A2 fa2 ea2 ga2 => ?_
    walk_at "rd"
    refine LH.sfldv (fs := [("_count", .int c), ("_own", .int w0), ("_due", .int w0), ("_known", .ref kn), ("_earliest", .ref ea)]) (ea2 _ _ gb1) T.cl_House T.na_House__marked (by show 5 < 1000; decide) fun B2 kb2 gb2 => ?_
    walk_at "rd"
    have np2 : ma ≠ p := fun q => by rw [q, gb1] at fa2; cases fa2
    have st2 : ∀ y o, y ≠ p → B1 y = some o → B2 y = some o := fun y o n q => kb2 _ _ (ea2 _ _ q) n
    have d2_2 : B2 ma = some (.dK []) := kb2 _ _ ga2 np2
    have ne2_0 : ma ≠ kn := fun q => by rw [q, d0_1] at fa2; cases fa2
    have d0_2 : B2 kn = some (.dT []) := st2 _ _ np0 d0_1
    have ne2_1 : ma ≠ ea := fun q => by rw [q, d1_1] at fa2; cases fa2
    have d1_2 : B2 ea = some (.dT []) := st2 _ _ np1 d1_1
    have fr2 : H ma = none := by
      cases q : H ma with
      | none => rfl
      | some o => rw [cc1 _ _ np2 q] at fa2; cases fa2
    have cc2 : ∀ y o, y ≠ p → H y = some o → B2 y = some o := fun y o n q => st2 _ _ n (cc1 _ _ n q)
    refine LH.x_dnewT fun ms A3 fa3 ea3 ga3 => ?_
    walk_at "rd"
    refine LH.sfldv (fs := [("_count", .int c), ("_own", .int w0), ("_due", .int w0), ("_known", .ref kn), ("_earliest", .ref ea), ("_marked", .ref ma)]) (ea3 _ _ gb2) T.cl_House T.na_House__marks (by show 6 < 1000; decide) fun B3 kb3 gb3 => ?_
    walk_at "rd"
    have np3 : ms ≠ p := fun q => by rw [q, gb2] at fa3; cases fa3
    have st3 : ∀ y o, y ≠ p → B2 y = some o → B3 y = some o := fun y o n q => kb3 _ _ (ea3 _ _ q) n
    have d3_3 : B3 ms = some (.dT []) := kb3 _ _ ga3 np3
    have ne3_0 : ms ≠ kn := fun q => by rw [q, d0_2] at fa3; cases fa3
    have d0_3 : B3 kn = some (.dT []) := st3 _ _ np0 d0_2
    have ne3_1 : ms ≠ ea := fun q => by rw [q, d1_2] at fa3; cases fa3
    have d1_3 : B3 ea = some (.dT []) := st3 _ _ np1 d1_2
    have ne3_2 : ms ≠ ma := fun q => by rw [q, d2_2] at fa3; cases fa3
    have d2_3 : B3 ma = some (.dK []) := st3 _ _ np2 d2_2
    have fr3 : H ms = none := by
      cases q : H ms with
      | none => rfl
      | some o => rw [cc2 _ _ np3 q] at fa3; cases fa3
    have cc3 : ∀ y o, y ≠ p → H y = some o → B3 y = some o := fun y o n q => st3 _ _ n (cc2 _ _ n q)
    refine LH.x_dnew fun ro A4 fa4 ea4 ga4 => ?_
    walk_at "rd"
    refine LH.sfldv (fs := [("_count", .int c), ("_own", .int w0), ("_due", .int w0), ("_known", .ref kn), ("_earliest", .ref ea), ("_marked", .ref ma), ("_marks", .ref ms)]) (ea4 _ _ gb3) T.cl_House T.na_House__rows (by show 7 < 1000; decide) fun B4 kb4 gb4 => ?_
    walk_at "rd"
    have np4 : ro ≠ p := fun q => by rw [q, gb3] at fa4; cases fa4
    have st4 : ∀ y o, y ≠ p → B3 y = some o → B4 y = some o := fun y o n q => kb4 _ _ (ea4 _ _ q) n
    have d4_4 : B4 ro = some (.dK []) := kb4 _ _ ga4 np4
    have ne4_0 : ro ≠ kn := fun q => by rw [q, d0_3] at fa4; cases fa4
    have d0_4 : B4 kn = some (.dT []) := st4 _ _ np0 d0_3
    have ne4_1 : ro ≠ ea := fun q => by rw [q, d1_3] at fa4; cases fa4
    have d1_4 : B4 ea = some (.dT []) := st4 _ _ np1 d1_3
    have ne4_2 : ro ≠ ma := fun q => by rw [q, d2_3] at fa4; cases fa4
    have d2_4 : B4 ma = some (.dK []) := st4 _ _ np2 d2_3
    have ne4_3 : ro ≠ ms := fun q => by rw [q, d3_3] at fa4; cases fa4
    have d3_4 : B4 ms = some (.dT []) := st4 _ _ np3 d3_3
    have fr4 : H ro = none := by
      cases q : H ro with
      | none => rfl
      | some o => rw [cc3 _ _ np4 q] at fa4; cases fa4
    have cc4 : ∀ y o, y ≠ p → H y = some o → B4 y = some o := fun y o n q => st4 _ _ n (cc3 _ _ n q)
    refine LH.x_dnew fun ba A5 fa5 ea5 ga5 => ?_
    walk_at "rd"
    refine LH.sfldv (fs := [("_count", .int c), ("_own", .int w0), ("_due", .int w0), ("_known", .ref kn), ("_earliest", .ref ea), ("_marked", .ref ma), ("_marks", .ref ms), ("_rows", .ref ro)]) (ea5 _ _ gb4) T.cl_House T.na_House__backings (by show 8 < 1000; decide) fun B5 kb5 gb5 => ?_
    walk_at "rd"
    have np5 : ba ≠ p := fun q => by rw [q, gb4] at fa5; cases fa5
    have st5 : ∀ y o, y ≠ p → B4 y = some o → B5 y = some o := fun y o n q => kb5 _ _ (ea5 _ _ q) n
    have d5_5 : B5 ba = some (.dK []) := kb5 _ _ ga5 np5
    have ne5_0 : ba ≠ kn := fun q => by rw [q, d0_4] at fa5; cases fa5
    have d0_5 : B5 kn = some (.dT []) := st5 _ _ np0 d0_4
    have ne5_1 : ba ≠ ea := fun q => by rw [q, d1_4] at fa5; cases fa5
    have d1_5 : B5 ea = some (.dT []) := st5 _ _ np1 d1_4
    have ne5_2 : ba ≠ ma := fun q => by rw [q, d2_4] at fa5; cases fa5
    have d2_5 : B5 ma = some (.dK []) := st5 _ _ np2 d2_4
    have ne5_3 : ba ≠ ms := fun q => by rw [q, d3_4] at fa5; cases fa5
    have d3_5 : B5 ms = some (.dT []) := st5 _ _ np3 d3_4
    have ne5_4 : ba ≠ ro := fun q => by rw [q, d4_4] at fa5; cases fa5
    have d4_5 : B5 ro = some (.dK []) := st5 _ _ np4 d4_4
    have fr5 : H ba = none := by
      cases q : H ba with
      | none => rfl
      | some o => rw [cc4 _ _ np5 q] at fa5; cases fa5
    have cc5 : ∀ y o, y ≠ p → H y = some o → B5 y = some o := fun y o n q => st5 _ _ n (cc4 _ _ n q)
    refine LH.x_dnew fun nm A6 fa6 ea6 ga6 => ?_
    walk_at "rd"
    refine LH.sfldv (fs := [("_count", .int c), ("_own", .int w0), ("_due", .int w0), ("_known", .ref kn), ("_earliest", .ref ea), ("_marked", .ref ma), ("_marks", .ref ms), ("_rows", .ref ro), ("_backings", .ref ba)]) (ea6 _ _ gb5) T.cl_House T.na_House__named (by show 9 < 1000; decide) fun B6 kb6 gb6 => ?_
    walk_at "rd"
    have np6 : nm ≠ p := fun q => by rw [q, gb5] at fa6; cases fa6
    have st6 : ∀ y o, y ≠ p → B5 y = some o → B6 y = some o := fun y o n q => kb6 _ _ (ea6 _ _ q) n
    have d6_6 : B6 nm = some (.dK []) := kb6 _ _ ga6 np6
    have ne6_0 : nm ≠ kn := fun q => by rw [q, d0_5] at fa6; cases fa6
    have d0_6 : B6 kn = some (.dT []) := st6 _ _ np0 d0_5
    have ne6_1 : nm ≠ ea := fun q => by rw [q, d1_5] at fa6; cases fa6
    have d1_6 : B6 ea = some (.dT []) := st6 _ _ np1 d1_5
    have ne6_2 : nm ≠ ma := fun q => by rw [q, d2_5] at fa6; cases fa6
    have d2_6 : B6 ma = some (.dK []) := st6 _ _ np2 d2_5
    have ne6_3 : nm ≠ ms := fun q => by rw [q, d3_5] at fa6; cases fa6
    have d3_6 : B6 ms = some (.dT []) := st6 _ _ np3 d3_5
    have ne6_4 : nm ≠ ro := fun q => by rw [q, d4_5] at fa6; cases fa6
    have d4_6 : B6 ro = some (.dK []) := st6 _ _ np4 d4_5
    have ne6_5 : nm ≠ ba := fun q => by rw [q, d5_5] at fa6; cases fa6
    have d5_6 : B6 ba = some (.dK []) := st6 _ _ np5 d5_5
    have fr6 : H nm = none := by
      cases q : H nm with
      | none => rfl
      | some o => rw [cc5 _ _ np6 q] at fa6; cases fa6
    have cc6 : ∀ y o, y ≠ p → H y = some o → B6 y = some o := fun y o n q => st6 _ _ n (cc5 _ _ n q)
    refine k c w0 rfl rfl c1 c2 o1 (by omega) ⟨p, kn, ea, ma, ms, ro, ba, nm, []⟩ B6 rfl (fun b hb nb => ?_) (fun b o q n => ?_) fun F => ?_
    · unfold HA.S at hb
      simp only [List.mem_cons, List.map_nil, List.not_mem_nil, or_false] at hb
      rcases hb with rfl | rfl | rfl | rfl | rfl | rfl | rfl | rfl
      · exact absurd rfl nb
      all_goals assumption
    · exact cc6 _ _ (by simpa using n) q
    · refine ⟨⟨dx, gb6⟩, ⟨[], d0_6, Nat.le_refl _, fun j => ⟨(fun q => nomatch q), fun ⟨w, hw, _⟩ => nomatch hw⟩⟩, ⟨[], d1_6, Nat.le_refl _, fun j => ⟨fun _ => rfl, fun w q => nomatch q⟩⟩, ⟨[], d2_6, Nat.le_refl _, fun j => ⟨(fun q => nomatch q), fun q => nomatch q⟩⟩,
        ⟨d3_6, List.nodup_nil, (fun e he => nomatch he), fun j => ⟨fun q => absurd rfl q, fun q => nomatch q⟩⟩, d4_6, ⟨[], d5_6, .nil⟩, ⟨[], d6_6, .nil⟩, ?_, Good.new c1 c2 o1 (by omega)⟩
      show [p, kn, ea, ma, ms, ro, ba, nm].Nodup
      simp only [List.nodup_cons, List.mem_cons, List.not_mem_nil, or_false, not_or, not_false_eq_true, List.nodup_nil, and_true]
      exact ⟨⟨Ne.symm np0, Ne.symm np1, Ne.symm np2, Ne.symm np3, Ne.symm np4, Ne.symm np5, Ne.symm np6⟩, ⟨Ne.symm ne1_0, Ne.symm ne2_0, Ne.symm ne3_0, Ne.symm ne4_0, Ne.symm ne5_0, Ne.symm ne6_0⟩, ⟨Ne.symm ne2_1, Ne.symm ne3_1, Ne.symm ne4_1, Ne.symm ne5_1, Ne.symm ne6_1⟩, ⟨Ne.symm ne3_2, Ne.symm ne4_2, Ne.symm ne5_2, Ne.symm ne6_2⟩, ⟨Ne.symm ne4_3, Ne.symm ne5_3, Ne.symm ne6_3⟩, ⟨Ne.symm ne5_4, Ne.symm ne6_4⟩, Ne.symm ne6_5⟩
def spHCall (K : PySem.W.Frag) (C BR : Addr) : Sp := fun vs H Q E => ∃ h st x T1 M, vs = [.ref (h : HA).p, x] ∧ Std C M H h st ∧ TyB K H x T1 ∧ Sm x ∧ st.size ≤ 19970 ∧
  (isRow x = false → ∀ H', Same H H' → E (.ref BR) none H') ∧
  ∀ z, x = .str z → isRow x = true → ∀ H' N h' r xs, Nxt C M H h (st.call z) H' N h' → H r = none → r ∉ N → H' r = some (.lst xs) → TW (LH.Fr (N ++ M) H') xs (st.callT z) → HouseAt C (LH.Fr (r :: (N ++ M)) H') H' h' (st.call z) → Q (.ref r) H'
theorem isRow_str {x : V} (h : isRow x = true) : ∃ z, x = .str z ∧ isRowS z = true := by
  cases x with
  | str z => exact ⟨z, rfl, h⟩
  | _ => cases h
theorem ok_House_call (T : Txt K mg a) : FnOk P w K mg base (L2N.CX P w) 7 a.House_call a.d_House_call ["self", "row"] (spHCall K a.House a.BadRow) := by
  have G_is_row := ok_is_row (P := P) (w := w) (base := base) T
  have G_House_hear := ok_House_hear (P := P) (w := w) (base := base) T
  refine LH.okN T.F_House_call sc_House_call (fun vs H Q E h => ?_) (fun cdv A outer s H vs Q E hr h => ?_)
  · obtain ⟨h, st, x, T1, M, rfl, _⟩ := h
    rfl
  · obtain ⟨h, st, x, T1, M, rfl, S, t1, sx, sz, b1, k⟩ := h
    obtain ⟨⟨dx, hp⟩, pkn, pea, pma, pms, pro, pba, pnm, nd, go⟩ := id S.at_
    obtain ⟨n1, n2, n3, n4, n5, n6, n7, n8, n9⟩ := HA.nes nd
    simp only [List.mem_cons, List.not_mem_nil, or_false, not_or] at n1 n2 n3 n4 n5 n6
    have HR_is_row : Room 1 _ := hr.mono (by decide)
    have HR_House_hear : Room 6 _ := hr.mono (by decide)
    refine ⟨_, (pss_cons (ps_if (pt_not (pt_val (pe_call G_is_row HR_is_row rfl T.g_is_row T.F_is_row.kp T.b_is_row .nil pass0 (pa_cons (pv 1) pa_nil))))
    (pss_one (L2N.ps_raise rfl (LH.tkN (E := E)) (LH.pmkN PySem.F.excBase_ValueError T.x_BadRow T.g_BadRow T.k_BadRow (raises_own T.bx_BadRow T.t_BadRow) rfl (pa_cons pe_str pa_nil))))
    pss_nil)
  (pss_cons (ps_set (i := 2) sc_House_call.nd rfl (Or.inl rfl) (pe_tup (pa_cons (pe_glob (v := .str "say") rfl T.m_SAY ⟨_, rfl⟩) (pa_cons (pe_fld (pv 0) rfl) (pa_cons (pv 1) (pa_cons (pe_fld (pv 0) rfl) pa_nil))))))
  (pss_cons (ps_fldaug (pv 0) (pe_fld (pv 0) rfl) in_add)
  (pss_one (ps_ret (pe_op (r := LH.rCatS K) LH.op_catS (pe_lst (pa_cons (pv 2) pa_nil)) (pe_meth (pv 0) T.cl_House T.me_House_hear G_House_hear HR_House_hear T.b_House_hear .nil pass0 (pa_cons (pv 2) pa_nil)))))))), ?_⟩
    walk_at "rd"
    refine ⟨x, T1, rfl, t1, sx, fun H1 e1 => ?_⟩
    walk_at "rd"
    cases e : isRow x with
    | false =>
      refine LH.br_nf ?_
      walk_at "rd"
      exact ⟨by show 1 ≤ sizeLine; decide, b1 e H1 e1⟩
    | true =>
      obtain ⟨z, rfl, rz⟩ := isRow_str e
      refine LH.br_nt ?_
      walk_at "rd"
      refine LH.fldv (e1 _ _ hp) T.cl_House T.na_House__due rfl ?_
      walk_at "rd"
      refine LH.fldv (e1 _ _ hp) T.cl_House T.na_House__own rfl ?_
      walk_at "rd"
      refine LH.newt (LH.small rfl) fun t H2 f2 e2 g2 => ?_
      walk_at "rd"
      have e12 := e1.trans e2
      have hp2 := e12 _ _ hp
      refine LH.afldI (i := st.due) (j := st.c) hp2 T.cl_House T.na_House__due rfl (by show 10 < 1000; decide) (fun Q q => ?_) (fun Q q => ?_) fun H3 k3 g3 => ?_
      · exact LH.x_I0 q
      · walk_at "rd"
        exact LH.fldv hp2 T.cl_House T.na_House__count rfl q
      walk_at "rd"
      have tH : H t = none := LH.Same.none e1 f2
      have tM : t ∉ M := LH.not_in tH S.al
      have tp : t ≠ h.p := fun q => tM (q ▸ S.sub _ (inS8 _ (by simp)))
      have g2' : H3 t = some (.tup (sayOf st z).vs) := k3 _ _ g2 tp
      have keep3 : ∀ y o, H y = some o → y ≠ h.p → H3 y = some o := fun y o q n => k3 _ _ (e12 _ _ q) n
      have kM : LH.Ks M H H3 := fun y o q n => keep3 y o q fun e => n (e ▸ S.sub _ (inS8 _ (by simp)))
      have f3 : Same (LH.Fr M H) (LH.Fr M H3) := kM.fr
      let st2 : HS := { st with due := st.due + st.c }
      have at3 : HouseAt a.House (LH.Fr M H3) H3 h st2 := by
        refine ⟨⟨dx, g3⟩, pkn.to fun o q => keep3 _ o q (Ne.symm n1.1), pea.to f3 fun o q => keep3 _ o q (Ne.symm n1.2.1), pma.to fun o q => keep3 _ o q (Ne.symm n1.2.2.1), pms.to f3 fun y o hy q => ?_, pro.to fun o q => keep3 _ o q (Ne.symm n1.2.2.2.2.1), pba.to f3 fun o q => keep3 _ o q (Ne.symm n1.2.2.2.2.2.1), pnm.to f3 fun o q => keep3 _ o q (Ne.symm n1.2.2.2.2.2.2), nd, ⟨go.c1, go.c2, go.o1, go.o2, go.nd, go.wd, go.mn, go.rn, go.bn, go.nn, go.rk, go.bk, go.nk⟩⟩
        rcases hy with rfl | hy
        · exact keep3 _ _ q (Ne.symm n1.2.2.2.1)
        · have := n8 _ hy
          simp only [List.mem_cons, List.not_mem_nil, or_false, not_or] at this
          exact keep3 _ _ q this.1
      have S3 : Std a.House M H3 h st2 := ⟨at3, S.sub, fun y hy => by
        by_cases c1 : y = h.p
        · rw [c1]; exact ⟨_, g3⟩
        · obtain ⟨o, q⟩ := S.al y hy
          exact ⟨o, keep3 _ _ q c1⟩, S.sm⟩
      refine LH.newl (LH.small rfl) fun r0 H4 f4 e4 g4 => ?_
      walk_at "rd"
      have S4 := S3.same e4
      obtain ⟨dx4, hp4⟩ := S4.self rfl
      refine LH.methv hp4 rfl ?_
      walk_at "rd"
      refine ⟨h, st2, .ref t, sayOf st z, M, rfl, S4, ⟨t, rfl, LH.fr_of (e4 _ _ g2') tM⟩, ⟨⟨ok_sayW, row_ok rz⟩, go.o1, go.o2⟩, by show st.size ≤ 19980; omega, fun H5 N h' r xs nx fr rn gr tr _ => ?_⟩
      have r0S : r0 ∉ h.S := fun m => by
        obtain ⟨o, q⟩ := S3.at_.alive r0 m
        rw [f4] at q
        cases q
      have g4' : H5 r0 = some (.lst [.ref t]) := nx.ks _ _ g4 r0S
      have lx : xs.length ≤ 15 := by
        rw [LH.Paired.len tr]
        unfold HS.hearT
        split
        · simp
        · rw [List.length_append, List.length_append]
          have h1 : ((st2.learn (sayOf st z)).markT (sayOf st z)).length ≤ 1 := by unfold HS.markT; split <;> simp
          have h2 : (((st2.learn (sayOf st z)).mark (sayOf st z)).backT (sayOf st z)).length ≤ 12 := by
            unfold HS.backT
            split
            · refine Nat.le_trans (?_ : _ ≤ ((List.range st.c.toNat).length)) (by rw [List.length_range]; have := go.c2; omega)
              have e : ((st2.learn (sayOf st z)).mark (sayOf st z)).c = st.c := by unfold HS.mark; split <;> rfl
              rw [e]
              exact List.length_filterMap_le _ _
            · simp
          have h3 : ((((st2.learn (sayOf st z)).mark (sayOf st z)).write (sayOf st z)).nameT (sayOf st z)).length ≤ 2 := by unfold HS.nameT; split <;> simp
          omega
      refine LH.x_catS (.of g4') (.of gr) (by simp; omega) fun r2 H6 f6 e6 g6 => ?_
      have nx6 := nx.same e6
      have back : ∀ y o, H y = some o → ∃ o', H4 y = some o' := fun y o q => by
        by_cases c1 : y = h.p
        · rw [c1]; exact ⟨_, hp4⟩
        · exact ⟨o, e4 _ _ (keep3 y o q c1)⟩
      have none4 : ∀ y, H4 y = none → H y = none := fun y q => by
        cases q2 : H y with
        | none => rfl
        | some o =>
          obtain ⟨o', q3⟩ := back y o q2
          rw [q] at q3
          cases q3
      obtain ⟨q1, q2⟩ := S4.fresh nx f6
      have tN : t ∉ N := fun m => by
        have := nx.nw t m
        rw [e4 _ _ g2'] at this
        cases this
      refine k z rfl e H6 N h' r2 _ ⟨fun y o q n => nx6.ks _ _ (e4 _ _ (keep3 y o q fun e => n (e ▸ inS8 _ (by simp)))) n, fun y hy => none4 y (nx.nw y hy), nx6.al, nx6.p, nx6.sub, nx6.sup, nx6.at_⟩ (none4 _ q1) q2 g6 ?_ (nx.at_.to (LH.fr_new f6 e6) fun b o _ q => e6 _ _ q)
      have tS : t ∉ h.S := fun m => tM (S.sub _ m)
      exact .cons ⟨t, rfl, LH.fr_of (e6 _ _ (nx.ks _ _ (e4 _ _ g2') tS)) fun m => (List.mem_append.mp m).elim tN tM⟩ (tr.up (LH.same_fr e6))
/-- the ledger as a dict -/
def ledK (st : HS) : List (Key × V) := st.nums.map fun n => (Sum.inl n, .str (st.rowAt n))
def spLedger (C : Addr) : Sp := fun vs H Q _ => ∃ h st F, vs = [.ref (h : HA).p] ∧ HouseAt C F H h st ∧ st.rows.length < 64 ∧ ∀ r H', H r = none → Same H H' → H' r = some (.dK (ledK st)) → Q (.ref r) H'
theorem ok_House_ledger (T : Txt K mg a) : FnOk P w K mg base CX0 1 a.House_ledger a.d_House_ledger ["self"] (spLedger a.House) := by
  refine T.F_House_ledger.ok sc_House_ledger (fun vs H Q E h => ?_) (fun cdv A outer s H vs Q E hr h => ?_)
  · obtain ⟨h, st, F, rfl, _⟩ := h
    rfl
  · obtain ⟨h, st, F, rfl, S, sz, k⟩ := h
    obtain ⟨⟨dx, hp⟩, pkn, pea, pma, pms, pro, pba, pnm, nd, go⟩ := id S
    refine ⟨_, (pss_one (ps_ret (pe_dc (own := [("number", 1)]) (g := gName 1) (tt := tYes) rfl sc_House_ledger.nd (pi_list (pe_callB (LH.call_srtD rfl) rfl T.n_sorted (by decide +kernel) (pa_cons (pe_fld (pv 0) rfl) pa_nil))) (blkOk_by (N := N_House_ledger) (sc := defScope s_House_ledger) (by decide +kernel)) (fun _ _ _ _ _ => pg_name (i := 1) sc_House_ledger.nd rfl (Or.inl rfl)) (fun _ _ _ _ _ => pts_nil) (fun _ _ _ _ _ => (pv 1)) (fun _ _ _ _ _ => (pe_dget (hu_of hr) (LH.pe_fldN (K := K) (pv 0) rfl) (pv 1) (fun _ _ => rfl)))))), ?_⟩
    walk_at "rd"
    refine LH.x_dc ?_
    walk_at "rd"
    refine LH.fldv hp T.cl_House T.na_House__rows rfl ?_
    walk_at "rd"
    refine LH.x_srtD (ks := st.rows.map (·.1)) pro (by rw [List.map_map, List.map_map]; rfl) (by rw [List.length_map]; omega) fun ys p H1 per so f1 e1 g1 => ?_
    have ey : ys = st.nums := sort_eq per so go.rn
    subst ey
    have mem : ∀ j, j ∈ st.nums → j ∈ st.rows.map (·.1) := fun j hj => nums_mem.mp hj
    refine LH.dc_L (SqL.of g1) (by rw [per.length_eq, List.length_map]; omega) (nums_nodup go) (fun n => .str (st.rowAt n)) (fun _ => rfl) ?_ ?_ fun r H2 f2 e2 g2 => ?_
    · intro i hi H2 e2 Q2 q2
      walk_at "rd"
      exact q2 _ (Same.refl _)
    · intro i hi H2 e2 Q2 q2
      walk_at "rd"
      refine LH.fldv ((e1.trans e2) _ _ hp) T.cl_House T.na_House__rows rfl ?_
      walk_at "rd"
      refine LH.getv (LH.getI ((e1.trans e2) _ _ pro)) (rowAt_val (mem i hi)) ?_
      exact q2 _ (Same.refl _)
    · exact k r H2 (LH.Same.none e1 f2) (e1.trans e2) g2
def spCaught (C : Addr) : Sp := fun vs H Q _ => ∃ h st F, vs = [.ref (h : HA).p] ∧ HouseAt C F H h st ∧ ∀ r H' (kvs : List (Key × V)), H r = none → Same H H' → H h.nm = some (.dK kvs) → H' r = some (.lst (kvs.map (·.2))) → Paired (Nm F) (kvs.map (·.2)) st.named → Q (.ref r) H'
theorem paired_vals {α : Type} {F : Key × V → α → Prop} {G : V → α → Prop} (hf : ∀ e x, F e x → G e.2 x) : ∀ {kvs : List (Key × V)} {l : List α}, Paired F kvs l → Paired G (kvs.map (·.2)) l
  | _, _, .nil => .nil
  | _, _, .cons q r => .cons (hf _ _ q) (paired_vals hf r)
theorem ok_House_caught (T : Txt K mg a) : FnOk P w K mg base CX0 1 a.House_caught a.d_House_caught ["self"] (spCaught a.House) := by
  refine T.F_House_caught.ok sc_House_caught (fun vs H Q E h => ?_) (fun cdv A outer s H vs Q E hr h => ?_)
  · obtain ⟨h, st, F, rfl, _⟩ := h
    rfl
  · obtain ⟨h, st, F, rfl, S, k⟩ := h
    obtain ⟨⟨dx, hp⟩, pkn, pea, pma, pms, pro, pba, ⟨kvs, g, pn⟩, nd, go⟩ := id S
    refine ⟨_, (pss_one (ps_ret (LH.pe_listValues rfl (pe_fld (pv 0) rfl) rfl T.n_list (by decide +kernel)))), ?_⟩
    walk_at "rd"
    refine LH.fldv hp T.cl_House T.na_House__named rfl ?_
    refine LH.lvv g fun r H1 f1 e1 g1 => ?_
    exact k r H1 kvs f1 e1 g g1 (paired_vals (fun _ _ q => q.2) pn)
def spBacking (K : PySem.W.Frag) (C NW : Addr) : Sp := fun vs H Q E => ∃ h st F x T1, vs = [.ref (h : HA).p, x] ∧ HouseAt C F H h st ∧ Same F H ∧ TyB K H x T1 ∧
  ((∃ i ws, x = .int i ∧ (st.backs.find? fun e => decide (e.1 = i)) = some (i, ws) ∧ ∀ r H' xs, H r = none → Same H H' → H' r = some (.lst xs) → TW F xs ws → Q (.ref r) H') ∨
    ((∀ i, x = .int i → (st.backs.find? fun e => decide (e.1 = i)) = none) ∧ E (.ref NW) none H))
theorem ok_House_backing (T : Txt K mg a) : FnOk P w K mg base (L2N.CX P w) 1 a.House_backing a.d_House_backing ["self", "number"] (spBacking K a.House a.NotWritten) := by
  refine LH.okN T.F_House_backing sc_House_backing (fun vs H Q E h => ?_) (fun cdv A outer s H vs Q E hr h => ?_)
  · obtain ⟨h, st, F, x, T1, rfl, _⟩ := h
    rfl
  · obtain ⟨h, st, F, x, T1, rfl, S, sF, t1, k⟩ := h
    obtain ⟨⟨dx, hp⟩, pkn, pea, pma, pms, pro, ⟨kvs, g, pb⟩, pnm, nd, go⟩ := id S
    refine ⟨_, (pss_cons (ps_if (PW.pt (pw_or (pt_cmpR op_notTyB (pe_callTy (r := rTyp K) call_type1 rfl T.n_type (by decide +kernel) (pa_cons (pv 1) pa_nil)) (pe_bltn (v := .ty "int") rfl T.n_int (by decide +kernel) rfl) (nomark _)) (pw_or1 (pt_cmp (pc_dnotin (hu_of hr) (pv 1) (pe_fld (pv 0) rfl))))))
    (pss_one (L2N.ps_raise rfl (LH.tkN (E := E)) (LH.pmkN PySem.F.excBase_ValueError T.x_NotWritten T.g_NotWritten T.k_NotWritten (raises_own T.bx_NotWritten T.t_NotWritten) rfl (pa_cons pe_str pa_nil))))
    pss_nil)
  (pss_one (ps_ret (pe_callTy (r := LH.rListOf K) LH.call_listOf rfl T.n_list (by decide +kernel) (pa_cons (pe_dget (hu_of hr) (pe_fld (pv 0) rfl) (pv 1) (fun _ _ => rfl)) pa_nil))))), ?_⟩
    walk_at "rd"
    refine LH.x_typ t1 ?_
    walk_at "rd"
    cases t1 with
    | int i =>
      refine LH.br_nd (fun c => absurd rfl c) (fun _ => ?_)
      walk_at "rd"
      refine LH.fldv hp T.cl_House T.na_House__backings rfl ?_
      walk_at "rd"
      refine LH.niv (LH.getI g) ?_
      have pg := paired_get (f := fun x : Int × List Wrd => x.1) (G := fun v x => Bk F v x.2) (fun _ _ q => q) (n := i) pb
      rcases k with ⟨j, ws, e, ef, k⟩ | ⟨k1, k⟩
      · injection e with e
        subst e
        obtain ⟨v, hv, ⟨b, xs, rfl, hb, tw⟩⟩ := pg.2 _ ef
        rw [hv]
        walk_at "rd"
        refine LH.br_eq (b' := false) rfl ?_
        walk_at "rd"
        walk_at "rd"
        refine LH.fldv hp T.cl_House T.na_House__backings rfl ?_
        walk_at "rd"
        refine LH.getv (LH.getI g) hv ?_
        walk_at "rd"
        refine LH.x_listOf (.inl (SqL.of (sF _ _ hb))) fun r H1 f1 e1 g1 => ?_
        exact k r H1 _ f1 e1 g1 tw
      · rw [pg.1 (k1 i rfl)]
        walk_at "rd"
        refine LH.br_eq (b' := true) rfl ?_
        walk_at "rd"
        exact ⟨by show 1 ≤ sizeLine; decide, k⟩
    | _ =>
      refine LH.br_nd (fun _ => ?_) (fun c => absurd c (by decide))
      walk_at "rd"
      rcases k with ⟨j, ws, e, _⟩ | ⟨k1, k⟩
      · cases e
      · exact ⟨by show 1 ≤ sizeLine; decide, k⟩
end
end KB
namespace KB
open PySem L2 LM HM
local macro_rules | `(tactic| walk_at "rd1") => `(tactic| first
  | with_reducible refine LH.x_seq ?_
  | with_reducible refine LH.x_asg ?_
  | with_reducible refine LH.x_cons ?_
  | with_reducible refine LH.x_var (by with_unfolding_all exact rfl) ?_
  | with_reducible refine LH.x_c ?_
  | with_reducible refine LH.x_op ?_
  | with_reducible refine LH.x_gname ?_
  | with_reducible refine LH.x_nil ?_
  | with_reducible refine LH.x_I0 ?_
  | ((with_reducible refine LH.x_I ?k1 ?_); (case k1 => first | exact (by decide) | exact ⟨by decide, by decide⟩ | exact ⟨by decide, by decide, by decide⟩ | exact .inl ⟨by decide, by decide⟩ | exact .inr ⟨by decide, by decide⟩ | exact .inr ⟨by omega, by omega⟩ | exact .inl ⟨by omega, by omega⟩ | exact (by omega)))
  | with_reducible refine LH.x_ifS ?_
  | with_reducible refine LH.x_test ?_
  | with_reducible refine LH.x_tB ?_
  | with_reducible refine LH.bx ?_
  | with_reducible refine LH.x_and ?_
  | with_reducible refine LH.x_or ?_
  | with_reducible refine LH.x_not ?_
  | with_reducible refine LH.x_ret ?_
  | with_reducible refine LH.x_call ?_
  | with_reducible refine LH.x_cb ?_
  | with_reducible refine LH.x_lst ?_
  | with_reducible refine LH.x_tup ?_
  | with_reducible refine LH.x_bm ?_
  | with_reducible refine LH.x_drop ?_
  | with_reducible refine LH.x_next ?_
  | with_reducible refine LH.x_cont ?_
  | with_reducible refine LH.x_un ?_
  | with_reducible refine LH.x_U ?_
  | with_reducible refine LH.x_eq (by with_unfolding_all exact rfl) ?_
  | with_reducible refine LH.x_ne (by with_unfolding_all exact rfl) ?_
  | with_reducible refine LH.x_andV ?_
  | with_reducible refine LH.x_orV ?_
  | with_reducible refine LH.x_notV ?_
  | with_reducible refine LH.band ?_
  | with_reducible refine LH.bor ?_
  | with_reducible refine LH.x_if ?_
  | with_reducible refine LH.x_chain ?_
  | with_reducible refine LH.chk ?_
  | with_reducible refine LH.x_callS ?_
  | with_reducible refine LH.x_callE ?_
  | with_reducible refine LH.x_callV ?_
  | with_reducible refine LH.x_lrg ?_
  | with_reducible refine LH.x_lcS ?_
  | with_reducible refine LH.x_lcR1 ?_
  | with_reducible refine LH.x_forR1 ?_
  | with_reducible refine LH.x_forR3 ?_
  | with_reducible refine LH.strv ?_
  | with_reducible refine LH.x_yes ?_
  | with_reducible refine LH.x_sl ?_
  | with_reducible refine LH.x_noPart ?_
  | with_reducible refine LH.x_part ?_
  | with_reducible refine LH.pav ?_
  | with_reducible refine LH.x_jnv ?_
  | with_reducible refine LH.x_join ?_
  | with_reducible refine LH.x_inS ?_
  | with_reducible refine LH.x_niS ?_
  | with_reducible refine LH.x_isB ?_
  | with_reducible refine LH.x_isnB ?_
  | with_reducible refine LH.x_gcons ?_
  | with_reducible refine LH.x_gnil ?_
  | with_reducible refine LH.x_intB ?_
  | with_reducible refine LH.x_orT ?_
  | with_reducible refine LH.x_isTy ?_
  | with_reducible refine LH.x_niTy ?_
  | with_reducible refine LH.x_split ?_
  | with_reducible refine LH.x_spv ?_
  | with_reducible refine LH.x_gsub ?_
  | with_reducible refine LH.x_fmt ?_
  | with_reducible refine LH.x_js0 ?_
  | with_reducible refine LH.x_js ?_
  | with_reducible refine LH.x_rg1 ?_
  | with_reducible refine LH.x_forL ?_
  | with_reducible refine LH.x_abs ?_
  | with_reducible refine LH.x_rg2 ?_
  | with_reducible refine LH.rg1v ?_
  | with_reducible refine LH.rg2v ?_
  | with_reducible refine LH.x_forR2 ?_
  | with_reducible refine LH.x_lenSetG ?_
  | with_reducible refine LH.x_lc ?_
  | with_reducible refine LH.x_fld ?_
  | with_reducible refine LH.x_sfld ?_
  | with_reducible refine LH.x_afld ?_
  | with_reducible refine LH.x_meth ?_
  | with_reducible refine LH.x_make ?_
  | with_reducible refine LH.x_methSl ?_
  | with_reducible refine LH.x_makeSl ?_
  | with_reducible refine LH.x_din ?_
  | with_reducible refine LH.x_dni ?_
  | with_reducible refine LH.x_dget ?_
  | with_reducible refine LH.x_dput ?_
  | with_reducible refine LH.x_dget2 ?_
  | with_reducible refine LH.x_dpop1 ?_
  | with_reducible refine LH.x_litems ?_
  | with_reducible refine LH.x_tru ?_
  | with_reducible refine LH.x_revL ?_
  | with_reducible refine LH.x_dsetT ?_
  | with_reducible refine LH.x_lvals ?_
  | with_reducible refine LH.br_nt ?_
  | with_reducible refine LH.br_nf ?_
  | with_reducible refine LH.br_t ?_
  | with_reducible refine LH.br_f ?_)
local macro_rules | `(tactic| walk_at "rd") => `(tactic| repeat (walk_at "rd1"))
local macro_rules | `(tactic| walk_at "rs1") => `(tactic| first
  | with_reducible refine LH.x_seq ?_
  | with_reducible refine LH.x_cons ?_
  | with_reducible refine LH.x_var (by with_unfolding_all exact rfl) ?_
  | with_reducible refine LH.x_c ?_
  | with_reducible refine LH.x_op ?_
  | with_reducible refine LH.x_gname ?_
  | with_reducible refine LH.x_nil ?_
  | with_reducible refine LH.x_I0 ?_
  | ((with_reducible refine LH.x_I ?k1 ?_); (case k1 => first | exact (by decide) | exact ⟨by decide, by decide⟩ | exact ⟨by decide, by decide, by decide⟩ | exact .inl ⟨by decide, by decide⟩ | exact .inr ⟨by decide, by decide⟩ | exact .inr ⟨by omega, by omega⟩ | exact .inl ⟨by omega, by omega⟩ | exact (by omega)))
  | with_reducible refine LH.x_test ?_
  | with_reducible refine LH.x_tB ?_
  | with_reducible refine LH.bx ?_
  | with_reducible refine LH.x_and ?_
  | with_reducible refine LH.x_or ?_
  | with_reducible refine LH.x_not ?_
  | with_reducible refine LH.x_call ?_
  | with_reducible refine LH.x_cb ?_
  | with_reducible refine LH.x_lst ?_
  | with_reducible refine LH.x_tup ?_
  | with_reducible refine LH.x_bm ?_
  | with_reducible refine LH.x_next ?_
  | with_reducible refine LH.x_cont ?_
  | with_reducible refine LH.x_un ?_
  | with_reducible refine LH.x_U ?_
  | with_reducible refine LH.x_eq (by with_unfolding_all exact rfl) ?_
  | with_reducible refine LH.x_ne (by with_unfolding_all exact rfl) ?_
  | with_reducible refine LH.x_andV ?_
  | with_reducible refine LH.x_orV ?_
  | with_reducible refine LH.x_notV ?_
  | with_reducible refine LH.band ?_
  | with_reducible refine LH.bor ?_
  | with_reducible refine LH.x_if ?_
  | with_reducible refine LH.x_chain ?_
  | with_reducible refine LH.chk ?_
  | with_reducible refine LH.x_callS ?_
  | with_reducible refine LH.x_callE ?_
  | with_reducible refine LH.x_callV ?_
  | with_reducible refine LH.x_lrg ?_
  | with_reducible refine LH.x_lcS ?_
  | with_reducible refine LH.x_lcR1 ?_
  | with_reducible refine LH.strv ?_
  | with_reducible refine LH.x_yes ?_
  | with_reducible refine LH.x_sl ?_
  | with_reducible refine LH.x_noPart ?_
  | with_reducible refine LH.x_part ?_
  | with_reducible refine LH.pav ?_
  | with_reducible refine LH.x_jnv ?_
  | with_reducible refine LH.x_join ?_
  | with_reducible refine LH.x_inS ?_
  | with_reducible refine LH.x_niS ?_
  | with_reducible refine LH.x_isB ?_
  | with_reducible refine LH.x_isnB ?_
  | with_reducible refine LH.x_gcons ?_
  | with_reducible refine LH.x_gnil ?_
  | with_reducible refine LH.x_intB ?_
  | with_reducible refine LH.x_orT ?_
  | with_reducible refine LH.x_isTy ?_
  | with_reducible refine LH.x_niTy ?_
  | with_reducible refine LH.x_split ?_
  | with_reducible refine LH.x_spv ?_
  | with_reducible refine LH.x_gsub ?_
  | with_reducible refine LH.x_fmt ?_
  | with_reducible refine LH.x_js0 ?_
  | with_reducible refine LH.x_js ?_
  | with_reducible refine LH.x_rg1 ?_
  | with_reducible refine LH.x_abs ?_
  | with_reducible refine LH.x_rg2 ?_
  | with_reducible refine LH.rg1v ?_
  | with_reducible refine LH.rg2v ?_
  | with_reducible refine LH.x_lenSetG ?_
  | with_reducible refine LH.x_lc ?_
  | with_reducible refine LH.x_fld ?_
  | with_reducible refine LH.x_sfld ?_
  | with_reducible refine LH.x_afld ?_
  | with_reducible refine LH.x_meth ?_
  | with_reducible refine LH.x_make ?_
  | with_reducible refine LH.x_methSl ?_
  | with_reducible refine LH.x_makeSl ?_
  | with_reducible refine LH.x_din ?_
  | with_reducible refine LH.x_dni ?_
  | with_reducible refine LH.x_dget ?_
  | with_reducible refine LH.x_dput ?_
  | with_reducible refine LH.x_dget2 ?_
  | with_reducible refine LH.x_dpop1 ?_
  | with_reducible refine LH.x_litems ?_
  | with_reducible refine LH.x_tru ?_
  | with_reducible refine LH.x_revL ?_
  | with_reducible refine LH.x_dsetT ?_
  | with_reducible refine LH.x_lvals ?_
  | with_reducible refine LH.br_nt ?_
  | with_reducible refine LH.br_nf ?_
  | with_reducible refine LH.br_t ?_
  | with_reducible refine LH.br_f ?_)
local macro_rules | `(tactic| walk_at "rs") => `(tactic| repeat (walk_at "rs1"))

section
variable {P : Program} {w : World} {K : PySem.W.Frag} {mg : Str → Option Value} {base : Heap} {a : Ad}
/-! ### words -/
def spCaller : Sp := fun vs H Q _ => ∃ c n : Int, vs = [.int c, .int n] ∧ 1 ≤ c ∧ Q (.int (n % c)) H
theorem ok_caller (T : Txt K mg a) : FnOk P w K mg base CX0 1 a.caller a.d_caller ["count", "number"] spCaller := by
  refine T.F_caller.ok sc_caller (fun vs H Q E h => ?_) (fun cdv A outer s H vs Q E hr h => ?_)
  · obtain ⟨c, n, rfl, _⟩ := h
    rfl
  · obtain ⟨c, n, rfl, hc, k⟩ := h
    refine ⟨_, (pss_one (ps_ret (pe_op op_modN (pv 1) (pv 0)))), ?_⟩
    walk_at "rd"
    rw [fmod_pos hc]
    exact k
def isKind (c : Int) : V → Int → Int → Bool
  | .str z, n, h => if z = "say" then decide (h = n % c) else decide (z = "mark")
  | _, _, _ => false
/-- is a tuple of these things a word of a town of c houses -/
def isWordL (c : Int) : List V → Bool
  | [k, .int n, r, .int h] => isW (.int n) 0 9999 && (isW (.int h) 0 (c - 1) && (isRow r && isKind c k n h))
  | _ => false
/-- what may be handed in as a word: w tells whether it is one -/
def Wd (K : PySem.W.Frag) (H : Hp) (c : Int) (x : V) (w : Bool) : Prop :=
  (∃ p xs, x = .ref p ∧ SqT K H p xs ∧ xs.length ≤ 100000 ∧ (∀ y ∈ xs, Sm y ∧ ∃ T, TyB K H y T) ∧ w = isWordL c xs) ∨ (∃ T, TyB K H x T ∧ T ≠ "tuple" ∧ w = false)
def spIsWord (K : PySem.W.Frag) (C : Addr) : Sp := fun vs H Q E => ∃ n Tn x, vs = [n, x] ∧ TyB K H n Tn ∧ (isW n 1 12 = false → E (.ref C) none H) ∧
  ∀ c, n = .int c → 1 ≤ c → c ≤ 12 → ∃ b, Wd K H c x b ∧ ∀ H', Same H H' → Q (.bl b) H'
theorem four {xs : List V} (h : (xs.length : Int) = 4) : ∃ k n r o, xs = [k, n, r, o] := by
  match xs, h with
  | [k, n, r, o], _ => exact ⟨k, n, r, o, rfl⟩
  | [], h => simp at h
  | [_], h => simp at h
  | [_, _], h => simp at h
  | [_, _, _], h => simp at h
  | _ :: _ :: _ :: _ :: _ :: l, h => simp at h; omega
theorem not_four {c : Int} {xs : List V} (h : ¬ (xs.length : Int) = 4) : isWordL c xs = false := by
  unfold isWordL
  split
  · exact absurd rfl h
  · rfl
theorem word_num {c : Int} {k n r o : V} (h : isW n 0 9999 = false) : isWordL c [k, n, r, o] = false := by
  unfold isWordL
  split
  · rename_i e
    injection e with _ e
    injection e with e1 e
    injection e with _ e
    injection e with e2 _
    subst e1 e2
    rw [h]
    rfl
  · rfl
theorem word_house {c : Int} {k n r o : V} (h : isW o 0 (c - 1) = false) : isWordL c [k, n, r, o] = false := by
  unfold isWordL
  split
  · rename_i e
    injection e with _ e
    injection e with e1 e
    injection e with _ e
    injection e with e2 _
    subst e1 e2
    rw [h, Bool.false_and, Bool.and_false]
  · rfl
theorem ok_is_word (T : Txt K mg a) : FnOk P w K mg base (L2N.CX P w) 3 a.is_word a.d_is_word ["count", "thing"] (spIsWord K a.BadCount) := by
  have G_is_whole := ok_is_whole (P := P) (w := w) (base := base) T
  have G_check_count := ok_check_count (P := P) (w := w) (base := base) T
  have G_is_house := ok_is_house (P := P) (w := w) (base := base) T
  have G_is_row := ok_is_row (P := P) (w := w) (base := base) T
  have G_caller := ok_caller (P := P) (w := w) (base := base) T
  refine LH.okN T.F_is_word sc_is_word (fun vs H Q E h => ?_) (fun cdv A outer s H vs Q E hr h => ?_)
  · obtain ⟨x, t, y, rfl, _⟩ := h
    rfl
  · obtain ⟨n, Tn, x, rfl, hn, kE, k⟩ := h
    have HR_is_whole : Room 1 _ := hr.mono (by decide)
    have HR_check_count : Room 2 _ := hr.mono (by decide)
    have HR_is_house : Room 2 _ := hr.mono (by decide)
    have HR_is_row : Room 1 _ := hr.mono (by decide)
    have HR_caller : Room 1 _ := hr.mono (by decide)
    refine ⟨_, (pss_cons (ps_expr (pe_call (E := E) G_check_count HR_check_count rfl T.g_check_count T.F_check_count.kp T.b_check_count .nil (L2N.passes_call (LH.tkN (E := E)) fun _ _ _ _ z => z) (pa_cons (pv 0) pa_nil)))
  (pss_cons (ps_if (PW.pt (pw_or (pt_cmpR op_notTyB (pe_callTy (r := rTyp K) call_type1 rfl T.n_type (by decide +kernel) (pa_cons (pv 1) pa_nil)) (pe_bltn (v := .ty "tuple") rfl T.n_tuple (by decide +kernel) rfl) (nomark _)) (pw_or1 (pt_cmpR op_ne (pe_callB (r := LH.rLen K) LH.call_len rfl T.n_len (by decide +kernel) (pa_cons (pv 1) pa_nil)) pe_int (nomark _)))))
    (pss_one (ps_ret pe_bl))
    pss_nil)
  (pss_cons (ps_asg (pv 1) (pg_tup rfl (pgs_cons (pg_name (i := 2) sc_is_word.nd rfl (Or.inl rfl)) (pgs_cons (pg_name (i := 3) sc_is_word.nd rfl (Or.inl rfl)) (pgs_cons (pg_name (i := 4) sc_is_word.nd rfl (Or.inl rfl)) (pgs_cons (pg_name (i := 5) sc_is_word.nd rfl (Or.inl rfl)) pgs_nil))))))
  (pss_cons (ps_if (PW.pt (pw_or (pt_not (pt_val (pe_call G_is_whole HR_is_whole rfl T.g_is_whole T.F_is_whole.kp T.b_is_whole .nil pass0 (pa_cons (pv 3) (pa_cons pe_int (pa_cons (pe_glob (v := .int 9999) rfl T.m_LAST_NUMBER ⟨_, rfl⟩) pa_nil)))))) (pw_or1 (pt_not (pt_val (pe_call G_is_house HR_is_house rfl T.g_is_house T.F_is_house.kp T.b_is_house .nil pass0 (pa_cons (pv 0) (pa_cons (pv 5) pa_nil))))))))
    (pss_one (ps_ret pe_bl))
    pss_nil)
  (pss_cons (ps_if (pt_not (pt_val (pe_call G_is_row HR_is_row rfl T.g_is_row T.F_is_row.kp T.b_is_row .nil pass0 (pa_cons (pv 4) pa_nil))))
    (pss_one (ps_ret pe_bl))
    pss_nil)
  (pss_cons (ps_if (pt_cmpR op_notTyB (pe_callTy (r := rTyp K) call_type1 rfl T.n_type (by decide +kernel) (pa_cons (pv 2) pa_nil)) (pe_bltn (v := .ty "str") rfl T.n_str (by decide +kernel) rfl) (nomark _))
    (pss_one (ps_ret pe_bl))
    pss_nil)
  (pss_cons (ps_if (pt_cmpR op_eq (pv 2) (pe_glob (v := .str "say") rfl T.m_SAY ⟨_, rfl⟩) (nomark _))
    (pss_one (ps_ret (pe_cmpR op_eq (pv 5) (pe_call G_caller HR_caller rfl T.g_caller T.F_caller.kp T.b_caller .nil pass0 (pa_cons (pv 0) (pa_cons (pv 3) pa_nil))) (nomark _))))
    pss_nil)
  (pss_one (ps_ret (pe_cmpR op_eq (pv 2) (pe_glob (v := .str "mark") rfl T.m_MARK ⟨_, rfl⟩) (nomark _))))))))))), ?_⟩
    walk_at "rd"
    refine ⟨n, Tn, rfl, hn, fun hc => ?_, kE⟩
    obtain ⟨c, rfl, c1, c2⟩ := isW_int hc
    obtain ⟨b, hw, k⟩ := k c rfl c1 c2
    walk_at "rd"
    rcases hw with ⟨p, xs, rfl, hp, hl, hy, rfl⟩ | ⟨t, ht, hne, rfl⟩
    · refine LH.x_typ (.tup hp) ?_
      walk_at "rd"
      refine LH.br_nd (fun c => absurd rfl c) (fun _ => ?_)
      walk_at "rd"
      refine LH.x_lenT hp ?_
      walk_at "rd"
      refine LH.br_nd (fun c4 => ?_) (fun c4 => ?_)
      · walk_at "rd"
        rw [not_four (c := c) (by intro e; exact c4 (congrArg V.int e))] at k
        exact k _ (Same.refl _)
      · obtain ⟨kd, nu, ro, ho, rfl⟩ := four (by injection c4)
        walk_at "rd"
        refine LH.x_gtup hp rfl ?_
        walk_at "rd"
        obtain ⟨_, tk, htk⟩ := hy kd (by simp)
        obtain ⟨_, tn, htn⟩ := hy nu (by simp)
        obtain ⟨sr, tr, htr⟩ := hy ro (by simp)
        obtain ⟨_, th, hth⟩ := hy ho (by simp)
        refine ⟨_, tn, _, _, rfl, htn, ?_⟩
        walk_at "rd"
        cases e1 : isW nu 0 9999 with
        | false =>
          walk_at "rd"
          rw [word_num e1] at k
          exact k _ (Same.refl _)
        | true =>
          obtain ⟨m, rfl, _⟩ := isW_int e1
          walk_at "rd"
          refine ⟨_, _, th, rfl, hth, ?_⟩
          walk_at "rd"
          cases e2 : isW ho 0 (c - 1) with
          | false =>
            walk_at "rd"
            rw [word_house e2] at k
            exact k _ (Same.refl _)
          | true =>
            obtain ⟨o, rfl, _⟩ := isW_int e2
            walk_at "rd"
            refine ⟨_, tr, rfl, htr, sr, fun H1 f1 => ?_⟩
            walk_at "rd"
            cases e3 : isRow ro with
            | false =>
              walk_at "rd"
              have e : isWordL c [kd, .int m, ro, .int o] = false := by
                show (isW (.int m) 0 9999 && (isW (.int o) 0 (c - 1) && (isRow ro && isKind c kd m o))) = false
                rw [e3, Bool.false_and, Bool.and_false, Bool.and_false]
              rw [e] at k
              exact k _ f1
            | true =>
              walk_at "rd"
              have hk : isWordL c [kd, .int m, ro, .int o] = isKind c kd m o := by
                show (isW (.int m) 0 9999 && (isW (.int o) 0 (c - 1) && (isRow ro && isKind c kd m o))) = isKind c kd m o
                rw [e1, e2, e3, Bool.true_and, Bool.true_and, Bool.true_and]
              rw [hk] at k
              have htk' := LH.Same.ty f1 htk
              refine LH.x_typ htk' ?_
              walk_at "rd"
              cases htk' with
              | str z =>
                refine LH.br_nd (fun c => absurd rfl c) (fun _ => ?_)
                walk_at "rd"
                by_cases hz : z = "say"
                · refine LH.br_p (congrArg V.str hz) ?_
                  walk_at "rd"
                  refine ⟨c, m, rfl, c1, ?_⟩
                  walk_at "rd"
                  have e : isKind c (.str z) m o = decide (V.int o = V.int (m % c)) := by
                    show (if z = "say" then decide (o = m % c) else decide (z = "mark")) = _
                    rw [if_pos hz]
                    simp
                  rw [e] at k
                  exact k _ f1
                · refine LH.br_n (fun q => hz (by injection q)) ?_
                  walk_at "rd"
                  have e : isKind c (.str z) m o = decide (V.str z = V.str "mark") := by
                    show (if z = "say" then decide (o = m % c) else decide (z = "mark")) = _
                    rw [if_neg hz]
                    simp
                  rw [e] at k
                  exact k _ f1
              | _ =>
                refine LH.br_nd (fun _ => ?_) (fun c => absurd c (by decide))
                walk_at "rd"
                exact k _ f1
    · refine LH.x_typ ht ?_
      walk_at "rd"
      refine LH.br_nd (fun _ => ?_) (fun c => absurd c hne)
      walk_at "rd"
      exact k _ (Same.refl _)
/-! ### a post -/
def pf (d : Addr) (n : Int) : List (Str × V) := [("_due", .int n), ("_letters", .ref d)]
structure PostAt (C : Addr) (H : Hp) (p d : Addr) (n : Int) (kvs : List (Key × V)) : Prop where
  ob : ∃ dx, H p = some (.ins C dx (pf d n))
  dc : H d = some (.dK kvs)
theorem PostAt.ne {C : Addr} {H : Hp} {p d : Addr} {n : Int} {kvs : List (Key × V)} (S : PostAt C H p d n kvs) : p ≠ d := fun e => by
  obtain ⟨⟨dx, h⟩, hd⟩ := S
  rw [e, hd] at h
  injection h with h
  cases h
theorem PostAt.keep {C : Addr} {H H' : Hp} {p d : Addr} {n : Int} {kvs : List (Key × V)} {M : List Addr} (S : PostAt C H p d n kvs) (k : LH.Ks M H H') (h1 : p ∉ M) (h2 : d ∉ M) : PostAt C H' p d n kvs :=
  ⟨let ⟨dx, h⟩ := S.ob; ⟨dx, k _ _ h h1⟩, k _ _ S.dc h2⟩
theorem PostAt.same {C : Addr} {H H' : Hp} {p d : Addr} {n : Int} {kvs : List (Key × V)} (S : PostAt C H p d n kvs) (k : Same H H') : PostAt C H' p d n kvs :=
  ⟨let ⟨dx, h⟩ := S.ob; ⟨dx, k _ _ h⟩, k _ _ S.dc⟩
def spPInit (C : Addr) : Sp := fun vs H Q _ => ∃ p dx, vs = [.ref p] ∧ H p = some (.ins C dx []) ∧ ∀ d H', H d = none → PostAt C H' p d 0 [] → LH.Ks [p] H H' → Q .non H'
theorem ok_Post___init__ (T : Txt K mg a) : FnOk P w K mg base CX0 1 a.Post___init__ a.d_Post___init__ ["self"] (spPInit a.Post) := by
  refine T.F_Post___init__.ok sc_Post___init__ (fun vs H Q E h => ?_) (fun cdv A outer s H vs Q E hr h => ?_)
  · obtain ⟨p, dx, rfl, _⟩ := h
    rfl
  · obtain ⟨p, dx, rfl, hp, k⟩ := h
    refine ⟨_, (pss_cons (ps_fld (pv 0) pe_int rfl)
  (pss_one (ps_fld (pv 0) pe_dnewK rfl))), ?_⟩
    walk_at "rd"
    refine LH.sfldv hp T.cl_Post T.na_Post__due (by decide) fun H1 k1 g1 => ?_
    walk_at "rd"
    refine LH.x_dnew fun d H2 f2 e2 g2 => ?_
    walk_at "rd"
    refine LH.sfldv (e2 _ _ g1) T.cl_Post T.na_Post__letters (by decide) fun H3 k3 g3 => ?_
    have pd : p ≠ d := ne_of_none g1 f2
    refine k d H3 ?_ ⟨⟨dx, g3⟩, k3 _ _ g2 pd.symm⟩ fun b o h n => ?_
    · cases hq : H d with
      | none => rfl
      | some o =>
        rw [k1 _ _ hq pd.symm] at f2
        cases f2
    · exact k3 _ _ (e2 _ _ (k1 _ _ h (by simpa using n))) (by simpa using n)
def spSend (C : Addr) : Sp := fun vs H Q _ => ∃ p d n kvs v, vs = [.ref p, v] ∧ PostAt C H p d n kvs ∧ kvs.length ≤ 50000 ∧ ∀ H', LH.Ks [p, d] H H' → PostAt C H' p d (n + 1) (putK kvs (Sum.inl n) v) → Q (.int n) H'
theorem ok_Post_send (T : Txt K mg a) : FnOk P w K mg base CX0 1 a.Post_send a.d_Post_send ["self", "letter"] (spSend a.Post) := by
  refine T.F_Post_send.ok sc_Post_send (fun vs H Q E h => ?_) (fun cdv A outer s H vs Q E hr h => ?_)
  · obtain ⟨p, d, n, kvs, v, rfl, _⟩ := h
    rfl
  · obtain ⟨p, d, n, kvs, v, rfl, S, hl, k⟩ := h
    obtain ⟨⟨dx, hp⟩, hd⟩ := id S
    refine ⟨_, (pss_cons (ps_set (i := 2) sc_Post_send.nd rfl (Or.inl rfl) (pe_fld (pv 0) rfl))
  (pss_cons (ps_dput (hu_of hr) (pe_fld (pv 0) rfl) (pv 2) (pv 1) rfl)
  (pss_cons (ps_fldaug (pv 0) pe_int in_add)
  (pss_one (ps_ret (pv 2)))))), ?_⟩
    walk_at "rd"
    refine LH.fldv hp T.cl_Post T.na_Post__due rfl ?_
    walk_at "rd"
    refine LH.fldv hp T.cl_Post T.na_Post__letters rfl ?_
    walk_at "rd"
    refine LH.putvI hd (by omega) fun H1 k1 g1 => ?_
    walk_at "rd"
    refine LH.afldI (k1 _ _ hp S.ne) T.cl_Post T.na_Post__due rfl (by show 2 < 1000; decide) (fun Q q => LH.x_I0 q) (fun Q q => LH.x_c q) fun H2 k2 g2 => ?_
    walk_at "rd"
    exact k H2 (fun b o h n => k2 _ _ (k1 _ _ h fun e => n (by simp [e])) fun e => n (by simp [e])) ⟨⟨dx, g2⟩, k2 _ _ g1 S.ne.symm⟩
def spBring (K : PySem.W.Frag) (C Er : Addr) : Sp := fun vs H Q E => ∃ p d n kvs x T, vs = [.ref p, x] ∧ PostAt C H p d n kvs ∧ TyB K H x T ∧
  ((∃ i v, x = .int i ∧ valV kvs (Sum.inl i) = some v ∧ ∀ H', LH.Ks [d] H H' → PostAt C H' p d n (dropK kvs (Sum.inl i)) → Q v H') ∨ ((∀ i, x = .int i → valV kvs (Sum.inl i) = none) ∧ E (.ref Er) none H))
theorem ok_Post_bring (T : Txt K mg a) : FnOk P w K mg base (L2N.CX P w) 1 a.Post_bring a.d_Post_bring ["self", "number"] (spBring K a.Post a.NoLetter) := by
  refine LH.okN T.F_Post_bring sc_Post_bring (fun vs H Q E h => ?_) (fun cdv A outer s H vs Q E hr h => ?_)
  · obtain ⟨p, d, n, kvs, x, t, rfl, _⟩ := h
    rfl
  · obtain ⟨p, d, n, kvs, x, t, rfl, S, ht, k⟩ := h
    obtain ⟨⟨dx, hp⟩, hd⟩ := id S
    refine ⟨_, (pss_cons (ps_if (PW.pt (pw_or (pt_cmpR op_notTyB (pe_callTy (r := rTyp K) call_type1 rfl T.n_type (by decide +kernel) (pa_cons (pv 1) pa_nil)) (pe_bltn (v := .ty "int") rfl T.n_int (by decide +kernel) rfl) (nomark _)) (pw_or1 (pt_cmp (pc_dnotin (hu_of hr) (pv 1) (pe_fld (pv 0) rfl))))))
    (pss_one (L2N.ps_raise rfl (LH.tkN (E := E)) (LH.pmkN PySem.F.excBase_ValueError T.x_NoLetter T.g_NoLetter T.k_NoLetter (raises_own T.bx_NoLetter T.t_NoLetter) rfl (pa_cons pe_str pa_nil))))
    pss_nil)
  (pss_one (ps_ret (pe_dpop1 (pe_fld (pv 0) rfl) (pv 1) ⟨rfl, rfl, rfl, rfl⟩)))), ?_⟩
    walk_at "rd"
    refine LH.x_typ ht ?_
    walk_at "rd"
    cases ht with
    | int i =>
      refine LH.br_nd (fun c => absurd rfl c) (fun _ => ?_)
      walk_at "rd"
      refine LH.fldv hp T.cl_Post T.na_Post__letters rfl ?_
      walk_at "rd"
      refine LH.niv (LH.getI hd) ?_
      walk_at "rd"
      cases e : valV kvs (Sum.inl i) with
      | none =>
        refine LH.br_nf ?_
        rcases k with ⟨j, v, ej, ev, _⟩ | ⟨_, k⟩
        · injection ej with ej
          rw [← ej, e] at ev
          cases ev
        · walk_at "rd"
          exact ⟨by show 1 ≤ sizeLine; decide, k⟩
      | some v =>
        refine LH.br_nt ?_
        rcases k with ⟨j, v', ej, ev, k⟩ | ⟨k, _⟩
        · injection ej with ej
          subst ej
          rw [e] at ev
          cases ev
          walk_at "rd"
          refine LH.fldv hp T.cl_Post T.na_Post__letters rfl ?_
          walk_at "rd"
          refine LH.popv (LH.isdK hd) ?_
          walk_at "rd"
          refine LH.popwI hd e fun H1 k1 g1 => ?_
          exact k H1 (k1.ks (by simp)) ⟨⟨dx, k1 _ _ hp S.ne⟩, g1⟩
        · rw [k i rfl] at e
          cases e
    | _ =>
      refine LH.br_nd (fun _ => ?_) (fun c => absurd c (by decide))
      walk_at "rd"
      rcases k with ⟨j, v', ej, _⟩ | ⟨_, k⟩
      · cases ej
      · exact ⟨by show 1 ≤ sizeLine; decide, k⟩
def spWaiting (C : Addr) : Sp := fun vs H Q _ => ∃ p d n kvs, vs = [.ref p] ∧ PostAt C H p d n kvs ∧ ∀ q H' (ts : List Addr), Same H H' → H q = none → (∀ t ∈ ts, H t = none) → H' q = some (.lst (ts.map V.ref)) → Paired (fun (t : Addr) (e : Key × V) => H' t = some (.tup [kV e.1, e.2])) ts kvs → Q (.ref q) H'
theorem ok_Post_waiting (T : Txt K mg a) : FnOk P w K mg base CX0 1 a.Post_waiting a.d_Post_waiting ["self"] (spWaiting a.Post) := by
  refine T.F_Post_waiting.ok sc_Post_waiting (fun vs H Q E h => ?_) (fun cdv A outer s H vs Q E hr h => ?_)
  · obtain ⟨p, d, n, kvs, rfl, _⟩ := h
    rfl
  · obtain ⟨p, d, n, kvs, rfl, S, k⟩ := h
    obtain ⟨⟨dx, hp⟩, hd⟩ := id S
    refine ⟨_, (pss_one (ps_ret (LiI.pe_listItems rfl (pe_fld (pv 0) rfl) rfl T.n_list (by decide +kernel)))), ?_⟩
    walk_at "rd"
    refine LH.fldv hp T.cl_Post T.na_Post__letters rfl ?_
    exact LH.liv hd fun q H' ts e f ft g pr => k q H' ts e f ft g pr
end
end KB
namespace KB
open PySem L2 LM HM TN
local macro_rules | `(tactic| walk_at "rd1") => `(tactic| first
  | with_reducible refine LH.x_seq ?_
  | with_reducible refine LH.x_asg ?_
  | with_reducible refine LH.x_cons ?_
  | with_reducible refine LH.x_var (by with_unfolding_all exact rfl) ?_
  | with_reducible refine LH.x_c ?_
  | with_reducible refine LH.x_op ?_
  | with_reducible refine LH.x_gname ?_
  | with_reducible refine LH.x_nil ?_
  | with_reducible refine LH.x_I0 ?_
  | ((with_reducible refine LH.x_I ?k1 ?_); (case k1 => first | exact (by decide) | exact ⟨by decide, by decide⟩ | exact ⟨by decide, by decide, by decide⟩ | exact .inl ⟨by decide, by decide⟩ | exact .inr ⟨by decide, by decide⟩ | exact .inr ⟨by omega, by omega⟩ | exact .inl ⟨by omega, by omega⟩ | exact (by omega)))
  | with_reducible refine LH.x_ifS ?_
  | with_reducible refine LH.x_test ?_
  | with_reducible refine LH.x_tB ?_
  | with_reducible refine LH.bx ?_
  | with_reducible refine LH.x_and ?_
  | with_reducible refine LH.x_or ?_
  | with_reducible refine LH.x_not ?_
  | with_reducible refine LH.x_ret ?_
  | with_reducible refine LH.x_call ?_
  | with_reducible refine LH.x_cb ?_
  | with_reducible refine LH.x_lst ?_
  | with_reducible refine LH.x_tup ?_
  | with_reducible refine LH.x_bm ?_
  | with_reducible refine LH.x_drop ?_
  | with_reducible refine LH.x_next ?_
  | with_reducible refine LH.x_cont ?_
  | with_reducible refine LH.x_un ?_
  | with_reducible refine LH.x_U ?_
  | with_reducible refine LH.x_eq (by with_unfolding_all exact rfl) ?_
  | with_reducible refine LH.x_ne (by with_unfolding_all exact rfl) ?_
  | with_reducible refine LH.x_andV ?_
  | with_reducible refine LH.x_orV ?_
  | with_reducible refine LH.x_notV ?_
  | with_reducible refine LH.band ?_
  | with_reducible refine LH.bor ?_
  | with_reducible refine LH.x_if ?_
  | with_reducible refine LH.x_chain ?_
  | with_reducible refine LH.chk ?_
  | with_reducible refine LH.x_callS ?_
  | with_reducible refine LH.x_callE ?_
  | with_reducible refine LH.x_callV ?_
  | with_reducible refine LH.x_lrg ?_
  | with_reducible refine LH.x_lcS ?_
  | with_reducible refine LH.x_lcR1 ?_
  | with_reducible refine LH.x_forR1 ?_
  | with_reducible refine LH.x_forR3 ?_
  | with_reducible refine LH.strv ?_
  | with_reducible refine LH.x_yes ?_
  | with_reducible refine LH.x_sl ?_
  | with_reducible refine LH.x_noPart ?_
  | with_reducible refine LH.x_part ?_
  | with_reducible refine LH.pav ?_
  | with_reducible refine LH.x_jnv ?_
  | with_reducible refine LH.x_join ?_
  | with_reducible refine LH.x_inS ?_
  | with_reducible refine LH.x_niS ?_
  | with_reducible refine LH.x_isB ?_
  | with_reducible refine LH.x_isnB ?_
  | with_reducible refine LH.x_gcons ?_
  | with_reducible refine LH.x_gnil ?_
  | with_reducible refine LH.x_intB ?_
  | with_reducible refine LH.x_orT ?_
  | with_reducible refine LH.x_isTy ?_
  | with_reducible refine LH.x_niTy ?_
  | with_reducible refine LH.x_split ?_
  | with_reducible refine LH.x_spv ?_
  | with_reducible refine LH.x_gsub ?_
  | with_reducible refine LH.x_fmt ?_
  | with_reducible refine LH.x_js0 ?_
  | with_reducible refine LH.x_js ?_
  | with_reducible refine LH.x_rg1 ?_
  | with_reducible refine LH.x_forL ?_
  | with_reducible refine LH.x_abs ?_
  | with_reducible refine LH.x_rg2 ?_
  | with_reducible refine LH.rg1v ?_
  | with_reducible refine LH.rg2v ?_
  | with_reducible refine LH.x_forR2 ?_
  | with_reducible refine LH.x_lenSetG ?_
  | with_reducible refine LH.x_lc ?_
  | with_reducible refine LH.x_fld ?_
  | with_reducible refine LH.x_sfld ?_
  | with_reducible refine LH.x_afld ?_
  | with_reducible refine LH.x_meth ?_
  | with_reducible refine LH.x_make ?_
  | with_reducible refine LH.x_methSl ?_
  | with_reducible refine LH.x_makeSl ?_
  | with_reducible refine LH.x_din ?_
  | with_reducible refine LH.x_dni ?_
  | with_reducible refine LH.x_dget ?_
  | with_reducible refine LH.x_dput ?_
  | with_reducible refine LH.x_dget2 ?_
  | with_reducible refine LH.x_dpop1 ?_
  | with_reducible refine LH.x_litems ?_
  | with_reducible refine LH.x_tru ?_
  | with_reducible refine LH.x_revL ?_
  | with_reducible refine LH.x_dsetT ?_
  | with_reducible refine LH.x_lvals ?_
  | with_reducible refine LH.br_nt ?_
  | with_reducible refine LH.br_nf ?_
  | with_reducible refine LH.br_t ?_
  | with_reducible refine LH.br_f ?_)
local macro_rules | `(tactic| walk_at "rd") => `(tactic| repeat (walk_at "rd1"))
local macro_rules | `(tactic| walk_at "rs1") => `(tactic| first
  | with_reducible refine LH.x_seq ?_
  | with_reducible refine LH.x_cons ?_
  | with_reducible refine LH.x_var (by with_unfolding_all exact rfl) ?_
  | with_reducible refine LH.x_c ?_
  | with_reducible refine LH.x_op ?_
  | with_reducible refine LH.x_gname ?_
  | with_reducible refine LH.x_nil ?_
  | with_reducible refine LH.x_I0 ?_
  | ((with_reducible refine LH.x_I ?k1 ?_); (case k1 => first | exact (by decide) | exact ⟨by decide, by decide⟩ | exact ⟨by decide, by decide, by decide⟩ | exact .inl ⟨by decide, by decide⟩ | exact .inr ⟨by decide, by decide⟩ | exact .inr ⟨by omega, by omega⟩ | exact .inl ⟨by omega, by omega⟩ | exact (by omega)))
  | with_reducible refine LH.x_test ?_
  | with_reducible refine LH.x_tB ?_
  | with_reducible refine LH.bx ?_
  | with_reducible refine LH.x_and ?_
  | with_reducible refine LH.x_or ?_
  | with_reducible refine LH.x_not ?_
  | with_reducible refine LH.x_call ?_
  | with_reducible refine LH.x_cb ?_
  | with_reducible refine LH.x_lst ?_
  | with_reducible refine LH.x_tup ?_
  | with_reducible refine LH.x_bm ?_
  | with_reducible refine LH.x_next ?_
  | with_reducible refine LH.x_cont ?_
  | with_reducible refine LH.x_un ?_
  | with_reducible refine LH.x_U ?_
  | with_reducible refine LH.x_eq (by with_unfolding_all exact rfl) ?_
  | with_reducible refine LH.x_ne (by with_unfolding_all exact rfl) ?_
  | with_reducible refine LH.x_andV ?_
  | with_reducible refine LH.x_orV ?_
  | with_reducible refine LH.x_notV ?_
  | with_reducible refine LH.band ?_
  | with_reducible refine LH.bor ?_
  | with_reducible refine LH.x_if ?_
  | with_reducible refine LH.x_chain ?_
  | with_reducible refine LH.chk ?_
  | with_reducible refine LH.x_callS ?_
  | with_reducible refine LH.x_callE ?_
  | with_reducible refine LH.x_callV ?_
  | with_reducible refine LH.x_lrg ?_
  | with_reducible refine LH.x_lcS ?_
  | with_reducible refine LH.x_lcR1 ?_
  | with_reducible refine LH.strv ?_
  | with_reducible refine LH.x_yes ?_
  | with_reducible refine LH.x_sl ?_
  | with_reducible refine LH.x_noPart ?_
  | with_reducible refine LH.x_part ?_
  | with_reducible refine LH.pav ?_
  | with_reducible refine LH.x_jnv ?_
  | with_reducible refine LH.x_join ?_
  | with_reducible refine LH.x_inS ?_
  | with_reducible refine LH.x_niS ?_
  | with_reducible refine LH.x_isB ?_
  | with_reducible refine LH.x_isnB ?_
  | with_reducible refine LH.x_gcons ?_
  | with_reducible refine LH.x_gnil ?_
  | with_reducible refine LH.x_intB ?_
  | with_reducible refine LH.x_orT ?_
  | with_reducible refine LH.x_isTy ?_
  | with_reducible refine LH.x_niTy ?_
  | with_reducible refine LH.x_split ?_
  | with_reducible refine LH.x_spv ?_
  | with_reducible refine LH.x_gsub ?_
  | with_reducible refine LH.x_fmt ?_
  | with_reducible refine LH.x_js0 ?_
  | with_reducible refine LH.x_js ?_
  | with_reducible refine LH.x_rg1 ?_
  | with_reducible refine LH.x_abs ?_
  | with_reducible refine LH.x_rg2 ?_
  | with_reducible refine LH.rg1v ?_
  | with_reducible refine LH.rg2v ?_
  | with_reducible refine LH.x_lenSetG ?_
  | with_reducible refine LH.x_lc ?_
  | with_reducible refine LH.x_fld ?_
  | with_reducible refine LH.x_sfld ?_
  | with_reducible refine LH.x_afld ?_
  | with_reducible refine LH.x_meth ?_
  | with_reducible refine LH.x_make ?_
  | with_reducible refine LH.x_methSl ?_
  | with_reducible refine LH.x_makeSl ?_
  | with_reducible refine LH.x_din ?_
  | with_reducible refine LH.x_dni ?_
  | with_reducible refine LH.x_dget ?_
  | with_reducible refine LH.x_dput ?_
  | with_reducible refine LH.x_dget2 ?_
  | with_reducible refine LH.x_dpop1 ?_
  | with_reducible refine LH.x_litems ?_
  | with_reducible refine LH.x_tru ?_
  | with_reducible refine LH.x_revL ?_
  | with_reducible refine LH.x_dsetT ?_
  | with_reducible refine LH.x_lvals ?_
  | with_reducible refine LH.br_nt ?_
  | with_reducible refine LH.br_nf ?_
  | with_reducible refine LH.br_t ?_
  | with_reducible refine LH.br_f ?_)
local macro_rules | `(tactic| walk_at "rs") => `(tactic| repeat (walk_at "rs1"))

section
variable {P : Program} {w : World} {K : PySem.W.Frag} {mg : Str → Option Value} {base : Heap} {a : Ad}
theorem tell_snoc {s : Int} {w : Wrd} : ∀ {l : List Wrd} {ts : TSt}, ts.tell s (l ++ [w]) = (ts.tell s l).tell1 s w
  | [], _ => rfl
  | u :: l, ts => tell_snoc (l := l) (ts := ts.tell1 s u)
theorem tell_take {s : Int} {ws : List Wrd} {ts : TSt} {i : Nat} {w : Wrd} (h : ws[i]? = some w) : ts.tell s (ws.take (i + 1)) = (ts.tell s (ws.take i)).tell1 s w := by
  rw [LH.take_more h, tell_snoc]
theorem paired_at {α β : Type} {F : α → β → Prop} : ∀ {xs : List α} {ys : List β}, Paired F xs ys → ∀ {i : Nat} {x : α}, xs[i]? = some x → ∃ y, ys[i]? = some y ∧ F x y
  | _, _, .nil, i, x, h => by cases h
  | _, _, .cons q r, 0, x, h => by injection h with h; subst h; exact ⟨_, rfl, q⟩
  | _, _, .cons q r, i + 1, x, h => paired_at r (i := i) h
theorem inAS {ta : TAd} : ∀ y, y ∈ [ta.p, ta.hd, ta.po, ta.pd, ta.sp] → y ∈ ta.S := fun y hy => hy
def spTTell (CT CH CP : Addr) : Sp := fun vs H Q _ => ∃ (ta : TAd) (h : Int → HA) (ts : TSt) (M : List Addr) (s : Int) (r : Addr) (xs : List V) (ws : List Wrd), vs = [.ref ta.p, .int s, .ref r] ∧ TownAt CT CH CP M H ta h ts ∧ H r = some (.lst xs) ∧ TW (LH.Fr M H) xs ws ∧ (∀ w ∈ ws, FitW ts.c w) ∧ 0 ≤ s ∧ s < ts.c ∧
  ts.lt.length ≤ 40000 ∧ ts.sp.length ≤ 40000 ∧ ws.length ≤ 20 ∧ ∀ H', LH.Ks ta.S H H' → TownAt CT CH CP M H' ta h (ts.tell s ws) → Q .non H'
theorem ok_Town__tell (T : Txt K mg a) : FnOk P w K mg base CX0 2 a.Town__tell a.d_Town__tell ["self", "house", "words"] (spTTell a.Town a.House a.Post) := by
  have G_Post_send := ok_Post_send (P := P) (w := w) (base := base) T
  refine T.F_Town__tell.ok sc_Town__tell (fun vs H Q E h => ?_) (fun cdv A outer s H vs Q E hr h => ?_)
  · obtain ⟨ta, h, ts, M, s, r, xs, ws, rfl, _⟩ := h
    rfl
  · obtain ⟨ta, h, ts, M, hs_, r, xs, ws, rfl, S, gr, tw, fit, s1, s2, ll, ls, lw, k⟩ := h
    have c1 := S.go.c1
    have c2 := S.go.c2
    have HR_Post_send : Room 1 _ := hr.mono (by decide)
    refine ⟨_, (pss_one (ps_for PassesOwn.never rfl (pi_list (pv 2)) (pg_name (i := 3) sc_Town__tell.nd rfl (Or.inl rfl))
    (pss_cons (ps_dput (hu_of hr) (pe_fld (pv 0) rfl) (pv 3) pe_bl rfl)
    (pss_one (ps_for PassesOwn.never rfl (pi_range1 rfl T.n_range (pa_cons (pe_fld (pv 0) rfl) pa_nil)) (pg_name (i := 4) sc_Town__tell.nd rfl (Or.inl rfl))
      (pss_one (ps_if (pt_cmpR op_ne (pv 4) (pv 1) (nomark _))
        (pss_one (ps_expr (pe_meth (pe_fld (pv 0) rfl) T.cl_Post T.me_Post_send G_Post_send HR_Post_send T.b_Post_send .nil pass0 (pa_cons (pe_tup (pa_cons (pv 1) (pa_cons (pv 4) (pa_cons (pv 3) pa_nil)))) pa_nil))))
        pss_nil))))))), ?_⟩
    walk_at "rd"
    have rS : r ∉ ta.S := fun m => by
      unfold TAd.S at m
      simp only [List.mem_cons, List.not_mem_nil, or_false] at m
      rcases m with rfl | rfl | rfl | rfl | rfl
      · obtain ⟨dx, q⟩ := S.ob; rw [q] at gr; cases gr
      · have q := S.hd; rw [q] at gr; cases gr
      · obtain ⟨dx, q⟩ := S.po; rw [q] at gr; cases gr
      · obtain ⟨k, q, _⟩ := S.pd; rw [q] at gr; cases gr
      · obtain ⟨k, q, _⟩ := S.sp; rw [q] at gr; cases gr
    have inM : ∀ b ∈ ta.S, b ∈ M := fun b hb => S.inM b (mem_places.mpr (.inl hb))
    refine LH.for_Lg (SqL.of gr) (fun i σ H' => (∃ o3 o4, σ = [some (.ref ta.p), some (.int hs_), some (.ref r), o3, o4]) ∧ LH.Ks ta.S H H' ∧ TownAt a.Town a.House a.Post M H' ta h (ts.tell hs_ (ws.take i))) ⟨⟨_, _, rfl⟩, fun b o q _ => q, S⟩ (fun i σ H' _ p => SqL.of (p.2.1 _ _ gr rS)) ?_ ?_
    · rintro i x σ Ha hx ⟨⟨o3, o4, rfl⟩, ka, Sa⟩
      obtain ⟨w_, hw_, ht⟩ := paired_at tw hx
      obtain ⟨t, rfl, gt⟩ := ht
      have fr : Same (LH.Fr M H) (LH.Fr M Ha) := ka.frS inM
      have gta := LH.fr_le _ _ (fr _ _ gt)
      have wm : w_ ∈ ws := List.mem_of_getElem? hw_
      obtain ⟨e1, e2, e3⟩ := tell_same (ws := ws.take i) (ts := ts) (s := hs_)
      obtain ⟨l1, l2⟩ := tell_len (s := hs_) (ws := ws.take i) (ts := ts) c2
      have lti : (ws.take i).length ≤ 20 := by rw [List.length_take]; omega
      have fitw : FitW (ts.tell hs_ (ws.take i)).c w_ := by rw [e1]; exact fit w_ wm
      rw [tell_take hw_]
      generalize ts.tell hs_ (ws.take i) = ts1 at Sa e1 e2 e3 l1 l2 fitw
      obtain ⟨kvs, gk, ek⟩ := Sa.sp
      obtain ⟨dx, hp⟩ := Sa.ob
      walk_at "rd"
      refine LH.fldv hp T.cl_Town T.na_Town__spoken rfl ?_
      walk_at "rd"
      have lk : kvs.length = ts1.sp.length := by
        have := congrArg List.length ek
        rwa [List.length_map, List.length_map] at this
      refine LH.putvT (ks := ky w_) gk (by rw [ky_vs]; exact gta) (by omega) fun Hb kb gb => ?_
      have Sb := Sa.speak ek kb gb fitw
      obtain ⟨dxb, hpb⟩ := Sb.ob
      walk_at "rd"
      refine LH.fldv hpb T.cl_Town T.na_Town__count rfl ?_
      walk_at "rd"
      have ks1 : LH.Ks ta.S Ha Hb := kb.ks (by simp [TAd.S])
      have cc : (ts1.speak w_).c = ts.c := e1
      have c1' : 1 ≤ (ts1.speak w_).c := by rw [cc]; exact c1
      have c2' : (ts1.speak w_).c ≤ 12 := by rw [cc]; exact c2
      refine LH.rn1v (by show -100000 ≤ (ts1.speak w_).c; omega) (by show (ts1.speak w_).c ≤ 100000; omega) ?_
      refine LH.for_R1 (fun j σ H' => (∃ o4, σ = [some (.ref ta.p), some (.int hs_), some (.ref r), some (.ref t), o4]) ∧ LH.Ks ta.S Ha H' ∧ TownAt a.Town a.House a.Post M H' ta h ((ts1.speak w_).sends hs_ w_ j)) ⟨⟨_, rfl⟩, ks1, Sb⟩ ?_ ?_
      · rintro j σ Hj hj ⟨⟨o4, rfl⟩, kj, Sj⟩
        have hj' : (j : Int) < ts.c := by rw [← cc]; omega
        walk_at "rd"
        rw [dint]
        have ej : (0 : Int) + (j : Int) = (j : Int) := by omega
        rw [ej]
        by_cases cj : (j : Int) = hs_
        · rw [decide_eq_true cj]
          walk_at "rd"
          refine ⟨⟨_, rfl⟩, kj, ?_⟩
          have : (ts1.speak w_).sends hs_ w_ (j + 1) = (ts1.speak w_).sends hs_ w_ j := by
            show (if (j : Int) = hs_ then _ else _) = _
            rw [if_pos cj]
          rw [this]
          exact Sj
        · rw [decide_eq_false cj]
          walk_at "rd"
          obtain ⟨dxj, hpj⟩ := Sj.ob
          obtain ⟨dpj, hpo⟩ := Sj.po
          obtain ⟨kvl, gl, pl⟩ := Sj.pd
          refine LH.fldv hpj T.cl_Town T.na_Town__post rfl ?_
          refine LH.methv hpo rfl ?_
          walk_at "rd"
          refine LH.newt (LH.small rfl) fun tl Hk fk ek gk2 => ?_
          walk_at "rd"
          have Sk := Sj.same ek
          have tM : tl ∉ M := LH.not_in fk Sj.al
          have frj : Same (LH.Fr M Ha) (LH.Fr M Hj) := kj.frS inM
          have sl := sends_lt (ts := ts1.speak w_) (s := hs_) (w := w_) j
          obtain ⟨q1, q2, q3, q4⟩ := sends_same (ts := ts1.speak w_) (s := hs_) (w := w_) j
          have slt : (ts1.speak w_).lt.length = ts1.lt.length := rfl
          refine ⟨ta.po, ta.pd, _, kvl, _, rfl, ⟨⟨dpj, ek _ _ hpo⟩, ek _ _ gl⟩, by rw [LH.Paired.len pl]; omega, fun Hl kl pol => ?_⟩
          have go := Sk.go.send (s := hs_) (r := (j : Int)) (w := w_) (by rw [q1]; exact fitw) s1 (by rw [q1, cc]; exact s2) (by omega) (by rw [q1, cc]; exact hj')
          have Sl := Sk.send (s := hs_) (r := (j : Int)) (w := w_) (LH.Paired.imp (fun _ _ z => z.up (LH.same_fr ek)) pl) (LH.fr_of gk2 tM) ⟨t, rfl, LH.same_fr ek _ _ (frj _ _ (fr _ _ gt))⟩ kl pol.ob pol.dc go
          walk_at "rd"
          refine ⟨⟨_, rfl⟩, fun b o q n => kl b o (ek _ _ (kj b o q n)) fun m => n ?_, ?_⟩
          · simp only [List.mem_cons, List.not_mem_nil, or_false] at m
            rcases m with rfl | rfl <;> simp [TAd.S]
          · have : (ts1.speak w_).sends hs_ w_ (j + 1) = ((ts1.speak w_).sends hs_ w_ j).send hs_ j w_ := by
              show (if (j : Int) = hs_ then _ else _) = _
              rw [if_neg cj]
            rw [this]
            exact Sl
      · rintro σ Hj ⟨⟨o4, rfl⟩, kj, Sj⟩
        walk_at "rd"
        exact ⟨⟨_, _, rfl⟩, ka.trans kj, Sj⟩
    · rintro σ Ha ⟨⟨o3, o4, rfl⟩, ka, Sa⟩
      rw [show ws.take xs.length = ws by rw [LH.Paired.len tw, List.take_length]] at Sa
      exact k Ha ka Sa
end
end KB
namespace KB
open PySem L2 LM HM TN
local macro_rules | `(tactic| walk_at "rd1") => `(tactic| first
  | with_reducible refine LH.x_seq ?_
  | with_reducible refine LH.x_asg ?_
  | with_reducible refine LH.x_cons ?_
  | with_reducible refine LH.x_var (by with_unfolding_all exact rfl) ?_
  | with_reducible refine LH.x_c ?_
  | with_reducible refine LH.x_op ?_
  | with_reducible refine LH.x_gname ?_
  | with_reducible refine LH.x_nil ?_
  | with_reducible refine LH.x_I0 ?_
  | ((with_reducible refine LH.x_I ?k1 ?_); (case k1 => first | exact (by decide) | exact ⟨by decide, by decide⟩ | exact ⟨by decide, by decide, by decide⟩ | exact .inl ⟨by decide, by decide⟩ | exact .inr ⟨by decide, by decide⟩ | exact .inr ⟨by omega, by omega⟩ | exact .inl ⟨by omega, by omega⟩ | exact (by omega)))
  | with_reducible refine LH.x_ifS ?_
  | with_reducible refine LH.x_test ?_
  | with_reducible refine LH.x_tB ?_
  | with_reducible refine LH.bx ?_
  | with_reducible refine LH.x_and ?_
  | with_reducible refine LH.x_or ?_
  | with_reducible refine LH.x_not ?_
  | with_reducible refine LH.x_ret ?_
  | with_reducible refine LH.x_call ?_
  | with_reducible refine LH.x_cb ?_
  | with_reducible refine LH.x_lst ?_
  | with_reducible refine LH.x_tup ?_
  | with_reducible refine LH.x_bm ?_
  | with_reducible refine LH.x_drop ?_
  | with_reducible refine LH.x_next ?_
  | with_reducible refine LH.x_cont ?_
  | with_reducible refine LH.x_un ?_
  | with_reducible refine LH.x_U ?_
  | with_reducible refine LH.x_eq (by with_unfolding_all exact rfl) ?_
  | with_reducible refine LH.x_ne (by with_unfolding_all exact rfl) ?_
  | with_reducible refine LH.x_andV ?_
  | with_reducible refine LH.x_orV ?_
  | with_reducible refine LH.x_notV ?_
  | with_reducible refine LH.band ?_
  | with_reducible refine LH.bor ?_
  | with_reducible refine LH.x_if ?_
  | with_reducible refine LH.x_chain ?_
  | with_reducible refine LH.chk ?_
  | with_reducible refine LH.x_callS ?_
  | with_reducible refine LH.x_callE ?_
  | with_reducible refine LH.x_callV ?_
  | with_reducible refine LH.x_lrg ?_
  | with_reducible refine LH.x_lcS ?_
  | with_reducible refine LH.x_lcR1 ?_
  | with_reducible refine LH.x_forR1 ?_
  | with_reducible refine LH.x_forR3 ?_
  | with_reducible refine LH.strv ?_
  | with_reducible refine LH.x_yes ?_
  | with_reducible refine LH.x_sl ?_
  | with_reducible refine LH.x_noPart ?_
  | with_reducible refine LH.x_part ?_
  | with_reducible refine LH.pav ?_
  | with_reducible refine LH.x_jnv ?_
  | with_reducible refine LH.x_join ?_
  | with_reducible refine LH.x_inS ?_
  | with_reducible refine LH.x_niS ?_
  | with_reducible refine LH.x_isB ?_
  | with_reducible refine LH.x_isnB ?_
  | with_reducible refine LH.x_gcons ?_
  | with_reducible refine LH.x_gnil ?_
  | with_reducible refine LH.x_intB ?_
  | with_reducible refine LH.x_orT ?_
  | with_reducible refine LH.x_isTy ?_
  | with_reducible refine LH.x_niTy ?_
  | with_reducible refine LH.x_split ?_
  | with_reducible refine LH.x_spv ?_
  | with_reducible refine LH.x_gsub ?_
  | with_reducible refine LH.x_fmt ?_
  | with_reducible refine LH.x_js0 ?_
  | with_reducible refine LH.x_js ?_
  | with_reducible refine LH.x_rg1 ?_
  | with_reducible refine LH.x_forL ?_
  | with_reducible refine LH.x_abs ?_
  | with_reducible refine LH.x_rg2 ?_
  | with_reducible refine LH.rg1v ?_
  | with_reducible refine LH.rg2v ?_
  | with_reducible refine LH.x_forR2 ?_
  | with_reducible refine LH.x_lenSetG ?_
  | with_reducible refine LH.x_lc ?_
  | with_reducible refine LH.x_fld ?_
  | with_reducible refine LH.x_sfld ?_
  | with_reducible refine LH.x_afld ?_
  | with_reducible refine LH.x_meth ?_
  | with_reducible refine LH.x_make ?_
  | with_reducible refine LH.x_methSl ?_
  | with_reducible refine LH.x_makeSl ?_
  | with_reducible refine LH.x_din ?_
  | with_reducible refine LH.x_dni ?_
  | with_reducible refine LH.x_dget ?_
  | with_reducible refine LH.x_dput ?_
  | with_reducible refine LH.x_dget2 ?_
  | with_reducible refine LH.x_dpop1 ?_
  | with_reducible refine LH.x_litems ?_
  | with_reducible refine LH.x_tru ?_
  | with_reducible refine LH.x_revL ?_
  | with_reducible refine LH.x_dsetT ?_
  | with_reducible refine LH.x_lvals ?_
  | with_reducible refine LH.br_nt ?_
  | with_reducible refine LH.br_nf ?_
  | with_reducible refine LH.br_t ?_
  | with_reducible refine LH.br_f ?_)
local macro_rules | `(tactic| walk_at "rd") => `(tactic| repeat (walk_at "rd1"))
local macro_rules | `(tactic| walk_at "rs1") => `(tactic| first
  | with_reducible refine LH.x_seq ?_
  | with_reducible refine LH.x_cons ?_
  | with_reducible refine LH.x_var (by with_unfolding_all exact rfl) ?_
  | with_reducible refine LH.x_c ?_
  | with_reducible refine LH.x_op ?_
  | with_reducible refine LH.x_gname ?_
  | with_reducible refine LH.x_nil ?_
  | with_reducible refine LH.x_I0 ?_
  | ((with_reducible refine LH.x_I ?k1 ?_); (case k1 => first | exact (by decide) | exact ⟨by decide, by decide⟩ | exact ⟨by decide, by decide, by decide⟩ | exact .inl ⟨by decide, by decide⟩ | exact .inr ⟨by decide, by decide⟩ | exact .inr ⟨by omega, by omega⟩ | exact .inl ⟨by omega, by omega⟩ | exact (by omega)))
  | with_reducible refine LH.x_test ?_
  | with_reducible refine LH.x_tB ?_
  | with_reducible refine LH.bx ?_
  | with_reducible refine LH.x_and ?_
  | with_reducible refine LH.x_or ?_
  | with_reducible refine LH.x_not ?_
  | with_reducible refine LH.x_call ?_
  | with_reducible refine LH.x_cb ?_
  | with_reducible refine LH.x_lst ?_
  | with_reducible refine LH.x_tup ?_
  | with_reducible refine LH.x_bm ?_
  | with_reducible refine LH.x_next ?_
  | with_reducible refine LH.x_cont ?_
  | with_reducible refine LH.x_un ?_
  | with_reducible refine LH.x_U ?_
  | with_reducible refine LH.x_eq (by with_unfolding_all exact rfl) ?_
  | with_reducible refine LH.x_ne (by with_unfolding_all exact rfl) ?_
  | with_reducible refine LH.x_andV ?_
  | with_reducible refine LH.x_orV ?_
  | with_reducible refine LH.x_notV ?_
  | with_reducible refine LH.band ?_
  | with_reducible refine LH.bor ?_
  | with_reducible refine LH.x_if ?_
  | with_reducible refine LH.x_chain ?_
  | with_reducible refine LH.chk ?_
  | with_reducible refine LH.x_callS ?_
  | with_reducible refine LH.x_callE ?_
  | with_reducible refine LH.x_callV ?_
  | with_reducible refine LH.x_lrg ?_
  | with_reducible refine LH.x_lcS ?_
  | with_reducible refine LH.x_lcR1 ?_
  | with_reducible refine LH.strv ?_
  | with_reducible refine LH.x_yes ?_
  | with_reducible refine LH.x_sl ?_
  | with_reducible refine LH.x_noPart ?_
  | with_reducible refine LH.x_part ?_
  | with_reducible refine LH.pav ?_
  | with_reducible refine LH.x_jnv ?_
  | with_reducible refine LH.x_join ?_
  | with_reducible refine LH.x_inS ?_
  | with_reducible refine LH.x_niS ?_
  | with_reducible refine LH.x_isB ?_
  | with_reducible refine LH.x_isnB ?_
  | with_reducible refine LH.x_gcons ?_
  | with_reducible refine LH.x_gnil ?_
  | with_reducible refine LH.x_intB ?_
  | with_reducible refine LH.x_orT ?_
  | with_reducible refine LH.x_isTy ?_
  | with_reducible refine LH.x_niTy ?_
  | with_reducible refine LH.x_split ?_
  | with_reducible refine LH.x_spv ?_
  | with_reducible refine LH.x_gsub ?_
  | with_reducible refine LH.x_fmt ?_
  | with_reducible refine LH.x_js0 ?_
  | with_reducible refine LH.x_js ?_
  | with_reducible refine LH.x_rg1 ?_
  | with_reducible refine LH.x_abs ?_
  | with_reducible refine LH.x_rg2 ?_
  | with_reducible refine LH.rg1v ?_
  | with_reducible refine LH.rg2v ?_
  | with_reducible refine LH.x_lenSetG ?_
  | with_reducible refine LH.x_lc ?_
  | with_reducible refine LH.x_fld ?_
  | with_reducible refine LH.x_sfld ?_
  | with_reducible refine LH.x_afld ?_
  | with_reducible refine LH.x_meth ?_
  | with_reducible refine LH.x_make ?_
  | with_reducible refine LH.x_methSl ?_
  | with_reducible refine LH.x_makeSl ?_
  | with_reducible refine LH.x_din ?_
  | with_reducible refine LH.x_dni ?_
  | with_reducible refine LH.x_dget ?_
  | with_reducible refine LH.x_dput ?_
  | with_reducible refine LH.x_dget2 ?_
  | with_reducible refine LH.x_dpop1 ?_
  | with_reducible refine LH.x_litems ?_
  | with_reducible refine LH.x_tru ?_
  | with_reducible refine LH.x_revL ?_
  | with_reducible refine LH.x_dsetT ?_
  | with_reducible refine LH.x_lvals ?_
  | with_reducible refine LH.br_nt ?_
  | with_reducible refine LH.br_nf ?_
  | with_reducible refine LH.br_t ?_
  | with_reducible refine LH.br_f ?_)
local macro_rules | `(tactic| walk_at "rs") => `(tactic| repeat (walk_at "rs1"))

section
variable {P : Program} {w : World} {K : PySem.W.Frag} {mg : Str → Option Value} {base : Heap} {a : Ad}
/-- the number of an honest house -/
def Hon (ts : TSt) (x : V) (i : Int) : Prop := x = .int i ∧ i ∈ ts.hn
def spHonest (K : PySem.W.Frag) (CT CH CP BH : Addr) : Sp := fun vs H Q E => ∃ (ta : TAd) (h : Int → HA) (ts : TSt) (M : List Addr) (x : V) (T1 : String), vs = [.ref ta.p, x] ∧ TownAt CT CH CP M H ta h ts ∧ TyB K H x T1 ∧
  (∀ i, Hon ts x i → Q (.ref (h i).p) H) ∧ ((∀ i, ¬ Hon ts x i) → E (.ref BH) none H)
theorem ok_Town__honest_house (T : Txt K mg a) : FnOk P w K mg base (L2N.CX P w) 3 a.Town__honest_house a.d_Town__honest_house ["self", "house"] (spHonest K a.Town a.House a.Post a.BadHouse) := by
  have G_is_house := ok_is_house (P := P) (w := w) (base := base) T
  refine LH.okN T.F_Town__honest_house sc_Town__honest_house (fun vs H Q E h => ?_) (fun cdv A outer s H vs Q E hr h => ?_)
  · obtain ⟨ta, h, ts, M, x, T1, rfl, _⟩ := h
    rfl
  · obtain ⟨ta, h, ts, M, x, T1, rfl, S, t1, k, kE⟩ := h
    obtain ⟨dx, hp⟩ := S.ob
    have HR_is_house : Room 2 _ := hr.mono (by decide)
    refine ⟨_, (pss_cons (ps_if (PW.pt (pw_or (pt_not (pt_val (pe_call G_is_house HR_is_house rfl T.g_is_house T.F_is_house.kp T.b_is_house .nil pass0 (pa_cons (pe_fld (pv 0) rfl) (pa_cons (pv 1) pa_nil))))) (pw_or1 (pt_cmp (pc_dnotin (hu_of hr) (pv 1) (pe_fld (pv 0) rfl))))))
    (pss_one (L2N.ps_raise rfl (LH.tkN (E := E)) (LH.pmkN PySem.F.excBase_ValueError T.x_BadHouse T.g_BadHouse T.k_BadHouse (raises_own T.bx_BadHouse T.t_BadHouse) rfl (pa_cons pe_str pa_nil))))
    pss_nil)
  (pss_one (ps_ret (pe_dget (hu_of hr) (pe_fld (pv 0) rfl) (pv 1) (fun _ _ => rfl))))), ?_⟩
    walk_at "rd"
    refine LH.fldv hp T.cl_Town T.na_Town__count rfl ?_
    walk_at "rd"
    refine ⟨_, x, T1, rfl, t1, ?_⟩
    walk_at "rd"
    cases e : isW x 0 (ts.c - 1) with
    | false =>
      walk_at "rd"
      refine ⟨by show 1 ≤ sizeLine; decide, kE fun i hi => ?_⟩
      obtain ⟨rfl, hi⟩ := hi
      have := S.go.hb i hi
      rw [isW_yes (by omega) (by omega)] at e
      cases e
    | true =>
      obtain ⟨i, rfl, _⟩ := isW_int e
      walk_at "rd"
      refine LH.fldv hp T.cl_Town T.na_Town__honest rfl ?_
      refine LH.niv (LH.getI S.hd) ?_
      by_cases c : i ∈ ts.hn
      · rw [hn_val c]
        walk_at "rd"
        refine LH.br_eq (b' := false) rfl ?_
        walk_at "rd"
        refine LH.fldv hp T.cl_Town T.na_Town__honest rfl ?_
        walk_at "rd"
        refine LH.getv (LH.getI S.hd) (hn_val c) ?_
        exact k i ⟨rfl, c⟩
      · rw [hn_none c]
        walk_at "rd"
        refine LH.br_eq (b' := true) rfl ?_
        walk_at "rd"
        refine ⟨by show 1 ≤ sizeLine; decide, kE fun j hj => ?_⟩
        obtain ⟨e, hj⟩ := hj
        injection e with e
        exact c (e ▸ hj)
def spTWaiting (CT CH CP : Addr) : Sp := fun vs H Q _ => ∃ (ta : TAd) (h : Int → HA) (ts : TSt) (M : List Addr), vs = [.ref ta.p] ∧ TownAt CT CH CP M H ta h ts ∧
  ∀ q H' (tl : List Addr), Same H H' → H q = none → (∀ t ∈ tl, H t = none) → H' q = some (.lst (tl.map V.ref)) → Paired (fun (t : Addr) (l : Ltr) => ∃ u v, H' t = some (.tup [.int l.n, .ref u]) ∧ LH.Fr M H u = some (.tup [.int l.s, .int l.r, v]) ∧ WT (LH.Fr M H) v l.w) tl ts.lt → Q (.ref q) H'
theorem paired_comp {α β γ : Type} {F : α → β → Prop} {G : β → γ → Prop} {J : α → γ → Prop} (hj : ∀ x y z, F x y → G y z → J x z) : ∀ {xs : List α} {ys : List β} {zs : List γ}, Paired F xs ys → Paired G ys zs → Paired J xs zs
  | _, _, _, .nil, .nil => .nil
  | _, _, _, .cons q r, .cons q2 r2 => .cons (hj _ _ _ q q2) (paired_comp hj r r2)
theorem ok_Town_waiting (T : Txt K mg a) : FnOk P w K mg base CX0 2 a.Town_waiting a.d_Town_waiting ["self"] (spTWaiting a.Town a.House a.Post) := by
  have G_Post_waiting := ok_Post_waiting (P := P) (w := w) (base := base) T
  refine T.F_Town_waiting.ok sc_Town_waiting (fun vs H Q E h => ?_) (fun cdv A outer s H vs Q E hr h => ?_)
  · obtain ⟨ta, h, ts, M, rfl, _⟩ := h
    rfl
  · obtain ⟨ta, h, ts, M, rfl, S, k⟩ := h
    obtain ⟨dx, hp⟩ := S.ob
    obtain ⟨dp, hpo⟩ := S.po
    obtain ⟨kvs, gk, pk⟩ := S.pd
    have HR_Post_waiting : Room 1 _ := hr.mono (by decide)
    refine ⟨_, (pss_one (ps_ret (pe_meth0 (pe_fld (pv 0) rfl) T.cl_Post T.me_Post_waiting G_Post_waiting HR_Post_waiting T.b_Post_waiting .nil pass0))), ?_⟩
    walk_at "rd"
    refine LH.fldv hp T.cl_Town T.na_Town__post rfl ?_
    refine LH.methv hpo rfl ?_
    walk_at "rd"
    refine ⟨ta.po, ta.pd, _, kvs, rfl, ⟨⟨dp, hpo⟩, gk⟩, fun q H' tl e f ft g pr => k q H' tl e f ft g (paired_comp (fun t e l h1 h2 => ?_) pr pk)⟩
    obtain ⟨e1, u, v, e2, hu, hw⟩ := h2
    exact ⟨u, v, by rw [h1, e1, e2]; rfl, hu, hw⟩
def spTSpoken (CT CH CP : Addr) : Sp := fun vs H Q _ => ∃ (ta : TAd) (h : Int → HA) (ts : TSt) (M : List Addr), vs = [.ref ta.p] ∧ TownAt CT CH CP M H ta h ts ∧
  ∀ r H' (bs : List Addr), H r = none → Same H H' → H' r = some (.lst (bs.map V.ref)) → TW (LH.Fr M H) (bs.map V.ref) ts.sp → Q (.ref r) H'
theorem spoken_tw {M : List Addr} {H : Hp} (nt : ∀ b ∈ M, ∀ xs, H b ≠ some (.tup xs)) : ∀ {kvs : List (List Key × V)} {bs : List Addr} {l : List Wrd}, Paired (fun (e : List Key × V) (b : Addr) => H b = some (.tup (e.1.map kV))) kvs bs → kvs.map (·.1) = l.map ky → TW (LH.Fr M H) (bs.map V.ref) l
  | _, _, [], .nil, _ => .nil
  | _, _, w :: l, .nil, e => nomatch e
  | _, _, [], .cons _ _, e => nomatch e
  | _, _, w :: l, .cons (a := p) (b := b) q r, e => by
    rw [List.map_cons, List.map_cons] at e
    injection e with e1 e2
    have q : H b = some (.tup (p.1.map kV)) := q
    rw [e1, ky_vs] at q
    exact .cons ⟨_, rfl, LH.fr_of q fun m => nt _ m _ q⟩ (spoken_tw nt r e2)
theorem ok_Town_spoken (T : Txt K mg a) : FnOk P w K mg base CX0 1 a.Town_spoken a.d_Town_spoken ["self"] (spTSpoken a.Town a.House a.Post) := by
  refine T.F_Town_spoken.ok sc_Town_spoken (fun vs H Q E h => ?_) (fun cdv A outer s H vs Q E hr h => ?_)
  · obtain ⟨ta, h, ts, M, rfl, _⟩ := h
    rfl
  · obtain ⟨ta, h, ts, M, rfl, S, k⟩ := h
    obtain ⟨dx, hp⟩ := S.ob
    obtain ⟨kvs, gk, ek⟩ := S.sp
    refine ⟨_, (pss_one (ps_ret (pe_callTy (LH.call_keysT rfl) rfl T.n_list (by decide +kernel) (pa_cons (pe_fld (pv 0) rfl) pa_nil)))), ?_⟩
    walk_at "rd"
    refine LH.fldv hp T.cl_Town T.na_Town__spoken rfl ?_
    walk_at "rd"
    exact LH.x_keysT gk fun r H' bs f e g pr => k r H' bs f e g (spoken_tw S.nt pr ek)
def spTLedger (K : PySem.W.Frag) (CT CH CP BH : Addr) : Sp := fun vs H Q E => ∃ (ta : TAd) (h : Int → HA) (ts : TSt) (M : List Addr) (x : V) (T1 : String), vs = [.ref ta.p, x] ∧ TownAt CT CH CP M H ta h ts ∧ TyB K H x T1 ∧
  (∀ i, Hon ts x i → (ts.st i).rows.length < 64 ∧ ∀ r H', H r = none → Same H H' → H' r = some (.dK (ledK (ts.st i))) → Q (.ref r) H') ∧ ((∀ i, ¬ Hon ts x i) → E (.ref BH) none H)
theorem ok_Town_ledger (T : Txt K mg a) : FnOk P w K mg base (L2N.CX P w) 4 a.Town_ledger a.d_Town_ledger ["self", "house"] (spTLedger K a.Town a.House a.Post a.BadHouse) := by
  have G_Town__honest_house := ok_Town__honest_house (P := P) (w := w) (base := base) T
  have G_House_ledger := ok_House_ledger (P := P) (w := w) (base := base) T
  refine LH.okN T.F_Town_ledger sc_Town_ledger (fun vs H Q E h => ?_) (fun cdv A outer s H vs Q E hr h => ?_)
  · obtain ⟨ta, h, ts, M, x, T1, rfl, _⟩ := h
    rfl
  · obtain ⟨ta, h, ts, M, x, T1, rfl, S, t1, k, kE⟩ := h
    obtain ⟨dx, hp⟩ := S.ob
    have HR_House_ledger : Room 1 _ := hr.mono (by decide)
    have HR_Town__honest_house : Room 3 _ := hr.mono (by decide)
    refine ⟨_, (pss_one (ps_ret (pe_meth0 (pe_meth (pv 0) T.cl_Town T.me_Town__honest_house G_Town__honest_house HR_Town__honest_house T.b_Town__honest_house .nil (L2N.passes_call (LH.tkN (E := E)) fun _ _ _ _ z => z) (pa_cons (pv 1) pa_nil)) T.cl_House T.me_House_ledger G_House_ledger HR_House_ledger T.b_House_ledger .nil pass0))), ?_⟩
    walk_at "rd"
    refine LH.methv hp rfl ?_
    walk_at "rd"
    refine ⟨ta, h, ts, M, x, T1, rfl, S, t1, fun i hi => ?_, kE⟩
    obtain ⟨sz, k⟩ := k i hi
    have Si := S.hs i hi.2
    obtain ⟨dxi, hpi⟩ := Si.ob
    refine LH.methv hpi rfl ?_
    walk_at "rd"
    exact ⟨h i, ts.st i, _, rfl, Si, sz, k⟩
def spTCaught (K : PySem.W.Frag) (CT CH CP BH : Addr) : Sp := fun vs H Q E => ∃ (ta : TAd) (h : Int → HA) (ts : TSt) (M : List Addr) (x : V) (T1 : String), vs = [.ref ta.p, x] ∧ TownAt CT CH CP M H ta h ts ∧ TyB K H x T1 ∧
  (∀ i, Hon ts x i → ∀ r H' ns, H r = none → Same H H' → H' r = some (.lst ns) → Paired (Nm (LH.Fr M H)) ns (ts.st i).named → Q (.ref r) H') ∧ ((∀ i, ¬ Hon ts x i) → E (.ref BH) none H)
theorem ok_Town_caught (T : Txt K mg a) : FnOk P w K mg base (L2N.CX P w) 4 a.Town_caught a.d_Town_caught ["self", "house"] (spTCaught K a.Town a.House a.Post a.BadHouse) := by
  have G_Town__honest_house := ok_Town__honest_house (P := P) (w := w) (base := base) T
  have G_House_caught := ok_House_caught (P := P) (w := w) (base := base) T
  refine LH.okN T.F_Town_caught sc_Town_caught (fun vs H Q E h => ?_) (fun cdv A outer s H vs Q E hr h => ?_)
  · obtain ⟨ta, h, ts, M, x, T1, rfl, _⟩ := h
    rfl
  · obtain ⟨ta, h, ts, M, x, T1, rfl, S, t1, k, kE⟩ := h
    obtain ⟨dx, hp⟩ := S.ob
    have HR_House_caught : Room 1 _ := hr.mono (by decide)
    have HR_Town__honest_house : Room 3 _ := hr.mono (by decide)
    refine ⟨_, (pss_one (ps_ret (pe_meth0 (pe_meth (pv 0) T.cl_Town T.me_Town__honest_house G_Town__honest_house HR_Town__honest_house T.b_Town__honest_house .nil (L2N.passes_call (LH.tkN (E := E)) fun _ _ _ _ z => z) (pa_cons (pv 1) pa_nil)) T.cl_House T.me_House_caught G_House_caught HR_House_caught T.b_House_caught .nil pass0))), ?_⟩
    walk_at "rd"
    refine LH.methv hp rfl ?_
    walk_at "rd"
    refine ⟨ta, h, ts, M, x, T1, rfl, S, t1, fun i hi => ?_, kE⟩
    have k := k i hi
    have Si := S.hs i hi.2
    obtain ⟨dxi, hpi⟩ := Si.ob
    refine LH.methv hpi rfl ?_
    walk_at "rd"
    exact ⟨h i, ts.st i, _, rfl, Si, fun r H' kvs f e _ g p => k r H' _ f e g p⟩
def spTBacking (K : PySem.W.Frag) (CT CH CP BH NW : Addr) : Sp := fun vs H Q E => ∃ (ta : TAd) (h : Int → HA) (ts : TSt) (M : List Addr) (x y : V) (T1 T2 : String), vs = [.ref ta.p, x, y] ∧ TownAt CT CH CP M H ta h ts ∧ TyB K H x T1 ∧ TyB K H y T2 ∧
  (∀ i, Hon ts x i → (∃ n ws, y = .int n ∧ ((ts.st i).backs.find? fun e => decide (e.1 = n)) = some (n, ws) ∧ ∀ r H' xs, H r = none → Same H H' → H' r = some (.lst xs) → TW (LH.Fr M H) xs ws → Q (.ref r) H') ∨
    ((∀ n, y = .int n → ((ts.st i).backs.find? fun e => decide (e.1 = n)) = none) ∧ E (.ref NW) none H)) ∧ ((∀ i, ¬ Hon ts x i) → E (.ref BH) none H)
theorem ok_Town_backing (T : Txt K mg a) : FnOk P w K mg base (L2N.CX P w) 4 a.Town_backing a.d_Town_backing ["self", "house", "number"] (spTBacking K a.Town a.House a.Post a.BadHouse a.NotWritten) := by
  have G_Town__honest_house := ok_Town__honest_house (P := P) (w := w) (base := base) T
  have G_House_backing := ok_House_backing (P := P) (w := w) (base := base) T
  refine LH.okN T.F_Town_backing sc_Town_backing (fun vs H Q E h => ?_) (fun cdv A outer s H vs Q E hr h => ?_)
  · obtain ⟨ta, h, ts, M, x, y, T1, T2, rfl, _⟩ := h
    rfl
  · obtain ⟨ta, h, ts, M, x, y, T1, T2, rfl, S, t1, t2, k, kE⟩ := h
    obtain ⟨dx, hp⟩ := S.ob
    have HR_House_backing : Room 1 _ := hr.mono (by decide)
    have HR_Town__honest_house : Room 3 _ := hr.mono (by decide)
    refine ⟨_, (pss_one (ps_ret (pe_meth (pe_meth (pv 0) T.cl_Town T.me_Town__honest_house G_Town__honest_house HR_Town__honest_house T.b_Town__honest_house .nil (L2N.passes_call (LH.tkN (E := E)) fun _ _ _ _ z => z) (pa_cons (pv 1) pa_nil)) T.cl_House T.me_House_backing G_House_backing HR_House_backing T.b_House_backing .nil (L2N.passes_call (LH.tkN (E := E)) fun _ _ _ _ z => z) (pa_cons (pv 2) pa_nil)))), ?_⟩
    walk_at "rd"
    refine LH.methv hp rfl ?_
    walk_at "rd"
    refine ⟨ta, h, ts, M, x, T1, rfl, S, t1, fun i hi => ?_, kE⟩
    have k := k i hi
    have Si := S.hs i hi.2
    obtain ⟨dxi, hpi⟩ := Si.ob
    refine LH.methv hpi rfl ?_
    walk_at "rd"
    exact ⟨h i, ts.st i, _, y, T2, rfl, Si, LH.fr_le, t2, k⟩
end
end KB
namespace KB
open PySem L2 LM HM TN
local macro_rules | `(tactic| walk_at "rd1") => `(tactic| first
  | with_reducible refine LH.x_seq ?_
  | with_reducible refine LH.x_asg ?_
  | with_reducible refine LH.x_cons ?_
  | with_reducible refine LH.x_var (by with_unfolding_all exact rfl) ?_
  | with_reducible refine LH.x_c ?_
  | with_reducible refine LH.x_op ?_
  | with_reducible refine LH.x_gname ?_
  | with_reducible refine LH.x_nil ?_
  | with_reducible refine LH.x_I0 ?_
  | ((with_reducible refine LH.x_I ?k1 ?_); (case k1 => first | exact (by decide) | exact ⟨by decide, by decide⟩ | exact ⟨by decide, by decide, by decide⟩ | exact .inl ⟨by decide, by decide⟩ | exact .inr ⟨by decide, by decide⟩ | exact .inr ⟨by omega, by omega⟩ | exact .inl ⟨by omega, by omega⟩ | exact (by omega)))
  | with_reducible refine LH.x_ifS ?_
  | with_reducible refine LH.x_test ?_
  | with_reducible refine LH.x_tB ?_
  | with_reducible refine LH.bx ?_
  | with_reducible refine LH.x_and ?_
  | with_reducible refine LH.x_or ?_
  | with_reducible refine LH.x_not ?_
  | with_reducible refine LH.x_ret ?_
  | with_reducible refine LH.x_call ?_
  | with_reducible refine LH.x_cb ?_
  | with_reducible refine LH.x_lst ?_
  | with_reducible refine LH.x_tup ?_
  | with_reducible refine LH.x_bm ?_
  | with_reducible refine LH.x_drop ?_
  | with_reducible refine LH.x_next ?_
  | with_reducible refine LH.x_cont ?_
  | with_reducible refine LH.x_un ?_
  | with_reducible refine LH.x_U ?_
  | with_reducible refine LH.x_eq (by with_unfolding_all exact rfl) ?_
  | with_reducible refine LH.x_ne (by with_unfolding_all exact rfl) ?_
  | with_reducible refine LH.x_andV ?_
  | with_reducible refine LH.x_orV ?_
  | with_reducible refine LH.x_notV ?_
  | with_reducible refine LH.band ?_
  | with_reducible refine LH.bor ?_
  | with_reducible refine LH.x_if ?_
  | with_reducible refine LH.x_chain ?_
  | with_reducible refine LH.chk ?_
  | with_reducible refine LH.x_callS ?_
  | with_reducible refine LH.x_callE ?_
  | with_reducible refine LH.x_callV ?_
  | with_reducible refine LH.x_lrg ?_
  | with_reducible refine LH.x_lcS ?_
  | with_reducible refine LH.x_lcR1 ?_
  | with_reducible refine LH.x_forR1 ?_
  | with_reducible refine LH.x_forR3 ?_
  | with_reducible refine LH.strv ?_
  | with_reducible refine LH.x_yes ?_
  | with_reducible refine LH.x_sl ?_
  | with_reducible refine LH.x_noPart ?_
  | with_reducible refine LH.x_part ?_
  | with_reducible refine LH.pav ?_
  | with_reducible refine LH.x_jnv ?_
  | with_reducible refine LH.x_join ?_
  | with_reducible refine LH.x_inS ?_
  | with_reducible refine LH.x_niS ?_
  | with_reducible refine LH.x_isB ?_
  | with_reducible refine LH.x_isnB ?_
  | with_reducible refine LH.x_gcons ?_
  | with_reducible refine LH.x_gnil ?_
  | with_reducible refine LH.x_intB ?_
  | with_reducible refine LH.x_orT ?_
  | with_reducible refine LH.x_isTy ?_
  | with_reducible refine LH.x_niTy ?_
  | with_reducible refine LH.x_split ?_
  | with_reducible refine LH.x_spv ?_
  | with_reducible refine LH.x_gsub ?_
  | with_reducible refine LH.x_fmt ?_
  | with_reducible refine LH.x_js0 ?_
  | with_reducible refine LH.x_js ?_
  | with_reducible refine LH.x_rg1 ?_
  | with_reducible refine LH.x_forL ?_
  | with_reducible refine LH.x_abs ?_
  | with_reducible refine LH.x_rg2 ?_
  | with_reducible refine LH.rg1v ?_
  | with_reducible refine LH.rg2v ?_
  | with_reducible refine LH.x_forR2 ?_
  | with_reducible refine LH.x_lenSetG ?_
  | with_reducible refine LH.x_lc ?_
  | with_reducible refine LH.x_fld ?_
  | with_reducible refine LH.x_sfld ?_
  | with_reducible refine LH.x_afld ?_
  | with_reducible refine LH.x_meth ?_
  | with_reducible refine LH.x_make ?_
  | with_reducible refine LH.x_methSl ?_
  | with_reducible refine LH.x_makeSl ?_
  | with_reducible refine LH.x_din ?_
  | with_reducible refine LH.x_dni ?_
  | with_reducible refine LH.x_dget ?_
  | with_reducible refine LH.x_dput ?_
  | with_reducible refine LH.x_dget2 ?_
  | with_reducible refine LH.x_dpop1 ?_
  | with_reducible refine LH.x_litems ?_
  | with_reducible refine LH.x_tru ?_
  | with_reducible refine LH.x_revL ?_
  | with_reducible refine LH.x_dsetT ?_
  | with_reducible refine LH.x_lvals ?_
  | with_reducible refine LH.br_nt ?_
  | with_reducible refine LH.br_nf ?_
  | with_reducible refine LH.br_t ?_
  | with_reducible refine LH.br_f ?_)
local macro_rules | `(tactic| walk_at "rd") => `(tactic| repeat (walk_at "rd1"))
local macro_rules | `(tactic| walk_at "rs1") => `(tactic| first
  | with_reducible refine LH.x_seq ?_
  | with_reducible refine LH.x_cons ?_
  | with_reducible refine LH.x_var (by with_unfolding_all exact rfl) ?_
  | with_reducible refine LH.x_c ?_
  | with_reducible refine LH.x_op ?_
  | with_reducible refine LH.x_gname ?_
  | with_reducible refine LH.x_nil ?_
  | with_reducible refine LH.x_I0 ?_
  | ((with_reducible refine LH.x_I ?k1 ?_); (case k1 => first | exact (by decide) | exact ⟨by decide, by decide⟩ | exact ⟨by decide, by decide, by decide⟩ | exact .inl ⟨by decide, by decide⟩ | exact .inr ⟨by decide, by decide⟩ | exact .inr ⟨by omega, by omega⟩ | exact .inl ⟨by omega, by omega⟩ | exact (by omega)))
  | with_reducible refine LH.x_test ?_
  | with_reducible refine LH.x_tB ?_
  | with_reducible refine LH.bx ?_
  | with_reducible refine LH.x_and ?_
  | with_reducible refine LH.x_or ?_
  | with_reducible refine LH.x_not ?_
  | with_reducible refine LH.x_call ?_
  | with_reducible refine LH.x_cb ?_
  | with_reducible refine LH.x_lst ?_
  | with_reducible refine LH.x_tup ?_
  | with_reducible refine LH.x_bm ?_
  | with_reducible refine LH.x_next ?_
  | with_reducible refine LH.x_cont ?_
  | with_reducible refine LH.x_un ?_
  | with_reducible refine LH.x_U ?_
  | with_reducible refine LH.x_eq (by with_unfolding_all exact rfl) ?_
  | with_reducible refine LH.x_ne (by with_unfolding_all exact rfl) ?_
  | with_reducible refine LH.x_andV ?_
  | with_reducible refine LH.x_orV ?_
  | with_reducible refine LH.x_notV ?_
  | with_reducible refine LH.band ?_
  | with_reducible refine LH.bor ?_
  | with_reducible refine LH.x_if ?_
  | with_reducible refine LH.x_chain ?_
  | with_reducible refine LH.chk ?_
  | with_reducible refine LH.x_callS ?_
  | with_reducible refine LH.x_callE ?_
  | with_reducible refine LH.x_callV ?_
  | with_reducible refine LH.x_lrg ?_
  | with_reducible refine LH.x_lcS ?_
  | with_reducible refine LH.x_lcR1 ?_
  | with_reducible refine LH.strv ?_
  | with_reducible refine LH.x_yes ?_
  | with_reducible refine LH.x_sl ?_
  | with_reducible refine LH.x_noPart ?_
  | with_reducible refine LH.x_part ?_
  | with_reducible refine LH.pav ?_
  | with_reducible refine LH.x_jnv ?_
  | with_reducible refine LH.x_join ?_
  | with_reducible refine LH.x_inS ?_
  | with_reducible refine LH.x_niS ?_
  | with_reducible refine LH.x_isB ?_
  | with_reducible refine LH.x_isnB ?_
  | with_reducible refine LH.x_gcons ?_
  | with_reducible refine LH.x_gnil ?_
  | with_reducible refine LH.x_intB ?_
  | with_reducible refine LH.x_orT ?_
  | with_reducible refine LH.x_isTy ?_
  | with_reducible refine LH.x_niTy ?_
  | with_reducible refine LH.x_split ?_
  | with_reducible refine LH.x_spv ?_
  | with_reducible refine LH.x_gsub ?_
  | with_reducible refine LH.x_fmt ?_
  | with_reducible refine LH.x_js0 ?_
  | with_reducible refine LH.x_js ?_
  | with_reducible refine LH.x_rg1 ?_
  | with_reducible refine LH.x_abs ?_
  | with_reducible refine LH.x_rg2 ?_
  | with_reducible refine LH.rg1v ?_
  | with_reducible refine LH.rg2v ?_
  | with_reducible refine LH.x_lenSetG ?_
  | with_reducible refine LH.x_lc ?_
  | with_reducible refine LH.x_fld ?_
  | with_reducible refine LH.x_sfld ?_
  | with_reducible refine LH.x_afld ?_
  | with_reducible refine LH.x_meth ?_
  | with_reducible refine LH.x_make ?_
  | with_reducible refine LH.x_methSl ?_
  | with_reducible refine LH.x_makeSl ?_
  | with_reducible refine LH.x_din ?_
  | with_reducible refine LH.x_dni ?_
  | with_reducible refine LH.x_dget ?_
  | with_reducible refine LH.x_dput ?_
  | with_reducible refine LH.x_dget2 ?_
  | with_reducible refine LH.x_dpop1 ?_
  | with_reducible refine LH.x_litems ?_
  | with_reducible refine LH.x_tru ?_
  | with_reducible refine LH.x_revL ?_
  | with_reducible refine LH.x_dsetT ?_
  | with_reducible refine LH.x_lvals ?_
  | with_reducible refine LH.br_nt ?_
  | with_reducible refine LH.br_nf ?_
  | with_reducible refine LH.br_t ?_
  | with_reducible refine LH.br_f ?_)
local macro_rules | `(tactic| walk_at "rs") => `(tactic| repeat (walk_at "rs1"))

section
variable {P : Program} {w : World} {K : PySem.W.Frag} {mg : Str → Option Value} {base : Heap} {a : Ad}
/-- how much a town holds at the most -/
structure Few (ts : TSt) (n : Nat) : Prop where
  h : ∀ i ∈ ts.hn, (ts.st i).size ≤ n
  l : ts.lt.length ≤ n
  s : ts.sp.length ≤ n
def spTCall (K : PySem.W.Frag) (CT CH CP BH BR : Addr) : Sp := fun vs H Q E => ∃ (ta : TAd) (h : Int → HA) (ts : TSt) (M : List Addr) (x y : V) (T1 T2 : String), vs = [.ref ta.p, x, y] ∧ TownAt CT CH CP M H ta h ts ∧ TyB K H x T1 ∧ TyB K H y T2 ∧ Sm y ∧ Few ts 19970 ∧
  ((∀ i, ¬ Hon ts x i) → E (.ref BH) none H) ∧ (∀ i, Hon ts x i → isRow y = false → ∀ H', Same H H' → E (.ref BR) none H') ∧
  ∀ i z, Hon ts x i → y = .str z → isRow y = true → ∀ H' N h' r xs, TNxt CT CH CP M H ta h ts (ts.call i z) H' N h' → H r = none → r ∈ N → H' r = some (.lst xs) → TW (LH.Fr (N ++ M) H') xs ((ts.st i).callT z) → Q (.ref r) H'
theorem tw_of {F : Hp} {xs : List V} {ws : List Wrd} (h : Paired (fun x w => WT F x w) xs ws) : TW F xs ws := h
theorem ok_Town_call (T : Txt K mg a) : FnOk P w K mg base (L2N.CX P w) 8 a.Town_call a.d_Town_call ["self", "house", "row"] (spTCall K a.Town a.House a.Post a.BadHouse a.BadRow) := by
  have G_Town__honest_house := ok_Town__honest_house (P := P) (w := w) (base := base) T
  have G_House_call := ok_House_call (P := P) (w := w) (base := base) T
  have G_Town__tell := ok_Town__tell (P := P) (w := w) (base := base) T
  refine LH.okN T.F_Town_call sc_Town_call (fun vs H Q E h => ?_) (fun cdv A outer s H vs Q E hr h => ?_)
  · obtain ⟨ta, h, ts, M, x, y, T1, T2, rfl, _⟩ := h
    rfl
  · obtain ⟨ta, h, ts, M, x, y, T1, T2, rfl, S, t1, t2, sy, few, kH, kR, k⟩ := h
    obtain ⟨dx, hp⟩ := S.ob
    have HR_House_call : Room 7 _ := hr.mono (by decide)
    have HR_Town__honest_house : Room 3 _ := hr.mono (by decide)
    have HR_Town__tell : Room 2 _ := hr.mono (by decide)
    refine ⟨_, (pss_cons (ps_set (i := 3) sc_Town_call.nd rfl (Or.inl rfl) (pe_meth (pe_meth (pv 0) T.cl_Town T.me_Town__honest_house G_Town__honest_house HR_Town__honest_house T.b_Town__honest_house .nil (L2N.passes_call (LH.tkN (E := E)) fun _ _ _ _ z => z) (pa_cons (pv 1) pa_nil)) T.cl_House T.me_House_call G_House_call HR_House_call T.b_House_call .nil (L2N.passes_call (LH.tkN (E := E)) fun _ _ _ _ z => z) (pa_cons (pv 2) pa_nil)))
  (pss_cons (ps_expr (pe_meth (pv 0) T.cl_Town T.me_Town__tell G_Town__tell HR_Town__tell T.b_Town__tell .nil pass0 (pa_cons (pv 1) (pa_cons (pv 3) pa_nil))))
  (pss_one (ps_ret (pv 3))))), ?_⟩
    walk_at "rd"
    refine LH.methv hp rfl ?_
    walk_at "rd"
    refine ⟨ta, h, ts, M, x, T1, rfl, S, t1, fun i hi => ?_, kH⟩
    have Si := S.hs i hi.2
    have fi := few.h i hi.2
    obtain ⟨hc1, hc2⟩ := S.go.hc i hi.2
    obtain ⟨dxi, hpi⟩ := Si.ob
    have inS : ∀ b ∈ (h i).S, b ∈ M := fun b hb => S.inM b (mem_places.mpr (.inr ⟨i, hi.2, hb⟩))
    refine LH.methv hpi rfl ?_
    walk_at "rd"
    refine ⟨h i, ts.st i, y, T2, M, rfl, ⟨Si, inS, S.al, by omega⟩, t2, sy, fi, fun e => kR i hi e, fun z ez rz H1 N h1 r xs nx f rN g tw ap => ?_⟩
    obtain ⟨N2, rN2, nx2, nt2⟩ := nxt_with nx f g ap
    obtain ⟨s1, s2, s3⟩ := hear_same (st := { ts.st i with due := (ts.st i).due + (ts.st i).c }) (w := sayOf (ts.st i) z)
    have S1 := S.house hi.2 nx2 nt2 (show ((ts.st i).call z).c = ts.c from s1.trans hc1) (show ((ts.st i).call z).own = i from s2.trans hc2)
    have tw2 := tw_of (tw_fr (M2 := N2 ++ M) tw S1.nt)
    obtain ⟨dx1, hp1⟩ := S1.ob
    obtain ⟨rfl, hin⟩ := hi
    have ok : LM.Ok z := by
      rw [ez] at rz
      exact row_ok rz
    have c2 := S.go.c2
    have c12 : (ts.st i).c ≤ 12 := by rw [hc1]; exact c2
    have hb := S.go.hb i hin
    walk_at "rd"
    refine LH.methv hp1 rfl ?_
    walk_at "rd"
    have ll := few.l
    have ls := few.s
    refine ⟨ta, _, _, N2 ++ M, i, r, xs, _, rfl, S1, g, tw2, fun w_ hw_ => (by have := call_fit Si.go ok hw_; rw [hc1] at this; exact this), hb.1, hb.2, by show ts.lt.length ≤ 40000; omega, by show ts.sp.length ≤ 40000; omega, by have := call_len (st := ts.st i) (z := z) c12; omega, fun H2 k2 S2 => ?_⟩
    walk_at "rd"
    have rS : r ∉ ta.S := fun m => S.notAll f (mem_places.mpr (.inl m))
    have e2 := tell_same (ws := (ts.st i).callT z) (ts := ts.put i ((ts.st i).call z)) (s := i)
    refine k i z ⟨rfl, hin⟩ ez rz H2 N2 _ r xs (S.comes hin nx2 nt2 k2 e2.2.1 S2) f rN2 (k2 _ _ g rS) ?_
    exact tw2.up (k2.frS fun b hb => S1.inM b (mem_places.mpr (.inl hb)))
def spTBring (K : PySem.W.Frag) (CT CH CP NL : Addr) : Sp := fun vs H Q E => ∃ (ta : TAd) (h : Int → HA) (ts : TSt) (M : List Addr) (x : V) (T1 : String), vs = [.ref ta.p, x] ∧ TownAt CT CH CP M H ta h ts ∧ TyB K H x T1 ∧ Few ts 19970 ∧
  ((∀ l ∈ ts.lt, x ≠ .int l.n) → E (.ref NL) none H) ∧
  ∀ l ∈ ts.lt, x = .int l.n → ∀ H' N h' r xs, TNxt CT CH CP M H ta h ts (ts.bring l) H' N h' → H r = none → r ∈ N → H' r = some (.lst xs) → TW (LH.Fr (N ++ M) H') xs (ts.bringT l) → Q (.ref r) H'
theorem ok_Town_bring (T : Txt K mg a) : FnOk P w K mg base (L2N.CX P w) 7 a.Town_bring a.d_Town_bring ["self", "number"] (spTBring K a.Town a.House a.Post a.NoLetter) := by
  have G_Post_bring := ok_Post_bring (P := P) (w := w) (base := base) T
  have G_House_hear := ok_House_hear (P := P) (w := w) (base := base) T
  have G_Town__tell := ok_Town__tell (P := P) (w := w) (base := base) T
  refine LH.okN T.F_Town_bring sc_Town_bring (fun vs H Q E h => ?_) (fun cdv A outer s H vs Q E hr h => ?_)
  · obtain ⟨ta, h, ts, M, x, T1, rfl, _⟩ := h
    rfl
  · obtain ⟨ta, h, ts, M, x, T1, rfl, S, t1, few, kE, k⟩ := h
    obtain ⟨dx, hp⟩ := S.ob
    obtain ⟨dp, hpo⟩ := S.po
    obtain ⟨kvs, gk, pk⟩ := S.pd
    have HR_House_hear : Room 6 _ := hr.mono (by decide)
    have HR_Post_bring : Room 1 _ := hr.mono (by decide)
    have HR_Town__tell : Room 2 _ := hr.mono (by decide)
    refine ⟨_, (pss_cons (ps_asg (pe_meth (pe_fld (pv 0) rfl) T.cl_Post T.me_Post_bring G_Post_bring HR_Post_bring T.b_Post_bring .nil (L2N.passes_call (LH.tkN (E := E)) fun _ _ _ _ z => z) (pa_cons (pv 1) pa_nil)) (pg_tup rfl (pgs_cons (pg_name (i := 2) sc_Town_bring.nd rfl (Or.inl rfl)) (pgs_cons (pg_name (i := 3) sc_Town_bring.nd rfl (Or.inl rfl)) (pgs_cons (pg_name (i := 4) sc_Town_bring.nd rfl (Or.inl rfl)) pgs_nil)))))
  (pss_cons (ps_if (pt_cmp (pc_dnotin (hu_of hr) (pv 3) (pe_fld (pv 0) rfl)))
    (pss_one (ps_ret (pe_lst pa_nil)))
    pss_nil)
  (pss_cons (ps_set (i := 5) sc_Town_bring.nd rfl (Or.inl rfl) (pe_meth (pe_dget (hu_of hr) (pe_fld (pv 0) rfl) (pv 3) (fun _ _ => rfl)) T.cl_House T.me_House_hear G_House_hear HR_House_hear T.b_House_hear .nil pass0 (pa_cons (pv 4) pa_nil)))
  (pss_cons (ps_expr (pe_meth (pv 0) T.cl_Town T.me_Town__tell G_Town__tell HR_Town__tell T.b_Town__tell .nil pass0 (pa_cons (pv 3) (pa_cons (pv 5) pa_nil))))
  (pss_one (ps_ret (pv 5))))))), ?_⟩
    walk_at "rd"
    refine LH.fldv hp T.cl_Town T.na_Town__post rfl ?_
    refine LH.methv hpo rfl ?_
    walk_at "rd"
    by_cases there : ∃ l ∈ ts.lt, x = .int l.n
    · obtain ⟨l, hl, rfl⟩ := there
      obtain ⟨t, v, hv, ht, hw⟩ := lt_get pk S.go.ln l hl
      refine ⟨ta.po, ta.pd, _, kvs, _, _, rfl, ⟨⟨dp, hpo⟩, gk⟩, .int _, .inl ⟨l.n, _, rfl, hv, fun H1 k1 po1 => ?_⟩⟩
      have S1 := S.take pk k1 po1.dc
      have f1 : Same (LH.Fr M H) (LH.Fr M H1) := k1.frS fun b hb => S.inM b (mem_places.mpr (.inl (by rw [List.mem_singleton.mp hb]; simp [TAd.S])))
      refine LH.x_gtup (SqT.of (LH.fr_le _ _ (f1 _ _ ht))) rfl ?_
      walk_at "rd"
      obtain ⟨dx1, hp1⟩ := S1.ob
      refine LH.fldv hp1 T.cl_Town T.na_Town__honest rfl ?_
      refine LH.niv (LH.getI S1.hd) ?_
      walk_at "rd"
      have kS : LH.Ks ta.S H H1 := k1.sub fun b hb => by rw [List.mem_singleton.mp hb]; simp [TAd.S]
      by_cases hin : l.r ∈ ts.hn
      · rw [show valV (hnK h (ts.take l.n).hn) (Sum.inl l.r) = some (.ref (h l.r).p) from hn_val hin]
        refine LH.br_eq (b' := false) rfl ?_
        walk_at "rd"
        refine LH.fldv hp1 T.cl_Town T.na_Town__honest rfl ?_
        walk_at "rd"
        refine LH.getv (LH.getI S1.hd) (hn_val hin) ?_
        have Si := S1.hs l.r hin
        have fi := few.h l.r hin
        obtain ⟨hc1, hc2⟩ := S.go.hc l.r hin
        obtain ⟨dxi, hpi⟩ := Si.ob
        have inS : ∀ b ∈ (h l.r).S, b ∈ M := fun b hb => S.inM b (mem_places.mpr (.inr ⟨l.r, hin, hb⟩))
        obtain ⟨lf, _⟩ := S.go.lw l hl
        refine LH.methv hpi rfl ?_
        walk_at "rd"
        have hst : (ts.take l.n).st = ts.st := rfl
        refine ⟨h l.r, ts.st l.r, v, l.w, M, rfl, ⟨Si, inS, S1.al, by omega⟩, hw.up f1, by unfold Fit; rw [hc1]; exact lf, by omega, fun H2 N h1 r xs nx f rN g tw ap => ?_⟩
        obtain ⟨N2, rN2, nx2, nt2⟩ := nxt_with nx f g ap
        obtain ⟨s1, s2, s3⟩ := hear_same (st := ts.st l.r) (w := l.w)
        have S2 := S1.house hin nx2 nt2 (s1.trans hc1) (s2.trans hc2)
        have tw2 := tw_of (tw_fr (M2 := N2 ++ M) tw S2.nt)
        obtain ⟨dx2, hp2⟩ := S2.ob
        have c2 := S.go.c2
        have c12 : (ts.st l.r).c ≤ 12 := by rw [hc1]; exact c2
        have hb := S.go.hb l.r hin
        walk_at "rd"
        refine LH.methv hp2 rfl ?_
        walk_at "rd"
        have ll := few.l
        have ls := few.s
        have llt : (ts.take l.n).lt.length ≤ ts.lt.length := List.length_filter_le _ _
        refine ⟨ta, _, _, N2 ++ M, l.r, r, xs, _, rfl, S2, g, tw2, fun w_ hw_ => (by have := hear_fit Si.go (by rw [hst, hc1]; exact lf) hw_; rw [hst, hc1] at this; exact this), hb.1, hb.2, by show (ts.take l.n).lt.length ≤ 40000; omega, by show ts.sp.length ≤ 40000; omega, by have := hear_len (st := ts.st l.r) (u := l.w) c12; omega, fun H3 k3 S3 => ?_⟩
        walk_at "rd"
        have rS : r ∉ ta.S := fun m => S1.notAll f (mem_places.mpr (.inl m))
        have e2 := tell_same (ws := (ts.st l.r).hearT l.w) (ts := (ts.take l.n).put l.r ((ts.st l.r).hear l.w)) (s := l.r)
        have eb : ts.bring l = ((ts.take l.n).put l.r ((ts.st l.r).hear l.w)).tell l.r ((ts.st l.r).hearT l.w) := if_pos hin
        have et : ts.bringT l = (ts.st l.r).hearT l.w := if_pos hin
        have none1 : ∀ b, H1 b = none → H b = none := fun b q => by
          cases q2 : H b with
          | none => rfl
          | some o =>
            by_cases c : b ∈ ta.S
            · obtain ⟨o2, q3⟩ := S1.al b (S1.inM b (mem_places.mpr (.inl c)))
              rw [q] at q3
              cases q3
            · rw [kS b o q2 c] at q
              cases q
        have cm := S1.comes hin nx2 nt2 k3 e2.2.1 S3
        refine k l hl rfl H3 N2 (setI h l.r h1) r xs ?_ (none1 _ f) rN2 (k3 _ _ g rS) ?_
        · rw [eb]
          exact ⟨fun b o q n => cm.ks b o (kS b o q fun m => n (mem_places.mpr (.inl m))) n, fun b hb => none1 b (cm.nw b hb), cm.hn, cm.pp, cm.sub, f1.trans cm.fr, cm.at_⟩
        · rw [et]
          exact tw2.up (k3.frS fun b hb => S2.inM b (mem_places.mpr (.inl hb)))
      · rw [show valV (hnK h (ts.take l.n).hn) (Sum.inl l.r) = none from hn_none hin]
        refine LH.br_eq (b' := true) rfl ?_
        walk_at "rd"
        refine LH.newl (LH.small rfl) fun r H2 f2 e2 g2 => ?_
        have eb : ts.bring l = ts.take l.n := if_neg hin
        have et : ts.bringT l = [] := if_neg hin
        have S2 := S1.same e2
        have rM : r ∉ M := LH.not_in f2 S1.al
        have none1 : ∀ b, H1 b = none → H b = none := fun b q => by
          cases q2 : H b with
          | none => rfl
          | some o =>
            by_cases c : b ∈ ta.S
            · obtain ⟨o2, q3⟩ := S1.al b (S1.inM b (mem_places.mpr (.inl c)))
              rw [q] at q3
              cases q3
            · rw [kS b o q2 c] at q
              cases q
        have fr2 : Same (LH.Fr M H1) (LH.Fr (r :: M) H2) := LH.fr_new f2 e2
        refine k l hl rfl H2 [r] h r [] ?_ (none1 _ f2) (List.mem_singleton.mpr rfl) g2 (by rw [et]; exact .nil)
        rw [eb]
        refine ⟨fun b o q n => e2 _ _ (kS b o q fun m => n (mem_places.mpr (.inl m))), fun b hb => by rw [List.mem_singleton.mp hb]; exact none1 _ f2, rfl, fun _ => rfl, fun b hb => .inl hb, f1.trans fr2, S1.to fr2 (fun b o _ q => e2 _ _ q) (fun b hb => List.mem_cons.mpr (.inr (S1.inM b hb))) (fun b hb => ?_) fun b hb xs q => ?_⟩
        · rcases List.mem_cons.mp hb with e | m
          · rw [e]; exact ⟨_, g2⟩
          · exact S2.al b m
        · rcases List.mem_cons.mp hb with e | m
          · rw [e, g2] at q; cases q
          · exact S2.nt b m xs q
    · refine ⟨ta.po, ta.pd, _, kvs, x, _, rfl, ⟨⟨dp, hpo⟩, gk⟩, t1, .inr ⟨fun i e => lt_none pk fun l hl q => there ⟨l, hl, by rw [e, q]⟩, kE fun l hl e => there ⟨l, hl, e⟩⟩⟩
end
end KB
namespace KB
open PySem L2 LM HM TN
local macro_rules | `(tactic| walk_at "rd1") => `(tactic| first
  | with_reducible refine LH.x_seq ?_
  | with_reducible refine LH.x_asg ?_
  | with_reducible refine LH.x_cons ?_
  | with_reducible refine LH.x_var (by with_unfolding_all exact rfl) ?_
  | with_reducible refine LH.x_c ?_
  | with_reducible refine LH.x_op ?_
  | with_reducible refine LH.x_gname ?_
  | with_reducible refine LH.x_nil ?_
  | with_reducible refine LH.x_I0 ?_
  | ((with_reducible refine LH.x_I ?k1 ?_); (case k1 => first | exact (by decide) | exact ⟨by decide, by decide⟩ | exact ⟨by decide, by decide, by decide⟩ | exact .inl ⟨by decide, by decide⟩ | exact .inr ⟨by decide, by decide⟩ | exact .inr ⟨by omega, by omega⟩ | exact .inl ⟨by omega, by omega⟩ | exact (by omega)))
  | with_reducible refine LH.x_ifS ?_
  | with_reducible refine LH.x_test ?_
  | with_reducible refine LH.x_tB ?_
  | with_reducible refine LH.bx ?_
  | with_reducible refine LH.x_and ?_
  | with_reducible refine LH.x_or ?_
  | with_reducible refine LH.x_not ?_
  | with_reducible refine LH.x_ret ?_
  | with_reducible refine LH.x_call ?_
  | with_reducible refine LH.x_cb ?_
  | with_reducible refine LH.x_lst ?_
  | with_reducible refine LH.x_tup ?_
  | with_reducible refine LH.x_bm ?_
  | with_reducible refine LH.x_drop ?_
  | with_reducible refine LH.x_next ?_
  | with_reducible refine LH.x_cont ?_
  | with_reducible refine LH.x_un ?_
  | with_reducible refine LH.x_U ?_
  | with_reducible refine LH.x_eq (by with_unfolding_all exact rfl) ?_
  | with_reducible refine LH.x_ne (by with_unfolding_all exact rfl) ?_
  | with_reducible refine LH.x_andV ?_
  | with_reducible refine LH.x_orV ?_
  | with_reducible refine LH.x_notV ?_
  | with_reducible refine LH.band ?_
  | with_reducible refine LH.bor ?_
  | with_reducible refine LH.x_if ?_
  | with_reducible refine LH.x_chain ?_
  | with_reducible refine LH.chk ?_
  | with_reducible refine LH.x_callS ?_
  | with_reducible refine LH.x_callE ?_
  | with_reducible refine LH.x_callV ?_
  | with_reducible refine LH.x_lrg ?_
  | with_reducible refine LH.x_lcS ?_
  | with_reducible refine LH.x_lcR1 ?_
  | with_reducible refine LH.x_forR1 ?_
  | with_reducible refine LH.x_forR3 ?_
  | with_reducible refine LH.strv ?_
  | with_reducible refine LH.x_yes ?_
  | with_reducible refine LH.x_sl ?_
  | with_reducible refine LH.x_noPart ?_
  | with_reducible refine LH.x_part ?_
  | with_reducible refine LH.pav ?_
  | with_reducible refine LH.x_jnv ?_
  | with_reducible refine LH.x_join ?_
  | with_reducible refine LH.x_inS ?_
  | with_reducible refine LH.x_niS ?_
  | with_reducible refine LH.x_isB ?_
  | with_reducible refine LH.x_isnB ?_
  | with_reducible refine LH.x_gcons ?_
  | with_reducible refine LH.x_gnil ?_
  | with_reducible refine LH.x_intB ?_
  | with_reducible refine LH.x_orT ?_
  | with_reducible refine LH.x_isTy ?_
  | with_reducible refine LH.x_niTy ?_
  | with_reducible refine LH.x_split ?_
  | with_reducible refine LH.x_spv ?_
  | with_reducible refine LH.x_gsub ?_
  | with_reducible refine LH.x_fmt ?_
  | with_reducible refine LH.x_js0 ?_
  | with_reducible refine LH.x_js ?_
  | with_reducible refine LH.x_rg1 ?_
  | with_reducible refine LH.x_forL ?_
  | with_reducible refine LH.x_abs ?_
  | with_reducible refine LH.x_rg2 ?_
  | with_reducible refine LH.rg1v ?_
  | with_reducible refine LH.rg2v ?_
  | with_reducible refine LH.x_forR2 ?_
  | with_reducible refine LH.x_lenSetG ?_
  | with_reducible refine LH.x_lc ?_
  | with_reducible refine LH.x_fld ?_
  | with_reducible refine LH.x_sfld ?_
  | with_reducible refine LH.x_afld ?_
  | with_reducible refine LH.x_meth ?_
  | with_reducible refine LH.x_make ?_
  | with_reducible refine LH.x_methSl ?_
  | with_reducible refine LH.x_makeSl ?_
  | with_reducible refine LH.x_din ?_
  | with_reducible refine LH.x_dni ?_
  | with_reducible refine LH.x_dget ?_
  | with_reducible refine LH.x_dput ?_
  | with_reducible refine LH.x_dget2 ?_
  | with_reducible refine LH.x_dpop1 ?_
  | with_reducible refine LH.x_litems ?_
  | with_reducible refine LH.x_tru ?_
  | with_reducible refine LH.x_revL ?_
  | with_reducible refine LH.x_dsetT ?_
  | with_reducible refine LH.x_lvals ?_
  | with_reducible refine LH.br_nt ?_
  | with_reducible refine LH.br_nf ?_
  | with_reducible refine LH.br_t ?_
  | with_reducible refine LH.br_f ?_)
local macro_rules | `(tactic| walk_at "rd") => `(tactic| repeat (walk_at "rd1"))
local macro_rules | `(tactic| walk_at "rs1") => `(tactic| first
  | with_reducible refine LH.x_seq ?_
  | with_reducible refine LH.x_cons ?_
  | with_reducible refine LH.x_var (by with_unfolding_all exact rfl) ?_
  | with_reducible refine LH.x_c ?_
  | with_reducible refine LH.x_op ?_
  | with_reducible refine LH.x_gname ?_
  | with_reducible refine LH.x_nil ?_
  | with_reducible refine LH.x_I0 ?_
  | ((with_reducible refine LH.x_I ?k1 ?_); (case k1 => first | exact (by decide) | exact ⟨by decide, by decide⟩ | exact ⟨by decide, by decide, by decide⟩ | exact .inl ⟨by decide, by decide⟩ | exact .inr ⟨by decide, by decide⟩ | exact .inr ⟨by omega, by omega⟩ | exact .inl ⟨by omega, by omega⟩ | exact (by omega)))
  | with_reducible refine LH.x_test ?_
  | with_reducible refine LH.x_tB ?_
  | with_reducible refine LH.bx ?_
  | with_reducible refine LH.x_and ?_
  | with_reducible refine LH.x_or ?_
  | with_reducible refine LH.x_not ?_
  | with_reducible refine LH.x_call ?_
  | with_reducible refine LH.x_cb ?_
  | with_reducible refine LH.x_lst ?_
  | with_reducible refine LH.x_tup ?_
  | with_reducible refine LH.x_bm ?_
  | with_reducible refine LH.x_next ?_
  | with_reducible refine LH.x_cont ?_
  | with_reducible refine LH.x_un ?_
  | with_reducible refine LH.x_U ?_
  | with_reducible refine LH.x_eq (by with_unfolding_all exact rfl) ?_
  | with_reducible refine LH.x_ne (by with_unfolding_all exact rfl) ?_
  | with_reducible refine LH.x_andV ?_
  | with_reducible refine LH.x_orV ?_
  | with_reducible refine LH.x_notV ?_
  | with_reducible refine LH.band ?_
  | with_reducible refine LH.bor ?_
  | with_reducible refine LH.x_if ?_
  | with_reducible refine LH.x_chain ?_
  | with_reducible refine LH.chk ?_
  | with_reducible refine LH.x_callS ?_
  | with_reducible refine LH.x_callE ?_
  | with_reducible refine LH.x_callV ?_
  | with_reducible refine LH.x_lrg ?_
  | with_reducible refine LH.x_lcS ?_
  | with_reducible refine LH.x_lcR1 ?_
  | with_reducible refine LH.strv ?_
  | with_reducible refine LH.x_yes ?_
  | with_reducible refine LH.x_sl ?_
  | with_reducible refine LH.x_noPart ?_
  | with_reducible refine LH.x_part ?_
  | with_reducible refine LH.pav ?_
  | with_reducible refine LH.x_jnv ?_
  | with_reducible refine LH.x_join ?_
  | with_reducible refine LH.x_inS ?_
  | with_reducible refine LH.x_niS ?_
  | with_reducible refine LH.x_isB ?_
  | with_reducible refine LH.x_isnB ?_
  | with_reducible refine LH.x_gcons ?_
  | with_reducible refine LH.x_gnil ?_
  | with_reducible refine LH.x_intB ?_
  | with_reducible refine LH.x_orT ?_
  | with_reducible refine LH.x_isTy ?_
  | with_reducible refine LH.x_niTy ?_
  | with_reducible refine LH.x_split ?_
  | with_reducible refine LH.x_spv ?_
  | with_reducible refine LH.x_gsub ?_
  | with_reducible refine LH.x_fmt ?_
  | with_reducible refine LH.x_js0 ?_
  | with_reducible refine LH.x_js ?_
  | with_reducible refine LH.x_rg1 ?_
  | with_reducible refine LH.x_abs ?_
  | with_reducible refine LH.x_rg2 ?_
  | with_reducible refine LH.rg1v ?_
  | with_reducible refine LH.rg2v ?_
  | with_reducible refine LH.x_lenSetG ?_
  | with_reducible refine LH.x_lc ?_
  | with_reducible refine LH.x_fld ?_
  | with_reducible refine LH.x_sfld ?_
  | with_reducible refine LH.x_afld ?_
  | with_reducible refine LH.x_meth ?_
  | with_reducible refine LH.x_make ?_
  | with_reducible refine LH.x_methSl ?_
  | with_reducible refine LH.x_makeSl ?_
  | with_reducible refine LH.x_din ?_
  | with_reducible refine LH.x_dni ?_
  | with_reducible refine LH.x_dget ?_
  | with_reducible refine LH.x_dput ?_
  | with_reducible refine LH.x_dget2 ?_
  | with_reducible refine LH.x_dpop1 ?_
  | with_reducible refine LH.x_litems ?_
  | with_reducible refine LH.x_tru ?_
  | with_reducible refine LH.x_revL ?_
  | with_reducible refine LH.x_dsetT ?_
  | with_reducible refine LH.x_lvals ?_
  | with_reducible refine LH.br_nt ?_
  | with_reducible refine LH.br_nf ?_
  | with_reducible refine LH.br_t ?_
  | with_reducible refine LH.br_f ?_)
local macro_rules | `(tactic| walk_at "rs") => `(tactic| repeat (walk_at "rs1"))

section
variable {P : Program} {w : World} {K : PySem.W.Frag} {mg : Str → Option Value} {base : Heap} {a : Ad}
def Liar (ts : TSt) (x : V) (i : Int) : Prop := x = .int i ∧ 0 ≤ i ∧ i < ts.c ∧ i ∉ ts.hn
def Other (ts : TSt) (i : Int) (y : V) (j : Int) : Prop := y = .int j ∧ 0 ≤ j ∧ j < ts.c ∧ j ≠ i
def spTLie (K : PySem.W.Frag) (CT CH CP BH BW FG : Addr) : Sp := fun vs H Q E => ∃ (ta : TAd) (h : Int → HA) (ts : TSt) (M : List Addr) (x y z : V) (T1 T2 : String) (bw : Bool), vs = [.ref ta.p, x, y, z] ∧ TownAt CT CH CP M H ta h ts ∧ TyB K H x T1 ∧ TyB K H y T2 ∧ Wd K H ts.c z bw ∧ Few ts 30000 ∧
  ((∀ i, ¬ Liar ts x i) → E (.ref BH) none H) ∧ (∀ i, Liar ts x i → (∀ j, ¬ Other ts i y j) → E (.ref BH) none H) ∧
  (∀ i j, Liar ts x i → Other ts i y j → bw = false → ∀ H', Same H H' → E (.ref BW) none H') ∧
  ∀ i j, Liar ts x i → Other ts i y j → bw = true → ∃ w, WT (LH.Fr M H) z w ∧ FitW ts.c w ∧ ((w.h ≠ i ∧ w ∉ ts.sp) → ∀ H', Same H H' → E (.ref FG) none H') ∧ ((w.h = i ∨ w ∈ ts.sp) → ∀ H', TNxt CT CH CP M H ta h ts (ts.lie i j w) H' [] h → Q (.int ts.n) H')
theorem eqv_int (i j : Int) : PyData.eqv (.int i) (.int j) = decide (i = j) := by
  unfold PyData.eqv
  by_cases c : i = j <;> simp [c]
theorem sp_val {w : Wrd} : ∀ {kvs : List (List Key × V)} {l : List Wrd}, kvs.map (·.1) = l.map ky → (valV kvs (ky w)).isSome = decide (w ∈ l)
  | [], [], _ => rfl
  | [], _ :: _, e => nomatch e
  | _ :: _, [], e => nomatch e
  | p :: kvs, u :: l, e => by
    rw [List.map_cons, List.map_cons] at e
    injection e with e1 e2
    have ih := sp_val (w := w) e2
    unfold valV at ih ⊢
    rw [List.find?_cons, e1]
    by_cases c : u = w
    · subst c
      rw [decide_eq_true rfl, decide_eq_true (List.mem_cons_self ..)]
      rfl
    · rw [decide_eq_false fun q => c (ky_inj q)]
      have : decide (w ∈ u :: l) = decide (w ∈ l) := by
        have c2 : ¬ w = u := fun q => c q.symm
        simp [c2]
      rw [this]
      exact ih
theorem ok_Town_lie (T : Txt K mg a) : FnOk P w K mg base (L2N.CX P w) 4 a.Town_lie a.d_Town_lie ["self", "house", "receiver", "word"] (spTLie K a.Town a.House a.Post a.BadHouse a.BadWord a.Forged) := by
  have G_is_house := ok_is_house (P := P) (w := w) (base := base) T
  have G_is_word := ok_is_word (P := P) (w := w) (base := base) T
  have G_Post_send := ok_Post_send (P := P) (w := w) (base := base) T
  refine LH.okN T.F_Town_lie sc_Town_lie (fun vs H Q E h => ?_) (fun cdv A outer s H vs Q E hr h => ?_)
  · obtain ⟨ta, h, ts, M, x, y, z, T1, T2, bw, rfl, _⟩ := h
    rfl
  · obtain ⟨ta, h, ts, M, x, y, z, T1, T2, bw, rfl, S, t1, t2, hz, few, kL, kO, kW, k⟩ := h
    obtain ⟨dx, hp⟩ := S.ob
    have go := S.go
    have HR_is_house : Room 2 _ := hr.mono (by decide)
    have HR_is_word : Room 3 _ := hr.mono (by decide)
    have HR_Post_send : Room 1 _ := hr.mono (by decide)
    refine ⟨_, (pss_cons (ps_if (PW.pt (pw_or (pt_not (pt_val (pe_call G_is_house HR_is_house rfl T.g_is_house T.F_is_house.kp T.b_is_house .nil pass0 (pa_cons (pe_fld (pv 0) rfl) (pa_cons (pv 1) pa_nil))))) (pw_or1 (pt_cmp (pc_din (hu_of hr) (pv 1) (pe_fld (pv 0) rfl))))))
    (pss_one (L2N.ps_raise rfl (LH.tkN (E := E)) (LH.pmkN PySem.F.excBase_ValueError T.x_BadHouse T.g_BadHouse T.k_BadHouse (raises_own T.bx_BadHouse T.t_BadHouse) rfl (pa_cons pe_str pa_nil))))
    pss_nil)
  (pss_cons (ps_if (PW.pt (pw_or (pt_not (pt_val (pe_call G_is_house HR_is_house rfl T.g_is_house T.F_is_house.kp T.b_is_house .nil pass0 (pa_cons (pe_fld (pv 0) rfl) (pa_cons (pv 2) pa_nil))))) (pw_or1 (pt_cmpR (r := rEqD K) (op_eqD hr.units) (pv 2) (pv 1) (nomark _)))))
    (pss_one (L2N.ps_raise rfl (LH.tkN (E := E)) (LH.pmkN PySem.F.excBase_ValueError T.x_BadHouse T.g_BadHouse T.k_BadHouse (raises_own T.bx_BadHouse T.t_BadHouse) rfl (pa_cons pe_str pa_nil))))
    pss_nil)
  (pss_cons (ps_if (pt_not (pt_val (pe_call (E := E) G_is_word HR_is_word rfl T.g_is_word T.F_is_word.kp T.b_is_word .nil (L2N.passes_call (LH.tkN (E := E)) fun _ _ _ _ z => z) (pa_cons (pe_fld (pv 0) rfl) (pa_cons (pv 3) pa_nil)))))
    (pss_one (L2N.ps_raise rfl (LH.tkN (E := E)) (LH.pmkN PySem.F.excBase_ValueError T.x_BadWord T.g_BadWord T.k_BadWord (raises_own T.bx_BadWord T.t_BadWord) rfl (pa_cons pe_str pa_nil))))
    pss_nil)
  (pss_cons (ps_if (PW.pt (pw_and (pt_cmpR (r := rNeD K) (op_neD hr.units) (pe_ix (r := rIxT K) ix_tup (pv 3) pe_int (fun _ _ => rfl)) (pv 1) (nomark _)) (pw_and1 (pt_cmp (pc_dnotin (hu_of hr) (pv 3) (pe_fld (pv 0) rfl))))))
    (pss_one (L2N.ps_raise rfl (LH.tkN (E := E)) (LH.pmkN PySem.F.excBase_ValueError T.x_Forged T.g_Forged T.k_Forged (raises_own T.bx_Forged T.t_Forged) rfl (pa_cons pe_str pa_nil))))
    pss_nil)
  (pss_cons (ps_dput (hu_of hr) (pe_fld (pv 0) rfl) (pv 3) pe_bl rfl)
  (pss_one (ps_ret (pe_meth (pe_fld (pv 0) rfl) T.cl_Post T.me_Post_send G_Post_send HR_Post_send T.b_Post_send .nil pass0 (pa_cons (pe_tup (pa_cons (pv 1) (pa_cons (pv 2) (pa_cons (pv 3) pa_nil)))) pa_nil))))))))), ?_⟩
    walk_at "rd"
    refine LH.fldv hp T.cl_Town T.na_Town__count rfl ?_
    walk_at "rd"
    refine ⟨_, x, T1, rfl, t1, ?_⟩
    walk_at "rd"
    cases e : isW x 0 (ts.c - 1) with
    | false =>
      walk_at "rd"
      refine ⟨by show 1 ≤ sizeLine; decide, kL fun i hi => ?_⟩
      obtain ⟨rfl, i1, i2, _⟩ := hi
      rw [isW_yes (by omega) (by omega)] at e
      cases e
    | true =>
    obtain ⟨i, rfl, i1, i2⟩ := isW_int e
    walk_at "rd"
    refine LH.fldv hp T.cl_Town T.na_Town__honest rfl ?_
    refine LH.inv (LH.getI S.hd) ?_
    by_cases ci : i ∈ ts.hn
    · rw [hn_val ci]
      walk_at "rd"
      refine LH.br_eq (b' := true) rfl ?_
      walk_at "rd"
      refine ⟨by show 1 ≤ sizeLine; decide, kL fun j hj => ?_⟩
      obtain ⟨ej, _, _, nj⟩ := hj
      injection ej with ej
      exact nj (ej ▸ ci)
    rw [hn_none ci]
    have li : Liar ts (.int i) i := ⟨rfl, i1, by omega, ci⟩
    walk_at "rd"
    refine LH.br_eq (b' := false) rfl ?_
    walk_at "rd"
    refine LH.fldv hp T.cl_Town T.na_Town__count rfl ?_
    walk_at "rd"
    refine ⟨_, y, T2, rfl, t2, ?_⟩
    walk_at "rd"
    cases e2 : isW y 0 (ts.c - 1) with
    | false =>
      walk_at "rd"
      refine ⟨by show 1 ≤ sizeLine; decide, kO i li fun j hj => ?_⟩
      obtain ⟨rfl, j1, j2, _⟩ := hj
      rw [isW_yes (by omega) (by omega)] at e2
      cases e2
    | true =>
    obtain ⟨j, rfl, j1, j2⟩ := isW_int e2
    walk_at "rd"
    refine LH.x_eqD (.int _) (.int _) (lay_int (n := 2) _).shaped (lay_int (n := 2) _).shaped ?_
    rw [eqv_int]
    by_cases cj : j = i
    · rw [decide_eq_true cj]
      walk_at "rd"
      refine ⟨by show 1 ≤ sizeLine; decide, kO i li fun m hm => ?_⟩
      obtain ⟨em, _, _, nm⟩ := hm
      injection em with em
      exact nm (em ▸ cj)
    rw [decide_eq_false cj]
    have oj : Other ts i (.int j) j := ⟨rfl, j1, by omega, cj⟩
    walk_at "rd"
    refine LH.fldv hp T.cl_Town T.na_Town__count rfl ?_
    walk_at "rd"
    have c1 := go.c1
    have c2 := go.c2
    refine ⟨.int ts.c, _, z, rfl, .int _, fun b => (by rw [isW_yes c1 c2] at b; cases b), fun c' ec _ _ => ⟨bw, by injection ec with ec; subst ec; exact hz, fun H1 e1 => ?_⟩⟩
    walk_at "rd"
    cases bw with
    | false =>
      walk_at "rd"
      exact ⟨by show 1 ≤ sizeLine; decide, kW i j li oj rfl H1 e1⟩
    | true =>
    obtain ⟨u, hw, fit, kF, kG⟩ := k i j li oj rfl
    obtain ⟨t, rfl, ht⟩ := hw
    have ht0 := LH.fr_le _ _ ht
    have S1 := S.same e1
    obtain ⟨dx1, hp1⟩ := S1.ob
    obtain ⟨kvs, gk, ek⟩ := S1.sp
    walk_at "rs"
    refine LH.cutS (fun σ' H' => σ' = [some (.ref ta.p), some (.int i), some (.int j), some (.ref t)] ∧ H' = H1 ∧ (u.h = i ∨ u ∈ ts.sp)) (fun NN hN => ?_) ?_
    · walk_at "rd"
      refine LH.x_ixT (SqT.of (e1 _ _ ht0)) rfl ?_
      walk_at "rd"
      refine LH.x_neD (.int u.h) (.int i) (lay_int (n := 2) _).shaped (lay_int (n := 2) _).shaped ?_
      rw [eqv_int]
      by_cases cu : u.h = i
      · rw [decide_eq_true cu]
        walk_at "rd"
        exact hN _ _ ⟨rfl, rfl, .inl cu⟩
      · rw [decide_eq_false cu]
        walk_at "rd"
        refine LH.fldv hp1 T.cl_Town T.na_Town__spoken rfl ?_
        refine LH.niv (LH.getT (k := ky u) gk (by rw [ky_vs]; exact e1 _ _ ht0)) ?_
        rw [sp_val ek]
        by_cases cs : u ∈ ts.sp
        · rw [decide_eq_true cs]
          walk_at "rd"
          exact hN _ _ ⟨rfl, rfl, .inr cs⟩
        · rw [decide_eq_false cs]
          walk_at "rd"
          exact ⟨by show 1 ≤ sizeLine; decide, kF ⟨cu, cs⟩ H1 e1⟩
    rintro σ' H1' ⟨rfl, eH, cond⟩
    rw [eH]
    walk_at "rd"
    refine LH.fldv hp1 T.cl_Town T.na_Town__spoken rfl ?_
    walk_at "rd"
    have lk : kvs.length = ts.sp.length := by
      have := congrArg List.length ek
      rwa [List.length_map, List.length_map] at this
    have ls := few.s
    have ll := few.l
    refine LH.putvT (ks := ky u) gk (by rw [ky_vs]; exact e1 _ _ ht0) (by omega) fun H2 k2 g2 => ?_
    have S2 := S1.speak ek k2 g2 fit
    obtain ⟨dx2, hp2⟩ := S2.ob
    obtain ⟨dp2, hpo2⟩ := S2.po
    walk_at "rd"
    refine LH.fldv hp2 T.cl_Town T.na_Town__post rfl ?_
    refine LH.methv hpo2 rfl ?_
    walk_at "rd"
    refine LH.newt (LH.small rfl) fun tl H3 f3 e3 g3 => ?_
    walk_at "rd"
    have S3 := S2.same e3
    obtain ⟨kvl, gl, pl⟩ := S3.pd
    have tM : tl ∉ M := LH.not_in f3 S2.al
    have ksp : LH.Ks ta.S H1 H2 := k2.ks (by simp [TAd.S])
    have fr12 : Same (LH.Fr M H) (LH.Fr M H3) := (LH.same_fr e1).trans ((ksp.frS fun b hb => S1.inM b (mem_places.mpr (.inl hb))).trans (LH.same_fr e3))
    refine ⟨ta.po, ta.pd, _, kvl, _, rfl, ⟨⟨dp2, e3 _ _ hpo2⟩, gl⟩, by rw [LH.Paired.len pl]; show ts.lt.length ≤ 50000; omega, fun H4 k4 po4 => ?_⟩
    have S4 := S3.send (s := i) (r := j) (w := u) pl (LH.fr_of g3 tM) ⟨t, rfl, fr12 _ _ ht⟩ k4 po4.ob po4.dc (S3.go.send (w := u) fit i1 (by show i < ts.c; omega) j1 (by show j < ts.c; omega))
    refine kG cond H4 (S.stays (fun b o q n => k4 b o (e3 _ _ (ksp b o (e1 _ _ q) n)) fun m => n ?_) rfl S4)
    simp only [List.mem_cons, List.not_mem_nil, or_false] at m
    rcases m with rfl | rfl <;> simp [TAd.S]
end
end KB
namespace KB
open PySem L2 LM HM TN
local macro_rules | `(tactic| walk_at "rd1") => `(tactic| first
  | with_reducible refine LH.x_seq ?_
  | with_reducible refine LH.x_asg ?_
  | with_reducible refine LH.x_cons ?_
  | with_reducible refine LH.x_var (by with_unfolding_all exact rfl) ?_
  | with_reducible refine LH.x_c ?_
  | with_reducible refine LH.x_op ?_
  | with_reducible refine LH.x_gname ?_
  | with_reducible refine LH.x_nil ?_
  | with_reducible refine LH.x_I0 ?_
  | ((with_reducible refine LH.x_I ?k1 ?_); (case k1 => first | exact (by decide) | exact ⟨by decide, by decide⟩ | exact ⟨by decide, by decide, by decide⟩ | exact .inl ⟨by decide, by decide⟩ | exact .inr ⟨by decide, by decide⟩ | exact .inr ⟨by omega, by omega⟩ | exact .inl ⟨by omega, by omega⟩ | exact (by omega)))
  | with_reducible refine LH.x_ifS ?_
  | with_reducible refine LH.x_test ?_
  | with_reducible refine LH.x_tB ?_
  | with_reducible refine LH.bx ?_
  | with_reducible refine LH.x_and ?_
  | with_reducible refine LH.x_or ?_
  | with_reducible refine LH.x_not ?_
  | with_reducible refine LH.x_ret ?_
  | with_reducible refine LH.x_call ?_
  | with_reducible refine LH.x_cb ?_
  | with_reducible refine LH.x_lst ?_
  | with_reducible refine LH.x_tup ?_
  | with_reducible refine LH.x_bm ?_
  | with_reducible refine LH.x_drop ?_
  | with_reducible refine LH.x_next ?_
  | with_reducible refine LH.x_cont ?_
  | with_reducible refine LH.x_un ?_
  | with_reducible refine LH.x_U ?_
  | with_reducible refine LH.x_eq (by with_unfolding_all exact rfl) ?_
  | with_reducible refine LH.x_ne (by with_unfolding_all exact rfl) ?_
  | with_reducible refine LH.x_andV ?_
  | with_reducible refine LH.x_orV ?_
  | with_reducible refine LH.x_notV ?_
  | with_reducible refine LH.band ?_
  | with_reducible refine LH.bor ?_
  | with_reducible refine LH.x_if ?_
  | with_reducible refine LH.x_chain ?_
  | with_reducible refine LH.chk ?_
  | with_reducible refine LH.x_callS ?_
  | with_reducible refine LH.x_callE ?_
  | with_reducible refine LH.x_callV ?_
  | with_reducible refine LH.x_lrg ?_
  | with_reducible refine LH.x_lcS ?_
  | with_reducible refine LH.x_lcR1 ?_
  | with_reducible refine LH.x_forR1 ?_
  | with_reducible refine LH.x_forR3 ?_
  | with_reducible refine LH.strv ?_
  | with_reducible refine LH.x_yes ?_
  | with_reducible refine LH.x_sl ?_
  | with_reducible refine LH.x_noPart ?_
  | with_reducible refine LH.x_part ?_
  | with_reducible refine LH.pav ?_
  | with_reducible refine LH.x_jnv ?_
  | with_reducible refine LH.x_join ?_
  | with_reducible refine LH.x_inS ?_
  | with_reducible refine LH.x_niS ?_
  | with_reducible refine LH.x_isB ?_
  | with_reducible refine LH.x_isnB ?_
  | with_reducible refine LH.x_gcons ?_
  | with_reducible refine LH.x_gnil ?_
  | with_reducible refine LH.x_intB ?_
  | with_reducible refine LH.x_orT ?_
  | with_reducible refine LH.x_isTy ?_
  | with_reducible refine LH.x_niTy ?_
  | with_reducible refine LH.x_split ?_
  | with_reducible refine LH.x_spv ?_
  | with_reducible refine LH.x_gsub ?_
  | with_reducible refine LH.x_fmt ?_
  | with_reducible refine LH.x_js0 ?_
  | with_reducible refine LH.x_js ?_
  | with_reducible refine LH.x_rg1 ?_
  | with_reducible refine LH.x_forL ?_
  | with_reducible refine LH.x_abs ?_
  | with_reducible refine LH.x_rg2 ?_
  | with_reducible refine LH.rg1v ?_
  | with_reducible refine LH.rg2v ?_
  | with_reducible refine LH.x_forR2 ?_
  | with_reducible refine LH.x_lenSetG ?_
  | with_reducible refine LH.x_lc ?_
  | with_reducible refine LH.x_fld ?_
  | with_reducible refine LH.x_sfld ?_
  | with_reducible refine LH.x_afld ?_
  | with_reducible refine LH.x_meth ?_
  | with_reducible refine LH.x_make ?_
  | with_reducible refine LH.x_methSl ?_
  | with_reducible refine LH.x_makeSl ?_
  | with_reducible refine LH.x_din ?_
  | with_reducible refine LH.x_dni ?_
  | with_reducible refine LH.x_dget ?_
  | with_reducible refine LH.x_dput ?_
  | with_reducible refine LH.x_dget2 ?_
  | with_reducible refine LH.x_dpop1 ?_
  | with_reducible refine LH.x_litems ?_
  | with_reducible refine LH.x_tru ?_
  | with_reducible refine LH.x_revL ?_
  | with_reducible refine LH.x_dsetT ?_
  | with_reducible refine LH.x_lvals ?_
  | with_reducible refine LH.br_nt ?_
  | with_reducible refine LH.br_nf ?_
  | with_reducible refine LH.br_t ?_
  | with_reducible refine LH.br_f ?_)
local macro_rules | `(tactic| walk_at "rd") => `(tactic| repeat (walk_at "rd1"))
local macro_rules | `(tactic| walk_at "rs1") => `(tactic| first
  | with_reducible refine LH.x_seq ?_
  | with_reducible refine LH.x_cons ?_
  | with_reducible refine LH.x_var (by with_unfolding_all exact rfl) ?_
  | with_reducible refine LH.x_c ?_
  | with_reducible refine LH.x_op ?_
  | with_reducible refine LH.x_gname ?_
  | with_reducible refine LH.x_nil ?_
  | with_reducible refine LH.x_I0 ?_
  | ((with_reducible refine LH.x_I ?k1 ?_); (case k1 => first | exact (by decide) | exact ⟨by decide, by decide⟩ | exact ⟨by decide, by decide, by decide⟩ | exact .inl ⟨by decide, by decide⟩ | exact .inr ⟨by decide, by decide⟩ | exact .inr ⟨by omega, by omega⟩ | exact .inl ⟨by omega, by omega⟩ | exact (by omega)))
  | with_reducible refine LH.x_test ?_
  | with_reducible refine LH.x_tB ?_
  | with_reducible refine LH.bx ?_
  | with_reducible refine LH.x_and ?_
  | with_reducible refine LH.x_or ?_
  | with_reducible refine LH.x_not ?_
  | with_reducible refine LH.x_call ?_
  | with_reducible refine LH.x_cb ?_
  | with_reducible refine LH.x_lst ?_
  | with_reducible refine LH.x_tup ?_
  | with_reducible refine LH.x_bm ?_
  | with_reducible refine LH.x_next ?_
  | with_reducible refine LH.x_cont ?_
  | with_reducible refine LH.x_un ?_
  | with_reducible refine LH.x_U ?_
  | with_reducible refine LH.x_eq (by with_unfolding_all exact rfl) ?_
  | with_reducible refine LH.x_ne (by with_unfolding_all exact rfl) ?_
  | with_reducible refine LH.x_andV ?_
  | with_reducible refine LH.x_orV ?_
  | with_reducible refine LH.x_notV ?_
  | with_reducible refine LH.band ?_
  | with_reducible refine LH.bor ?_
  | with_reducible refine LH.x_if ?_
  | with_reducible refine LH.x_chain ?_
  | with_reducible refine LH.chk ?_
  | with_reducible refine LH.x_callS ?_
  | with_reducible refine LH.x_callE ?_
  | with_reducible refine LH.x_callV ?_
  | with_reducible refine LH.x_lrg ?_
  | with_reducible refine LH.x_lcS ?_
  | with_reducible refine LH.x_lcR1 ?_
  | with_reducible refine LH.strv ?_
  | with_reducible refine LH.x_yes ?_
  | with_reducible refine LH.x_sl ?_
  | with_reducible refine LH.x_noPart ?_
  | with_reducible refine LH.x_part ?_
  | with_reducible refine LH.pav ?_
  | with_reducible refine LH.x_jnv ?_
  | with_reducible refine LH.x_join ?_
  | with_reducible refine LH.x_inS ?_
  | with_reducible refine LH.x_niS ?_
  | with_reducible refine LH.x_isB ?_
  | with_reducible refine LH.x_isnB ?_
  | with_reducible refine LH.x_gcons ?_
  | with_reducible refine LH.x_gnil ?_
  | with_reducible refine LH.x_intB ?_
  | with_reducible refine LH.x_orT ?_
  | with_reducible refine LH.x_isTy ?_
  | with_reducible refine LH.x_niTy ?_
  | with_reducible refine LH.x_split ?_
  | with_reducible refine LH.x_spv ?_
  | with_reducible refine LH.x_gsub ?_
  | with_reducible refine LH.x_fmt ?_
  | with_reducible refine LH.x_js0 ?_
  | with_reducible refine LH.x_js ?_
  | with_reducible refine LH.x_rg1 ?_
  | with_reducible refine LH.x_abs ?_
  | with_reducible refine LH.x_rg2 ?_
  | with_reducible refine LH.rg1v ?_
  | with_reducible refine LH.rg2v ?_
  | with_reducible refine LH.x_lenSetG ?_
  | with_reducible refine LH.x_lc ?_
  | with_reducible refine LH.x_fld ?_
  | with_reducible refine LH.x_sfld ?_
  | with_reducible refine LH.x_afld ?_
  | with_reducible refine LH.x_meth ?_
  | with_reducible refine LH.x_make ?_
  | with_reducible refine LH.x_methSl ?_
  | with_reducible refine LH.x_makeSl ?_
  | with_reducible refine LH.x_din ?_
  | with_reducible refine LH.x_dni ?_
  | with_reducible refine LH.x_dget ?_
  | with_reducible refine LH.x_dput ?_
  | with_reducible refine LH.x_dget2 ?_
  | with_reducible refine LH.x_dpop1 ?_
  | with_reducible refine LH.x_litems ?_
  | with_reducible refine LH.x_tru ?_
  | with_reducible refine LH.x_revL ?_
  | with_reducible refine LH.x_dsetT ?_
  | with_reducible refine LH.x_lvals ?_
  | with_reducible refine LH.br_nt ?_
  | with_reducible refine LH.br_nf ?_
  | with_reducible refine LH.br_t ?_
  | with_reducible refine LH.br_f ?_)
local macro_rules | `(tactic| walk_at "rs") => `(tactic| repeat (walk_at "rs1"))

section
variable {P : Program} {w : World} {K : PySem.W.Frag} {mg : Str → Option Value} {base : Heap} {a : Ad}
def numV : V → Int
  | .int i => i
  | _ => 0
def diffB (c : Int) (xs : List V) : Bool := xs.all (fun y => isW y 0 (c - 1)) && decide ((xs.map numV).Nodup)
/-- what may be handed in as a list of liars: b tells whether it is one -/
def Lst (K : PySem.W.Frag) (H : Hp) (c : Int) (x : V) (b : Bool) : Prop :=
  (∃ p xs, x = .ref p ∧ SqL K H p xs ∧ xs.length < 60 ∧ (∀ y ∈ xs, ∃ T, TyB K H y T) ∧ b = diffB c xs) ∨ (∃ T, TyB K H x T ∧ T ≠ "list" ∧ b = false)
def spDiff (K : PySem.W.Frag) : Sp := fun vs H Q _ => ∃ (c : Int) (x : V) (b : Bool), vs = [.int c, x] ∧ Lst K H c x b ∧ ∀ H', Same H H' → Q (.bl b) H'
theorem ints_of {c : Int} : ∀ {xs : List V}, (xs.all fun y => isW y 0 (c - 1)) = true → xs = (xs.map numV).map V.int
  | [], _ => rfl
  | x :: xs, h => by
    rw [List.all_cons, Bool.and_eq_true] at h
    obtain ⟨i, rfl, _⟩ := isW_int h.1
    rw [List.map_cons, List.map_cons, ← ints_of h.2]
    rfl
theorem ok_are_different_houses (T : Txt K mg a) : FnOk P w K mg base CX0 3 a.are_different_houses a.d_are_different_houses ["count", "thing"] (spDiff K) := by
  have G_is_house := ok_is_house (P := P) (w := w) (base := base) T
  refine T.F_are_different_houses.ok sc_are_different_houses (fun vs H Q E h => ?_) (fun cdv A outer s H vs Q E hr h => ?_)
  · obtain ⟨c, x, b, rfl, _⟩ := h
    rfl
  · obtain ⟨c, x, b, rfl, hl, k⟩ := h
    have HR_is_house : Room 2 _ := hr.mono (by decide)
    refine ⟨_, (pss_cons (ps_if (pt_cmpR op_notTyB (pe_callTy (r := rTyp K) call_type1 rfl T.n_type (by decide +kernel) (pa_cons (pv 1) pa_nil)) (pe_bltn (v := .ty "list") rfl T.n_list (by decide +kernel) rfl) (nomark _))
    (pss_one (ps_ret pe_bl))
    pss_nil)
  (pss_cons (ps_if (pt_not (pt_val (pe_callB (r := rAll K) (cr_all rfl) rfl T.n_all (by decide +kernel) (pa_cons (pe_lc (own := [("house", 2)]) (g := gName 2) (tt := tYes) rfl sc_are_different_houses.nd (pi_list (pv 1)) (blkOk_by (N := N_are_different_houses) (sc := defScope s_are_different_houses) (by decide +kernel)) (fun _ _ _ _ _ => pg_name (i := 2) sc_are_different_houses.nd rfl (Or.inl rfl)) (fun _ _ _ _ _ => pts_nil) (fun _ _ _ _ _ => (pe_call G_is_house HR_is_house rfl T.g_is_house T.F_is_house.kp T.b_is_house .nil pass0 (pa_cons (pv 0) (pa_cons (pv 2) pa_nil))))) pa_nil))))
    (pss_one (ps_ret pe_bl))
    pss_nil)
  (pss_cons (ps_set (i := 3) sc_are_different_houses.nd rfl (Or.inl rfl) (pe_callTy (LH.cr_setI rfl) rfl T.n_set (by decide +kernel) (pa_cons (pv 1) pa_nil)))
  (pss_one (ps_ret (pe_cmpR op_eq (pe_callB LH.call_lenI rfl T.n_len (by decide +kernel) (pa_cons (pv 3) pa_nil)) (pe_callB (r := LH.rLen K) LH.call_len rfl T.n_len (by decide +kernel) (pa_cons (pv 1) pa_nil)) (nomark _))))))), ?_⟩
    walk_at "rd"
    rcases hl with ⟨p, xs, rfl, hp, lx, hy, rfl⟩ | ⟨t, ht, ne, rfl⟩
    · refine LH.x_typ (.lst hp) ?_
      walk_at "rd"
      refine LH.br_nd (fun c => absurd rfl c) (fun _ => ?_)
      walk_at "rd"
      refine LH.lc_Li hp (by omega) (xs.map fun y => some (V.bl (isW y 0 (c - 1)))) (by rw [List.length_map]) (fun _ => rfl) ?_ ?_ fun p1 H1 f1 e1 g1 => ?_
      · intro i y o hy ho H1 e1 Q q
        rw [List.getElem?_map, hy] at ho
        injection ho with ho
        subst ho
        walk_at "rd"
        exact q _ (Same.refl _)
      · intro i y z hy' ho H1 e1 Q q
        rw [List.getElem?_map, hy'] at ho
        injection ho with ho
        injection ho with ho
        subst ho
        obtain ⟨t, ht⟩ := hy y (List.mem_of_getElem? hy')
        walk_at "rd"
        refine ⟨c, y, t, rfl, LH.Same.ty e1 ht, ?_⟩
        exact q _ (Same.refl _)
      have g1' : H1 p1 = some (.lst ((xs.map fun y => isW y 0 (c - 1)).map V.bl)) := by
        rw [g1, List.filterMap_map, List.map_map]
        congr 2
        rw [← List.filterMap_eq_map]
        rfl
      walk_at "rd"
      refine LH.x_all (SqL.of g1') ?_
      have eb : (xs.map fun y => isW y 0 (c - 1)).all id = xs.all fun y => isW y 0 (c - 1) := by rw [List.all_map]; rfl
      rw [eb]
      cases e : xs.all fun y => isW y 0 (c - 1) with
      | false =>
        walk_at "rd"
        have : diffB c xs = false := by unfold diffB; rw [e]; rfl
        rw [this] at k
        exact k _ e1
      | true =>
        walk_at "rd"
        have ei := ints_of e
        refine LH.x_setI (ns := xs.map numV) (by rw [← ei]; exact Same.seq e1 hp) (by rw [List.length_map]; omega) fun p2 Ss H2 f2 e2 g2 => ?_
        walk_at "rd"
        refine LH.x_lenI g2 ?_
        walk_at "rd"
        refine LH.x_lenL (Same.seq (e1.trans e2) hp) ?_
        walk_at "rd"
        have : diffB c xs = decide (V.int ((LH.dist (xs.map numV)).length : Int) = V.int (xs.length : Int)) := by
          unfold diffB
          rw [e, Bool.true_and, dint]
          have d := LH.dist_eq (xs.map numV)
          rw [List.length_map] at d
          by_cases c : (xs.map numV).Nodup
          · rw [decide_eq_true c, decide_eq_true (by rw [d.mpr c])]
          · rw [decide_eq_false c, decide_eq_false fun q => c (d.mp (by omega))]
        rw [this] at k
        exact k _ (e1.trans e2)
    · refine LH.x_typ ht ?_
      walk_at "rd"
      refine LH.br_nd (fun _ => ?_) (fun c => absurd c ne)
      walk_at "rd"
      exact k _ (Same.refl _)
end
end KB
namespace KB
open PySem L2 LM HM TN
local macro_rules | `(tactic| walk_at "rd1") => `(tactic| first
  | with_reducible refine LH.x_seq ?_
  | with_reducible refine LH.x_asg ?_
  | with_reducible refine LH.x_cons ?_
  | with_reducible refine LH.x_var (by with_unfolding_all exact rfl) ?_
  | with_reducible refine LH.x_c ?_
  | with_reducible refine LH.x_op ?_
  | with_reducible refine LH.x_gname ?_
  | with_reducible refine LH.x_nil ?_
  | with_reducible refine LH.x_I0 ?_
  | ((with_reducible refine LH.x_I ?k1 ?_); (case k1 => first | exact (by decide) | exact ⟨by decide, by decide⟩ | exact ⟨by decide, by decide, by decide⟩ | exact .inl ⟨by decide, by decide⟩ | exact .inr ⟨by decide, by decide⟩ | exact .inr ⟨by omega, by omega⟩ | exact .inl ⟨by omega, by omega⟩ | exact (by omega)))
  | with_reducible refine LH.x_ifS ?_
  | with_reducible refine LH.x_test ?_
  | with_reducible refine LH.x_tB ?_
  | with_reducible refine LH.bx ?_
  | with_reducible refine LH.x_and ?_
  | with_reducible refine LH.x_or ?_
  | with_reducible refine LH.x_not ?_
  | with_reducible refine LH.x_ret ?_
  | with_reducible refine LH.x_call ?_
  | with_reducible refine LH.x_cb ?_
  | with_reducible refine LH.x_lst ?_
  | with_reducible refine LH.x_tup ?_
  | with_reducible refine LH.x_bm ?_
  | with_reducible refine LH.x_drop ?_
  | with_reducible refine LH.x_next ?_
  | with_reducible refine LH.x_cont ?_
  | with_reducible refine LH.x_un ?_
  | with_reducible refine LH.x_U ?_
  | with_reducible refine LH.x_eq (by with_unfolding_all exact rfl) ?_
  | with_reducible refine LH.x_ne (by with_unfolding_all exact rfl) ?_
  | with_reducible refine LH.x_andV ?_
  | with_reducible refine LH.x_orV ?_
  | with_reducible refine LH.x_notV ?_
  | with_reducible refine LH.band ?_
  | with_reducible refine LH.bor ?_
  | with_reducible refine LH.x_if ?_
  | with_reducible refine LH.x_chain ?_
  | with_reducible refine LH.chk ?_
  | with_reducible refine LH.x_callS ?_
  | with_reducible refine LH.x_callE ?_
  | with_reducible refine LH.x_callV ?_
  | with_reducible refine LH.x_lrg ?_
  | with_reducible refine LH.x_lcS ?_
  | with_reducible refine LH.x_lcR1 ?_
  | with_reducible refine LH.x_forR1 ?_
  | with_reducible refine LH.x_forR3 ?_
  | with_reducible refine LH.strv ?_
  | with_reducible refine LH.x_yes ?_
  | with_reducible refine LH.x_sl ?_
  | with_reducible refine LH.x_noPart ?_
  | with_reducible refine LH.x_part ?_
  | with_reducible refine LH.pav ?_
  | with_reducible refine LH.x_jnv ?_
  | with_reducible refine LH.x_join ?_
  | with_reducible refine LH.x_inS ?_
  | with_reducible refine LH.x_niS ?_
  | with_reducible refine LH.x_isB ?_
  | with_reducible refine LH.x_isnB ?_
  | with_reducible refine LH.x_gcons ?_
  | with_reducible refine LH.x_gnil ?_
  | with_reducible refine LH.x_intB ?_
  | with_reducible refine LH.x_orT ?_
  | with_reducible refine LH.x_isTy ?_
  | with_reducible refine LH.x_niTy ?_
  | with_reducible refine LH.x_split ?_
  | with_reducible refine LH.x_spv ?_
  | with_reducible refine LH.x_gsub ?_
  | with_reducible refine LH.x_fmt ?_
  | with_reducible refine LH.x_js0 ?_
  | with_reducible refine LH.x_js ?_
  | with_reducible refine LH.x_rg1 ?_
  | with_reducible refine LH.x_forL ?_
  | with_reducible refine LH.x_abs ?_
  | with_reducible refine LH.x_rg2 ?_
  | with_reducible refine LH.rg1v ?_
  | with_reducible refine LH.rg2v ?_
  | with_reducible refine LH.x_forR2 ?_
  | with_reducible refine LH.x_lenSetG ?_
  | with_reducible refine LH.x_lc ?_
  | with_reducible refine LH.x_fld ?_
  | with_reducible refine LH.x_sfld ?_
  | with_reducible refine LH.x_afld ?_
  | with_reducible refine LH.x_meth ?_
  | with_reducible refine LH.x_make ?_
  | with_reducible refine LH.x_methSl ?_
  | with_reducible refine LH.x_makeSl ?_
  | with_reducible refine LH.x_din ?_
  | with_reducible refine LH.x_dni ?_
  | with_reducible refine LH.x_dget ?_
  | with_reducible refine LH.x_dput ?_
  | with_reducible refine LH.x_dget2 ?_
  | with_reducible refine LH.x_dpop1 ?_
  | with_reducible refine LH.x_litems ?_
  | with_reducible refine LH.x_tru ?_
  | with_reducible refine LH.x_revL ?_
  | with_reducible refine LH.x_dsetT ?_
  | with_reducible refine LH.x_lvals ?_
  | with_reducible refine LH.br_nt ?_
  | with_reducible refine LH.br_nf ?_
  | with_reducible refine LH.br_t ?_
  | with_reducible refine LH.br_f ?_)
local macro_rules | `(tactic| walk_at "rd") => `(tactic| repeat (walk_at "rd1"))
local macro_rules | `(tactic| walk_at "rs1") => `(tactic| first
  | with_reducible refine LH.x_seq ?_
  | with_reducible refine LH.x_cons ?_
  | with_reducible refine LH.x_var (by with_unfolding_all exact rfl) ?_
  | with_reducible refine LH.x_c ?_
  | with_reducible refine LH.x_op ?_
  | with_reducible refine LH.x_gname ?_
  | with_reducible refine LH.x_nil ?_
  | with_reducible refine LH.x_I0 ?_
  | ((with_reducible refine LH.x_I ?k1 ?_); (case k1 => first | exact (by decide) | exact ⟨by decide, by decide⟩ | exact ⟨by decide, by decide, by decide⟩ | exact .inl ⟨by decide, by decide⟩ | exact .inr ⟨by decide, by decide⟩ | exact .inr ⟨by omega, by omega⟩ | exact .inl ⟨by omega, by omega⟩ | exact (by omega)))
  | with_reducible refine LH.x_test ?_
  | with_reducible refine LH.x_tB ?_
  | with_reducible refine LH.bx ?_
  | with_reducible refine LH.x_and ?_
  | with_reducible refine LH.x_or ?_
  | with_reducible refine LH.x_not ?_
  | with_reducible refine LH.x_call ?_
  | with_reducible refine LH.x_cb ?_
  | with_reducible refine LH.x_lst ?_
  | with_reducible refine LH.x_tup ?_
  | with_reducible refine LH.x_bm ?_
  | with_reducible refine LH.x_next ?_
  | with_reducible refine LH.x_cont ?_
  | with_reducible refine LH.x_un ?_
  | with_reducible refine LH.x_U ?_
  | with_reducible refine LH.x_eq (by with_unfolding_all exact rfl) ?_
  | with_reducible refine LH.x_ne (by with_unfolding_all exact rfl) ?_
  | with_reducible refine LH.x_andV ?_
  | with_reducible refine LH.x_orV ?_
  | with_reducible refine LH.x_notV ?_
  | with_reducible refine LH.band ?_
  | with_reducible refine LH.bor ?_
  | with_reducible refine LH.x_if ?_
  | with_reducible refine LH.x_chain ?_
  | with_reducible refine LH.chk ?_
  | with_reducible refine LH.x_callS ?_
  | with_reducible refine LH.x_callE ?_
  | with_reducible refine LH.x_callV ?_
  | with_reducible refine LH.x_lrg ?_
  | with_reducible refine LH.x_lcS ?_
  | with_reducible refine LH.x_lcR1 ?_
  | with_reducible refine LH.strv ?_
  | with_reducible refine LH.x_yes ?_
  | with_reducible refine LH.x_sl ?_
  | with_reducible refine LH.x_noPart ?_
  | with_reducible refine LH.x_part ?_
  | with_reducible refine LH.pav ?_
  | with_reducible refine LH.x_jnv ?_
  | with_reducible refine LH.x_join ?_
  | with_reducible refine LH.x_inS ?_
  | with_reducible refine LH.x_niS ?_
  | with_reducible refine LH.x_isB ?_
  | with_reducible refine LH.x_isnB ?_
  | with_reducible refine LH.x_gcons ?_
  | with_reducible refine LH.x_gnil ?_
  | with_reducible refine LH.x_intB ?_
  | with_reducible refine LH.x_orT ?_
  | with_reducible refine LH.x_isTy ?_
  | with_reducible refine LH.x_niTy ?_
  | with_reducible refine LH.x_split ?_
  | with_reducible refine LH.x_spv ?_
  | with_reducible refine LH.x_gsub ?_
  | with_reducible refine LH.x_fmt ?_
  | with_reducible refine LH.x_js0 ?_
  | with_reducible refine LH.x_js ?_
  | with_reducible refine LH.x_rg1 ?_
  | with_reducible refine LH.x_abs ?_
  | with_reducible refine LH.x_rg2 ?_
  | with_reducible refine LH.rg1v ?_
  | with_reducible refine LH.rg2v ?_
  | with_reducible refine LH.x_lenSetG ?_
  | with_reducible refine LH.x_lc ?_
  | with_reducible refine LH.x_fld ?_
  | with_reducible refine LH.x_sfld ?_
  | with_reducible refine LH.x_afld ?_
  | with_reducible refine LH.x_meth ?_
  | with_reducible refine LH.x_make ?_
  | with_reducible refine LH.x_methSl ?_
  | with_reducible refine LH.x_makeSl ?_
  | with_reducible refine LH.x_din ?_
  | with_reducible refine LH.x_dni ?_
  | with_reducible refine LH.x_dget ?_
  | with_reducible refine LH.x_dput ?_
  | with_reducible refine LH.x_dget2 ?_
  | with_reducible refine LH.x_dpop1 ?_
  | with_reducible refine LH.x_litems ?_
  | with_reducible refine LH.x_tru ?_
  | with_reducible refine LH.x_revL ?_
  | with_reducible refine LH.x_dsetT ?_
  | with_reducible refine LH.x_lvals ?_
  | with_reducible refine LH.br_nt ?_
  | with_reducible refine LH.br_nf ?_
  | with_reducible refine LH.br_t ?_
  | with_reducible refine LH.br_f ?_)
local macro_rules | `(tactic| walk_at "rs") => `(tactic| repeat (walk_at "rs1"))

section
variable {P : Program} {w : World} {K : PySem.W.Frag} {mg : Str → Option Value} {base : Heap} {a : Ad}
/-- the honest ones among the first n houses -/
def hnOf (ns : List Int) : Nat → List Int
  | 0 => []
  | n + 1 => if (n : Int) ∈ ns then hnOf ns n else hnOf ns n ++ [(n : Int)]
theorem hnOf_mem {ns : List Int} {x : Int} : ∀ {n : Nat}, x ∈ hnOf ns n ↔ 0 ≤ x ∧ x < n ∧ x ∉ ns
  | 0 => ⟨(fun h => nomatch h), fun h => by omega⟩
  | n + 1 => by
    have ih := hnOf_mem (ns := ns) (x := x) (n := n)
    unfold hnOf
    split
    · next c =>
      rw [ih]
      constructor
      · rintro ⟨h1, h2, h3⟩
        exact ⟨h1, by omega, h3⟩
      · rintro ⟨h1, h2, h3⟩
        refine ⟨h1, ?_, h3⟩
        have : x ≠ n := fun e => h3 (e ▸ c)
        omega
    · next c =>
      rw [List.mem_append, List.mem_singleton, ih]
      constructor
      · rintro (⟨h1, h2, h3⟩ | rfl)
        · exact ⟨h1, by omega, h3⟩
        · exact ⟨by omega, by omega, c⟩
      · rintro ⟨h1, h2, h3⟩
        by_cases e : x = n
        · exact .inr e
        · exact .inl ⟨h1, by omega, h3⟩
theorem hnOf_nodup {ns : List Int} : ∀ {n : Nat}, (hnOf ns n).Nodup
  | 0 => List.nodup_nil
  | n + 1 => by
    unfold hnOf
    split
    · exact hnOf_nodup
    · refine List.nodup_append.mpr ⟨hnOf_nodup, by simp, fun a ha b hb e => ?_⟩
      have h := (hnOf_mem.mp ha).2.1
      have : b = n := by simpa using hb
      omega
theorem hnOf_len {ns : List Int} : ∀ {n : Nat}, (hnOf ns n).length ≤ n
  | 0 => Nat.le_refl _
  | n + 1 => by
    have := hnOf_len (ns := ns) (n := n)
    unfold hnOf
    split
    · omega
    · rw [List.length_append, List.length_singleton]
      omega
theorem sq_kp {K : PySem.W.Frag} {H H1 : Hp} {p q : Addr} {C dx : Addr} {fs : List (Str × V)} {xs : List V} (h : SqL K H q xs) (k : LH.Kp p H H1) (g : H p = some (.ins C dx fs)) : SqL K H1 q xs := by
  have n : ∀ o, H q = some o → (∀ C dx fs, o ≠ .ins C dx fs) → H1 q = some o := fun o e no => k q o e fun e2 => by
    rw [e2, g] at e
    injection e with e
    exact no _ _ _ e.symm
  rcases h with (h | ⟨o, h⟩) | h
  · exact .inl (.inl (n _ h fun _ _ _ e => nomatch e))
  · exact .inl (.inr ⟨o, n _ h fun _ _ _ e => nomatch e⟩)
  · exact .inr h
def spTInit (K : PySem.W.Frag) (CT CH CP BC BH : Addr) : Sp := fun vs H Q E => ∃ p dx x y T1, vs = [.ref p, x, y] ∧ H p = some (.ins CT dx []) ∧ TyB K H x T1 ∧ (isW x 1 12 = false → E (.ref BC) none H) ∧
  ∀ c, x = .int c → 1 ≤ c → c ≤ 12 → ∃ b, Lst K H c y b ∧ (b = false → ∀ H', Same H H' → E (.ref BH) none H') ∧
    (b = true → ∃ q ns, y = .ref q ∧ SqL K H q (ns.map V.int) ∧ ∀ (ta : TAd) (h : Int → HA) H', ta.p = p → (∀ b ∈ places ta h (hnOf ns c.toNat), b ≠ p → H b = none) → LH.Ks [p] H H' →
      (∀ b ∈ places ta h (hnOf ns c.toNat), ∃ o, H' b = some o) → (∀ b ∈ places ta h (hnOf ns c.toNat), ∀ xs, H' b ≠ some (.tup xs)) →
      (∀ M, (∀ b ∈ places ta h (hnOf ns c.toNat), b ∈ M) → (∀ b ∈ M, ∃ o, H' b = some o) → (∀ b ∈ M, ∀ xs, H' b ≠ some (.tup xs)) → TownAt CT CH CP M H' ta h (TSt.new c (hnOf ns c.toNat))) → Q .non H')
theorem ok_Town___init__ (T : Txt K mg a) : FnOk P w K mg base (L2N.CX P w) 5 a.Town___init__ a.d_Town___init__ ["self", "count", "liars"] (spTInit K a.Town a.House a.Post a.BadCount a.BadHouse) := by
  have G_check_count := ok_check_count (P := P) (w := w) (base := base) T
  have G_are_different_houses := ok_are_different_houses (P := P) (w := w) (base := base) T
  have G_House___init__ := ok_House___init__ (P := P) (w := w) (base := base) T
  have G_Post___init__ := ok_Post___init__ (P := P) (w := w) (base := base) T
  refine LH.okN T.F_Town___init__ sc_Town___init__ (fun vs H Q E h => ?_) (fun cdv A outer s H vs Q E hr h => ?_)
  · obtain ⟨p, dx, x, y, T1, rfl, _⟩ := h
    rfl
  · obtain ⟨p, dx, x, y, T1, rfl, hp, t1, kE, k⟩ := h
    have HR_check_count : Room 2 _ := hr.mono (by decide)
    have HR_are_different_houses : Room 3 _ := hr.mono (by decide)
    have HRM_House : Room 4 _ := hr.mono (by decide)
    have HRM_Post : Room 2 _ := hr.mono (by decide)
    refine ⟨_, (pss_cons (ps_expr (pe_call (E := E) G_check_count HR_check_count rfl T.g_check_count T.F_check_count.kp T.b_check_count .nil (L2N.passes_call (LH.tkN (E := E)) fun _ _ _ _ z => z) (pa_cons (pv 1) pa_nil)))
  (pss_cons (ps_if (pt_not (pt_val (pe_call G_are_different_houses HR_are_different_houses rfl T.g_are_different_houses T.F_are_different_houses.kp T.b_are_different_houses .nil pass0 (pa_cons (pv 1) (pa_cons (pv 2) pa_nil)))))
    (pss_one (L2N.ps_raise rfl (LH.tkN (E := E)) (LH.pmkN PySem.F.excBase_ValueError T.x_BadHouse T.g_BadHouse T.k_BadHouse (raises_own T.bx_BadHouse T.t_BadHouse) rfl (pa_cons pe_str pa_nil))))
    pss_nil)
  (pss_cons (ps_fld (pv 0) (pv 1) rfl)
  (pss_cons (ps_fld (pv 0) (pe_dc (own := [("house", 3)]) (g := gName 3) rfl sc_Town___init__.nd (pi_range1 rfl T.n_range (pa_cons (pv 1) pa_nil)) (blkOk_by (N := N_Town___init__) (sc := defScope s_Town___init__) (by decide +kernel)) (fun _ _ _ _ _ => pg_name (i := 3) sc_Town___init__.nd rfl (Or.inl rfl)) (fun _ _ _ _ _ => (pts_one (pt_cmpR (r := rIn K true) op_notIn_seq (pv 3) (pv 2) (by rfl)))) (fun _ _ _ _ _ => (pv 3)) (fun _ _ _ _ _ => (pe_make T.mk_House G_House___init__ HRM_House rfl T.g_House T.b_House___init__ .nil LH.passN (pa_cons (pv 1) (pa_cons (pv 3) pa_nil))))) rfl)
  (pss_cons (ps_fld (pv 0) (pe_make0 T.mk_Post G_Post___init__ HRM_Post rfl T.g_Post T.b_Post___init__ .nil pass0) rfl)
  (pss_one (ps_fld (pv 0) pe_dnewT rfl))))))), ?_⟩
    walk_at "rd"
    refine ⟨x, T1, rfl, t1, fun hc => ?_, kE⟩
    obtain ⟨c, rfl, c1, c2⟩ := isW_int hc
    obtain ⟨b, hb, kB, k⟩ := k c rfl c1 c2
    walk_at "rd"
    refine ⟨c, y, b, rfl, hb, fun H1 e1 => ?_⟩
    cases b with
    | false =>
      walk_at "rd"
      exact ⟨by show 1 ≤ sizeLine; decide, kB rfl H1 e1⟩
    | true =>
    obtain ⟨q, ns, rfl, hq, k⟩ := k rfl
    walk_at "rd"
    refine LH.sfldv (e1 _ _ hp) T.cl_Town T.na_Town__count (by decide) fun H2 k2 g2 => ?_
    walk_at "rd"
    have hq2 := sq_kp (Same.seq e1 hq) k2 (e1 _ _ hp)
    have old2 : ∀ b o, b ≠ p → H b = some o → H2 b = some o := fun b o n e => k2 _ _ (e1 _ _ e) n
    have none2 : ∀ b, H2 b = none → H b = none := fun b e => by
      cases e2 : H b with
      | none => rfl
      | some o =>
        rw [old2 b o (fun e3 => by rw [e3, g2] at e; cases e) e2] at e
        cases e
    refine LH.x_dcR ?_
    walk_at "rd"
    refine LH.rn1v (by omega) (by omega) ?_
    refine LH.dc_RI (by omega) (fun i => !decide ((i : Int) ∈ ns)) (fun i kvs F => ∃ h : Int → HA, kvs = hnK h (hnOf ns i) ∧ (∀ x ∈ hnOf ns i, (∀ b ∈ (h x).S, H2 b = none) ∧ ∀ G, HouseAt a.House G F (h x) (HS.new c x)) ∧ ∀ x ∈ hnOf ns i, ∀ y ∈ hnOf ns i, x ≠ y → ∀ b ∈ (h x).S, b ∉ (h y).S)
      (fun _ => rfl) (fun i kvs F p => ?_) (fun D hD => ⟨fun _ => ⟨0, 0, 0, 0, 0, 0, 0, 0, []⟩, rfl, (fun _ h => nomatch h), fun _ h => nomatch h⟩) (fun i kvs F hf p => ?_) (fun i hi Ha ea Q q => ?_) (fun i hi Ha Q q => ?_) (fun i kvs D Ha hi hf ea gD p Q q => ?_) fun D H3 kvs fD e3 gD p => ?_
    · obtain ⟨h, rfl, _⟩ := p
      unfold hnK
      rw [List.length_map]
      exact hnOf_len
    · have e : hnOf ns (i + 1) = hnOf ns i := by
        have : (i : Int) ∈ ns := by simpa using hf
        show (if (i : Int) ∈ ns then hnOf ns i else _) = _
        rw [if_pos this]
      rw [e]
      exact p
    · walk_at "rd"
      refine LH.x_notInI (Same.seq ea hq2) ?_
      walk_at "rd"
      have e0 : (0 : Int) + ((i : Nat) : Int) = (i : Int) := by omega
      rw [e0]
      exact q
    · walk_at "rd"
      have e0 : (0 : Int) + ((i : Nat) : Int) = (i : Int) := by omega
      rw [e0]
      exact q
    · obtain ⟨h, rfl, ph, pd⟩ := p
      have ni : (i : Int) ∉ ns := by simpa using hf
      have ic : (i : Int) < c := by omega
      have e0 : (0 : Int) + ((i : Nat) : Int) = (i : Int) := by omega
      rw [e0]
      walk_at "rd"
      refine LH.makev fun pn dn Hb fb fb' nb eb gb => ?_
      refine ⟨pn, dn, .int c, .int i, _, _, rfl, gb, .int _, .int _, fun b => (by rw [isW_yes c1 c2] at b; cases b), fun i' ei _ b => (by injection ei with ei; subst ei; rw [isW_yes (by omega) (by omega)] at b; cases b), fun i' j' ei ej _ _ _ _ hN Hc hpN new ks at_ => ⟨rfl, ?_⟩⟩
      injection ei with ei
      injection ej with ej
      subst ei ej hpN
      have newA : ∀ b ∈ hN.S, Ha b = none := fun b hb => by
        by_cases bp : b = hN.p
        · rw [bp]; exact fb
        · exact LH.Same.none eb (new b hb bp)
      have eac : Same Ha Hc := fun b v q => ks _ _ (eb _ _ q) (fun m => by
        have e : b = hN.p := by simpa using m
        rw [e, fb] at q
        cases q)
      have DS : D ∉ hN.S := fun m => by rw [newA D m] at gD; cases gD
      have new2 : ∀ b ∈ hN.S, H2 b = none := fun b hb => LH.Same.none (ea.trans LH.fr_le) (newA b hb)
      have atc : ∀ G, HouseAt a.House G (LH.Fr [D] Hc) hN (HS.new c i) := fun G => (at_ G).to (Same.refl _) fun b o hb q => LH.fr_of q fun m => DS (by rw [← List.mem_singleton.mp m]; exact hb)
      have ie : hnOf ns (i + 1) = hnOf ns i ++ [(i : Int)] := by
        show (if (i : Int) ∈ ns then hnOf ns i else _) = _
        rw [if_neg ni]
      have nin : (i : Int) ∉ hnOf ns i := fun m => by have := (hnOf_mem.mp m).2.1; omega
      refine q _ Hc eac ⟨setI h i hN, ?_, fun x hx => ?_, fun x hx y hy n b hb m => ?_⟩
      · rw [ie, putK_new _ (hn_none nin)]
        unfold hnK
        rw [List.map_append]
        congr 1
        · refine List.map_congr_left fun x hx => ?_
          have ne : x ≠ (i : Int) := fun e => nin (e ▸ hx)
          rw [setI_other ne]
        · rw [List.map_cons, List.map_nil, setI_same]
      · rw [ie] at hx
        rcases List.mem_append.mp hx with hx | hx
        · have ne : x ≠ i := fun e => nin (e ▸ hx)
          rw [setI_other ne]
          exact ⟨(ph x hx).1, fun G => ((ph x hx).2 G).to (Same.refl _) fun b o _ q => LH.same_fr eac _ _ q⟩
        · rw [List.mem_singleton.mp hx, setI_same]
          exact ⟨new2, atc⟩
      · have alv : ∀ z ∈ hnOf ns i, ∀ b ∈ (h z).S, b ∉ hN.S := fun z hz b hb m => by
          obtain ⟨v, q⟩ := ((ph z hz).2 fun _ => none).alive b hb
          have := (LH.fr_some q).1
          rw [newA b m] at this
          cases this
        rw [ie] at hx hy
        rcases List.mem_append.mp hx with hx | hx
        · have nx : x ≠ i := fun e => nin (e ▸ hx)
          rw [setI_other nx] at hb
          rcases List.mem_append.mp hy with hy | hy
          · have ny : y ≠ i := fun e => nin (e ▸ hy)
            rw [setI_other ny] at m
            exact pd x hx y hy n b hb m
          · rw [List.mem_singleton.mp hy, setI_same] at m
            exact alv x hx b hb m
        · rw [List.mem_singleton.mp hx] at n hb
          rw [setI_same] at hb
          rcases List.mem_append.mp hy with hy | hy
          · have ny : y ≠ i := fun e => nin (e ▸ hy)
            rw [setI_other ny] at m
            exact alv y hy b m hb
          · exact n (List.mem_singleton.mp hy).symm
    obtain ⟨h, rfl, ph, pd⟩ := p
    walk_at "rd"
    refine LH.sfldv (e3 _ _ g2) T.cl_Town T.na_Town__honest (by show 1 < 1000; decide) fun H4 k4 g4 => ?_
    walk_at "rd"
    refine LH.makev fun pp dp H5 f5 f5' n5 e5 g5 => ?_
    refine ⟨pp, dp, rfl, g5, fun d H6 fd po k6 => ⟨rfl, ?_⟩⟩
    walk_at "rd"
    have npp : p ≠ pp := fun e => by rw [← e, g4] at f5; cases f5
    have n6 : ∀ b, b ≠ pp → b ∉ [pp] := fun b n m => n (List.mem_singleton.mp m)
    have g6 := k6 _ _ (e5 _ _ g4) (n6 _ npp)
    refine LH.sfldv g6 T.cl_Town T.na_Town__post (by show 2 < 1000; decide) fun H7 k7 g7 => ?_
    walk_at "rd"
    refine LH.x_dnewT fun sp H8 f8 e8 g8 => ?_
    walk_at "rd"
    refine LH.sfldv (e8 _ _ g7) T.cl_Town T.na_Town__spoken (by show 3 < 1000; decide) fun H9 k9 g9 => ?_
    have k39 : ∀ b o, b ≠ p → b ≠ pp → H3 b = some o → H9 b = some o := fun b o n1 n2 q => k9 _ _ (e8 _ _ (k7 _ _ (k6 _ _ (e5 _ _ (k4 _ _ q n1)) (n6 _ n2)) n1)) n1
    have Dp : D ≠ p := fun e => by rw [e, g2] at fD; cases fD
    have k3pp : ∀ b o, b ≠ p → H3 b = some o → b ≠ pp := fun b o n q e => by
      have := k4 _ _ q n
      rw [e, f5] at this
      cases this
    have Dpp := k3pp _ _ Dp gD
    have dp_ : d ≠ p := fun e => by rw [e, e5 _ _ g4] at fd; cases fd
    have d6 := po.dc
    obtain ⟨dxp, po6⟩ := po.ob
    have dpp : d ≠ pp := fun e => by rw [e, g5] at fd; cases fd
    have g5D : H5 D = some (.dK (hnK h (hnOf ns c.toNat))) := e5 _ _ (k4 _ _ gD Dp)
    have Dd : D ≠ d := fun e => by rw [← e, g5D] at fd; cases fd
    have spp : sp ≠ p := fun e => by rw [e, g7] at f8; cases f8
    have po7 := k7 _ _ po6 (Ne.symm npp)
    have d7 := k7 _ _ d6 dp_
    have sppp : sp ≠ pp := fun e => by rw [e, po7] at f8; cases f8
    have spd : sp ≠ d := fun e => by rw [e, d7] at f8; cases f8
    have g7D : H7 D = some (.dK (hnK h (hnOf ns c.toNat))) := k7 _ _ (k6 _ _ g5D (n6 _ Dpp)) Dp
    have spD : sp ≠ D := fun e => by rw [e, g7D] at f8; cases f8
    have po9 := k9 _ _ (e8 _ _ po7) (Ne.symm npp)
    have d9 := k9 _ _ (e8 _ _ d7) dp_
    have D9 := k39 _ _ Dp Dpp gD
    have sp9 := k9 _ _ g8 spp
    have none3 : ∀ b, H3 b = none → H2 b = none := fun b q => LH.Same.none e3 q
    have hS : ∀ x ∈ hnOf ns c.toNat, ∀ b ∈ (h x).S, ∃ o, LH.Fr [D] H3 b = some o := fun x hx => ((ph x hx).2 fun _ => none).alive
    have hSp : ∀ x ∈ hnOf ns c.toNat, ∀ b ∈ (h x).S, b ≠ p := fun x hx b hb e => by
      have := (ph x hx).1 b hb
      rw [e, g2] at this
      cases this
    have at9 : ∀ x ∈ hnOf ns c.toNat, ∀ G, HouseAt a.House G H9 (h x) (HS.new c x) := fun x hx G => ((ph x hx).2 G).to (Same.refl _) fun b o hb q => by
      have q := LH.fr_le _ _ q
      exact k39 b o (hSp x hx b hb) (k3pp b o (hSp x hx b hb) q) q
    let ta : TAd := ⟨p, D, pp, d, sp⟩
    have fiveN : ∀ b ∈ ta.S, b ≠ p → H2 b = none := fun b hb n => by
      unfold TAd.S at hb
      simp only [List.mem_cons, List.not_mem_nil, or_false] at hb
      have n4 : ∀ b, b ≠ p → H4 b = none → H2 b = none := fun b n q => by
        cases q2 : H2 b with
        | none => rfl
        | some o =>
          rw [k4 _ _ (e3 _ _ q2) n] at q
          cases q
      rcases hb with rfl | rfl | rfl | rfl | rfl
      · exact absurd rfl n
      · exact fD
      · exact n4 _ n f5
      · exact n4 _ n (LH.Same.none e5 fd)
      · refine n4 _ n ?_
        cases q2 : H4 b with
        | none => rfl
        | some o =>
          have := k7 _ _ (k6 _ _ (e5 _ _ q2) (n6 _ sppp)) spp
          rw [f8] at this
          cases this
    have fd9 : ∀ x ∈ hnOf ns c.toNat, ∀ b ∈ (h x).S, b ∉ ta.S := fun x hx b hb m => by
      obtain ⟨o, q⟩ := hS x hx b hb
      obtain ⟨q1, q2⟩ := LH.fr_some q
      have bp := hSp x hx b hb
      have bpp := k3pp b o bp q1
      have b7 : H7 b = some o := k7 _ _ (k6 _ _ (e5 _ _ (k4 _ _ q1 bp)) (n6 _ bpp)) bp
      unfold TAd.S at m
      simp only [List.mem_cons, List.not_mem_nil, or_false] at m
      rcases m with m | m | m | m | m
      · exact bp m
      · exact q2 (List.mem_singleton.mpr m)
      · exact bpp m
      · have := e5 _ _ (k4 _ _ q1 bp)
        rw [m, fd] at this
        cases this
      · rw [m, f8] at b7
        cases b7
    have ob9 : H9 p = some (.ins a.Town dx (tf ta c)) := g9
    have alT : ∀ b ∈ places ta h (hnOf ns c.toNat), ∃ o, H9 b = some o ∧ ∀ xs, o ≠ .tup xs := fun b hb => by
      rcases mem_places.mp hb with hb | ⟨x, hx, hb⟩
      · unfold TAd.S at hb
        simp only [List.mem_cons, List.not_mem_nil, or_false] at hb
        rcases hb with rfl | rfl | rfl | rfl | rfl
        · exact ⟨_, ob9, fun _ e => nomatch e⟩
        · exact ⟨_, D9, fun _ e => nomatch e⟩
        · exact ⟨_, po9, fun _ e => nomatch e⟩
        · exact ⟨_, d9, fun _ e => nomatch e⟩
        · exact ⟨_, sp9, fun _ e => nomatch e⟩
      · obtain ⟨o, q⟩ := (at9 x hx fun _ => none).alive b hb
        exact ⟨o, q, fun xs e => TN.HouseAt.noTup (at9 x hx fun _ => none) hb xs (by rw [q, e])⟩
    refine k ta h H9 rfl (fun b hb n => ?_) (fun b o q n => ?_) (fun b hb => let ⟨o, q, _⟩ := alT b hb; ⟨o, q⟩) (fun b hb xs q => ?_) fun M iM al nt => ?_
    · rcases mem_places.mp hb with hb | ⟨x, hx, hb⟩
      · exact none2 b (fiveN b hb n)
      · exact none2 b ((ph x hx).1 b hb)
    · have n : b ≠ p := by simpa using n
      have q3 := e3 _ _ (old2 b o n q)
      exact k39 b o n (k3pp b o n q3) q3
    · obtain ⟨o, q2, n⟩ := alT b hb
      rw [q2] at q
      injection q with q
      exact n xs q
    · refine ⟨⟨dx, ob9⟩, D9, ⟨dxp, po9⟩, ⟨[], d9, .nil⟩, ⟨[], sp9, rfl⟩, fun x hx => at9 x hx _, pd, ?_, fd9, iM, al, nt, GT.new c1 c2 hnOf_nodup fun x hx => ?_⟩
      · show [p, D, pp, d, sp].Nodup
        simp only [List.nodup_cons, List.mem_cons, List.not_mem_nil, or_false, not_or, not_false_eq_true, List.nodup_nil, and_true]
        exact ⟨⟨Ne.symm Dp, npp, Ne.symm dp_, Ne.symm spp⟩, ⟨Dpp, Dd, Ne.symm spD⟩, ⟨Ne.symm dpp, Ne.symm sppp⟩, Ne.symm spd⟩
      · have hx : x ∈ hnOf ns c.toNat := hx
        obtain ⟨h1, h2, _⟩ := hnOf_mem.mp hx
        exact ⟨h1, by show x < c; omega⟩
end
end KB
namespace KB
open PySem L2 LM HM TN
local macro_rules | `(tactic| walk_at "rd1") => `(tactic| first
  | with_reducible refine LH.x_seq ?_
  | with_reducible refine LH.x_asg ?_
  | with_reducible refine LH.x_cons ?_
  | with_reducible refine LH.x_var (by with_unfolding_all exact rfl) ?_
  | with_reducible refine LH.x_c ?_
  | with_reducible refine LH.x_op ?_
  | with_reducible refine LH.x_gname ?_
  | with_reducible refine LH.x_nil ?_
  | with_reducible refine LH.x_I0 ?_
  | ((with_reducible refine LH.x_I ?k1 ?_); (case k1 => first | exact (by decide) | exact ⟨by decide, by decide⟩ | exact ⟨by decide, by decide, by decide⟩ | exact .inl ⟨by decide, by decide⟩ | exact .inr ⟨by decide, by decide⟩ | exact .inr ⟨by omega, by omega⟩ | exact .inl ⟨by omega, by omega⟩ | exact (by omega)))
  | with_reducible refine LH.x_ifS ?_
  | with_reducible refine LH.x_test ?_
  | with_reducible refine LH.x_tB ?_
  | with_reducible refine LH.bx ?_
  | with_reducible refine LH.x_and ?_
  | with_reducible refine LH.x_or ?_
  | with_reducible refine LH.x_not ?_
  | with_reducible refine LH.x_ret ?_
  | with_reducible refine LH.x_call ?_
  | with_reducible refine LH.x_cb ?_
  | with_reducible refine LH.x_lst ?_
  | with_reducible refine LH.x_tup ?_
  | with_reducible refine LH.x_bm ?_
  | with_reducible refine LH.x_drop ?_
  | with_reducible refine LH.x_next ?_
  | with_reducible refine LH.x_cont ?_
  | with_reducible refine LH.x_un ?_
  | with_reducible refine LH.x_U ?_
  | with_reducible refine LH.x_eq (by with_unfolding_all exact rfl) ?_
  | with_reducible refine LH.x_ne (by with_unfolding_all exact rfl) ?_
  | with_reducible refine LH.x_andV ?_
  | with_reducible refine LH.x_orV ?_
  | with_reducible refine LH.x_notV ?_
  | with_reducible refine LH.band ?_
  | with_reducible refine LH.bor ?_
  | with_reducible refine LH.x_if ?_
  | with_reducible refine LH.x_chain ?_
  | with_reducible refine LH.chk ?_
  | with_reducible refine LH.x_callS ?_
  | with_reducible refine LH.x_callE ?_
  | with_reducible refine LH.x_callV ?_
  | with_reducible refine LH.x_lrg ?_
  | with_reducible refine LH.x_lcS ?_
  | with_reducible refine LH.x_lcR1 ?_
  | with_reducible refine LH.x_forR1 ?_
  | with_reducible refine LH.x_forR3 ?_
  | with_reducible refine LH.strv ?_
  | with_reducible refine LH.x_yes ?_
  | with_reducible refine LH.x_sl ?_
  | with_reducible refine LH.x_noPart ?_
  | with_reducible refine LH.x_part ?_
  | with_reducible refine LH.pav ?_
  | with_reducible refine LH.x_jnv ?_
  | with_reducible refine LH.x_join ?_
  | with_reducible refine LH.x_inS ?_
  | with_reducible refine LH.x_niS ?_
  | with_reducible refine LH.x_isB ?_
  | with_reducible refine LH.x_isnB ?_
  | with_reducible refine LH.x_gcons ?_
  | with_reducible refine LH.x_gnil ?_
  | with_reducible refine LH.x_intB ?_
  | with_reducible refine LH.x_orT ?_
  | with_reducible refine LH.x_isTy ?_
  | with_reducible refine LH.x_niTy ?_
  | with_reducible refine LH.x_split ?_
  | with_reducible refine LH.x_spv ?_
  | with_reducible refine LH.x_gsub ?_
  | with_reducible refine LH.x_fmt ?_
  | with_reducible refine LH.x_js0 ?_
  | with_reducible refine LH.x_js ?_
  | with_reducible refine LH.x_rg1 ?_
  | with_reducible refine LH.x_forL ?_
  | with_reducible refine LH.x_abs ?_
  | with_reducible refine LH.x_rg2 ?_
  | with_reducible refine LH.rg1v ?_
  | with_reducible refine LH.rg2v ?_
  | with_reducible refine LH.x_forR2 ?_
  | with_reducible refine LH.x_lenSetG ?_
  | with_reducible refine LH.x_lc ?_
  | with_reducible refine LH.x_fld ?_
  | with_reducible refine LH.x_sfld ?_
  | with_reducible refine LH.x_afld ?_
  | with_reducible refine LH.x_meth ?_
  | with_reducible refine LH.x_make ?_
  | with_reducible refine LH.x_methSl ?_
  | with_reducible refine LH.x_makeSl ?_
  | with_reducible refine LH.x_din ?_
  | with_reducible refine LH.x_dni ?_
  | with_reducible refine LH.x_dget ?_
  | with_reducible refine LH.x_dput ?_
  | with_reducible refine LH.x_dget2 ?_
  | with_reducible refine LH.x_dpop1 ?_
  | with_reducible refine LH.x_litems ?_
  | with_reducible refine LH.x_tru ?_
  | with_reducible refine LH.x_revL ?_
  | with_reducible refine LH.x_dsetT ?_
  | with_reducible refine LH.x_lvals ?_
  | with_reducible refine LH.br_nt ?_
  | with_reducible refine LH.br_nf ?_
  | with_reducible refine LH.br_t ?_
  | with_reducible refine LH.br_f ?_)
local macro_rules | `(tactic| walk_at "rd") => `(tactic| repeat (walk_at "rd1"))
local macro_rules | `(tactic| walk_at "rs1") => `(tactic| first
  | with_reducible refine LH.x_seq ?_
  | with_reducible refine LH.x_cons ?_
  | with_reducible refine LH.x_var (by with_unfolding_all exact rfl) ?_
  | with_reducible refine LH.x_c ?_
  | with_reducible refine LH.x_op ?_
  | with_reducible refine LH.x_gname ?_
  | with_reducible refine LH.x_nil ?_
  | with_reducible refine LH.x_I0 ?_
  | ((with_reducible refine LH.x_I ?k1 ?_); (case k1 => first | exact (by decide) | exact ⟨by decide, by decide⟩ | exact ⟨by decide, by decide, by decide⟩ | exact .inl ⟨by decide, by decide⟩ | exact .inr ⟨by decide, by decide⟩ | exact .inr ⟨by omega, by omega⟩ | exact .inl ⟨by omega, by omega⟩ | exact (by omega)))
  | with_reducible refine LH.x_test ?_
  | with_reducible refine LH.x_tB ?_
  | with_reducible refine LH.bx ?_
  | with_reducible refine LH.x_and ?_
  | with_reducible refine LH.x_or ?_
  | with_reducible refine LH.x_not ?_
  | with_reducible refine LH.x_call ?_
  | with_reducible refine LH.x_cb ?_
  | with_reducible refine LH.x_lst ?_
  | with_reducible refine LH.x_tup ?_
  | with_reducible refine LH.x_bm ?_
  | with_reducible refine LH.x_next ?_
  | with_reducible refine LH.x_cont ?_
  | with_reducible refine LH.x_un ?_
  | with_reducible refine LH.x_U ?_
  | with_reducible refine LH.x_eq (by with_unfolding_all exact rfl) ?_
  | with_reducible refine LH.x_ne (by with_unfolding_all exact rfl) ?_
  | with_reducible refine LH.x_andV ?_
  | with_reducible refine LH.x_orV ?_
  | with_reducible refine LH.x_notV ?_
  | with_reducible refine LH.band ?_
  | with_reducible refine LH.bor ?_
  | with_reducible refine LH.x_if ?_
  | with_reducible refine LH.x_chain ?_
  | with_reducible refine LH.chk ?_
  | with_reducible refine LH.x_callS ?_
  | with_reducible refine LH.x_callE ?_
  | with_reducible refine LH.x_callV ?_
  | with_reducible refine LH.x_lrg ?_
  | with_reducible refine LH.x_lcS ?_
  | with_reducible refine LH.x_lcR1 ?_
  | with_reducible refine LH.strv ?_
  | with_reducible refine LH.x_yes ?_
  | with_reducible refine LH.x_sl ?_
  | with_reducible refine LH.x_noPart ?_
  | with_reducible refine LH.x_part ?_
  | with_reducible refine LH.pav ?_
  | with_reducible refine LH.x_jnv ?_
  | with_reducible refine LH.x_join ?_
  | with_reducible refine LH.x_inS ?_
  | with_reducible refine LH.x_niS ?_
  | with_reducible refine LH.x_isB ?_
  | with_reducible refine LH.x_isnB ?_
  | with_reducible refine LH.x_gcons ?_
  | with_reducible refine LH.x_gnil ?_
  | with_reducible refine LH.x_intB ?_
  | with_reducible refine LH.x_orT ?_
  | with_reducible refine LH.x_isTy ?_
  | with_reducible refine LH.x_niTy ?_
  | with_reducible refine LH.x_split ?_
  | with_reducible refine LH.x_spv ?_
  | with_reducible refine LH.x_gsub ?_
  | with_reducible refine LH.x_fmt ?_
  | with_reducible refine LH.x_js0 ?_
  | with_reducible refine LH.x_js ?_
  | with_reducible refine LH.x_rg1 ?_
  | with_reducible refine LH.x_abs ?_
  | with_reducible refine LH.x_rg2 ?_
  | with_reducible refine LH.rg1v ?_
  | with_reducible refine LH.rg2v ?_
  | with_reducible refine LH.x_lenSetG ?_
  | with_reducible refine LH.x_lc ?_
  | with_reducible refine LH.x_fld ?_
  | with_reducible refine LH.x_sfld ?_
  | with_reducible refine LH.x_afld ?_
  | with_reducible refine LH.x_meth ?_
  | with_reducible refine LH.x_make ?_
  | with_reducible refine LH.x_methSl ?_
  | with_reducible refine LH.x_makeSl ?_
  | with_reducible refine LH.x_din ?_
  | with_reducible refine LH.x_dni ?_
  | with_reducible refine LH.x_dget ?_
  | with_reducible refine LH.x_dput ?_
  | with_reducible refine LH.x_dget2 ?_
  | with_reducible refine LH.x_dpop1 ?_
  | with_reducible refine LH.x_litems ?_
  | with_reducible refine LH.x_tru ?_
  | with_reducible refine LH.x_revL ?_
  | with_reducible refine LH.x_dsetT ?_
  | with_reducible refine LH.x_lvals ?_
  | with_reducible refine LH.br_nt ?_
  | with_reducible refine LH.br_nf ?_
  | with_reducible refine LH.br_t ?_
  | with_reducible refine LH.br_f ?_)
local macro_rules | `(tactic| walk_at "rs") => `(tactic| repeat (walk_at "rs1"))

section
variable {P : Program} {w : World} {K : PySem.W.Frag} {mg : Str → Option Value} {base : Heap} {a : Ad}
def spAt (K : PySem.W.Frag) : Sp := fun vs H Q _ => ∃ (p : Addr) (ns : List Int) (k : Int), vs = [.ref p, .int k] ∧ SqL K H p (ns.map V.int) ∧ 0 ≤ k ∧ ∀ z, Q (.int z) H
theorem ok__law_at (T : Txt K mg a) : FnOk P w K mg base CX0 1 a._law_at a.d__law_at ["_law_script", "_law_k"] (spAt K) := by
  refine T.F__law_at.ok sc__law_at (fun vs H Q E h => ?_) (fun cdv A outer s H vs Q E hr h => ?_)
  · obtain ⟨p, ns, k, rfl, _⟩ := h
    rfl
  · obtain ⟨p, ns, i, rfl, hp, h0, k⟩ := h
    refine ⟨_, (pss_cons (ps_if (pt_cmpR op_lt (pv 1) (pe_callB (r := LH.rLen K) LH.call_len rfl T.n_len (by decide +kernel) (pa_cons (pv 0) pa_nil)) (nomark _))
    (pss_one (ps_ret (pe_ix (r := rIxL K) ix_list (pv 0) (pv 1) (fun _ _ => rfl))))
    pss_nil)
  (pss_one (ps_ret pe_int))), ?_⟩
    walk_at "rd"
    refine LH.x_lenL hp ?_
    walk_at "rd"
    refine LH.br_d (fun c => ?_) (fun c => ?_)
    · walk_at "rd"
      obtain ⟨j, rfl⟩ : ∃ j : Nat, i = (j : Int) := ⟨i.toNat, by omega⟩
      have hj : j < (ns.map V.int).length := by omega
      refine LH.x_ixL hp (atI_nat (List.getElem?_eq_getElem hj)) ?_
      walk_at "rd"
      rw [List.getElem_map]
      exact k _
    · walk_at "rd"
      exact k _
def spLRow : Sp := fun vs H Q _ => ∃ b k : Int, vs = [.int b, .int k] ∧ ∀ H', Same H H' → Q (.str (rowF b k)) H'
theorem ok__law_row (T : Txt K mg a) : FnOk P w K mg base CX0 1 a._law_row a.d__law_row ["_law_base", "_law_k"] spLRow := by
  refine T.F__law_row.ok sc__law_row (fun vs H Q E h => ?_) (fun cdv A outer s H vs Q E hr h => ?_)
  · obtain ⟨i, j, rfl, _⟩ := h
    rfl
  · obtain ⟨b, i, rfl, k⟩ := h
    refine ⟨_, (pss_cons (ps_set (i := 2) sc__law_row.nd rfl (Or.inr rfl) pe_str)
  (pss_cons (ps_set (i := 3) sc__law_row.nd rfl (Or.inr rfl) (pe_op op_add (pv 0) (pe_op op_mul (pe_op op_mul pe_int (pv 1)) (pe_op op_mod (pv 0) pe_int))))
  (pss_cons (ps_set (i := 4) sc__law_row.nd rfl (Or.inl rfl) (pe_op op_mod (pe_op op_fdiv (pv 3) pe_int) pe_int))
  (pss_cons (ps_set (i := 5) sc__law_row.nd rfl (Or.inl rfl) (LH.pe_joinN pe_str (pe_lc (own := [("_law_j", 6)]) (g := gName 6) (tt := tYes) rfl sc__law_row.nd (pi_range1 rfl T.n_range (pa_cons (pv 4) pa_nil)) (blkOk_by (N := N__law_row) (sc := defScope s__law_row) (by decide +kernel)) (fun _ _ _ _ _ => pg_name (i := 6) sc__law_row.nd rfl (Or.inl rfl)) (fun _ _ _ _ _ => pts_nil) (fun _ _ _ _ _ => (pe_ix ix_str (pv 2) (pe_op op_mod (pe_op op_add (pv 3) (pe_op op_mul (pe_op op_mul pe_int (pv 6)) (pe_op op_add pe_int (pe_op op_mod (pv 3) pe_int)))) pe_int) (fun _ _ => rfl))))))
  (pss_cons (ps_set (i := 7) sc__law_row.nd rfl (Or.inl rfl) (pv 4))
  (pss_cons (ps_if (pt_cmpR op_eq (pe_op op_mod (pv 0) pe_int) pe_int (nomark _))
    (pss_one (ps_set (i := 7) sc__law_row.nd rfl (Or.inl rfl) (pe_op op_modN (pe_op op_fdiv (pv 0) pe_int) (pe_op op_add (pv 4) pe_int))))
    pss_nil)
  (pss_cons (ps_if (pt_cmpR op_eq (pe_op op_mod (pv 0) pe_int) pe_int (nomark _))
    (pss_one (ps_ret (pe_ix (r := rIxL K) ix_list (pe_lst (pa_cons pe_str (pa_cons pe_str (pa_cons pe_str (pa_cons pe_str pa_nil))))) (pe_op op_mod (pv 1) pe_int) (fun _ _ => rfl))))
    pss_nil)
  (pss_one (ps_ret (pe_op LH.op_addS (pe_op LH.op_addS (pe_slice sl_str (pv 5) po_none (po_some (pv 7))) (pe_ix ix_str pe_str (pe_op op_mod (pv 1) pe_int) (fun _ _ => rfl))) (pe_slice sl_str (pv 5) (po_some (pv 7)) po_none))))))))))), ?_⟩
    walk_at "rd"
    have ht : b + 31 * i * (b % 2) = tOf b i := rfl
    rw [ht, nOf_eq]
    have n8 := nOf_lt b i
    refine LH.rn1v (by omega) (by omega) ?_
    refine LH.lc_R (by omega) (fun _ => true) (letV (tOf b i)) (fun _ => rfl) ?_ ?_ fun p1 H1 f1 e1 g1 => ?_
    · intro x hx H3 e3 Q3 q3
      walk_at "rd"
      exact q3 _ (Same.refl _)
    · intro x hx _ H3 e3 Q3 q3
      obtain ⟨j, _, rfl⟩ := List.mem_map.mp hx
      walk_at "rd"
      obtain ⟨c, h1, _, h2⟩ := let_at (tOf b i + 5 * (0 + (j : Int)) * (1 + tOf b i % 3))
      refine LH.x_ixS (by decide +kernel) h1 ?_
      have q4 := q3 H3 (Same.refl _)
      have e4 : letV (tOf b i) (V.int (0 + (j : Int))) = V.str ⟨#[c]⟩ := by rw [h2]; rfl
      rw [e4] at q4
      exact q4
    walk_at "rd"
    have hI : ((nOf b i : Nat) : Int).toNat = nOf b i := Int.toNat_natCast _
    rw [hI, lets] at g1
    have el : (List.range (nOf b i)).map (letF (tOf b i)) = tailOf b i := rfl
    have e0 : (Str.ofString "").length = 0 := rfl
    refine LH.x_jnw (SqL.of g1) (by rw [lens1, List.length_range, e0, Nat.mul_zero]; omega) ?_
    rw [join_signs, el]
    have tl := tail_len b i
    have al := atOf_le b i
    have sz : ((tailOf b i).toArray : Array Nat).size ≤ 100000 := by rw [List.size_toArray]; omega
    walk_at "rs"
    refine LH.x_asg ?_
    walk_at "rs"
    refine LH.cutS (fun σ' H' => σ' = [some (.int b), some (.int i), some (.str "abcdefghijklmnopqrstuvwxyz"), some (.int (tOf b i)), some (.int (nOf b i)), some (.str ⟨(tailOf b i).toArray⟩), none, some (.int (atOf b i))] ∧ H' = H1) (fun N hN => ?_) ?_
    · walk_at "rd"
      refine LH.br_d (fun c => ?_) (fun c => ?_)
      · walk_at "rd"
        have c : b % 2 = 0 := by injection c
        rw [atOf_even c]
        exact hN _ _ ⟨rfl, rfl⟩
      · walk_at "rd"
        have c : ¬ b % 2 = 0 := fun e => c (congrArg V.int e)
        exact hN _ _ ⟨by rw [atOf_odd c]; rfl, rfl⟩
    rintro σ' H' ⟨rfl, rfl⟩
    walk_at "rd"
    refine LH.br_d (fun c => ?_) (fun c => ?_)
    · walk_at "rd"
      refine LH.newl (LH.small rfl) fun p2 H2 f2 e2 g2 => ?_
      walk_at "rd"
      refine LH.x_ixL (SqL.of g2) (word4_at i).1 ?_
      have e : word4 i = rowF b i := by
        unfold rowF
        rw [if_pos (by injection c)]
      rw [e]
      exact k _ (e1.trans e2)
    · have c : ¬ b % 9 = 4 := fun e => c (congrArg V.int e)
      walk_at "rd"
      refine LH.x_slS sz ?_
      walk_at "rd"
      refine LH.x_ixS (by decide +kernel) (kq_at i).1 ?_
      refine LH.x_addS (by rw [cut_lo]; simp [Str.length]; omega) ?_
      walk_at "rd"
      refine LH.x_slS sz ?_
      refine LH.x_addS (by rw [cut_lo, cut_hi]; show (_ ++ _ : Array Nat).size + _ ≤ 100000; simp [Str.length]; omega) ?_
      rw [rowF_cut c]
      exact k _ e1
theorem rg0 {c : Int} (h : 0 ≤ c) : rgV 0 c = ((List.range c.toNat).map fun i : Nat => (i : Int)).map V.int := by
  unfold rgV
  rw [List.map_map]
  simp
def spLiars (K : PySem.W.Frag) : Sp := fun vs H Q _ => ∃ x c m : Int, vs = [.int x, .int c, .int m] ∧ 1 ≤ c ∧ c ≤ 12 ∧
  ∀ p H' (hs : List Int), Same H H' → H' p = some (.lst (hs.map V.int)) → hs.Nodup → (∀ h ∈ hs, 0 ≤ h ∧ h < c) → (hs.length : Int) = max 0 (min m c) → Q (.ref p) H'
theorem ok__law_liars (T : Txt K mg a) : FnOk P w K mg base CX0 1 a._law_liars a.d__law_liars ["_law_cell", "_law_count_here", "_law_many"] (spLiars K) := by
  refine T.F__law_liars.ok sc__law_liars (fun vs H Q E h => ?_) (fun cdv A outer s H vs Q E hr h => ?_)
  · obtain ⟨c, _, _, rfl, _⟩ := h
    rfl
  · obtain ⟨x, c, m, rfl, c1, c2, k⟩ := h
    refine ⟨_, (pss_cons (ps_set (i := 3) sc__law_liars.nd rfl (Or.inl rfl) (pe_listRg rfl rfl T.n_list (prg_1 rfl T.n_range (pv 1))))
  (pss_cons (ps_set (i := 4) sc__law_liars.nd rfl (Or.inl rfl) (pe_lst pa_nil))
  (pss_cons (ps_while PassesOwn.never (pt_cmpR op_lt (pe_callB (r := LH.rLen K) LH.call_len rfl T.n_len (by decide +kernel) (pa_cons (pv 4) pa_nil)) (pe_callB (LH.call_minI rfl) rfl T.n_min (by decide +kernel) (pa_cons (pv 2) (pa_cons (pv 1) pa_nil))) (nomark _))
    (pss_cons (ps_expr (pe_bm PySem.F.plainAttrs_list PySem.F.slot_list_append PySem.F.type_list_append mt_append (pv 4) (pa_cons (pe_bm PySem.F.plainAttrs_list PySem.F.slot_list_pop PySem.F.type_list_pop mt_popAt (pv 3) (pa_cons (pe_op op_modN (pv 0) (pe_callB (r := LH.rLen K) LH.call_len rfl T.n_len (by decide +kernel) (pa_cons (pv 3) pa_nil))) pa_nil)) pa_nil)))
    (pss_one (ps_set (i := 0) sc__law_liars.nd rfl (Or.inl rfl) (pe_op op_add (pe_op op_fdiv (pv 0) pe_int) pe_int)))))
  (pss_one (ps_ret (pv 4)))))), ?_⟩
    walk_at "rd"
    refine LH.lrv ⟨by omega, by omega, by omega, by omega⟩ fun p1 H1 f1 e1 g1 => ?_
    walk_at "rd"
    refine LH.newl (LH.small rfl) fun p2 H2 f2 e2 g2 => ?_
    walk_at "rd"
    have ne : p1 ≠ p2 := fun q => by
      rw [q] at g1
      rw [f2] at g1
      cases g1
    have n2 : H p2 = none := LH.Same.none e1 f2
    have e2' : H2 p2 = some (.lst (([] : List Int).map V.int)) := g2
    refine LH.while_m (fun n σ H' => ∃ (cell : Int) (left found : List Int), σ = [some (.int cell), some (.int c), some (.int m), some (.ref p1), some (.ref p2)] ∧ H' p1 = some (.lst (left.map V.int)) ∧ H' p2 = some (.lst (found.map V.int)) ∧ Same H H' ∧ n = left.length ∧
      (found ++ left).Nodup ∧ (∀ h ∈ found ++ left, 0 ≤ h ∧ h < c) ∧ ((found ++ left).length : Int) = c ∧ (found.length : Int) ≤ max 0 (min m c)) c.toNat ?_ ?_
    · refine ⟨x, (List.range c.toNat).map fun i : Nat => (i : Int), [], rfl, ?_, e2' , e1.trans e2, by rw [List.length_map, List.length_range], ?_, ?_, ?_, by show (0 : Int) ≤ _; omega⟩
      · have := e2 _ _ g1
        rw [this, rg0]
        omega
      · rw [List.nil_append]
        exact (List.pairwise_map).mpr (List.Pairwise.imp (fun h q => h (by omega)) List.nodup_range)
      · intro h hm
        rw [List.nil_append] at hm
        obtain ⟨i, hi, rfl⟩ := List.mem_map.mp hm
        have := List.mem_range.mp hi
        omega
      · rw [List.nil_append, List.length_map, List.length_range]
        omega
    · rintro n σ H0 ⟨cell, left, found, rfl, gl, gf, e0, rfl, nd, rg, ln, le⟩
      rw [List.length_append] at ln
      walk_at "rd"
      refine LH.x_lenL (SqL.of gf) ?_
      walk_at "rd"
      refine LH.x_minI ?_
      walk_at "rd"
      refine LH.whb (fun c0 => ?_) (fun c0 => ?_)
      · have c0 := of_decide_eq_true c0
        rw [List.length_map] at c0
        have hpos : 0 < left.length := by omega
        walk_at "rd"
        refine LH.bm_l (SqL.of gf) ?_
        walk_at "rd"
        refine LH.bm_l (SqL.of gl) ?_
        walk_at "rd"
        refine LH.x_lenL (SqL.of gl) ?_
        refine LH.x_I (by rw [List.length_map]; omega) ?_
        walk_at "rd"
        obtain ⟨j, hj, ej⟩ : ∃ j : Nat, j < left.length ∧ cell.fmod (left.map V.int).length = (j : Int) := by
          rw [List.length_map, Int.fmod_eq_emod_of_nonneg _ (by omega)]
          have h1 := Int.emod_nonneg cell (show (left.length : Int) ≠ 0 by omega)
          have h2 := Int.emod_lt_of_pos cell (show (0 : Int) < left.length by omega)
          exact ⟨(cell % (left.length : Int)).toNat, by omega, by omega⟩
        rw [ej]
        refine LH.x_popAt gl (by omega) (by omega) (k := j) (y := .int left[j]) (by rw [seqIndex_of (by omega) (by rw [List.length_map]; omega)]; simp) (by rw [List.getElem?_map, List.getElem?_eq_getElem hj]; rfl) fun H3 k3 g3 => ?_
        walk_at "rd"
        refine LH.x_app (k3 _ _ gf ne.symm) (by rw [List.length_map]; omega) fun H4 k4 g4 => ?_
        walk_at "rd"
        have pm : (found ++ [left[j]] ++ left.eraseIdx j).Perm (found ++ left) := by
          rw [List.append_assoc]
          exact List.Perm.append_left found (LH.perm_erase left j hj)
        have lj : (left.eraseIdx j).length + 1 = left.length := by
          rw [List.length_eraseIdx_of_lt hj]
          omega
        refine ⟨_, ?_, _, left.eraseIdx j, found ++ [left[j]], rfl, ?_, ?_, ?_, rfl, ?_, ?_, ?_, ?_⟩
        · omega
        · rw [k4 _ _ g3 ne, LH.map_erase]
        · rw [g4, List.map_append]
          rfl
        · exact LH.Same.set (LH.Same.set e0 f1 k3) n2 k4
        · exact pm.nodup_iff.mpr nd
        · exact fun h hm => rg h (pm.mem_iff.mp hm)
        · rw [pm.length_eq, List.length_append]
          exact ln
        · rw [List.length_append, List.length_singleton]
          omega
      · have c0 := of_decide_eq_false c0
        rw [List.length_map] at c0
        walk_at "rd"
        refine k _ _ found e0 gf (List.nodup_append.mp nd).1 (fun h hm => rg h (List.mem_append.mpr (.inl hm))) ?_
        omega
theorem at_n {α : Type} {l : List α} (n : Int) (h : (l.length : Int) = n) (hn : 0 < n) (i : Int) : ∃ x ∈ l, atI l (i % n) = some x := by
  have h1 : (0 : Int) ≤ i % n := Int.emod_nonneg i (by omega)
  have h2 : i % n < n := Int.emod_lt_of_pos i hn
  obtain ⟨j, e⟩ := Int.eq_ofNat_of_zero_le h1
  rw [e] at h2 ⊢
  have hj : j < l.length := by omega
  exact ⟨l[j], List.getElem_mem hj, atI_nat (List.getElem?_eq_getElem hj)⟩
def spCount : Sp := fun vs H Q _ => ∃ f : Int, vs = [.int f] ∧ ∀ c : Int, 1 ≤ c → c ≤ 7 → ∀ H', Same H H' → Q (.int c) H'
theorem ok__law_count (T : Txt K mg a) : FnOk P w K mg base CX0 1 a._law_count a.d__law_count ["_law_cell"] spCount := by
  refine T.F__law_count.ok sc__law_count (fun vs H Q E h => ?_) (fun cdv A outer s H vs Q E hr h => ?_)
  · obtain ⟨f, rfl, _⟩ := h
    rfl
  · obtain ⟨f, rfl, k⟩ := h
    refine ⟨_, (pss_one (ps_ret (pe_ix (r := rIxL K) ix_list (pe_lst (pa_cons pe_int (pa_cons pe_int (pa_cons pe_int (pa_cons pe_int (pa_cons (pe_op op_add pe_int (pe_op op_mod (pe_op op_fdiv (pv 0) pe_int) pe_int)) pa_nil)))))) (pe_op op_mod (pv 0) pe_int) (fun _ _ => rfl)))), ?_⟩
    walk_at "rd"
    refine LH.newl (LH.small rfl) fun p1 H1 f1 e1 g1 => ?_
    walk_at "rd"
    obtain ⟨v, hv, ev⟩ := at_n (l := [V.int 4, .int 4, .int 5, .int 7, .int (1 + f / 5 % 7)]) 5 rfl (by decide) f
    refine LH.x_ixL (v := v) (SqL.of g1) ev ?_
    simp only [List.mem_cons, List.not_mem_nil, or_false] at hv
    rcases hv with rfl | rfl | rfl | rfl | rfl
    · exact k 4 (by decide) (by decide) _ e1
    · exact k 4 (by decide) (by decide) _ e1
    · exact k 5 (by decide) (by decide) _ e1
    · exact k 7 (by decide) (by decide) _ e1
    · exact k _ (by omega) (by omega) _ e1
end
end KB
namespace KB
open PySem L2 LM HM TN
local macro_rules | `(tactic| walk_at "rd1") => `(tactic| first
  | with_reducible refine LH.x_seq ?_
  | with_reducible refine LH.x_asg ?_
  | with_reducible refine LH.x_cons ?_
  | with_reducible refine LH.x_var (by with_unfolding_all exact rfl) ?_
  | with_reducible refine LH.x_c ?_
  | with_reducible refine LH.x_op ?_
  | with_reducible refine LH.x_gname ?_
  | with_reducible refine LH.x_nil ?_
  | with_reducible refine LH.x_I0 ?_
  | ((with_reducible refine LH.x_I ?k1 ?_); (case k1 => first | exact (by decide) | exact ⟨by decide, by decide⟩ | exact ⟨by decide, by decide, by decide⟩ | exact .inl ⟨by decide, by decide⟩ | exact .inr ⟨by decide, by decide⟩ | exact .inr ⟨by omega, by omega⟩ | exact .inl ⟨by omega, by omega⟩ | exact (by omega)))
  | with_reducible refine LH.x_ifS ?_
  | with_reducible refine LH.x_test ?_
  | with_reducible refine LH.x_tB ?_
  | with_reducible refine LH.bx ?_
  | with_reducible refine LH.x_and ?_
  | with_reducible refine LH.x_or ?_
  | with_reducible refine LH.x_not ?_
  | with_reducible refine LH.x_ret ?_
  | with_reducible refine LH.x_call ?_
  | with_reducible refine LH.x_cb ?_
  | with_reducible refine LH.x_lst ?_
  | with_reducible refine LH.x_tup ?_
  | with_reducible refine LH.x_bm ?_
  | with_reducible refine LH.x_drop ?_
  | with_reducible refine LH.x_next ?_
  | with_reducible refine LH.x_cont ?_
  | with_reducible refine LH.x_un ?_
  | with_reducible refine LH.x_U ?_
  | with_reducible refine LH.x_eq (by with_unfolding_all exact rfl) ?_
  | with_reducible refine LH.x_ne (by with_unfolding_all exact rfl) ?_
  | with_reducible refine LH.x_andV ?_
  | with_reducible refine LH.x_orV ?_
  | with_reducible refine LH.x_notV ?_
  | with_reducible refine LH.band ?_
  | with_reducible refine LH.bor ?_
  | with_reducible refine LH.x_if ?_
  | with_reducible refine LH.x_chain ?_
  | with_reducible refine LH.chk ?_
  | with_reducible refine LH.x_callS ?_
  | with_reducible refine LH.x_callE ?_
  | with_reducible refine LH.x_callV ?_
  | with_reducible refine LH.x_lrg ?_
  | with_reducible refine LH.x_lcS ?_
  | with_reducible refine LH.x_lcR1 ?_
  | with_reducible refine LH.x_forR1 ?_
  | with_reducible refine LH.x_forR3 ?_
  | with_reducible refine LH.strv ?_
  | with_reducible refine LH.x_yes ?_
  | with_reducible refine LH.x_sl ?_
  | with_reducible refine LH.x_noPart ?_
  | with_reducible refine LH.x_part ?_
  | with_reducible refine LH.pav ?_
  | with_reducible refine LH.x_jnv ?_
  | with_reducible refine LH.x_join ?_
  | with_reducible refine LH.x_inS ?_
  | with_reducible refine LH.x_niS ?_
  | with_reducible refine LH.x_isB ?_
  | with_reducible refine LH.x_isnB ?_
  | with_reducible refine LH.x_gcons ?_
  | with_reducible refine LH.x_gnil ?_
  | with_reducible refine LH.x_intB ?_
  | with_reducible refine LH.x_orT ?_
  | with_reducible refine LH.x_isTy ?_
  | with_reducible refine LH.x_niTy ?_
  | with_reducible refine LH.x_split ?_
  | with_reducible refine LH.x_spv ?_
  | with_reducible refine LH.x_gsub ?_
  | with_reducible refine LH.x_fmt ?_
  | with_reducible refine LH.x_js0 ?_
  | with_reducible refine LH.x_js ?_
  | with_reducible refine LH.x_rg1 ?_
  | with_reducible refine LH.x_forL ?_
  | with_reducible refine LH.x_abs ?_
  | with_reducible refine LH.x_rg2 ?_
  | with_reducible refine LH.rg1v ?_
  | with_reducible refine LH.rg2v ?_
  | with_reducible refine LH.x_forR2 ?_
  | with_reducible refine LH.x_lenSetG ?_
  | with_reducible refine LH.x_lc ?_
  | with_reducible refine LH.x_fld ?_
  | with_reducible refine LH.x_sfld ?_
  | with_reducible refine LH.x_afld ?_
  | with_reducible refine LH.x_meth ?_
  | with_reducible refine LH.x_make ?_
  | with_reducible refine LH.x_methSl ?_
  | with_reducible refine LH.x_makeSl ?_
  | with_reducible refine LH.x_din ?_
  | with_reducible refine LH.x_dni ?_
  | with_reducible refine LH.x_dget ?_
  | with_reducible refine LH.x_dput ?_
  | with_reducible refine LH.x_dget2 ?_
  | with_reducible refine LH.x_dpop1 ?_
  | with_reducible refine LH.x_litems ?_
  | with_reducible refine LH.x_tru ?_
  | with_reducible refine LH.x_revL ?_
  | with_reducible refine LH.x_stepL ?_
  | with_reducible refine LH.x_forE ?_
  | with_reducible refine LH.x_dsetT ?_
  | with_reducible refine LH.x_lvals ?_
  | with_reducible refine LH.br_nt ?_
  | with_reducible refine LH.br_nf ?_
  | with_reducible refine LH.br_t ?_
  | with_reducible refine LH.br_f ?_)
local macro_rules | `(tactic| walk_at "rd") => `(tactic| repeat (walk_at "rd1"))
local macro_rules | `(tactic| walk_at "rs1") => `(tactic| first
  | with_reducible refine LH.x_seq ?_
  | with_reducible refine LH.x_cons ?_
  | with_reducible refine LH.x_var (by with_unfolding_all exact rfl) ?_
  | with_reducible refine LH.x_c ?_
  | with_reducible refine LH.x_op ?_
  | with_reducible refine LH.x_gname ?_
  | with_reducible refine LH.x_nil ?_
  | with_reducible refine LH.x_I0 ?_
  | ((with_reducible refine LH.x_I ?k1 ?_); (case k1 => first | exact (by decide) | exact ⟨by decide, by decide⟩ | exact ⟨by decide, by decide, by decide⟩ | exact .inl ⟨by decide, by decide⟩ | exact .inr ⟨by decide, by decide⟩ | exact .inr ⟨by omega, by omega⟩ | exact .inl ⟨by omega, by omega⟩ | exact (by omega)))
  | with_reducible refine LH.x_test ?_
  | with_reducible refine LH.x_tB ?_
  | with_reducible refine LH.bx ?_
  | with_reducible refine LH.x_and ?_
  | with_reducible refine LH.x_or ?_
  | with_reducible refine LH.x_not ?_
  | with_reducible refine LH.x_call ?_
  | with_reducible refine LH.x_cb ?_
  | with_reducible refine LH.x_lst ?_
  | with_reducible refine LH.x_tup ?_
  | with_reducible refine LH.x_bm ?_
  | with_reducible refine LH.x_next ?_
  | with_reducible refine LH.x_cont ?_
  | with_reducible refine LH.x_un ?_
  | with_reducible refine LH.x_U ?_
  | with_reducible refine LH.x_eq (by with_unfolding_all exact rfl) ?_
  | with_reducible refine LH.x_ne (by with_unfolding_all exact rfl) ?_
  | with_reducible refine LH.x_andV ?_
  | with_reducible refine LH.x_orV ?_
  | with_reducible refine LH.x_notV ?_
  | with_reducible refine LH.band ?_
  | with_reducible refine LH.bor ?_
  | with_reducible refine LH.x_if ?_
  | with_reducible refine LH.x_chain ?_
  | with_reducible refine LH.chk ?_
  | with_reducible refine LH.x_callS ?_
  | with_reducible refine LH.x_callE ?_
  | with_reducible refine LH.x_callV ?_
  | with_reducible refine LH.x_lrg ?_
  | with_reducible refine LH.x_lcS ?_
  | with_reducible refine LH.x_lcR1 ?_
  | with_reducible refine LH.strv ?_
  | with_reducible refine LH.x_yes ?_
  | with_reducible refine LH.x_sl ?_
  | with_reducible refine LH.x_noPart ?_
  | with_reducible refine LH.x_part ?_
  | with_reducible refine LH.pav ?_
  | with_reducible refine LH.x_jnv ?_
  | with_reducible refine LH.x_join ?_
  | with_reducible refine LH.x_inS ?_
  | with_reducible refine LH.x_niS ?_
  | with_reducible refine LH.x_isB ?_
  | with_reducible refine LH.x_isnB ?_
  | with_reducible refine LH.x_gcons ?_
  | with_reducible refine LH.x_gnil ?_
  | with_reducible refine LH.x_intB ?_
  | with_reducible refine LH.x_orT ?_
  | with_reducible refine LH.x_isTy ?_
  | with_reducible refine LH.x_niTy ?_
  | with_reducible refine LH.x_split ?_
  | with_reducible refine LH.x_spv ?_
  | with_reducible refine LH.x_gsub ?_
  | with_reducible refine LH.x_fmt ?_
  | with_reducible refine LH.x_js0 ?_
  | with_reducible refine LH.x_js ?_
  | with_reducible refine LH.x_rg1 ?_
  | with_reducible refine LH.x_abs ?_
  | with_reducible refine LH.x_rg2 ?_
  | with_reducible refine LH.rg1v ?_
  | with_reducible refine LH.rg2v ?_
  | with_reducible refine LH.x_lenSetG ?_
  | with_reducible refine LH.x_lc ?_
  | with_reducible refine LH.x_fld ?_
  | with_reducible refine LH.x_sfld ?_
  | with_reducible refine LH.x_afld ?_
  | with_reducible refine LH.x_meth ?_
  | with_reducible refine LH.x_make ?_
  | with_reducible refine LH.x_methSl ?_
  | with_reducible refine LH.x_makeSl ?_
  | with_reducible refine LH.x_din ?_
  | with_reducible refine LH.x_dni ?_
  | with_reducible refine LH.x_dget ?_
  | with_reducible refine LH.x_dput ?_
  | with_reducible refine LH.x_dget2 ?_
  | with_reducible refine LH.x_dpop1 ?_
  | with_reducible refine LH.x_litems ?_
  | with_reducible refine LH.x_tru ?_
  | with_reducible refine LH.x_revL ?_
  | with_reducible refine LH.x_stepL ?_
  | with_reducible refine LH.x_dsetT ?_
  | with_reducible refine LH.x_lvals ?_
  | with_reducible refine LH.br_nt ?_
  | with_reducible refine LH.br_nf ?_
  | with_reducible refine LH.br_t ?_
  | with_reducible refine LH.br_f ?_)
local macro_rules | `(tactic| walk_at "rs") => `(tactic| repeat (walk_at "rs1"))

section
variable {P : Program} {w : World} {K : PySem.W.Frag} {mg : Str → Option Value} {base : Heap} {a : Ad}
theorem any_dat (l : List Wrd) (u : Wrd) : ((l.map Wrd.dat).any fun z => PyData.eqv z u.dat) = decide (u ∈ l) := by
  induction l with
  | nil => rfl
  | cons w l ih =>
    rw [List.map_cons, List.any_cons, ih, dat_eqv]
    by_cases c : w = u
    · simp [c]
    · have : ¬ u = w := fun q => c q.symm
      simp [c, this]
theorem lay_words {l : List Wrd} (h : ∀ w ∈ l, w.Ok) : Lay 3 (.list (l.map Wrd.dat)) := lay_list fun d hd => by
  obtain ⟨w, hw, rfl⟩ := List.mem_map.mp hd
  exact Wrd.lay (h w hw)
theorem words_dp {K : PySem.W.Frag} {F H : Hp} (s : Same F H) : ∀ {xs : List V} {ws : List Wrd}, Paired (fun x w => WT F x w) xs ws → DpAll K H xs (ws.map Wrd.dat)
  | _, _, .nil => .nil
  | _, _, .cons q r => .cons (q.up s).dp (words_dp s r)
theorem val_word {c : Int} {w : Wrd} (v : Val c w) : isWordL c w.vs = true := by
  obtain ⟨k, n0, n1, r, h0, h1⟩ := v
  show (isW (.int w.n) 0 9999 && (isW (.int w.h) 0 (c - 1) && (isRow (.str w.r) && isKind c (.str w.k) w.n w.h))) = true
  rw [isW_yes n0 n1, isW_yes h0 (by omega), show isRow (.str w.r) = true from r]
  show (if w.k = "say" then decide (w.h = w.n % c) else decide (w.k = "mark")) = true
  by_cases e : w.k = "say"
  · rw [if_pos e]
    rcases k with ⟨_, k⟩ | k
    · exact decide_eq_true k
    · rw [k] at e
      exact absurd e (by decide)
  · rw [if_neg e]
    exact decide_eq_true (k.resolve_left fun q => e q.1)
theorem val_fit {c : Int} {w : Wrd} (v : Val c w) : FitW c w := by
  refine ⟨⟨?_, row_ok v.r⟩, v.h0, v.h1⟩
  rcases v.k with k | k
  · rw [k.1]; exact ok_sayW
  · rw [k]; exact ok_markW
theorem val_wd {K : PySem.W.Frag} {H : Hp} {c : Int} {t : Addr} {w : Wrd} (v : Val c w) (h : H t = some (.tup w.vs)) : Wd K H c (.ref t) true := by
  have f := val_fit v
  refine .inl ⟨t, w.vs, rfl, SqT.of h, by show 4 ≤ 100000; decide, fun y hy => ?_, (val_word v).symm⟩
  have hy : y ∈ [V.str w.k, .int w.n, .str w.r, .int w.h] := hy
  simp only [List.mem_cons, List.not_mem_nil, or_false] at hy
  rcases hy with rfl | rfl | rfl | rfl
  · exact ⟨fun z e => by injection e with e; rw [← e]; exact f.1.1, _, .str _⟩
  · exact ⟨(fun z e => nomatch e), _, .int _⟩
  · exact ⟨fun z e => by injection e with e; rw [← e]; exact f.1.2, _, .str _⟩
  · exact ⟨(fun z e => nomatch e), _, .int _⟩
section
variable {CT CH CP BH BW FG NL BR : Addr} {M : List Addr} {H : Hp} {ta : TAd} {h : Int → HA} {ts : TSt} {Q : VK} {E : XK}
/-- a lie that is let by -/
theorem sp_lie {s r : Int} {t : Addr} {w : Wrd} (S : TownAt CT CH CP M H ta h ts) (few : Few ts 19000) (s0 : 0 ≤ s) (s1 : s < ts.c) (sn : s ∉ ts.hn) (r0 : 0 ≤ r) (r1 : r < ts.c) (rs : r ≠ s) (v : Val ts.c w) (hw : LH.Fr M H t = some (.tup w.vs)) (o : w.h = s ∨ w ∈ ts.sp)
    (k : ∀ H', TNxt CT CH CP M H ta h ts (ts.lie s r w) H' [] h → Q (.int ts.n) H') : spTLie K CT CH CP BH BW FG [.ref ta.p, .int s, .int r, .ref t] H Q E := by
  have li : Liar ts (.int s) s := ⟨rfl, s0, s1, sn⟩
  have ot : Other ts s (.int r) r := ⟨rfl, r0, r1, rs⟩
  have es : ∀ i, Liar ts (.int s) i → i = s := fun i q => by have := q.1; injection this with this; exact this.symm
  have er : ∀ i j, Other ts i (.int r) j → j = r := fun i j q => by have := q.1; injection this with this; exact this.symm
  refine ⟨ta, h, ts, M, .int s, .int r, .ref t, _, _, true, rfl, S, .int _, .int _, val_wd v (LH.fr_le _ _ hw), ⟨fun x hx => by have := few.h x hx; omega, by have := few.l; omega, by have := few.s; omega⟩, fun n => absurd li (n s), fun i q n => ?_, (fun _ _ _ _ q => nomatch q), fun i j q1 q2 _ => ?_⟩
  · obtain rfl := es i q
    exact absurd ot (n r)
  · obtain rfl := es i q1
    obtain rfl := er i j q2
    exact ⟨w, ⟨t, rfl, hw⟩, val_fit v, fun q => absurd o (fun c => c.elim q.1 q.2), fun _ H' tn => k H' tn⟩
/-- a letter that waits is brought -/
theorem sp_bring {i : Int} {l : Ltr} (S : TownAt CT CH CP M H ta h ts) (few : Few ts 19000) (hl : l ∈ ts.lt) (ei : l.n = i)
    (k : ∀ H' N h' r xs, TNxt CT CH CP M H ta h ts (ts.bring l) H' N h' → H r = none → H' r = some (.lst xs) → Q (.ref r) H') : spTBring K CT CH CP NL [.ref ta.p, .int i] H Q E := by
  refine ⟨ta, h, ts, M, .int i, _, rfl, S, .int _, ⟨fun x hx => by have := few.h x hx; omega, by have := few.l; omega, by have := few.s; omega⟩, fun none_ => absurd (show V.int i = .int l.n by rw [ei]) (none_ l hl), fun l' hl' e' H' N h' r xs tn f _ gr _ => ?_⟩
  obtain rfl : l' = l := lt_one S.go.ln hl' hl (by injection e' with e'; rw [← e', ei])
  exact k H' N h' r xs tn f gr
where
  lt_one : ∀ {lt : List Ltr} {a b : Ltr}, (lt.map (·.n)).Nodup → a ∈ lt → b ∈ lt → a.n = b.n → a = b
  | [], _, _, _, h, _, _ => nomatch h
  | x :: lt, a, b, nd, ha, hb, e => by
    rw [List.map_cons, List.nodup_cons] at nd
    rcases List.mem_cons.mp ha with ea | ha
    · rcases List.mem_cons.mp hb with eb | hb
      · rw [ea, eb]
      · rw [ea] at e
        exact absurd (List.mem_map.mpr ⟨b, hb, e.symm⟩) nd.1
    · rcases List.mem_cons.mp hb with eb | hb
      · rw [eb] at e
        exact absurd (List.mem_map.mpr ⟨a, ha, e⟩) nd.1
      · exact lt_one nd.2 ha hb e
/-- a row called by an honest house -/
theorem sp_call {x : Int} {z : Str} (S : TownAt CT CH CP M H ta h ts) (few : Few ts 19000) (hx : x ∈ ts.hn) (hz : isRowS z = true)
    (k : ∀ H' N h' r xs, TNxt CT CH CP M H ta h ts (ts.call x z) H' N h' → H r = none → H' r = some (.lst xs) → Q (.ref r) H') : spTCall K CT CH CP BH BR [.ref ta.p, .int x, .str z] H Q E := by
  have hon : Hon ts (.int x) x := ⟨rfl, hx⟩
  refine ⟨ta, h, ts, M, .int x, .str z, _, _, rfl, S, .int _, .str _, fun y e => by injection e with e; rw [← e]; exact row_ok hz, ⟨fun x hx => by have := few.h x hx; omega, by have := few.l; omega, by have := few.s; omega⟩, fun n => absurd hon (n x), fun _ _ q => absurd (show isRowS z = true from hz) (by rw [show isRowS z = false from q]; decide), fun x' z' hi ez _ H' N h' r xs tn f _ gr _ => ?_⟩
  obtain rfl : x' = x := by have := hi.1; injection this with this; exact this.symm
  injection ez with ez
  subst ez
  exact k H' N h' r xs tn f gr
end
theorem fewF {Ns : List Int} {L : Nat} {ts : TSt} (g : GT ts) (f : Fine Ns L ts) (hN : Ns.length ≤ 20) (hL : L ≤ 1200) : Few ts 19000 := by
  obtain ⟨_, _, h3, h4, h5⟩ := f.few g hN hL
  exact ⟨fun i hi => by have := (h5 i hi).1; omega, by omega, by omega⟩
end
end KB
namespace KB
open PySem L2 LM HM TN
local macro_rules | `(tactic| walk_at "rd1") => `(tactic| first
  | with_reducible refine LH.x_seq ?_
  | with_reducible refine LH.x_asg ?_
  | with_reducible refine LH.x_cons ?_
  | with_reducible refine LH.x_var (by with_unfolding_all exact rfl) ?_
  | with_reducible refine LH.x_c ?_
  | with_reducible refine LH.x_op ?_
  | with_reducible refine LH.x_gname ?_
  | with_reducible refine LH.x_nil ?_
  | with_reducible refine LH.x_I0 ?_
  | ((with_reducible refine LH.x_I ?k1 ?_); (case k1 => first | exact (by decide) | exact ⟨by decide, by decide⟩ | exact ⟨by decide, by decide, by decide⟩ | exact .inl ⟨by decide, by decide⟩ | exact .inr ⟨by decide, by decide⟩ | exact .inr ⟨by omega, by omega⟩ | exact .inl ⟨by omega, by omega⟩ | exact (by omega)))
  | with_reducible refine LH.x_ifS ?_
  | with_reducible refine LH.x_test ?_
  | with_reducible refine LH.x_tB ?_
  | with_reducible refine LH.bx ?_
  | with_reducible refine LH.x_and ?_
  | with_reducible refine LH.x_or ?_
  | with_reducible refine LH.x_not ?_
  | with_reducible refine LH.x_ret ?_
  | with_reducible refine LH.x_call ?_
  | with_reducible refine LH.x_cb ?_
  | with_reducible refine LH.x_lst ?_
  | with_reducible refine LH.x_tup ?_
  | with_reducible refine LH.x_bm ?_
  | with_reducible refine LH.x_drop ?_
  | with_reducible refine LH.x_next ?_
  | with_reducible refine LH.x_cont ?_
  | with_reducible refine LH.x_un ?_
  | with_reducible refine LH.x_U ?_
  | with_reducible refine LH.x_eq (by with_unfolding_all exact rfl) ?_
  | with_reducible refine LH.x_ne (by with_unfolding_all exact rfl) ?_
  | with_reducible refine LH.x_andV ?_
  | with_reducible refine LH.x_orV ?_
  | with_reducible refine LH.x_notV ?_
  | with_reducible refine LH.band ?_
  | with_reducible refine LH.bor ?_
  | with_reducible refine LH.x_if ?_
  | with_reducible refine LH.x_chain ?_
  | with_reducible refine LH.chk ?_
  | with_reducible refine LH.x_callS ?_
  | with_reducible refine LH.x_callE ?_
  | with_reducible refine LH.x_callV ?_
  | with_reducible refine LH.x_lrg ?_
  | with_reducible refine LH.x_lcS ?_
  | with_reducible refine LH.x_lcR1 ?_
  | with_reducible refine LH.x_forR1 ?_
  | with_reducible refine LH.x_forR3 ?_
  | with_reducible refine LH.strv ?_
  | with_reducible refine LH.x_yes ?_
  | with_reducible refine LH.x_sl ?_
  | with_reducible refine LH.x_noPart ?_
  | with_reducible refine LH.x_part ?_
  | with_reducible refine LH.pav ?_
  | with_reducible refine LH.x_jnv ?_
  | with_reducible refine LH.x_join ?_
  | with_reducible refine LH.x_inS ?_
  | with_reducible refine LH.x_niS ?_
  | with_reducible refine LH.x_isB ?_
  | with_reducible refine LH.x_isnB ?_
  | with_reducible refine LH.x_gcons ?_
  | with_reducible refine LH.x_gnil ?_
  | with_reducible refine LH.x_intB ?_
  | with_reducible refine LH.x_orT ?_
  | with_reducible refine LH.x_isTy ?_
  | with_reducible refine LH.x_niTy ?_
  | with_reducible refine LH.x_split ?_
  | with_reducible refine LH.x_spv ?_
  | with_reducible refine LH.x_gsub ?_
  | with_reducible refine LH.x_fmt ?_
  | with_reducible refine LH.x_js0 ?_
  | with_reducible refine LH.x_js ?_
  | with_reducible refine LH.x_rg1 ?_
  | with_reducible refine LH.x_forL ?_
  | with_reducible refine LH.x_abs ?_
  | with_reducible refine LH.x_rg2 ?_
  | with_reducible refine LH.rg1v ?_
  | with_reducible refine LH.rg2v ?_
  | with_reducible refine LH.x_forR2 ?_
  | with_reducible refine LH.x_lenSetG ?_
  | with_reducible refine LH.x_lc ?_
  | with_reducible refine LH.x_fld ?_
  | with_reducible refine LH.x_sfld ?_
  | with_reducible refine LH.x_afld ?_
  | with_reducible refine LH.x_meth ?_
  | with_reducible refine LH.x_make ?_
  | with_reducible refine LH.x_methSl ?_
  | with_reducible refine LH.x_makeSl ?_
  | with_reducible refine LH.x_din ?_
  | with_reducible refine LH.x_dni ?_
  | with_reducible refine LH.x_dget ?_
  | with_reducible refine LH.x_dput ?_
  | with_reducible refine LH.x_dget2 ?_
  | with_reducible refine LH.x_dpop1 ?_
  | with_reducible refine LH.x_litems ?_
  | with_reducible refine LH.x_tru ?_
  | with_reducible refine LH.x_revL ?_
  | with_reducible refine LH.x_stepL ?_
  | with_reducible refine LH.x_forE ?_
  | with_reducible refine LH.x_dsetT ?_
  | with_reducible refine LH.x_lvals ?_
  | with_reducible refine LH.br_nt ?_
  | with_reducible refine LH.br_nf ?_
  | with_reducible refine LH.br_t ?_
  | with_reducible refine LH.br_f ?_)
local macro_rules | `(tactic| walk_at "rd") => `(tactic| repeat (walk_at "rd1"))
local macro_rules | `(tactic| walk_at "rs1") => `(tactic| first
  | with_reducible refine LH.x_seq ?_
  | with_reducible refine LH.x_cons ?_
  | with_reducible refine LH.x_var (by with_unfolding_all exact rfl) ?_
  | with_reducible refine LH.x_c ?_
  | with_reducible refine LH.x_op ?_
  | with_reducible refine LH.x_gname ?_
  | with_reducible refine LH.x_nil ?_
  | with_reducible refine LH.x_I0 ?_
  | ((with_reducible refine LH.x_I ?k1 ?_); (case k1 => first | exact (by decide) | exact ⟨by decide, by decide⟩ | exact ⟨by decide, by decide, by decide⟩ | exact .inl ⟨by decide, by decide⟩ | exact .inr ⟨by decide, by decide⟩ | exact .inr ⟨by omega, by omega⟩ | exact .inl ⟨by omega, by omega⟩ | exact (by omega)))
  | with_reducible refine LH.x_test ?_
  | with_reducible refine LH.x_tB ?_
  | with_reducible refine LH.bx ?_
  | with_reducible refine LH.x_and ?_
  | with_reducible refine LH.x_or ?_
  | with_reducible refine LH.x_not ?_
  | with_reducible refine LH.x_call ?_
  | with_reducible refine LH.x_cb ?_
  | with_reducible refine LH.x_lst ?_
  | with_reducible refine LH.x_tup ?_
  | with_reducible refine LH.x_bm ?_
  | with_reducible refine LH.x_next ?_
  | with_reducible refine LH.x_cont ?_
  | with_reducible refine LH.x_un ?_
  | with_reducible refine LH.x_U ?_
  | with_reducible refine LH.x_eq (by with_unfolding_all exact rfl) ?_
  | with_reducible refine LH.x_ne (by with_unfolding_all exact rfl) ?_
  | with_reducible refine LH.x_andV ?_
  | with_reducible refine LH.x_orV ?_
  | with_reducible refine LH.x_notV ?_
  | with_reducible refine LH.band ?_
  | with_reducible refine LH.bor ?_
  | with_reducible refine LH.x_if ?_
  | with_reducible refine LH.x_chain ?_
  | with_reducible refine LH.chk ?_
  | with_reducible refine LH.x_callS ?_
  | with_reducible refine LH.x_callE ?_
  | with_reducible refine LH.x_callV ?_
  | with_reducible refine LH.x_lrg ?_
  | with_reducible refine LH.x_lcS ?_
  | with_reducible refine LH.x_lcR1 ?_
  | with_reducible refine LH.strv ?_
  | with_reducible refine LH.x_yes ?_
  | with_reducible refine LH.x_sl ?_
  | with_reducible refine LH.x_noPart ?_
  | with_reducible refine LH.x_part ?_
  | with_reducible refine LH.pav ?_
  | with_reducible refine LH.x_jnv ?_
  | with_reducible refine LH.x_join ?_
  | with_reducible refine LH.x_inS ?_
  | with_reducible refine LH.x_niS ?_
  | with_reducible refine LH.x_isB ?_
  | with_reducible refine LH.x_isnB ?_
  | with_reducible refine LH.x_gcons ?_
  | with_reducible refine LH.x_gnil ?_
  | with_reducible refine LH.x_intB ?_
  | with_reducible refine LH.x_orT ?_
  | with_reducible refine LH.x_isTy ?_
  | with_reducible refine LH.x_niTy ?_
  | with_reducible refine LH.x_split ?_
  | with_reducible refine LH.x_spv ?_
  | with_reducible refine LH.x_gsub ?_
  | with_reducible refine LH.x_fmt ?_
  | with_reducible refine LH.x_js0 ?_
  | with_reducible refine LH.x_js ?_
  | with_reducible refine LH.x_rg1 ?_
  | with_reducible refine LH.x_abs ?_
  | with_reducible refine LH.x_rg2 ?_
  | with_reducible refine LH.rg1v ?_
  | with_reducible refine LH.rg2v ?_
  | with_reducible refine LH.x_lenSetG ?_
  | with_reducible refine LH.x_lc ?_
  | with_reducible refine LH.x_fld ?_
  | with_reducible refine LH.x_sfld ?_
  | with_reducible refine LH.x_afld ?_
  | with_reducible refine LH.x_meth ?_
  | with_reducible refine LH.x_make ?_
  | with_reducible refine LH.x_methSl ?_
  | with_reducible refine LH.x_makeSl ?_
  | with_reducible refine LH.x_din ?_
  | with_reducible refine LH.x_dni ?_
  | with_reducible refine LH.x_dget ?_
  | with_reducible refine LH.x_dput ?_
  | with_reducible refine LH.x_dget2 ?_
  | with_reducible refine LH.x_dpop1 ?_
  | with_reducible refine LH.x_litems ?_
  | with_reducible refine LH.x_tru ?_
  | with_reducible refine LH.x_revL ?_
  | with_reducible refine LH.x_stepL ?_
  | with_reducible refine LH.x_dsetT ?_
  | with_reducible refine LH.x_lvals ?_
  | with_reducible refine LH.br_nt ?_
  | with_reducible refine LH.br_nf ?_
  | with_reducible refine LH.br_t ?_
  | with_reducible refine LH.br_f ?_)
local macro_rules | `(tactic| walk_at "rs") => `(tactic| repeat (walk_at "rs1"))

section
variable {P : Program} {w : World} {K : PySem.W.Frag} {mg : Str → Option Value} {base : Heap} {a : Ad}
/-- letters that wait, by their numbers -/
def Wt (ds : List Int) (ts : TSt) : Prop := ds.Nodup ∧ ∀ d ∈ ds, ∃ l ∈ ts.lt, l.n = d
theorem Wt.lie {ds : List Int} {ts : TSt} (g : GT ts) (w : Wt ds ts) {s r : Int} {u : Wrd} : Wt (ds ++ [ts.n]) (ts.lie s r u) := by
  refine ⟨List.nodup_append.mpr ⟨w.1, by simp, fun a ha b hb e => ?_⟩, fun d hd => ?_⟩
  · obtain ⟨l, hl, rfl⟩ := w.2 a ha
    have := (g.lb l hl).2
    have : b = ts.n := by simpa using hb
    omega
  · rcases List.mem_append.mp hd with hd | hd
    · obtain ⟨l, hl, e⟩ := w.2 d hd
      exact ⟨l, List.mem_append.mpr (.inl hl), e⟩
    · exact ⟨⟨ts.n, s, r, u⟩, List.mem_append.mpr (.inr (List.mem_singleton.mpr rfl)), by rw [List.mem_singleton.mp hd]⟩
theorem Wt.bring {d : Int} {ds : List Int} {ts : TSt} {l : Ltr} (w : Wt (d :: ds) ts) (e : l.n = d) : Wt ds (ts.bring l) := by
  obtain ⟨h1, h2⟩ := w
  rw [List.nodup_cons] at h1
  refine ⟨h1.2, fun c hc => ?_⟩
  obtain ⟨m, hm, em⟩ := h2 c (List.mem_cons_of_mem _ hc)
  exact ⟨m, bring_keep hm (fun q => h1.1 (by rw [← e, ← q, em]; exact hc)), em⟩
theorem at_mod {l : List V} {n : Nat} (hn : l.length = n) (hp : 0 < n) (i : Int) : ∃ (j : Nat) (v : V), l[j]? = some v ∧ atI l (i.fmod (n : Int)) = some v := by
  rw [Int.fmod_eq_emod_of_nonneg _ (by omega)]
  have h1 := Int.emod_nonneg i (show (n : Int) ≠ 0 by omega)
  have h2 := Int.emod_lt_of_pos i (show (0 : Int) < (n : Int) by omega)
  obtain ⟨j, e⟩ := Int.eq_ofNat_of_zero_le h1
  rw [e] at h2 ⊢
  have hj : j < l.length := by omega
  exact ⟨j, l[j], List.getElem?_eq_getElem hj, atI_nat (List.getElem?_eq_getElem hj)⟩
theorem pow_at (i : Nat) (h : i < 12) : ∃ d : Int, (0 < d ∧ d ≤ 2048) ∧ ([V.int 1, .int 2, .int 4, .int 8, .int 16, .int 32, .int 64, .int 128, .int 256, .int 512, .int 1024, .int 2048])[i]? = some (.int d) := by
  match i, h with
  | 0, _ => exact ⟨1, ⟨by decide, by decide⟩, rfl⟩
  | 1, _ => exact ⟨2, ⟨by decide, by decide⟩, rfl⟩
  | 2, _ => exact ⟨4, ⟨by decide, by decide⟩, rfl⟩
  | 3, _ => exact ⟨8, ⟨by decide, by decide⟩, rfl⟩
  | 4, _ => exact ⟨16, ⟨by decide, by decide⟩, rfl⟩
  | 5, _ => exact ⟨32, ⟨by decide, by decide⟩, rfl⟩
  | 6, _ => exact ⟨64, ⟨by decide, by decide⟩, rfl⟩
  | 7, _ => exact ⟨128, ⟨by decide, by decide⟩, rfl⟩
  | 8, _ => exact ⟨256, ⟨by decide, by decide⟩, rfl⟩
  | 9, _ => exact ⟨512, ⟨by decide, by decide⟩, rfl⟩
  | 10, _ => exact ⟨1024, ⟨by decide, by decide⟩, rfl⟩
  | 11, _ => exact ⟨2048, ⟨by decide, by decide⟩, rfl⟩
def spSplit (CT CH CP : Addr) : Sp := fun vs H Q _ => ∃ (ta : TAd) (h : Int → HA) (ts : TSt) (M : List Addr) (cell : Int) (la ra : Addr) (ln : List Int) (z0 z1 : Str) (Ns : List Int) (L : Nat), vs = [.ref ta.p, .int ts.c, .ref la, .int cell, .ref ra] ∧ TownAt CT CH CP M H ta h ts ∧ Fine Ns L ts ∧ Ns.length ≤ 19 ∧ L ≤ 1100 ∧
  LH.Fr M H la = some (.lst (ln.map V.int)) ∧ LH.Fr M H ra = some (.lst [.str z0, .str z1]) ∧ isRowS z0 = true ∧ isRowS z1 = true ∧ ln ≠ [] ∧ ln.length ≤ 7 ∧ (∀ x, 0 ≤ x → x < ts.c → x ∉ ln → x ∈ ts.hn) ∧ (∀ x ∈ ln, 0 ≤ x ∧ x < ts.c ∧ x ∉ ts.hn) ∧
  ∀ H' M' h' ts' n, TownAt CT CH CP M' H' ta h' ts' → Went M H (places ta h ts.hn) M' H' (places ta h' ts'.hn) → Rch ts ts' → Fine (n :: Ns) (L + 56) ts' → Q .non H'
theorem ok__law_split (T : Txt K mg a) : FnOk P w K mg base CX0 8 a._law_split a.d__law_split ["_law_town", "_law_count_here", "_law_liars_here", "_law_cell", "_law_rows"] (spSplit a.Town a.House a.Post) := by
  have G_Town_lie := ok_Town_lie (P := P) (w := w) (base := base) T
  have G_Town_bring := ok_Town_bring (P := P) (w := w) (base := base) T
  refine T.F__law_split.ok sc__law_split (fun vs H Q E h => ?_) (fun cdv A outer s H vs Q E hr h => ?_)
  · obtain ⟨ta, h, ts, M, cell, la, ra, ln, z0, z1, Ns, L, rfl, _⟩ := h
    rfl
  · obtain ⟨ta, h, ts, M, cell, la, ra, ln, z0, z1, Ns, L, rfl, S, fine, nl, ll, gla, gra, r0, r1, lne, ln7, lh, lnb, k⟩ := h
    have go := S.go
    have c1 := go.c1
    have c7 := fine.c7
    have lpos : 0 < ln.length := List.length_pos_iff.mpr lne
    have HR_Town_bring : Room 7 _ := hr.mono (by decide)
    have HR_Town_lie : Room 4 _ := hr.mono (by decide)
    refine ⟨_, (pss_cons (ps_set (i := 5) sc__law_split.nd rfl (Or.inl rfl) (pe_ix (r := rIxL K) ix_list (pv 2) (pe_op op_modN (pv 3) (pe_callB (r := LH.rLen K) LH.call_len rfl T.n_len (by decide +kernel) (pa_cons (pv 2) pa_nil))) (fun _ _ => rfl)))
  (pss_cons (ps_set (i := 6) sc__law_split.nd rfl (Or.inr rfl) (pe_op op_add (pv 5) (pe_op op_mul (pv 1) (pe_op op_mod (pe_op op_fdiv (pv 3) pe_int) pe_int))))
  (pss_cons (ps_set (i := 7) sc__law_split.nd rfl (Or.inl rfl) (pe_lst pa_nil))
  (pss_cons (ps_for PassesOwn.never rfl (pi_enum rfl T.n_enumerate (pa_cons (pe_lc (own := [("_law_one", 10)]) (g := gName 10) rfl sc__law_split.nd (pi_range1 rfl T.n_range (pa_cons (pv 1) pa_nil)) (blkOk_by (N := N__law_split) (sc := defScope s__law_split) (by decide +kernel)) (fun _ _ _ _ _ => pg_name (i := 10) sc__law_split.nd rfl (Or.inl rfl)) (fun _ _ _ _ _ => (pts_one (pt_cmpR (r := rIn K true) op_notIn_seq (pv 10) (pv 2) (by rfl)))) (fun _ _ _ _ _ => (pv 10))) pa_nil)) (pg_tup rfl (pgs_cons (pg_name (i := 8) sc__law_split.nd rfl (Or.inl rfl)) (pgs_cons (pg_name (i := 9) sc__law_split.nd rfl (Or.inr rfl)) pgs_nil)))
    (pss_cons (ps_set (i := 11) sc__law_split.nd rfl (Or.inr rfl) (pe_ix (r := rIxL K) ix_list (pv 4) (pe_op op_mod (pe_op op_fdivN (pv 3) (pe_ix (r := rIxL K) ix_list (pe_lst (pa_cons pe_int (pa_cons pe_int (pa_cons pe_int (pa_cons pe_int (pa_cons pe_int (pa_cons pe_int (pa_cons pe_int (pa_cons pe_int (pa_cons pe_int (pa_cons pe_int (pa_cons pe_int (pa_cons pe_int pa_nil))))))))))))) (pv 8) (fun _ _ => rfl))) pe_int) (fun _ _ => rfl)))
    (pss_cons (ps_expr (pe_bm PySem.F.plainAttrs_list PySem.F.slot_list_append PySem.F.type_list_append mt_append (pv 7) (pa_cons (pe_meth (pv 0) T.cl_Town T.me_Town_lie G_Town_lie HR_Town_lie T.b_Town_lie .nil LH.passN (pa_cons (pv 5) (pa_cons (pv 9) (pa_cons (pe_tup (pa_cons pe_str (pa_cons (pv 6) (pa_cons (pv 11) (pa_cons (pv 5) pa_nil))))) pa_nil)))) pa_nil)))
    (pss_one (ps_set (i := 7) sc__law_split.nd rfl (Or.inl rfl) (pe_op (r := LH.rCatS K) LH.op_catS (pv 7) (pe_lc (own := [("_law_one", 10)]) (g := gName 10) (tt := tYes) rfl sc__law_split.nd (pi_list (pv 2)) (blkOk_by (N := N__law_split) (sc := defScope s__law_split) (by decide +kernel)) (fun _ _ _ _ _ => pg_name (i := 10) sc__law_split.nd rfl (Or.inl rfl)) (fun _ _ _ _ _ => pts_nil) (fun _ _ _ _ _ => (pe_meth (pv 0) T.cl_Town T.me_Town_lie G_Town_lie HR_Town_lie T.b_Town_lie .nil LH.passN (pa_cons (pv 10) (pa_cons (pv 9) (pa_cons (pe_tup (pa_cons pe_str (pa_cons (pv 6) (pa_cons (pv 11) (pa_cons (pv 10) pa_nil))))) pa_nil))))))))))))
  (pss_one (ps_if (pt_cmpR op_gt (pe_op op_mod (pe_op op_fdiv (pv 3) pe_int) pe_int) pe_int (nomark _))
    (pss_one (ps_for PassesOwn.never rfl (pi_list (pe_stepL (pv 7) (pe_op op_sub pe_int (pe_op op_mul pe_int (pe_op op_mod (pe_op op_fdiv (pv 3) pe_int) pe_int))))) (pg_name (i := 12) sc__law_split.nd rfl (Or.inl rfl))
      (pss_one (ps_expr (pe_meth (pv 0) T.cl_Town T.me_Town_bring G_Town_bring HR_Town_bring T.b_Town_bring .nil LH.passN (pa_cons (pv 12) pa_nil))))))
    pss_nil)))))), ?_⟩
    walk_at "rd"
    refine LH.x_lenL (SqL.of (LH.fr_le _ _ gla)) ?_
    refine LH.x_I (by rw [List.length_map]; omega) ?_
    walk_at "rd"
    obtain ⟨jj, v, hj, ev⟩ := at_mod (l := ln.map V.int) (n := (ln.map V.int).length) rfl (by rw [List.length_map]; exact lpos) cell
    refine LH.x_ixL (v := v) (SqL.of (LH.fr_le _ _ gla)) ev ?_
    obtain ⟨i, hi, rfl⟩ := List.mem_map.mp (List.mem_of_getElem? hj)
    obtain ⟨i0, i1, ih⟩ := lnb i hi
    walk_at "rd"
    refine LH.newl (LH.small rfl) fun tp0 H1 f1 e1 g1 => ?_
    walk_at "rd"
    have p1 := (Pl.start S).grow f1 e1 g1 (fun _ q => nomatch q)
    have gla1 := p1.w.fr _ _ gla
    refine LH.rn1v (by omega) (by omega) ?_
    refine LH.lc_R (by omega) (fun x => !decide (numV x ∈ ln)) id (fun _ => rfl) ?_ ?_ fun hp H2 f2 e2 g2 => ?_
    · intro x hx H3 e3 Q3 q3
      obtain ⟨j, _, rfl⟩ := List.mem_map.mp hx
      walk_at "rd"
      refine LH.x_notInI (SqL.of (e3 _ _ (LH.fr_le _ _ gla1))) ?_
      walk_at "rd"
      exact q3 _ (Same.refl _)
    · intro x hx _ H3 e3 Q3 q3
      obtain ⟨j, _, rfl⟩ := List.mem_map.mp hx
      walk_at "rd"
      exact q3 _ (Same.refl _)
    walk_at "rd"
    have mem : ∀ y ∈ ((LH.intsV 0 ts.c.toNat).filter fun x => !decide (numV x ∈ ln)).map id, ∃ x : Int, y = .int x ∧ x ∈ ts.hn := fun y hy => by
      rw [List.map_id] at hy
      obtain ⟨q1, q2⟩ := List.mem_filter.mp hy
      obtain ⟨j, hj, rfl⟩ := List.mem_map.mp q1
      have := List.mem_range.mp hj
      have q2 : 0 + (j : Int) ∉ ln := by simpa [numV] using q2
      exact ⟨_, rfl, lh _ (by omega) (by omega) q2⟩
    have hlen : (((LH.intsV 0 ts.c.toNat).filter fun x => !decide (numV x ∈ ln)).map id).length ≤ 7 := by
      rw [List.length_map]
      refine Nat.le_trans (List.length_filter_le _ _) ?_
      unfold LH.intsV
      rw [List.length_map, List.length_range]
      omega
    generalize (((LH.intsV 0 ts.c.toNat).filter fun x => !decide (numV x ∈ ln)).map id) = hl at g2 mem hlen
    have p2' := p1.same e2
    have p2 := Pl.startE p2'.t p2'.d p2'.e
    have gla2 := LH.same_fr e2 _ _ gla1
    have gra2 := p2'.w.fr _ _ gra
    have ghp := p1.new f2 g2
    have nb : 0 ≤ i + ts.c * (cell / 7 % 2) ∧ i + ts.c * (cell / 7 % 2) ≤ 9999 ∧ (i + ts.c * (cell / 7 % 2)) % ts.c = i := by
      have e0 : cell / 7 % 2 = 0 ∨ cell / 7 % 2 = 1 := by omega
      rcases e0 with e0 | e0
      · rw [e0, Int.mul_zero, Int.add_zero]
        exact ⟨i0, by omega, Int.emod_eq_of_lt i0 i1⟩
      · rw [e0, Int.mul_one]
        exact ⟨by omega, by omega, by rw [Int.add_emod_right]; exact Int.emod_eq_of_lt i0 i1⟩
    refine LH.env (SqL.of g2) ?_
    generalize i + ts.c * (cell / 7 % 2) = num at nb
    refine LH.for_E (xs := hl) (fun n σ H' => ∃ tp o8 o9 o11, σ = [some (.ref ta.p), some (.int ts.c), some (.ref la), some (.int cell), some (.ref ra), some (.int i), some (.int num), some (.ref tp), o8, o9, none, o11, none] ∧ ∃ M' ts' ds, Pl a.Town a.House a.Post (tp0 :: M) H2 ([tp0] ++ places ta h ts.hn) [tp] M' H' ta h ts' ∧ H' tp = some (.lst (ds.map V.int)) ∧ ds.length ≤ 8 * n ∧ Wt ds ts' ∧ Rch ts ts' ∧ Fine (num :: Ns) (L + 8 * n) ts') ?_ ?_ ?_ ?_
    · exact ⟨tp0, none, none, none, rfl, _, ts, [], p2, e2 _ _ g1, Nat.zero_le _, ⟨List.nodup_nil, fun _ q => nomatch q⟩, .refl, fine.more (fun n hn => List.mem_cons_of_mem _ hn) (by omega)⟩
    · rintro n σ H' _ ⟨tp, o8, o9, o11, rfl, M', ts', ds, p, _⟩
      exact SqL.of (p.up ghp)
    · rintro n x σ H3 H4 tt hx ⟨tp, o8, o9, o11, rfl, M', ts', ds, p, gtp, dl, wt, rc, fn⟩ fT e4 gT
      obtain ⟨y, rfl, hy⟩ := mem x (List.mem_of_getElem? hx)
      have n7 : n < 7 := by
        have := (List.getElem?_eq_some_iff.mp hx).1
        omega
      obtain ⟨hn', c'⟩ := rc.hn
      obtain ⟨y0, y1⟩ := go.hb y hy
      refine LH.x_gtup (SqT.of gT) rfl ?_
      walk_at "rd"
      refine LH.newl (LH.small rfl) fun pc H5 f5 e5 g5 => ?_
      walk_at "rd"
      obtain ⟨d, ⟨d0, d1⟩, ed⟩ := pow_at n (by omega)
      refine LH.x_ixL (v := .int d) (SqL.of g5) (atI_nat ed) ?_
      walk_at "rd"
      refine LH.x_I (C := CDivN) ⟨by omega, by omega⟩ ?_
      walk_at "rd"
      have p5 := p.same (e4.trans e5)
      obtain ⟨zr, hzr, ezr⟩ := at_n (l := [V.str z0, .str z1]) 2 rfl (by decide) (cell.fdiv d)
      refine LH.x_ixL (v := zr) (SqL.of (p5.up gra2)) ezr ?_
      obtain ⟨z, rfl, hz⟩ : ∃ z : Str, zr = .str z ∧ isRowS z = true := by
        simp only [List.mem_cons, List.not_mem_nil, or_false] at hzr
        rcases hzr with rfl | rfl
        · exact ⟨_, rfl, r0⟩
        · exact ⟨_, rfl, r1⟩
      walk_at "rd"
      have gtp5 := e5 _ _ (e4 _ _ gtp)
      refine LH.bm_l (SqL.of gtp5) ?_
      walk_at "rd"
      obtain ⟨dx5, hp5⟩ := p5.t.ob
      refine LH.methv hp5 rfl ?_
      walk_at "rd"
      refine LH.newt (LH.small rfl) fun t6 H6 f6 e6 g6 => ?_
      have p6 := p5.same e6
      have vs : Val ts'.c ⟨"say", num, z, i⟩ := ⟨.inl ⟨rfl, by rw [c']; exact nb.2.2.symm⟩, nb.1, nb.2.1, hz, i0, by rw [c']; exact i1⟩
      walk_at "rd"
      refine sp_lie p6.t (fewF p6.t.go fn (by show Ns.length + 1 ≤ 20; omega) (by omega)) i0 (by rw [c']; exact i1) (by rw [hn']; exact ih) y0 (by rw [c']; exact y1) (fun e => ih (e ▸ hy)) vs (p5.new f6 g6) (.inl rfl) fun H7 tn => ?_
      have p7 := p6.town tn
      have gtp7 := p6.kept tn (List.mem_singleton.mpr rfl) (e6 _ _ gtp5)
      walk_at "rd"
      refine LH.x_appK gtp7 (by rw [List.length_map]; omega) fun H8 k8 g8 => ?_
      have p8 := p7.put (List.mem_singleton.mpr rfl) k8 g8 (fun _ q => nomatch q)
      have rc8 : Rch ts (ts'.lie i y ⟨"say", num, z, i⟩) := rc.step (.lie (by rw [hn']; exact ih) vs (.inl rfl))
      have fn8 : Fine (num :: Ns) (L + 8 * n + 1) (ts'.lie i y ⟨"say", num, z, i⟩) := fn.lie (.inl ⟨rfl, by rw [hn']; exact ih⟩) vs List.mem_cons_self
      have wt8 : Wt (ds ++ [ts'.n]) (ts'.lie i y ⟨"say", num, z, i⟩) := wt.lie p6.t.go
      have g8 : H8 tp = some (.lst ((ds ++ [ts'.n]).map V.int)) := by rw [List.map_append]; exact g8
      have dl8 : (ds ++ [ts'.n]).length ≤ 8 * n + 1 := by rw [List.length_append, List.length_singleton]; omega
      generalize ts'.lie i y ⟨"say", num, z, i⟩ = t8 at p7 p8 rc8 fn8 wt8
      generalize ds ++ [ts'.n] = d8 at wt8 g8 dl8
      walk_at "rd"
      refine LH.lc_M (SqL.of (p8.up gla2)) (by rw [List.length_map]; omega) (fun _ => rfl) (fun j ys D H' => ∃ M' t' ds', Pl a.Town a.House a.Post (tp0 :: M) H2 ([tp0] ++ places ta h ts.hn) [D, tp] M' H' ta h t' ∧ D ≠ tp ∧ H' D = some (.lst ys) ∧ ys = ds'.map V.int ∧ ds'.length = j ∧ H' tp = some (.lst (d8.map V.int)) ∧ Wt (d8 ++ ds') t' ∧ Rch ts t' ∧ Fine (num :: Ns) (L + 8 * n + 1 + j) t') ?_ ?_ ?_ ?_
      · intro D H9 f9 e9 g9
        exact ⟨_, t8, [], p8.grow f9 e9 g9 (fun _ q => nomatch q), (fun e => by rw [e, g8] at f9; cases f9), g9, rfl, rfl, e9 _ _ g8, by rw [List.append_nil]; exact wt8, rc8, fn8⟩
      · rintro j ys D H9 hj ⟨M9, t9, ds9, p9, nD, gD, rfl, l9, _⟩
        exact ⟨SqL.of (p9.up gla2), by rw [List.length_map]; omega, gD⟩
      · rintro j x ys D H9 hx9 ⟨M9, t9, ds9, p9, nD, gD, rfl, l9, gt9, wt9, rc9, fn9⟩ Q9 q9
        have hj7 : j < ln.length := by
          have := (List.getElem?_eq_some_iff.mp hx9).1
          rwa [List.length_map] at this
        obtain ⟨u, hu, rfl⟩ := List.mem_map.mp (List.mem_of_getElem? hx9)
        obtain ⟨u0, u1, uh⟩ := lnb u hu
        obtain ⟨hn9, c9⟩ := rc9.hn
        walk_at "rd"
        obtain ⟨dx9, hp9⟩ := p9.t.ob
        refine LH.methv hp9 rfl ?_
        walk_at "rd"
        refine LH.newt (LH.small rfl) fun t10 H10 f10 e10 g10 => ?_
        have p10 := p9.same e10
        have vm : Val t9.c ⟨"mark", num, z, u⟩ := ⟨.inr rfl, nb.1, nb.2.1, hz, u0, by rw [c9]; exact u1⟩
        walk_at "rd"
        refine sp_lie p10.t (fewF p10.t.go fn9 (by show Ns.length + 1 ≤ 20; omega) (by omega)) u0 (by rw [c9]; exact u1) (by rw [hn9]; exact uh) y0 (by rw [c9]; exact y1) (fun e => uh (e ▸ hy)) vm (p9.new f10 g10) (.inl rfl) fun H11 tn => ?_
        have p11 := p10.town tn
        have gD11 := p10.kept tn (b := D) (by simp) (e10 _ _ gD)
        have gt11 := p10.kept tn (b := tp) (by simp) (e10 _ _ gt9)
        refine q9 _ H11 gD11 fun H12 k12 g12 => ?_
        refine ⟨_, _, ds9 ++ [t9.n], p11.put (q := D) (by simp) k12 g12 (fun _ q => nomatch q), nD, g12, by rw [List.map_append]; rfl, by rw [List.length_append, l9]; rfl, k12 _ _ gt11 (Ne.symm nD), ?_, rc9.step (.lie (by rw [hn9]; exact uh) vm (.inl rfl)), fn9.lie (.inl ⟨rfl, by rw [hn9]; exact uh⟩) vm List.mem_cons_self⟩
        rw [← List.append_assoc]
        exact wt9.lie p10.t.go
      · rintro D H9 ys ⟨M9, t9, ds9, p9, nD, gD, rfl, l9, gt9, wt9, rc9, fn9⟩ _
        rw [List.length_map] at l9 fn9
        refine LH.x_catS (SqL.of gt9) (SqL.of gD) (by rw [List.length_map, List.length_map]; omega) fun tp' H10 f10 e10 g10 => ?_
        walk_at "rd"
        refine ⟨tp', _, _, _, rfl, _, t9, d8 ++ ds9, ((p9.grow f10 e10 g10 (fun _ q => nomatch q)).less fun b hb => by rw [List.mem_singleton.mp hb]; exact List.mem_cons_self), by rw [g10, List.map_append], by rw [List.length_append]; omega, wt9, rc9, fn9.more (fun _ q => q) (by omega)⟩
    · rintro σ H3 ⟨tp, o8, o9, o11, rfl, M3, t3, ds, p3, gtp, dl, wt, rc, fn⟩
      have fin : Fine (num :: Ns) (L + 56) t3 := fn.more (fun _ q => q) (by omega)
      have w03 : Went M H (places ta h ts.hn) M3 H3 (places ta h t3.hn) := (p2'.w.trans p3.w).weak fun b hb => List.mem_append.mpr (.inr hb)
      obtain ⟨hn3, c3⟩ := rc.hn
      walk_at "rd"
      refine LH.br (fun _ => ?_) (fun _ => ?_)
      · walk_at "rd"
        refine LH.sty (SqL.of gtp) (by omega) fun q H4 ys f4 e4 g4 hys => ?_
        walk_at "rd"
        obtain ⟨d4, rfl, wt4, dl4⟩ : ∃ d4 : List Int, ys = d4.map V.int ∧ Wt d4 t3 ∧ d4.length ≤ 60 := by
          rcases hys with rfl | rfl
          · exact ⟨ds, rfl, wt, by omega⟩
          · exact ⟨ds.reverse, List.map_reverse.symm, ⟨(List.reverse_perm ds).nodup_iff.mpr wt.1, fun d hd => wt.2 d (List.mem_reverse.mp hd)⟩, by rw [List.length_reverse]; omega⟩
        have p4 := Pl.start (p3.t.same e4)
        have gq := p3.new f4 g4
        refine LH.for_L (SqL.of g4) (fun j σ H' => ∃ o12, σ = [some (.ref ta.p), some (.int ts.c), some (.ref la), some (.int cell), some (.ref ra), some (.int i), some (.int num), some (.ref tp), o8, o9, none, o11, o12] ∧ ∃ M' h' t', Pl a.Town a.House a.Post M3 H4 (places ta h t3.hn) [] M' H' ta h' t' ∧ Wt (d4.drop j) t' ∧ Rch ts t' ∧ Fine (num :: Ns) (L + 56) t') ?_ ?_ ?_ ?_
        · exact ⟨none, rfl, M3, h, t3, p4, wt4, rc, fin⟩
        · rintro j σ H' _ ⟨o12, rfl, M', h', t', p', _⟩
          exact SqL.of (p'.up gq)
        · rintro j x σ H' hx ⟨o12, rfl, M', h', t', p', wt', rc', fn'⟩
          rw [List.getElem?_map] at hx
          obtain ⟨d, hd, rfl⟩ := Option.map_eq_some_iff.mp hx
          have ed : d4.drop j = d :: d4.drop (j + 1) := by
            obtain ⟨hj, e⟩ := List.getElem?_eq_some_iff.mp hd
            rw [List.drop_eq_getElem_cons hj, e]
          rw [ed] at wt'
          obtain ⟨l, hl, el⟩ := wt'.2 d List.mem_cons_self
          walk_at "rd"
          obtain ⟨dx', hp'⟩ := p'.t.ob
          refine LH.methv hp' rfl ?_
          walk_at "rd"
          refine sp_bring p'.t (fewF p'.t.go fn' (by show Ns.length + 1 ≤ 20; omega) (by omega)) hl el fun H5 N h5 r xs tn _ _ => ?_
          walk_at "rd"
          exact ⟨_, rfl, _, h5, _, p'.town tn, wt'.bring el, rc'.step (.bring hl), fn'.bring p'.t.go hl⟩
        · rintro σ H' ⟨o12, rfl, M', h', t', p', wt', rc', fn'⟩
          walk_at "rd"
          exact k H' M' h' t' num p'.t (w03.trans ((Went.same p3.t.inM e4).trans p'.w)) rc' fn'
      · walk_at "rd"
        exact k H3 M3 h t3 num p3.t w03 rc fin
end
end KB
namespace KB
open PySem L2 LM HM TN
local macro_rules | `(tactic| walk_at "rd1") => `(tactic| first
  | with_reducible refine LH.x_seq ?_
  | with_reducible refine LH.x_asg ?_
  | with_reducible refine LH.x_cons ?_
  | with_reducible refine LH.x_var (by with_unfolding_all exact rfl) ?_
  | with_reducible refine LH.x_c ?_
  | with_reducible refine LH.x_op ?_
  | with_reducible refine LH.x_gname ?_
  | with_reducible refine LH.x_nil ?_
  | with_reducible refine LH.x_I0 ?_
  | ((with_reducible refine LH.x_I ?k1 ?_); (case k1 => first | exact (by decide) | exact ⟨by decide, by decide⟩ | exact ⟨by decide, by decide, by decide⟩ | exact .inl ⟨by decide, by decide⟩ | exact .inr ⟨by decide, by decide⟩ | exact .inr ⟨by omega, by omega⟩ | exact .inl ⟨by omega, by omega⟩ | exact (by omega)))
  | with_reducible refine LH.x_ifS ?_
  | with_reducible refine LH.x_test ?_
  | with_reducible refine LH.x_tB ?_
  | with_reducible refine LH.bx ?_
  | with_reducible refine LH.x_and ?_
  | with_reducible refine LH.x_or ?_
  | with_reducible refine LH.x_not ?_
  | with_reducible refine LH.x_ret ?_
  | with_reducible refine LH.x_call ?_
  | with_reducible refine LH.x_cb ?_
  | with_reducible refine LH.x_lst ?_
  | with_reducible refine LH.x_tup ?_
  | with_reducible refine LH.x_bm ?_
  | with_reducible refine LH.x_drop ?_
  | with_reducible refine LH.x_next ?_
  | with_reducible refine LH.x_cont ?_
  | with_reducible refine LH.x_un ?_
  | with_reducible refine LH.x_U ?_
  | with_reducible refine LH.x_eq (by with_unfolding_all exact rfl) ?_
  | with_reducible refine LH.x_ne (by with_unfolding_all exact rfl) ?_
  | with_reducible refine LH.x_andV ?_
  | with_reducible refine LH.x_orV ?_
  | with_reducible refine LH.x_notV ?_
  | with_reducible refine LH.band ?_
  | with_reducible refine LH.bor ?_
  | with_reducible refine LH.x_if ?_
  | with_reducible refine LH.x_chain ?_
  | with_reducible refine LH.chk ?_
  | with_reducible refine LH.x_callS ?_
  | with_reducible refine LH.x_callE ?_
  | with_reducible refine LH.x_callV ?_
  | with_reducible refine LH.x_lrg ?_
  | with_reducible refine LH.x_lcS ?_
  | with_reducible refine LH.x_lcR1 ?_
  | with_reducible refine LH.x_forR1 ?_
  | with_reducible refine LH.x_forR3 ?_
  | with_reducible refine LH.strv ?_
  | with_reducible refine LH.x_yes ?_
  | with_reducible refine LH.x_sl ?_
  | with_reducible refine LH.x_noPart ?_
  | with_reducible refine LH.x_part ?_
  | with_reducible refine LH.pav ?_
  | with_reducible refine LH.x_jnv ?_
  | with_reducible refine LH.x_join ?_
  | with_reducible refine LH.x_inS ?_
  | with_reducible refine LH.x_niS ?_
  | with_reducible refine LH.x_isB ?_
  | with_reducible refine LH.x_isnB ?_
  | with_reducible refine LH.x_gcons ?_
  | with_reducible refine LH.x_gnil ?_
  | with_reducible refine LH.x_intB ?_
  | with_reducible refine LH.x_orT ?_
  | with_reducible refine LH.x_isTy ?_
  | with_reducible refine LH.x_niTy ?_
  | with_reducible refine LH.x_split ?_
  | with_reducible refine LH.x_spv ?_
  | with_reducible refine LH.x_gsub ?_
  | with_reducible refine LH.x_fmt ?_
  | with_reducible refine LH.x_js0 ?_
  | with_reducible refine LH.x_js ?_
  | with_reducible refine LH.x_rg1 ?_
  | with_reducible refine LH.x_forL ?_
  | with_reducible refine LH.x_abs ?_
  | with_reducible refine LH.x_rg2 ?_
  | with_reducible refine LH.rg1v ?_
  | with_reducible refine LH.rg2v ?_
  | with_reducible refine LH.x_forR2 ?_
  | with_reducible refine LH.x_lenSetG ?_
  | with_reducible refine LH.x_lc ?_
  | with_reducible refine LH.x_fld ?_
  | with_reducible refine LH.x_sfld ?_
  | with_reducible refine LH.x_afld ?_
  | with_reducible refine LH.x_meth ?_
  | with_reducible refine LH.x_make ?_
  | with_reducible refine LH.x_methSl ?_
  | with_reducible refine LH.x_makeSl ?_
  | with_reducible refine LH.x_din ?_
  | with_reducible refine LH.x_dni ?_
  | with_reducible refine LH.x_dget ?_
  | with_reducible refine LH.x_dput ?_
  | with_reducible refine LH.x_dget2 ?_
  | with_reducible refine LH.x_dpop1 ?_
  | with_reducible refine LH.x_litems ?_
  | with_reducible refine LH.x_tru ?_
  | with_reducible refine LH.x_revL ?_
  | with_reducible refine LH.x_stepL ?_
  | with_reducible refine LH.x_forE ?_
  | with_reducible refine LH.x_dsetT ?_
  | with_reducible refine LH.x_lvals ?_
  | with_reducible refine LH.br_nt ?_
  | with_reducible refine LH.br_nf ?_
  | with_reducible refine LH.br_t ?_
  | with_reducible refine LH.br_f ?_)
local macro_rules | `(tactic| walk_at "rd") => `(tactic| repeat (walk_at "rd1"))
local macro_rules | `(tactic| walk_at "rs1") => `(tactic| first
  | with_reducible refine LH.x_seq ?_
  | with_reducible refine LH.x_cons ?_
  | with_reducible refine LH.x_var (by with_unfolding_all exact rfl) ?_
  | with_reducible refine LH.x_c ?_
  | with_reducible refine LH.x_op ?_
  | with_reducible refine LH.x_gname ?_
  | with_reducible refine LH.x_nil ?_
  | with_reducible refine LH.x_I0 ?_
  | ((with_reducible refine LH.x_I ?k1 ?_); (case k1 => first | exact (by decide) | exact ⟨by decide, by decide⟩ | exact ⟨by decide, by decide, by decide⟩ | exact .inl ⟨by decide, by decide⟩ | exact .inr ⟨by decide, by decide⟩ | exact .inr ⟨by omega, by omega⟩ | exact .inl ⟨by omega, by omega⟩ | exact (by omega)))
  | with_reducible refine LH.x_test ?_
  | with_reducible refine LH.x_tB ?_
  | with_reducible refine LH.bx ?_
  | with_reducible refine LH.x_and ?_
  | with_reducible refine LH.x_or ?_
  | with_reducible refine LH.x_not ?_
  | with_reducible refine LH.x_call ?_
  | with_reducible refine LH.x_cb ?_
  | with_reducible refine LH.x_lst ?_
  | with_reducible refine LH.x_tup ?_
  | with_reducible refine LH.x_bm ?_
  | with_reducible refine LH.x_next ?_
  | with_reducible refine LH.x_cont ?_
  | with_reducible refine LH.x_un ?_
  | with_reducible refine LH.x_U ?_
  | with_reducible refine LH.x_eq (by with_unfolding_all exact rfl) ?_
  | with_reducible refine LH.x_ne (by with_unfolding_all exact rfl) ?_
  | with_reducible refine LH.x_andV ?_
  | with_reducible refine LH.x_orV ?_
  | with_reducible refine LH.x_notV ?_
  | with_reducible refine LH.band ?_
  | with_reducible refine LH.bor ?_
  | with_reducible refine LH.x_if ?_
  | with_reducible refine LH.x_chain ?_
  | with_reducible refine LH.chk ?_
  | with_reducible refine LH.x_callS ?_
  | with_reducible refine LH.x_callE ?_
  | with_reducible refine LH.x_callV ?_
  | with_reducible refine LH.x_lrg ?_
  | with_reducible refine LH.x_lcS ?_
  | with_reducible refine LH.x_lcR1 ?_
  | with_reducible refine LH.strv ?_
  | with_reducible refine LH.x_yes ?_
  | with_reducible refine LH.x_sl ?_
  | with_reducible refine LH.x_noPart ?_
  | with_reducible refine LH.x_part ?_
  | with_reducible refine LH.pav ?_
  | with_reducible refine LH.x_jnv ?_
  | with_reducible refine LH.x_join ?_
  | with_reducible refine LH.x_inS ?_
  | with_reducible refine LH.x_niS ?_
  | with_reducible refine LH.x_isB ?_
  | with_reducible refine LH.x_isnB ?_
  | with_reducible refine LH.x_gcons ?_
  | with_reducible refine LH.x_gnil ?_
  | with_reducible refine LH.x_intB ?_
  | with_reducible refine LH.x_orT ?_
  | with_reducible refine LH.x_isTy ?_
  | with_reducible refine LH.x_niTy ?_
  | with_reducible refine LH.x_split ?_
  | with_reducible refine LH.x_spv ?_
  | with_reducible refine LH.x_gsub ?_
  | with_reducible refine LH.x_fmt ?_
  | with_reducible refine LH.x_js0 ?_
  | with_reducible refine LH.x_js ?_
  | with_reducible refine LH.x_rg1 ?_
  | with_reducible refine LH.x_abs ?_
  | with_reducible refine LH.x_rg2 ?_
  | with_reducible refine LH.rg1v ?_
  | with_reducible refine LH.rg2v ?_
  | with_reducible refine LH.x_lenSetG ?_
  | with_reducible refine LH.x_lc ?_
  | with_reducible refine LH.x_fld ?_
  | with_reducible refine LH.x_sfld ?_
  | with_reducible refine LH.x_afld ?_
  | with_reducible refine LH.x_meth ?_
  | with_reducible refine LH.x_make ?_
  | with_reducible refine LH.x_methSl ?_
  | with_reducible refine LH.x_makeSl ?_
  | with_reducible refine LH.x_din ?_
  | with_reducible refine LH.x_dni ?_
  | with_reducible refine LH.x_dget ?_
  | with_reducible refine LH.x_dput ?_
  | with_reducible refine LH.x_dget2 ?_
  | with_reducible refine LH.x_dpop1 ?_
  | with_reducible refine LH.x_litems ?_
  | with_reducible refine LH.x_tru ?_
  | with_reducible refine LH.x_revL ?_
  | with_reducible refine LH.x_stepL ?_
  | with_reducible refine LH.x_dsetT ?_
  | with_reducible refine LH.x_lvals ?_
  | with_reducible refine LH.br_nt ?_
  | with_reducible refine LH.br_nf ?_
  | with_reducible refine LH.br_t ?_
  | with_reducible refine LH.br_f ?_)
local macro_rules | `(tactic| walk_at "rs") => `(tactic| repeat (walk_at "rs1"))

section
variable {P : Program} {w : World} {K : PySem.W.Frag} {mg : Str → Option Value} {base : Heap} {a : Ad}
def spLie (CT CH CP : Addr) : Sp := fun vs H Q _ => ∃ (ta : TAd) (h : Int → HA) (ts : TSt) (M : List Addr) (cell : Int) (la ra : Addr) (ln : List Int) (z0 z1 : Str) (Ns : List Int) (L : Nat), vs = [.ref ta.p, .int ts.c, .ref la, .int cell, .ref ra] ∧ TownAt CT CH CP M H ta h ts ∧ Fine Ns L ts ∧ Ns.length ≤ 19 ∧ L ≤ 1100 ∧
  LH.Fr M H la = some (.lst (ln.map V.int)) ∧ LH.Fr M H ra = some (.lst [.str z0, .str z1]) ∧ isRowS z0 = true ∧ isRowS z1 = true ∧ ln ≠ [] ∧ ln.length ≤ 7 ∧ (∀ x ∈ ln, 0 ≤ x ∧ x < ts.c ∧ x ∉ ts.hn) ∧
  ∀ H' M' h' ts' n, TownAt CT CH CP M' H' ta h' ts' → Went M H (places ta h ts.hn) M' H' (places ta h' ts'.hn) → Rch ts ts' → Fine (n :: Ns) (L + 56) ts' → Q .non H'
theorem ok__law_lie (T : Txt K mg a) : FnOk P w K mg base CX0 5 a._law_lie a.d__law_lie ["_law_town", "_law_count_here", "_law_liars_here", "_law_cell", "_law_rows"] (spLie a.Town a.House a.Post) := by
  have G_Town_lie := ok_Town_lie (P := P) (w := w) (base := base) T
  have G_Town_spoken := ok_Town_spoken (P := P) (w := w) (base := base) T
  refine T.F__law_lie.ok sc__law_lie (fun vs H Q E h => ?_) (fun cdv A outer s H vs Q E hr h => ?_)
  · obtain ⟨ta, h, ts, M, cell, la, ra, ln, z0, z1, Ns, L, rfl, _⟩ := h
    rfl
  · obtain ⟨ta, h, ts, M, cell, la, ra, ln, z0, z1, Ns, L, rfl, S, fine, nl, ll, gla, gra, r0, r1, lne, ln7, lnb, k⟩ := h
    have go := S.go
    have c1 := go.c1
    have c7 := fine.c7
    have lpos : 0 < ln.length := List.length_pos_iff.mpr lne
    have row : ∀ i : Int, ∃ z : Str, atI [V.str z0, .str z1] (i % 2) = some (.str z) ∧ isRowS z = true := fun i => by
      obtain ⟨zr, hzr, ezr⟩ := at_n (l := [V.str z0, .str z1]) 2 rfl (by decide) i
      simp only [List.mem_cons, List.not_mem_nil, or_false] at hzr
      rcases hzr with rfl | rfl
      · exact ⟨_, ezr, r0⟩
      · exact ⟨_, ezr, r1⟩
    have HR_Town_lie : Room 4 _ := hr.mono (by decide)
    have HR_Town_spoken : Room 1 _ := hr.mono (by decide)
    refine ⟨_, (pss_cons (ps_set (i := 5) sc__law_lie.nd rfl (Or.inl rfl) (pe_ix (r := rIxL K) ix_list (pv 2) (pe_op op_modN (pv 3) (pe_callB (r := LH.rLen K) LH.call_len rfl T.n_len (by decide +kernel) (pa_cons (pv 2) pa_nil))) (fun _ _ => rfl)))
  (pss_cons (ps_set (i := 6) sc__law_lie.nd rfl (Or.inl rfl) (pe_op op_modN (pe_op op_add (pe_op op_add (pv 5) pe_int) (pe_op op_modN (pe_op op_fdiv (pv 3) pe_int) (pe_callB (LH.call_maxI rfl) rfl T.n_max (by decide +kernel) (pa_cons pe_int (pa_cons (pe_op op_sub (pv 1) pe_int) pa_nil))))) (pv 1)))
  (pss_cons (ps_set (i := 7) sc__law_lie.nd rfl (Or.inl rfl) (pe_op op_mod (pe_op op_fdiv (pv 3) pe_int) pe_int))
  (pss_cons (ps_set (i := 8) sc__law_lie.nd rfl (Or.inl rfl) (pe_tup (pa_cons pe_str (pa_cons (pv 7) (pa_cons (pe_ix (r := rIxL K) ix_list (pv 4) (pe_op op_mod (pe_op op_fdiv (pv 3) pe_int) pe_int) (fun _ _ => rfl)) (pa_cons (pv 5) pa_nil))))))
  (pss_cons (ps_if (pt_cmpR op_eq (pe_op op_mod (pe_op op_fdiv (pv 3) pe_int) pe_int) pe_int (nomark _))
    (pss_one (ps_set (i := 8) sc__law_lie.nd rfl (Or.inl rfl) (pe_tup (pa_cons pe_str (pa_cons (pe_op op_add (pv 5) (pe_op op_mul (pv 1) (pe_op op_mod (pv 7) pe_int))) (pa_cons (pe_ix (r := rIxL K) ix_list (pv 4) (pe_op op_mod (pe_op op_fdiv (pv 3) pe_int) pe_int) (fun _ _ => rfl)) (pa_cons (pv 5) pa_nil)))))))
    pss_nil)
  (pss_cons (ps_set (i := 9) sc__law_lie.nd rfl (Or.inl rfl) (pe_meth0 (pv 0) T.cl_Town T.me_Town_spoken G_Town_spoken HR_Town_spoken T.b_Town_spoken .nil pass0))
  (pss_cons (ps_if (PW.pt (pw_and (pt_cmpR op_eq (pe_op op_mod (pe_op op_fdiv (pv 3) pe_int) pe_int) pe_int (nomark _)) (pw_and1 (pt_cmpR (r := rNeD K) (op_neD hr.units) (pv 9) (pe_lst pa_nil) (nomark _)))))
    (pss_one (ps_set (i := 8) sc__law_lie.nd rfl (Or.inl rfl) (pe_ix (r := rIxL K) ix_list (pv 9) (pe_op op_modN (pe_op op_fdiv (pv 3) pe_int) (pe_callB (r := LH.rLen K) LH.call_len rfl T.n_len (by decide +kernel) (pa_cons (pv 9) pa_nil))) (fun _ _ => rfl))))
    pss_nil)
  (pss_one (ps_if (pt_cmpR op_ne (pv 6) (pv 5) (nomark _))
    (pss_one (ps_expr (pe_meth (pv 0) T.cl_Town T.me_Town_lie G_Town_lie HR_Town_lie T.b_Town_lie .nil LH.passN (pa_cons (pv 5) (pa_cons (pv 6) (pa_cons (pv 8) pa_nil))))))
    pss_nil))))))))), ?_⟩
    walk_at "rd"
    refine LH.x_lenL (SqL.of (LH.fr_le _ _ gla)) ?_
    refine LH.x_I (by rw [List.length_map]; omega) ?_
    walk_at "rd"
    obtain ⟨jj, v, hj, ev⟩ := at_mod (l := ln.map V.int) (n := (ln.map V.int).length) rfl (by rw [List.length_map]; exact lpos) cell
    refine LH.x_ixL (v := v) (SqL.of (LH.fr_le _ _ gla)) ev ?_
    obtain ⟨i, hi, rfl⟩ := List.mem_map.mp (List.mem_of_getElem? hj)
    obtain ⟨i0, i1, ih⟩ := lnb i hi
    walk_at "rd"
    refine LH.x_maxI ?_
    refine LH.x_I (by omega) ?_
    walk_at "rd"
    obtain ⟨m, hm⟩ : ∃ m, (cell / 12).fmod (max 1 (ts.c - 1)) = m := ⟨_, rfl⟩
    rw [hm]
    have j0 := Int.fmod_nonneg_of_pos (i + 1 + m) (show 0 < ts.c by omega)
    have j1 := Int.fmod_lt_of_pos (i + 1 + m) (show 0 < ts.c by omega)
    generalize (i + 1 + m).fmod ts.c = j at j0 j1
    obtain ⟨num, hnum, n0, n1⟩ : ∃ n : Int, cell / 132 % 6 = n ∧ 0 ≤ n ∧ n < 6 := ⟨_, rfl, by omega, by omega⟩
    rw [hnum]
    obtain ⟨z, ez, hz⟩ := row (cell / 800)
    refine LH.x_ixL (v := .str z) (SqL.of (LH.fr_le _ _ gra)) ez ?_
    walk_at "rd"
    refine LH.newt (LH.small rfl) fun t1 H1 f1 e1 g1 => ?_
    have vm : Val ts.c ⟨"mark", num, z, i⟩ := ⟨.inr rfl, n0, by show num ≤ 9999; omega, hz, i0, i1⟩
    have S1 := S.same e1
    have gt1 : LH.Fr M H1 t1 = some (.tup (⟨"mark", num, z, i⟩ : Wrd).vs) := LH.fr_of g1 (LH.not_in f1 S.al)
    walk_at "rs"
    refine LH.cutS (fun σ' H' => ∃ t u, σ' = [some (.ref ta.p), some (.int ts.c), some (.ref la), some (.int cell), some (.ref ra), some (.int i), some (.int j), some (.int num), some (.ref t), none] ∧ Same H1 H' ∧ LH.Fr M H' t = some (.tup u.vs) ∧ Val ts.c u ∧ (u.h = i ∨ u ∈ ts.sp)) (fun NN hN => ?_) ?_
    · walk_at "rd"
      refine LH.br (fun _ => ?_) (fun _ => ?_)
      · walk_at "rd"
        refine LH.x_ixL (v := .str z) (SqL.of (e1 _ _ (LH.fr_le _ _ gra))) ez ?_
        walk_at "rd"
        refine LH.newt (LH.small rfl) fun t2 H2 f2 e2 g2 => ?_
        walk_at "rd"
        refine hN _ _ ⟨t2, ⟨"say", i + ts.c * (num % 2), z, i⟩, rfl, e2, LH.fr_of g2 (LH.not_in f2 S1.al), ?_, .inl rfl⟩
        have e0 : num % 2 = 0 ∨ num % 2 = 1 := by omega
        rcases e0 with e0 | e0
        · rw [e0, Int.mul_zero, Int.add_zero]
          exact ⟨.inl ⟨rfl, (Int.emod_eq_of_lt i0 i1).symm⟩, i0, by show i ≤ 9999; omega, hz, i0, i1⟩
        · rw [e0, Int.mul_one]
          exact ⟨.inl ⟨rfl, by show i = (i + ts.c) % ts.c; rw [Int.add_emod_right]; exact (Int.emod_eq_of_lt i0 i1).symm⟩, by show 0 ≤ i + ts.c; omega, by show i + ts.c ≤ 9999; omega, hz, i0, i1⟩
      · walk_at "rd"
        exact hN _ _ ⟨t1, _, rfl, Same.refl _, gt1, vm, .inl rfl⟩
    rintro σ' H2 ⟨t2, u2, rfl, e2, gt2, vu2, ou2⟩
    have S2 := S1.same e2
    obtain ⟨dx2, hp2⟩ := S2.ob
    walk_at "rd"
    refine LH.methv hp2 rfl ?_
    walk_at "rd"
    refine ⟨ta, h, ts, M, rfl, S2, fun r H3 bs f3 e3 g3 tw => ?_⟩
    have S3 := S2.same e3
    have gt3 := LH.same_fr e3 _ _ gt2
    walk_at "rs"
    refine LH.cutS (fun σ' H' => ∃ t u, σ' = [some (.ref ta.p), some (.int ts.c), some (.ref la), some (.int cell), some (.ref ra), some (.int i), some (.int j), some (.int num), some (.ref t), some (.ref r)] ∧ Same H3 H' ∧ LH.Fr M H' t = some (.tup u.vs) ∧ Val ts.c u ∧ (u.h = i ∨ u ∈ ts.sp)) (fun NN hN => ?_) ?_
    · have tw3 : Paired (fun x w => WT (LH.Fr M H3) x w) (bs.map V.ref) ts.sp := LH.Paired.imp (fun _ _ q => q.up (LH.same_fr e3)) tw
      have lx := LH.Paired.len tw3
      have fs := (fine.few go (by omega) (by omega)).2.2.2.1
      have okS : ∀ w ∈ ts.sp, w.Ok := fun w hw => (go.sw w hw).1
      walk_at "rd"
      refine LH.br (fun _ => ?_) (fun _ => ?_)
      · walk_at "rd"
        refine LH.newl (LH.small rfl) fun p4 H4 f4 e4 g4 => ?_
        have g34 := e4 _ _ g3
        have tw4 := LH.Paired.imp (fun _ _ q => q.up (LH.same_fr (M := M) e4)) tw3
        refine LH.x_neD (.lst (SqL.of g34) (words_dp LH.fr_le tw4)) (.lst (SqL.of g4) .nil) (lay_words okS).shaped (by decide +kernel) ?_
        have eqn : PyData.eqv (.list (ts.sp.map Wrd.dat)) (.list []) = decide (ts.sp = []) := by
          cases ts.sp <;> simp [PyData.eqv, PyData.eqvAll]
        rw [eqn]
        by_cases c4 : ts.sp = []
        · rw [decide_eq_true c4]
          walk_at "rd"
          exact hN _ _ ⟨t2, u2, rfl, e4, LH.same_fr e4 _ _ gt3, vu2, ou2⟩
        · rw [decide_eq_false c4]
          walk_at "rd"
          have spos : 0 < (bs.map V.ref).length := by
            rw [lx]
            exact List.length_pos_iff.mpr c4
          refine LH.x_lenL (SqL.of g34) ?_
          refine LH.x_I (by omega) ?_
          walk_at "rd"
          obtain ⟨jj, v, hj, ev⟩ := at_mod (l := bs.map V.ref) rfl spos (cell / 4800)
          refine LH.x_ixL (v := v) (SqL.of g34) ev ?_
          obtain ⟨u, hu, hw⟩ := paired_at tw4 hj
          have um := List.mem_of_getElem? hu
          obtain ⟨tu, rfl, gtu⟩ := hw
          walk_at "rd"
          exact hN _ _ ⟨tu, u, rfl, e4, gtu, fine.v.s u um, .inr um⟩
      · walk_at "rd"
        exact hN _ _ ⟨t2, u2, rfl, Same.refl _, gt3, vu2, ou2⟩
    rintro σ' H4 ⟨t4, u, rfl, e4, gt4, vu, ou⟩
    have S4 := S3.same e4
    have w04 := Went.same S.inM (e1.trans (e2.trans (e3.trans e4)))
    have fine' : Fine (u.n :: Ns) L ts := fine.more (fun _ q => List.mem_cons_of_mem _ q) (Nat.le_refl _)
    walk_at "rd"
    by_cases cj : j = i
    · refine LH.br_eq (b' := false) (by rw [cj]; simp) ?_
      walk_at "rd"
      exact k H4 M h ts u.n S4 w04 .refl (fine'.more (fun _ q => q) (by omega))
    · refine LH.br_eq (b' := true) (by simp [cj]) ?_
      walk_at "rd"
      obtain ⟨dx4, hp4⟩ := S4.ob
      refine LH.methv hp4 rfl ?_
      walk_at "rd"
      refine sp_lie S4 (fewF S4.go fine' (by show Ns.length + 1 ≤ 20; omega) (by omega)) i0 i1 ih j0 j1 cj vu gt4 ou fun H5 tn => ?_
      walk_at "rd"
      have p5 := (Pl.start S4).town tn
      exact k H5 _ h _ u.n p5.t (w04.trans p5.w) (.step .refl (.lie ih vu ou)) ((fine'.lie (ou.imp (fun q => ⟨q, ih⟩) id) vu List.mem_cons_self).more (fun _ q => q) (by omega))
end
end KB
namespace KB
open PySem L2 LM HM TN
local macro_rules | `(tactic| walk_at "rd1") => `(tactic| first
  | with_reducible refine LH.x_seq ?_
  | with_reducible refine LH.x_asg ?_
  | with_reducible refine LH.x_cons ?_
  | with_reducible refine LH.x_var (by with_unfolding_all exact rfl) ?_
  | with_reducible refine LH.x_c ?_
  | with_reducible refine LH.x_op ?_
  | with_reducible refine LH.x_gname ?_
  | with_reducible refine LH.x_nil ?_
  | with_reducible refine LH.x_I0 ?_
  | ((with_reducible refine LH.x_I ?k1 ?_); (case k1 => first | exact (by decide) | exact ⟨by decide, by decide⟩ | exact ⟨by decide, by decide, by decide⟩ | exact .inl ⟨by decide, by decide⟩ | exact .inr ⟨by decide, by decide⟩ | exact .inr ⟨by omega, by omega⟩ | exact .inl ⟨by omega, by omega⟩ | exact (by omega)))
  | with_reducible refine LH.x_ifS ?_
  | with_reducible refine LH.x_test ?_
  | with_reducible refine LH.x_tB ?_
  | with_reducible refine LH.bx ?_
  | with_reducible refine LH.x_and ?_
  | with_reducible refine LH.x_or ?_
  | with_reducible refine LH.x_not ?_
  | with_reducible refine LH.x_ret ?_
  | with_reducible refine LH.x_call ?_
  | with_reducible refine LH.x_cb ?_
  | with_reducible refine LH.x_lst ?_
  | with_reducible refine LH.x_tup ?_
  | with_reducible refine LH.x_bm ?_
  | with_reducible refine LH.x_drop ?_
  | with_reducible refine LH.x_next ?_
  | with_reducible refine LH.x_cont ?_
  | with_reducible refine LH.x_un ?_
  | with_reducible refine LH.x_U ?_
  | with_reducible refine LH.x_eq (by with_unfolding_all exact rfl) ?_
  | with_reducible refine LH.x_ne (by with_unfolding_all exact rfl) ?_
  | with_reducible refine LH.x_andV ?_
  | with_reducible refine LH.x_orV ?_
  | with_reducible refine LH.x_notV ?_
  | with_reducible refine LH.band ?_
  | with_reducible refine LH.bor ?_
  | with_reducible refine LH.x_if ?_
  | with_reducible refine LH.x_chain ?_
  | with_reducible refine LH.chk ?_
  | with_reducible refine LH.x_callS ?_
  | with_reducible refine LH.x_callE ?_
  | with_reducible refine LH.x_callV ?_
  | with_reducible refine LH.x_lrg ?_
  | with_reducible refine LH.x_lcS ?_
  | with_reducible refine LH.x_lcR1 ?_
  | with_reducible refine LH.x_forR1 ?_
  | with_reducible refine LH.x_forR3 ?_
  | with_reducible refine LH.strv ?_
  | with_reducible refine LH.x_yes ?_
  | with_reducible refine LH.x_sl ?_
  | with_reducible refine LH.x_noPart ?_
  | with_reducible refine LH.x_part ?_
  | with_reducible refine LH.pav ?_
  | with_reducible refine LH.x_jnv ?_
  | with_reducible refine LH.x_join ?_
  | with_reducible refine LH.x_inS ?_
  | with_reducible refine LH.x_niS ?_
  | with_reducible refine LH.x_isB ?_
  | with_reducible refine LH.x_isnB ?_
  | with_reducible refine LH.x_gcons ?_
  | with_reducible refine LH.x_gnil ?_
  | with_reducible refine LH.x_intB ?_
  | with_reducible refine LH.x_orT ?_
  | with_reducible refine LH.x_isTy ?_
  | with_reducible refine LH.x_niTy ?_
  | with_reducible refine LH.x_split ?_
  | with_reducible refine LH.x_spv ?_
  | with_reducible refine LH.x_gsub ?_
  | with_reducible refine LH.x_fmt ?_
  | with_reducible refine LH.x_js0 ?_
  | with_reducible refine LH.x_js ?_
  | with_reducible refine LH.x_rg1 ?_
  | with_reducible refine LH.x_forL ?_
  | with_reducible refine LH.x_abs ?_
  | with_reducible refine LH.x_rg2 ?_
  | with_reducible refine LH.rg1v ?_
  | with_reducible refine LH.rg2v ?_
  | with_reducible refine LH.x_forR2 ?_
  | with_reducible refine LH.x_lenSetG ?_
  | with_reducible refine LH.x_lc ?_
  | with_reducible refine LH.x_fld ?_
  | with_reducible refine LH.x_sfld ?_
  | with_reducible refine LH.x_afld ?_
  | with_reducible refine LH.x_meth ?_
  | with_reducible refine LH.x_make ?_
  | with_reducible refine LH.x_methSl ?_
  | with_reducible refine LH.x_makeSl ?_
  | with_reducible refine LH.x_din ?_
  | with_reducible refine LH.x_dni ?_
  | with_reducible refine LH.x_dget ?_
  | with_reducible refine LH.x_dput ?_
  | with_reducible refine LH.x_dget2 ?_
  | with_reducible refine LH.x_dpop1 ?_
  | with_reducible refine LH.x_litems ?_
  | with_reducible refine LH.x_tru ?_
  | with_reducible refine LH.x_revL ?_
  | with_reducible refine LH.x_stepL ?_
  | with_reducible refine LH.x_forE ?_
  | with_reducible refine LH.x_dsetT ?_
  | with_reducible refine LH.x_lvals ?_
  | with_reducible refine LH.br_nt ?_
  | with_reducible refine LH.br_nf ?_
  | with_reducible refine LH.br_t ?_
  | with_reducible refine LH.br_f ?_)
local macro_rules | `(tactic| walk_at "rd") => `(tactic| repeat (walk_at "rd1"))
local macro_rules | `(tactic| walk_at "rs1") => `(tactic| first
  | with_reducible refine LH.x_seq ?_
  | with_reducible refine LH.x_cons ?_
  | with_reducible refine LH.x_var (by with_unfolding_all exact rfl) ?_
  | with_reducible refine LH.x_c ?_
  | with_reducible refine LH.x_op ?_
  | with_reducible refine LH.x_gname ?_
  | with_reducible refine LH.x_nil ?_
  | with_reducible refine LH.x_I0 ?_
  | ((with_reducible refine LH.x_I ?k1 ?_); (case k1 => first | exact (by decide) | exact ⟨by decide, by decide⟩ | exact ⟨by decide, by decide, by decide⟩ | exact .inl ⟨by decide, by decide⟩ | exact .inr ⟨by decide, by decide⟩ | exact .inr ⟨by omega, by omega⟩ | exact .inl ⟨by omega, by omega⟩ | exact (by omega)))
  | with_reducible refine LH.x_test ?_
  | with_reducible refine LH.x_tB ?_
  | with_reducible refine LH.bx ?_
  | with_reducible refine LH.x_and ?_
  | with_reducible refine LH.x_or ?_
  | with_reducible refine LH.x_not ?_
  | with_reducible refine LH.x_call ?_
  | with_reducible refine LH.x_cb ?_
  | with_reducible refine LH.x_lst ?_
  | with_reducible refine LH.x_tup ?_
  | with_reducible refine LH.x_bm ?_
  | with_reducible refine LH.x_next ?_
  | with_reducible refine LH.x_cont ?_
  | with_reducible refine LH.x_un ?_
  | with_reducible refine LH.x_U ?_
  | with_reducible refine LH.x_eq (by with_unfolding_all exact rfl) ?_
  | with_reducible refine LH.x_ne (by with_unfolding_all exact rfl) ?_
  | with_reducible refine LH.x_andV ?_
  | with_reducible refine LH.x_orV ?_
  | with_reducible refine LH.x_notV ?_
  | with_reducible refine LH.band ?_
  | with_reducible refine LH.bor ?_
  | with_reducible refine LH.x_if ?_
  | with_reducible refine LH.x_chain ?_
  | with_reducible refine LH.chk ?_
  | with_reducible refine LH.x_callS ?_
  | with_reducible refine LH.x_callE ?_
  | with_reducible refine LH.x_callV ?_
  | with_reducible refine LH.x_lrg ?_
  | with_reducible refine LH.x_lcS ?_
  | with_reducible refine LH.x_lcR1 ?_
  | with_reducible refine LH.strv ?_
  | with_reducible refine LH.x_yes ?_
  | with_reducible refine LH.x_sl ?_
  | with_reducible refine LH.x_noPart ?_
  | with_reducible refine LH.x_part ?_
  | with_reducible refine LH.pav ?_
  | with_reducible refine LH.x_jnv ?_
  | with_reducible refine LH.x_join ?_
  | with_reducible refine LH.x_inS ?_
  | with_reducible refine LH.x_niS ?_
  | with_reducible refine LH.x_isB ?_
  | with_reducible refine LH.x_isnB ?_
  | with_reducible refine LH.x_gcons ?_
  | with_reducible refine LH.x_gnil ?_
  | with_reducible refine LH.x_intB ?_
  | with_reducible refine LH.x_orT ?_
  | with_reducible refine LH.x_isTy ?_
  | with_reducible refine LH.x_niTy ?_
  | with_reducible refine LH.x_split ?_
  | with_reducible refine LH.x_spv ?_
  | with_reducible refine LH.x_gsub ?_
  | with_reducible refine LH.x_fmt ?_
  | with_reducible refine LH.x_js0 ?_
  | with_reducible refine LH.x_js ?_
  | with_reducible refine LH.x_rg1 ?_
  | with_reducible refine LH.x_abs ?_
  | with_reducible refine LH.x_rg2 ?_
  | with_reducible refine LH.rg1v ?_
  | with_reducible refine LH.rg2v ?_
  | with_reducible refine LH.x_lenSetG ?_
  | with_reducible refine LH.x_lc ?_
  | with_reducible refine LH.x_fld ?_
  | with_reducible refine LH.x_sfld ?_
  | with_reducible refine LH.x_afld ?_
  | with_reducible refine LH.x_meth ?_
  | with_reducible refine LH.x_make ?_
  | with_reducible refine LH.x_methSl ?_
  | with_reducible refine LH.x_makeSl ?_
  | with_reducible refine LH.x_din ?_
  | with_reducible refine LH.x_dni ?_
  | with_reducible refine LH.x_dget ?_
  | with_reducible refine LH.x_dput ?_
  | with_reducible refine LH.x_dget2 ?_
  | with_reducible refine LH.x_dpop1 ?_
  | with_reducible refine LH.x_litems ?_
  | with_reducible refine LH.x_tru ?_
  | with_reducible refine LH.x_revL ?_
  | with_reducible refine LH.x_stepL ?_
  | with_reducible refine LH.x_dsetT ?_
  | with_reducible refine LH.x_lvals ?_
  | with_reducible refine LH.br_nt ?_
  | with_reducible refine LH.br_nf ?_
  | with_reducible refine LH.br_t ?_
  | with_reducible refine LH.br_f ?_)
local macro_rules | `(tactic| walk_at "rs") => `(tactic| repeat (walk_at "rs1"))

section
variable {P : Program} {w : World} {K : PySem.W.Frag} {mg : Str → Option Value} {base : Heap} {a : Ad}
def WtAt (F : Hp) (t : Addr) (l : Ltr) : Prop := ∃ u v, F t = some (.tup [.int l.n, .ref u]) ∧ F u = some (.tup [.int l.s, .int l.r, v]) ∧ WT F v l.w
theorem WtAt.up {F F' : Hp} {t : Addr} {l : Ltr} (e : Same F F') (h : WtAt F t l) : WtAt F' t l := let ⟨u, v, h1, h2, h3⟩ := h; ⟨u, v, e _ _ h1, e _ _ h2, h3.up e⟩
def ldat (l : Ltr) : PyData := .tuple [.int l.n, .tuple [.int l.s, .int l.r, l.w.dat]]
theorem wts_dp {K : PySem.W.Frag} {F H : Hp} (s : Same F H) : ∀ {ys : List Addr} {lt : List Ltr}, Paired (WtAt F) ys lt → DpAll K H (ys.map V.ref) (lt.map ldat)
  | _, _, .nil => .nil
  | _, _, .cons q r => .cons (let ⟨_, _, h1, h2, h3⟩ := q; .tup (SqT.of (s _ _ h1)) (.cons (.int _) (.cons (.tup (SqT.of (s _ _ h2)) (.cons (.int _) (.cons (.int _) (.cons (h3.up s).dp .nil)))) .nil))) (wts_dp s r)
theorem lay_wts {lt : List Ltr} (h : ∀ l ∈ lt, l.w.Ok) : Lay 5 (.list (lt.map ldat)) := lay_list fun d hd => by
  obtain ⟨l, hl, rfl⟩ := List.mem_map.mp hd
  refine lay_tup fun e he => ?_
  simp only [List.mem_cons, List.not_mem_nil, or_false] at he
  rcases he with rfl | rfl
  · exact lay_int _
  · refine lay_tup fun e he => ?_
    simp only [List.mem_cons, List.not_mem_nil, or_false] at he
    rcases he with rfl | rfl | rfl
    · exact lay_int _
    · exact lay_int _
    · exact Wrd.lay (h l hl)
theorem wt_new {CT CH CP : Addr} {M : List Addr} {H H' : Hp} {ta : TAd} {h : Int → HA} {ts : TSt} (S : TownAt CT CH CP M H ta h ts) (e : Same H H') {tl : List Addr} (ft : ∀ t ∈ tl, H t = none)
    (pr : Paired (fun (t : Addr) (l : Ltr) => ∃ u v, H' t = some (.tup [.int l.n, .ref u]) ∧ LH.Fr M H u = some (.tup [.int l.s, .int l.r, v]) ∧ WT (LH.Fr M H) v l.w) tl ts.lt) : Paired (WtAt (LH.Fr M H')) tl ts.lt := by
  have go : ∀ {tl : List Addr} {lt : List Ltr}, (∀ t ∈ tl, H t = none) → Paired (fun (t : Addr) (l : Ltr) => ∃ u v, H' t = some (.tup [.int l.n, .ref u]) ∧ LH.Fr M H u = some (.tup [.int l.s, .int l.r, v]) ∧ WT (LH.Fr M H) v l.w) tl lt → Paired (WtAt (LH.Fr M H')) tl lt := fun {tl} {lt} ft pr => by
    induction pr with
    | nil => exact .nil
    | cons q r ih =>
      refine .cons ?_ (ih fun t ht => ft t (List.mem_cons_of_mem _ ht))
      obtain ⟨u, v, q1, q2, q3⟩ := q
      exact ⟨u, v, LH.fr_of q1 (LH.not_in (ft _ List.mem_cons_self) S.al), LH.same_fr e _ _ q2, q3.up (LH.same_fr e)⟩
  exact go ft pr
theorem ints_dp {K : PySem.W.Frag} {H : Hp} : ∀ ns : List Int, DpAll K H (ns.map V.int) (ns.map PyData.int)
  | [] => .nil
  | n :: ns => .cons (.int n) (ints_dp ns)
theorem eqv_ints (ns : List Int) : PyData.eqv (.list (ns.map PyData.int)) (.list []) = decide (ns = []) := by
  cases ns <;> simp [PyData.eqv, PyData.eqvAll]
theorem lay_ints (ns : List Int) : Lay 2 (.list (ns.map PyData.int)) := lay_list fun d hd => by
  obtain ⟨i, _, rfl⟩ := List.mem_map.mp hd
  exact lay_int i
/-- the honest ones, rising, as they are listed -/
theorem honest_list {ln hn : List Int} {c : Int} (lh : ∀ x, 0 ≤ x → x < c → x ∉ ln → x ∈ hn) (lnb : ∀ x ∈ ln, x ∉ hn) : ∃ hs : List Int, ((LH.intsV 0 c.toNat).filter fun x => !decide (numV x ∈ ln)).map id = hs.map V.int ∧ (∀ x ∈ hs, x ∈ hn) ∧ (∀ x ∈ hn, 0 ≤ x → x < c → x ∈ hs) ∧ hs.length ≤ c.toNat ∧ hs.Nodup := by
  refine ⟨((List.range c.toNat).map fun i : Nat => (i : Int)).filter fun x => !decide (x ∈ ln), ?_, fun x hx => ?_, fun x hx h0 h1 => ?_, ?_, ?_⟩
  · rw [List.map_id]
    unfold LH.intsV
    rw [show (List.range c.toNat).map (fun i => V.int (0 + (i : Nat))) = ((List.range c.toNat).map fun i : Nat => (i : Int)).map V.int by rw [List.map_map]; refine List.map_congr_left fun i _ => ?_; simp, List.filter_map]
    rfl
  · obtain ⟨q1, q2⟩ := List.mem_filter.mp hx
    obtain ⟨i, hi, rfl⟩ := List.mem_map.mp q1
    have := List.mem_range.mp hi
    exact lh _ (by omega) (by omega) (by simpa using q2)
  · refine List.mem_filter.mpr ⟨List.mem_map.mpr ⟨x.toNat, List.mem_range.mpr (by omega), by omega⟩, ?_⟩
    have : x ∉ ln := fun m => lnb x m hx
    simpa using this
  · refine Nat.le_trans (List.length_filter_le _ _) ?_
    rw [List.length_map, List.length_range]
    exact Nat.le_refl _
  · refine List.Nodup.sublist List.filter_sublist ?_
    exact (List.pairwise_map).mpr (List.Pairwise.imp (fun h q => h (by omega)) List.nodup_range)
/-- what comes of a deed: no call, or one -/
def DeedR (H : Hp) (q : Addr) (ts ts' : TSt) : Prop :=
  (H q = some (.lst []) ∧ Rch ts ts') ∨ ∃ t x z, H q = some (.lst [.ref t]) ∧ H t = some (.tup [.int x, .str z]) ∧ x ∈ ts.hn ∧ isRowS z = true ∧ ts' = ts.call x z
def spDeed (CT CH CP : Addr) : Sp := fun vs H Q _ => ∃ (ta : TAd) (h : Int → HA) (ts : TSt) (M : List Addr) (cell : Int) (la ra : Addr) (ln : List Int) (z0 z1 : Str) (Ns : List Int) (L : Nat), vs = [.ref ta.p, .int ts.c, .ref la, .int cell, .ref ra] ∧ TownAt CT CH CP M H ta h ts ∧ Fine Ns L ts ∧ Ns.length ≤ 19 ∧ L ≤ 1100 ∧
  LH.Fr M H la = some (.lst (ln.map V.int)) ∧ LH.Fr M H ra = some (.lst [.str z0, .str z1]) ∧ isRowS z0 = true ∧ isRowS z1 = true ∧ ln.length ≤ 7 ∧ (∀ x, 0 ≤ x → x < ts.c → x ∉ ln → x ∈ ts.hn) ∧ (∀ x ∈ ln, 0 ≤ x ∧ x < ts.c ∧ x ∉ ts.hn) ∧
  ∀ H' M' h' ts' n q, TownAt CT CH CP M' H' ta h' ts' → Went M H (places ta h ts.hn) M' H' (places ta h' ts'.hn) → Fine (n :: Ns) (L + 56) ts' → DeedR (LH.Fr M' H') q ts ts' → Q (.ref q) H'
theorem ok__law_deed (T : Txt K mg a) : FnOk P w K mg base CX0 9 a._law_deed a.d__law_deed ["_law_town", "_law_count_here", "_law_liars_here", "_law_cell", "_law_rows"] (spDeed a.Town a.House a.Post) := by
  have G_Town_call := ok_Town_call (P := P) (w := w) (base := base) T
  have G_Town_bring := ok_Town_bring (P := P) (w := w) (base := base) T
  have G_Town_waiting := ok_Town_waiting (P := P) (w := w) (base := base) T
  have G__law_split := ok__law_split (P := P) (w := w) (base := base) T
  have G__law_lie := ok__law_lie (P := P) (w := w) (base := base) T
  refine T.F__law_deed.ok sc__law_deed (fun vs H Q E h => ?_) (fun cdv A outer s H vs Q E hr h => ?_)
  · obtain ⟨ta, h, ts, M, cell, la, ra, ln, z0, z1, Ns, L, rfl, _⟩ := h
    rfl
  · obtain ⟨ta, h, ts, M, cell, la, ra, ln, z0, z1, Ns, L, rfl, S, fine, nl, ll, gla, gra, r0, r1, ln7, lh, lnb, k⟩ := h
    have go := S.go
    have c1 := go.c1
    have c7 := fine.c7
    have row : ∀ i : Int, ∃ z : Str, atI [V.str z0, .str z1] (i % 2) = some (.str z) ∧ isRowS z = true := fun i => by
      obtain ⟨zr, hzr, ezr⟩ := at_n (l := [V.str z0, .str z1]) 2 rfl (by decide) i
      simp only [List.mem_cons, List.not_mem_nil, or_false] at hzr
      rcases hzr with rfl | rfl
      · exact ⟨_, ezr, r0⟩
      · exact ⟨_, ezr, r1⟩
    have HR_Town_call : Room 8 _ := hr.mono (by decide)
    have HR_Town_bring : Room 7 _ := hr.mono (by decide)
    have HR_Town_waiting : Room 2 _ := hr.mono (by decide)
    have HR__law_split : Room 8 _ := hr.mono (by decide)
    have HR__law_lie : Room 5 _ := hr.mono (by decide)
    refine ⟨_, (pss_cons (ps_setLc (i := 5) (own := [("_law_house", 6)]) (g := gName 6) rfl sc__law_deed.nd rfl rfl rfl (pi_range1 rfl T.n_range (pa_cons (pv 1) pa_nil)) (blkOk_by (N := N__law_deed) (sc := defScope s__law_deed) (by decide +kernel)) (fun _ _ _ _ _ => pg_name (i := 6) sc__law_deed.nd rfl (Or.inl rfl)) (fun _ _ _ _ _ => (pts_one (pt_cmpR (r := rIn K true) op_notIn_seq (pv 6) (pv 2) (by rfl)))) (fun _ _ _ _ _ => (pv 6)))
  (pss_cons (ps_set (i := 7) sc__law_deed.nd rfl (Or.inl rfl) (pe_op op_mod (pv 3) pe_int))
  (pss_cons (ps_set (i := 8) sc__law_deed.nd rfl (Or.inl rfl) (pe_op op_fdiv (pv 3) pe_int))
  (pss_cons (ps_if (PW.pt (pw_and (pt_cmpR op_lt (pv 7) pe_int (nomark _)) (pw_and1 (pt_cmpR (r := rNeD K) (op_neD hr.units) (pv 5) (pe_lst pa_nil) (nomark _)))))
    (pss_cons (ps_set (i := 6) sc__law_deed.nd rfl (Or.inl rfl) (pe_ix (r := rIxL K) ix_list (pv 5) (pe_op op_modN (pv 8) (pe_callB (r := LH.rLen K) LH.call_len rfl T.n_len (by decide +kernel) (pa_cons (pv 5) pa_nil))) (fun _ _ => rfl)))
    (pss_cons (ps_expr (pe_meth (pv 0) T.cl_Town T.me_Town_call G_Town_call HR_Town_call T.b_Town_call .nil LH.passN (pa_cons (pv 6) (pa_cons (pe_ix (r := rIxL K) ix_list (pv 4) (pe_op op_mod (pe_op op_fdiv (pv 8) pe_int) pe_int) (fun _ _ => rfl)) pa_nil))))
    (pss_one (ps_ret (pe_lst (pa_cons (pe_tup (pa_cons (pv 6) (pa_cons (pe_ix (r := rIxL K) ix_list (pv 4) (pe_op op_mod (pe_op op_fdiv (pv 8) pe_int) pe_int) (fun _ _ => rfl)) pa_nil))) pa_nil))))))
    pss_nil)
  (pss_cons (ps_if (PW.pt (pw_and (pt_cmpR op_eq (pv 7) pe_int (nomark _)) (pw_and1 (pt_cmpR (r := rNeD K) (op_neD hr.units) (pv 2) (pe_lst pa_nil) (nomark _)))))
    (pss_one (ps_expr (pe_call G__law_split HR__law_split rfl T.g__law_split T.F__law_split.kp T.b__law_split .nil pass0 (pa_cons (pv 0) (pa_cons (pv 1) (pa_cons (pv 2) (pa_cons (pv 8) (pa_cons (pv 4) pa_nil))))))))
    (pss_one (ps_if (PW.pt (pw_and (pt_cmpR op_eq (pv 7) pe_int (nomark _)) (pw_and1 (pt_cmpR (r := rNeD K) (op_neD hr.units) (pv 2) (pe_lst pa_nil) (nomark _)))))
      (pss_one (ps_expr (pe_call G__law_lie HR__law_lie rfl T.g__law_lie T.F__law_lie.kp T.b__law_lie .nil pass0 (pa_cons (pv 0) (pa_cons (pv 1) (pa_cons (pv 2) (pa_cons (pv 8) (pa_cons (pv 4) pa_nil))))))))
      (pss_one (ps_for PassesOwn.never rfl (pi_range1 rfl T.n_range (pa_cons (pe_op op_add pe_int (pe_op op_mod (pv 8) pe_int)) pa_nil)) (pg_name (i := 9) sc__law_deed.nd rfl (Or.inl rfl))
        (pss_cons (ps_set (i := 10) sc__law_deed.nd rfl (Or.inl rfl) (pe_meth0 (pv 0) T.cl_Town T.me_Town_waiting G_Town_waiting HR_Town_waiting T.b_Town_waiting .nil pass0))
        (pss_one (ps_if (pt_cmpR (r := rNeD K) (op_neD hr.units) (pv 10) (pe_lst pa_nil) (nomark _))
          (pss_one (ps_expr (pe_meth (pv 0) T.cl_Town T.me_Town_bring G_Town_bring HR_Town_bring T.b_Town_bring .nil LH.passN (pa_cons (pe_ix (r := rIxT K) ix_tup (pe_ix (r := rIxL K) ix_list (pv 10) (pe_op op_modN (pe_op op_add (pe_op op_fdiv (pv 8) pe_int) (pe_op op_mul pe_int (pv 9))) (pe_callB (r := LH.rLen K) LH.call_len rfl T.n_len (by decide +kernel) (pa_cons (pv 10) pa_nil))) (fun _ _ => rfl)) pe_int (fun _ _ => rfl)) pa_nil))))
          pss_nil))))))))
  (pss_one (ps_ret (pe_lst pa_nil)))))))), ?_⟩
    walk_at "rd"
    refine LH.rn1v (by omega) (by omega) ?_
    refine LH.lc_R (by omega) (fun x => !decide (numV x ∈ ln)) id (fun _ => rfl) ?_ ?_ fun hp H1 f1 e1 g1 => ?_
    · intro x hx H3 e3 Q3 q3
      obtain ⟨j, _, rfl⟩ := List.mem_map.mp hx
      walk_at "rd"
      refine LH.x_notInI (SqL.of (e3 _ _ (LH.fr_le _ _ gla))) ?_
      walk_at "rd"
      exact q3 _ (Same.refl _)
    · intro x hx _ H3 e3 Q3 q3
      obtain ⟨j, _, rfl⟩ := List.mem_map.mp hx
      walk_at "rd"
      exact q3 _ (Same.refl _)
    obtain ⟨hs, ehs, hs1, hs2, hs3, _⟩ := honest_list lh fun x hx => (lnb x hx).2.2
    rw [ehs] at g1
    have S1 := S.same e1
    have gla1 := LH.same_fr e1 _ _ gla
    have gra1 := LH.same_fr e1 _ _ gra
    have ghp := LH.fr_of g1 (LH.not_in f1 S.al)
    walk_at "rs"
    refine LH.x_asg ?_
    walk_at "rs"
    refine LH.x_asg ?_
    walk_at "rs"
    obtain ⟨way, hway, w0, w1⟩ : ∃ n : Int, cell % 8 = n ∧ 0 ≤ n ∧ n < 8 := ⟨_, rfl, by omega, by omega⟩
    obtain ⟨more, hmore⟩ : ∃ n : Int, cell / 8 = n := ⟨_, rfl⟩
    rw [hway, hmore]
    have lmap : (ln.map V.int).length = ln.length := List.length_map _
    have neV : ∀ (ns : List Int) (p q : Addr) (H' : Hp) (Q' : VK), H' p = some (.lst (ns.map V.int)) → H' q = some (.lst []) → Q' (.bl (!decide (ns = []))) H' → rNeD K (.ref p) (.ref q) H' Q' := fun ns p q H' Q' g1 g2 q' => by
      refine LH.x_neD (.lst (SqL.of g1) (ints_dp ns)) (.lst (SqL.of g2) .nil) (lay_ints ns).shaped (by decide +kernel) ?_
      rw [eqv_ints]
      exact q'
    refine LH.cutS (fun σ' H' => σ' = [some (.ref ta.p), some (.int ts.c), some (.ref la), some (.int cell), some (.ref ra), some (.ref hp), none, some (.int way), some (.int more), none, none] ∧ Same H1 H') (fun NN hN => ?_) ?_
    · walk_at "rd"
      refine LH.br (fun _ => ?_) (fun _ => ?_)
      · walk_at "rd"
        refine LH.newl (LH.small rfl) fun p2 H2 f2 e2 g2 => ?_
        walk_at "rd"
        refine neV hs _ _ _ _ (e2 _ _ g1) g2 ?_
        by_cases cy : hs = []
        · rw [decide_eq_true cy]
          walk_at "rd"
          exact hN _ _ ⟨rfl, e2⟩
        · rw [decide_eq_false cy]
          have S2 := S1.same e2
          have hpos : 0 < (hs.map V.int).length := by
            rw [List.length_map]
            exact List.length_pos_iff.mpr cy
          walk_at "rd"
          refine LH.x_lenL (SqL.of (e2 _ _ g1)) ?_
          refine LH.x_I (by omega) ?_
          walk_at "rd"
          obtain ⟨jj, v, hj, ev⟩ := at_mod (l := hs.map V.int) rfl hpos more
          refine LH.x_ixL (v := v) (SqL.of (e2 _ _ g1)) ev ?_
          obtain ⟨x, hx, rfl⟩ := List.mem_map.mp (List.mem_of_getElem? hj)
          have hx := hs1 x hx
          obtain ⟨z, ez, hz⟩ := row (more / 12)
          walk_at "rd"
          obtain ⟨dx2, hp2⟩ := S2.ob
          refine LH.methv hp2 rfl ?_
          walk_at "rd"
          refine LH.x_ixL (v := .str z) (SqL.of (e2 _ _ (LH.fr_le _ _ gra1))) ez ?_
          walk_at "rd"
          refine sp_call S2 (fewF go fine (by omega) (by omega)) hx hz fun H3 N h3 r xs tn f3 g3 => ?_
          have p3 := (Pl.start S2).town tn
          have gra3 := p3.w.fr _ _ (LH.same_fr e2 _ _ gra1)
          walk_at "rd"
          refine LH.x_ixL (v := .str z) (SqL.of (LH.fr_le _ _ gra3)) ez ?_
          walk_at "rd"
          refine LH.newt (LH.small rfl) fun t H4 f4 e4 g4 => ?_
          walk_at "rd"
          have p4 := p3.same e4
          have gt4 := p3.new f4 g4
          refine LH.newl (LH.small rfl) fun q H5 f5 e5 g5 => ?_
          have p5 := p4.same e5
          have gq := p4.new f5 g5
          have d9 := (fine.few go (by omega) (by omega)).2.2.2.2 x hx
          exact k H5 _ h3 _ (ts.st x).due q p5.t ((Went.same S.inM (e1.trans e2)).trans p5.w) ((fine.call go hx hz (by omega)).more (fun _ q => q) (by omega)) (.inr ⟨t, x, z, gq, LH.same_fr e5 _ _ gt4, hx, hz, rfl⟩)
      · walk_at "rd"
        exact hN _ _ ⟨rfl, Same.refl _⟩
    rintro σ' H2 ⟨rfl, e2⟩
    have S2 := S1.same e2
    have gla2 := LH.same_fr e2 _ _ gla1
    have gra2 := LH.same_fr e2 _ _ gra1
    have w02 := Went.same S.inM (e1.trans e2)
    have fin : ∀ H' M' h' ts' n, TownAt a.Town a.House a.Post M' H' ta h' ts' → Went M H (places ta h ts.hn) M' H' (places ta h' ts'.hn) → Rch ts ts' → Fine (n :: Ns) (L + 56) ts' → LH.NewL [] H' Q := fun H' M' h' ts' n S' w' rc' fn' => LH.newl (LH.small rfl) fun q H3 f3 e3 g3 =>
      k H3 M' h' ts' n q (S'.same e3) (w'.trans (Went.same S'.inM e3)) fn' (.inl ⟨LH.fr_of g3 (LH.not_in f3 S'.al), rc'⟩)
    have none_ : ∀ H' n, Same H2 H' → LH.NewL [] H' Q := fun H' n e' => fin H' M h ts n (S2.same e') (w02.trans (Went.same S2.inM e')) .refl (fine.more (fun _ q => List.mem_cons_of_mem _ q) (by omega))
    have lne : ∀ {p : Addr} {H' : Hp} {Q' : VK}, Same H2 H' → H' p = some (.lst []) → Q' (.bl (!decide (ln = []))) H' → rNeD K (.ref la) (.ref p) H' Q' := fun e' g' q' => neV ln _ _ _ _ (e' _ _ (LH.fr_le _ _ gla2)) g' q'
    walk_at "rs"
    refine LH.x_ifS ?_
    refine LH.cutT (fun b H' => Same H2 H' ∧ (b = true → ln ≠ [])) (fun N hN => ?_) ?_
    · walk_at "rd"
      refine LH.br (fun _ => ?_) (fun _ => ?_)
      · walk_at "rd"
        refine LH.newl (LH.small rfl) fun p3 H3 f3 e3 g3 => ?_
        walk_at "rd"
        refine lne e3 g3 ?_
        walk_at "rd"
        exact hN _ _ ⟨e3, fun q => by simpa using q⟩
      · walk_at "rd"
        exact hN _ _ ⟨Same.refl _, fun q => nomatch q⟩
    rintro b2 H3 ⟨e3, q3⟩
    have S3 := S2.same e3
    have w03 := w02.trans (Went.same S2.inM e3)
    have gla3 := LH.same_fr e3 _ _ gla2
    have gra3 := LH.same_fr e3 _ _ gra2
    refine LH.br (fun b => ?_) (fun _ => ?_)
    · walk_at "rd"
      refine ⟨ta, h, ts, M, _, la, ra, ln, z0, z1, Ns, L, rfl, S3, fine, nl, ll, gla3, gra3, r0, r1, q3 b, ln7, lh, lnb, fun H4 M4 h4 ts4 n S4 w4 rc4 fn4 => ?_⟩
      walk_at "rd"
      exact fin H4 M4 h4 ts4 n S4 (w03.trans w4) rc4 fn4
    walk_at "rs"
    refine LH.x_ifS ?_
    refine LH.cutT (fun b H' => Same H3 H' ∧ (b = true → ln ≠ [])) (fun N hN => ?_) ?_
    · walk_at "rd"
      refine LH.br (fun _ => ?_) (fun _ => ?_)
      · walk_at "rd"
        refine LH.newl (LH.small rfl) fun p4 H4 f4 e4 g4 => ?_
        walk_at "rd"
        refine lne (e3.trans e4) g4 ?_
        walk_at "rd"
        exact hN _ _ ⟨e4, fun q => by simpa using q⟩
      · walk_at "rd"
        exact hN _ _ ⟨Same.refl _, fun q => nomatch q⟩
    rintro b3 H4 ⟨e4, q4⟩
    have S4 := S3.same e4
    have w04 := w03.trans (Went.same S3.inM e4)
    have gla4 := LH.same_fr e4 _ _ gla3
    have gra4 := LH.same_fr e4 _ _ gra3
    refine LH.br (fun b => ?_) (fun _ => ?_)
    · walk_at "rd"
      refine ⟨ta, h, ts, M, _, la, ra, ln, z0, z1, Ns, L, rfl, S4, fine, nl, ll, gla4, gra4, r0, r1, q4 b, ln7, lnb, fun H5 M5 h5 ts5 n S5 w5 rc5 fn5 => ?_⟩
      walk_at "rd"
      exact fin H5 M5 h5 ts5 n S5 (w04.trans w5) rc5 fn5
    walk_at "rd"
    refine LH.rn1v (by omega) (by omega) ?_
    refine LH.for_R1 (fun n σ H' => ∃ o9 o10, σ = [some (.ref ta.p), some (.int ts.c), some (.ref la), some (.int cell), some (.ref ra), some (.ref hp), none, some (.int way), some (.int more), o9, o10] ∧ ∃ M' h' ts', Pl a.Town a.House a.Post M H4 (places ta h ts.hn) [] M' H' ta h' ts' ∧ Rch ts ts' ∧ Fine Ns L ts') ?_ ?_ ?_
    · exact ⟨none, none, rfl, M, h, ts, Pl.start S4, .refl, fine⟩
    · rintro n σ H5 hn ⟨o9, o10, rfl, M5, h5, t5, p5, rc5, fn5⟩
      walk_at "rd"
      obtain ⟨dx5, hp5⟩ := p5.t.ob
      refine LH.methv hp5 rfl ?_
      walk_at "rd"
      refine ⟨ta, h5, t5, M5, rfl, p5.t, fun wl H6 tl e6 f6 ft g6 pr => ?_⟩
      have p6 := p5.same e6
      have pr := wt_new p5.t e6 ft pr
      have lw := LH.Paired.len pr
      have few5 := fewF p5.t.go fn5 (by omega) (by omega)
      have fl := few5.l
      walk_at "rd"
      refine LH.newl (LH.small rfl) fun p7 H7 f7 e7 g7 => ?_
      have p7_ := p6.same e7
      have g67 := e7 _ _ g6
      have pr7 := LH.Paired.imp (fun _ _ q => WtAt.up (LH.same_fr (M := M5) e7) q) pr
      have okL : ∀ l ∈ t5.lt, l.w.Ok := fun l hl => (p5.t.go.lw l hl).1.1
      refine LH.x_neD (.lst (SqL.of g67) (wts_dp LH.fr_le pr7)) (.lst (SqL.of g7) .nil) (lay_wts okL).shaped (by decide +kernel) ?_
      have eqn : PyData.eqv (.list (t5.lt.map ldat)) (.list []) = decide (t5.lt = []) := by
        cases t5.lt <;> simp [PyData.eqv, PyData.eqvAll]
      rw [eqn]
      by_cases c4 : t5.lt = []
      · rw [decide_eq_true c4]
        walk_at "rd"
        exact ⟨_, _, rfl, M5, h5, t5, p7_, rc5, fn5⟩
      · rw [decide_eq_false c4]
        have spos : 0 < (tl.map V.ref).length := by
          rw [List.length_map, lw]
          exact List.length_pos_iff.mpr c4
        walk_at "rd"
        obtain ⟨dx7, hp7⟩ := p7_.t.ob
        refine LH.methv hp7 rfl ?_
        walk_at "rd"
        refine LH.x_lenL (SqL.of g67) ?_
        refine LH.x_I (by omega) ?_
        walk_at "rd"
        obtain ⟨jj, v, hj, ev⟩ := at_mod (l := tl.map V.ref) rfl spos (more / 9 + 5 * (0 + (n : Int)))
        refine LH.x_ixL (v := v) (SqL.of g67) ev ?_
        rw [List.getElem?_map] at hj
        obtain ⟨tt, htt, rfl⟩ := Option.map_eq_some_iff.mp hj
        obtain ⟨l, hl, u, vv, q1, q2, q3⟩ := paired_at pr7 htt
        walk_at "rd"
        refine LH.x_ixT (SqT.of (LH.fr_le _ _ q1)) rfl ?_
        walk_at "rd"
        refine sp_bring p7_.t few5 (List.mem_of_getElem? hl) rfl fun H8 N h8 r xs tn _ _ => ?_
        walk_at "rd"
        have ml := List.mem_of_getElem? hl
        exact ⟨_, _, rfl, _, h8, _, p7_.town tn, rc5.step (.bring ml), fn5.bring p5.t.go ml⟩
    · rintro σ H5 ⟨o9, o10, rfl, M5, h5, t5, p5, rc5, fn5⟩
      walk_at "rd"
      exact fin H5 M5 h5 t5 0 p5.t (w04.trans p5.w) rc5 (fn5.more (fun _ q => List.mem_cons_of_mem _ q) (by omega))
end
end KB
namespace KB
open PySem L2 LM HM TN
local macro_rules | `(tactic| walk_at "rd1") => `(tactic| first
  | with_reducible refine LH.x_seq ?_
  | with_reducible refine LH.x_asg ?_
  | with_reducible refine LH.x_cons ?_
  | with_reducible refine LH.x_var (by with_unfolding_all exact rfl) ?_
  | with_reducible refine LH.x_c ?_
  | with_reducible refine LH.x_op ?_
  | with_reducible refine LH.x_gname ?_
  | with_reducible refine LH.x_nil ?_
  | with_reducible refine LH.x_I0 ?_
  | ((with_reducible refine LH.x_I ?k1 ?_); (case k1 => first | exact (by decide) | exact ⟨by decide, by decide⟩ | exact ⟨by decide, by decide, by decide⟩ | exact .inl ⟨by decide, by decide⟩ | exact .inr ⟨by decide, by decide⟩ | exact .inr ⟨by omega, by omega⟩ | exact .inl ⟨by omega, by omega⟩ | exact (by omega)))
  | with_reducible refine LH.x_ifS ?_
  | with_reducible refine LH.x_test ?_
  | with_reducible refine LH.x_tB ?_
  | with_reducible refine LH.bx ?_
  | with_reducible refine LH.x_and ?_
  | with_reducible refine LH.x_or ?_
  | with_reducible refine LH.x_not ?_
  | with_reducible refine LH.x_ret ?_
  | with_reducible refine LH.x_call ?_
  | with_reducible refine LH.x_cb ?_
  | with_reducible refine LH.x_lst ?_
  | with_reducible refine LH.x_tup ?_
  | with_reducible refine LH.x_bm ?_
  | with_reducible refine LH.x_drop ?_
  | with_reducible refine LH.x_next ?_
  | with_reducible refine LH.x_cont ?_
  | with_reducible refine LH.x_un ?_
  | with_reducible refine LH.x_U ?_
  | with_reducible refine LH.x_eq (by with_unfolding_all exact rfl) ?_
  | with_reducible refine LH.x_ne (by with_unfolding_all exact rfl) ?_
  | with_reducible refine LH.x_andV ?_
  | with_reducible refine LH.x_orV ?_
  | with_reducible refine LH.x_notV ?_
  | with_reducible refine LH.band ?_
  | with_reducible refine LH.bor ?_
  | with_reducible refine LH.x_if ?_
  | with_reducible refine LH.x_chain ?_
  | with_reducible refine LH.chk ?_
  | with_reducible refine LH.x_callS ?_
  | with_reducible refine LH.x_callE ?_
  | with_reducible refine LH.x_callV ?_
  | with_reducible refine LH.x_lrg ?_
  | with_reducible refine LH.x_lcS ?_
  | with_reducible refine LH.x_lcR1 ?_
  | with_reducible refine LH.x_forR1 ?_
  | with_reducible refine LH.x_forR3 ?_
  | with_reducible refine LH.strv ?_
  | with_reducible refine LH.x_yes ?_
  | with_reducible refine LH.x_sl ?_
  | with_reducible refine LH.x_noPart ?_
  | with_reducible refine LH.x_part ?_
  | with_reducible refine LH.pav ?_
  | with_reducible refine LH.x_jnv ?_
  | with_reducible refine LH.x_join ?_
  | with_reducible refine LH.x_inS ?_
  | with_reducible refine LH.x_niS ?_
  | with_reducible refine LH.x_isB ?_
  | with_reducible refine LH.x_isnB ?_
  | with_reducible refine LH.x_gcons ?_
  | with_reducible refine LH.x_gnil ?_
  | with_reducible refine LH.x_intB ?_
  | with_reducible refine LH.x_orT ?_
  | with_reducible refine LH.x_isTy ?_
  | with_reducible refine LH.x_niTy ?_
  | with_reducible refine LH.x_split ?_
  | with_reducible refine LH.x_spv ?_
  | with_reducible refine LH.x_gsub ?_
  | with_reducible refine LH.x_fmt ?_
  | with_reducible refine LH.x_js0 ?_
  | with_reducible refine LH.x_js ?_
  | with_reducible refine LH.x_rg1 ?_
  | with_reducible refine LH.x_forL ?_
  | with_reducible refine LH.x_abs ?_
  | with_reducible refine LH.x_rg2 ?_
  | with_reducible refine LH.rg1v ?_
  | with_reducible refine LH.rg2v ?_
  | with_reducible refine LH.x_forR2 ?_
  | with_reducible refine LH.x_lenSetG ?_
  | with_reducible refine LH.x_lc ?_
  | with_reducible refine LH.x_fld ?_
  | with_reducible refine LH.x_sfld ?_
  | with_reducible refine LH.x_afld ?_
  | with_reducible refine LH.x_meth ?_
  | with_reducible refine LH.x_make ?_
  | with_reducible refine LH.x_methSl ?_
  | with_reducible refine LH.x_makeSl ?_
  | with_reducible refine LH.x_din ?_
  | with_reducible refine LH.x_dni ?_
  | with_reducible refine LH.x_dget ?_
  | with_reducible refine LH.x_dput ?_
  | with_reducible refine LH.x_dget2 ?_
  | with_reducible refine LH.x_dpop1 ?_
  | with_reducible refine LH.x_litems ?_
  | with_reducible refine LH.x_tru ?_
  | with_reducible refine LH.x_revL ?_
  | with_reducible refine LH.x_stepL ?_
  | with_reducible refine LH.x_forE ?_
  | with_reducible refine LH.x_dsetT ?_
  | with_reducible refine LH.x_lvals ?_
  | with_reducible refine LH.br_nt ?_
  | with_reducible refine LH.br_nf ?_
  | with_reducible refine LH.br_t ?_
  | with_reducible refine LH.br_f ?_)
local macro_rules | `(tactic| walk_at "rd") => `(tactic| repeat (walk_at "rd1"))
local macro_rules | `(tactic| walk_at "rs1") => `(tactic| first
  | with_reducible refine LH.x_seq ?_
  | with_reducible refine LH.x_cons ?_
  | with_reducible refine LH.x_var (by with_unfolding_all exact rfl) ?_
  | with_reducible refine LH.x_c ?_
  | with_reducible refine LH.x_op ?_
  | with_reducible refine LH.x_gname ?_
  | with_reducible refine LH.x_nil ?_
  | with_reducible refine LH.x_I0 ?_
  | ((with_reducible refine LH.x_I ?k1 ?_); (case k1 => first | exact (by decide) | exact ⟨by decide, by decide⟩ | exact ⟨by decide, by decide, by decide⟩ | exact .inl ⟨by decide, by decide⟩ | exact .inr ⟨by decide, by decide⟩ | exact .inr ⟨by omega, by omega⟩ | exact .inl ⟨by omega, by omega⟩ | exact (by omega)))
  | with_reducible refine LH.x_test ?_
  | with_reducible refine LH.x_tB ?_
  | with_reducible refine LH.bx ?_
  | with_reducible refine LH.x_and ?_
  | with_reducible refine LH.x_or ?_
  | with_reducible refine LH.x_not ?_
  | with_reducible refine LH.x_call ?_
  | with_reducible refine LH.x_cb ?_
  | with_reducible refine LH.x_lst ?_
  | with_reducible refine LH.x_tup ?_
  | with_reducible refine LH.x_bm ?_
  | with_reducible refine LH.x_next ?_
  | with_reducible refine LH.x_cont ?_
  | with_reducible refine LH.x_un ?_
  | with_reducible refine LH.x_U ?_
  | with_reducible refine LH.x_eq (by with_unfolding_all exact rfl) ?_
  | with_reducible refine LH.x_ne (by with_unfolding_all exact rfl) ?_
  | with_reducible refine LH.x_andV ?_
  | with_reducible refine LH.x_orV ?_
  | with_reducible refine LH.x_notV ?_
  | with_reducible refine LH.band ?_
  | with_reducible refine LH.bor ?_
  | with_reducible refine LH.x_if ?_
  | with_reducible refine LH.x_chain ?_
  | with_reducible refine LH.chk ?_
  | with_reducible refine LH.x_callS ?_
  | with_reducible refine LH.x_callE ?_
  | with_reducible refine LH.x_callV ?_
  | with_reducible refine LH.x_lrg ?_
  | with_reducible refine LH.x_lcS ?_
  | with_reducible refine LH.x_lcR1 ?_
  | with_reducible refine LH.strv ?_
  | with_reducible refine LH.x_yes ?_
  | with_reducible refine LH.x_sl ?_
  | with_reducible refine LH.x_noPart ?_
  | with_reducible refine LH.x_part ?_
  | with_reducible refine LH.pav ?_
  | with_reducible refine LH.x_jnv ?_
  | with_reducible refine LH.x_join ?_
  | with_reducible refine LH.x_inS ?_
  | with_reducible refine LH.x_niS ?_
  | with_reducible refine LH.x_isB ?_
  | with_reducible refine LH.x_isnB ?_
  | with_reducible refine LH.x_gcons ?_
  | with_reducible refine LH.x_gnil ?_
  | with_reducible refine LH.x_intB ?_
  | with_reducible refine LH.x_orT ?_
  | with_reducible refine LH.x_isTy ?_
  | with_reducible refine LH.x_niTy ?_
  | with_reducible refine LH.x_split ?_
  | with_reducible refine LH.x_spv ?_
  | with_reducible refine LH.x_gsub ?_
  | with_reducible refine LH.x_fmt ?_
  | with_reducible refine LH.x_js0 ?_
  | with_reducible refine LH.x_js ?_
  | with_reducible refine LH.x_rg1 ?_
  | with_reducible refine LH.x_abs ?_
  | with_reducible refine LH.x_rg2 ?_
  | with_reducible refine LH.rg1v ?_
  | with_reducible refine LH.rg2v ?_
  | with_reducible refine LH.x_lenSetG ?_
  | with_reducible refine LH.x_lc ?_
  | with_reducible refine LH.x_fld ?_
  | with_reducible refine LH.x_sfld ?_
  | with_reducible refine LH.x_afld ?_
  | with_reducible refine LH.x_meth ?_
  | with_reducible refine LH.x_make ?_
  | with_reducible refine LH.x_methSl ?_
  | with_reducible refine LH.x_makeSl ?_
  | with_reducible refine LH.x_din ?_
  | with_reducible refine LH.x_dni ?_
  | with_reducible refine LH.x_dget ?_
  | with_reducible refine LH.x_dput ?_
  | with_reducible refine LH.x_dget2 ?_
  | with_reducible refine LH.x_dpop1 ?_
  | with_reducible refine LH.x_litems ?_
  | with_reducible refine LH.x_tru ?_
  | with_reducible refine LH.x_revL ?_
  | with_reducible refine LH.x_stepL ?_
  | with_reducible refine LH.x_dsetT ?_
  | with_reducible refine LH.x_lvals ?_
  | with_reducible refine LH.br_nt ?_
  | with_reducible refine LH.br_nf ?_
  | with_reducible refine LH.br_t ?_
  | with_reducible refine LH.br_f ?_)
local macro_rules | `(tactic| walk_at "rs") => `(tactic| repeat (walk_at "rs1"))

section
variable {P : Program} {w : World} {K : PySem.W.Frag} {mg : Str → Option Value} {base : Heap} {a : Ad}
def spEn : Sp := fun vs H Q _ => ∃ c : Int, vs = [.int c] ∧ 1 ≤ c ∧ c ≤ 12 ∧ Q (.int (en c)) H
theorem ok__law_enough (T : Txt K mg a) : FnOk P w K mg base CX0 1 a._law_enough a.d__law_enough ["_law_count_here"] spEn := by
  refine T.F__law_enough.ok sc__law_enough (fun vs H Q E h => ?_) (fun cdv A outer s H vs Q E hr h => ?_)
  · obtain ⟨c, rfl, _⟩ := h
    rfl
  · obtain ⟨c, rfl, c1, c2, k⟩ := h
    refine ⟨_, (pss_cons (ps_for PassesOwn.never rfl (pi_range2 rfl T.n_range (pa_cons pe_int (pa_cons (pe_op op_add (pv 0) pe_int) pa_nil))) (pg_name (i := 1) sc__law_enough.nd rfl (Or.inl rfl))
    (pss_one (ps_if (PW.pt (pw_and (pt_cmpR op_gt (pe_op op_mul pe_int (pe_op op_sub (pe_op op_mul pe_int (pv 1)) (pv 0))) pe_int (nomark _)) (pw_and1 (pt_cmpR op_gt (pe_op op_sub (pe_op op_mul pe_int (pv 1)) (pv 0)) (pe_op op_fdiv (pe_op op_sub (pv 0) pe_int) pe_int) (nomark _)))))
      (pss_one (ps_ret (pv 1)))
      pss_nil)))
  (pss_one (ps_ret (pv 0)))), ?_⟩
    walk_at "rd"
    refine LH.rn2v ⟨by omega, by omega⟩ ⟨by omega, by omega⟩ ?_
    refine LH.for_R1 (fun i σ H' => (∃ o, σ = [some (.int c), o]) ∧ H' = H ∧ (i : Int) < en c) ⟨⟨_, rfl⟩, rfl, by unfold en; omega⟩ ?_ ?_
    · rintro i σ H0 hi ⟨⟨o, rfl⟩, rfl, hlt⟩
      unfold en at hlt k
      walk_at "rd"
      refine LH.br_d (fun h1 => ?_) (fun h1 => ?_)
      · walk_at "rd"
        refine LH.br_d (fun h2 => ?_) (fun h2 => ?_)
        · walk_at "rd"
          have e : 1 + (i : Int) = (c + (c - 1) / 3) / 2 + 1 := by omega
          rw [e]
          exact k
        · walk_at "rd"
          exact ⟨⟨_, rfl⟩, rfl, by unfold en; omega⟩
      · walk_at "rd"
        exact ⟨⟨_, rfl⟩, rfl, by unfold en; omega⟩
    · rintro σ H0 ⟨⟨o, rfl⟩, rfl, hlt⟩
      exfalso
      unfold en at hlt
      omega
theorem someI (l : List Int) : (l.map fun h => some (V.int h)).filterMap id = l.map V.int := by
  induction l with
  | nil => rfl
  | cons a l ih => rw [List.map_cons, List.filterMap_cons, ih]; rfl
theorem lay_mk {n : Int} {z : Str} (o : LM.Ok z) : Lay 2 (.tuple [.str "mark", .int n, .str z]) := lay_tup fun d hd => by
  simp only [List.mem_cons, List.not_mem_nil, or_false] at hd
  rcases hd with rfl | rfl | rfl
  · exact lay_str ok_markW
  · exact lay_int _
  · exact lay_str o
def spIsB (K : PySem.W.Frag) : Sp := fun vs H Q _ => ∃ (b sp : Addr) (c n : Int) (z : Str) (xs ys : List V) (ws ss : List Wrd), vs = [.ref b, .int c, .int n, .str z, .ref sp] ∧ H b = some (.lst xs) ∧ Paired (fun x w => WT H x w) xs ws ∧ H sp = some (.lst ys) ∧ Paired (fun x w => WT H x w) ys ss ∧ (∀ w ∈ ss, w.Ok) ∧
  (∀ w ∈ ws, w.k = "mark" ∧ w.n = n ∧ w.r = z ∧ w ∈ ss) ∧ (ws.map (·.h)).Nodup ∧ 1 ≤ c ∧ c ≤ 12 ∧ en c ≤ ws.length ∧ ws.length ≤ 50 ∧ LM.Ok z ∧ ∀ H', Same H H' → Q (.bl true) H'
theorem ok__law_is_backing (T : Txt K mg a) : FnOk P w K mg base CX0 2 a._law_is_backing a.d__law_is_backing ["_law_backing", "_law_count_here", "_law_number", "_law_row_here", "_law_spoken"] (spIsB K) := by
  have G__law_enough := ok__law_enough (P := P) (w := w) (base := base) T
  refine T.F__law_is_backing.ok sc__law_is_backing (fun vs H Q E h => ?_) (fun cdv A outer s H vs Q E hr h => ?_)
  · obtain ⟨b, sp, c, n, z, xs, ys, ws, ss, rfl, _⟩ := h
    rfl
  · obtain ⟨b, sp, c, n, z, xs, ys, ws, ss, rfl, gb, pb, gs, ps, okS, hw, nd, c1, c2, le, lw, oz, k⟩ := h
    have lx := LH.Paired.len pb
    have HR__law_enough : Room 1 _ := hr.mono (by decide)
    refine ⟨_, (pss_cons (ps_for PassesOwn.never rfl (pi_list (pv 0)) (pg_name (i := 5) sc__law_is_backing.nd rfl (Or.inl rfl))
    (pss_one (ps_if (PW.pt (pw_or (pt_cmpR (r := rNeD K) (op_neD hr.units) (pe_slice (r := rSlA K) sl_tupA (pv 5) po_none (po_some pe_int)) (pe_tup (pa_cons pe_str (pa_cons (pv 2) (pa_cons (pv 3) pa_nil)))) (nomark _)) (pw_or1 (pt_cmpR (r := rNotInD K) (op_notInD (LH.units65 hr)) (pv 5) (pv 4) (by rfl)))))
      (pss_one (ps_ret pe_bl))
      pss_nil)))
  (pss_one (ps_ret (pe_and (pe_cmpR op_eq (LH.pe_lenSetG rfl rfl T.n_len rfl T.n_set (pe_lc (own := [("_law_word", 5)]) (g := gName 5) (tt := tYes) rfl sc__law_is_backing.nd (pi_list (pv 0)) (blkOk_by (N := N__law_is_backing) (sc := defScope s__law_is_backing) (by decide +kernel)) (fun _ _ _ _ _ => pg_name (i := 5) sc__law_is_backing.nd rfl (Or.inl rfl)) (fun _ _ _ _ _ => pts_nil) (fun _ _ _ _ _ => (pe_ix (r := rIxT K) ix_tup (pv 5) pe_int (fun _ _ => rfl))))) (pe_callB (r := LH.rLen K) LH.call_len rfl T.n_len (by decide +kernel) (pa_cons (pv 0) pa_nil)) (nomark _)) (pe_one (pe_cmpR op_ge (pe_callB (r := LH.rLen K) LH.call_len rfl T.n_len (by decide +kernel) (pa_cons (pv 0) pa_nil)) (pe_call G__law_enough HR__law_enough rfl T.g__law_enough T.F__law_enough.kp T.b__law_enough .nil pass0 (pa_cons (pv 1) pa_nil)) (nomark _))))))), ?_⟩
    walk_at "rd"
    refine LH.for_L (SqL.of gb) (fun j σ H' => ∃ o5, σ = [some (.ref b), some (.int c), some (.int n), some (.str z), some (.ref sp), o5] ∧ Same H H') ⟨none, rfl, Same.refl _⟩ (fun j σ H' _ ⟨_, _, e⟩ => SqL.of (e _ _ gb)) ?_ ?_
    · rintro j x σ H' hx ⟨o5, rfl, e⟩
      obtain ⟨u, hu, t, rfl, gt⟩ := paired_at pb hx
      obtain ⟨q1, q2, q3, q4⟩ := hw u (List.mem_of_getElem? hu)
      walk_at "rd"
      refine LH.x_slA (SqT.of (e _ _ gt)) fun p2 H2 e2 g2 => ?_
      walk_at "rd"
      refine LH.newt (LH.small rfl) fun p3 H3 f3 e3 g3 => ?_
      have g2' : SqT K H3 p2 [.str u.k, .int u.n, .str u.r] := LH.Same.seqT e3 g2
      rw [q1, q2, q3] at g2'
      refine LH.x_neD (.tup g2' (.cons (.str _) (.cons (.int _) (.cons (.str _) .nil)))) (.tup (SqT.of g3) (.cons (.str _) (.cons (.int _) (.cons (.str _) .nil)))) (lay_mk oz).shaped (lay_mk oz).shaped ?_
      rw [(lay_mk oz).refl]
      walk_at "rd"
      have e03 := (e.trans e2).trans e3
      refine ⟨u.dat, ss.map Wrd.dat, WT.dp (⟨t, rfl, e03 _ _ gt⟩ : WT H3 (.ref t) u), .lst (SqL.of (e03 _ _ gs)) (words_dp e03 ps), (Wrd.lay (okS u q4)).shaped, (lay_words okS).shaped, ?_⟩
      rw [any_dat, decide_eq_true q4]
      walk_at "rd"
      exact ⟨_, rfl, e03⟩
    · rintro σ H' ⟨o5, rfl, e⟩
      walk_at "rd"
      refine LH.lc_Li (SqL.of (e _ _ gb)) (by omega) ((ws.map (·.h)).map fun h => some (V.int h)) (by rw [List.length_map, List.length_map, lx]) (fun _ => rfl) ?_ ?_ fun p1 H1 f1 e1 g1 => ?_
      · intro i x o hx ho H3 e3 Q3 q3
        rw [List.getElem?_map] at ho
        obtain ⟨h, _, rfl⟩ := Option.map_eq_some_iff.mp ho
        walk_at "rd"
        exact q3 _ (Same.refl _)
      · intro i x y hx ho H3 e3 Q3 q3
        obtain ⟨u, hu, t, rfl, gt⟩ := paired_at pb hx
        rw [List.getElem?_map, List.getElem?_map, hu] at ho
        injection ho with ho
        injection ho with ho
        subst ho
        walk_at "rd"
        exact LH.x_ixT (SqT.of (e3 _ _ (e _ _ gt))) rfl (q3 _ (Same.refl _))
      walk_at "rd"
      have g1 : H1 p1 = some (.lst ((ws.map (·.h)).map V.int)) := by
        rw [g1, someI]
      refine LH.lsv (SqL.of g1) (by rw [List.length_map]; omega) ?_
      walk_at "rd"
      refine LH.x_lenL (SqL.of (e1 _ _ (e _ _ gb))) ?_
      walk_at "rd"
      rw [(LH.dist_eq _).mpr nd, List.length_map]
      refine LH.br_eq (b' := true) (by simp [lx]) ?_
      walk_at "rd"
      refine LH.x_lenL (SqL.of (e1 _ _ (e _ _ gb))) ?_
      walk_at "rd"
      refine ⟨c, rfl, c1, c2, ?_⟩
      walk_at "rd"
      rw [decide_eq_true (by omega)]
      exact k _ (e.trans e1)
def spNmR (K : PySem.W.Frag) : Sp := fun vs H Q _ => ∃ (nl la sp : Addr) (ln : List Int) (xs ys : List V) (zs : List (Int × Wrd × Wrd)) (ss : List Wrd), vs = [.ref nl, .ref la, .ref sp] ∧ H nl = some (.lst xs) ∧ Paired (Nm H) xs zs ∧ H la = some (.lst (ln.map V.int)) ∧ H sp = some (.lst ys) ∧ Paired (fun x w => WT H x w) ys ss ∧ (∀ w ∈ ss, w.Ok) ∧
  (∀ z ∈ zs, z.1 ∈ ln ∧ z.2.1 ∈ ss ∧ z.2.2 ∈ ss ∧ z.2.1.h = z.1 ∧ z.2.2.h = z.1 ∧ z.2.1.k = z.2.2.k ∧ z.2.1.n = z.2.2.n ∧ z.2.1.r ≠ z.2.2.r) ∧ (zs.map (·.1)).Nodup ∧ zs.length ≤ 50 ∧ ∀ H', Same H H' → Q (.bl true) H'
theorem ok__law_named_right (T : Txt K mg a) : FnOk P w K mg base CX0 1 a._law_named_right a.d__law_named_right ["_law_names", "_law_liars_here", "_law_spoken"] (spNmR K) := by
  refine T.F__law_named_right.ok sc__law_named_right (fun vs H Q E h => ?_) (fun cdv A outer s H vs Q E hr h => ?_)
  · obtain ⟨nl, la, sp, ln, xs, ys, zs, ss, rfl, _⟩ := h
    rfl
  · obtain ⟨nl, la, sp, ln, xs, ys, zs, ss, rfl, gn, pn, gl, gs, ps, okS, hz, nd, lz, k⟩ := h
    have lx := LH.Paired.len pn
    refine ⟨_, (pss_cons (ps_for PassesOwn.never rfl (pi_list (pv 0)) (pg_tup rfl (pgs_cons (pg_name (i := 3) sc__law_named_right.nd rfl (Or.inl rfl)) (pgs_cons (pg_name (i := 4) sc__law_named_right.nd rfl (Or.inl rfl)) (pgs_cons (pg_name (i := 5) sc__law_named_right.nd rfl (Or.inl rfl)) pgs_nil))))
    (pss_cons (ps_if (PW.pt (pw_or (pt_cmpR (r := rIn K true) op_notIn_seq (pv 3) (pv 1) (by rfl)) (pw_or (pt_cmpR (r := rNotInD K) (op_notInD (LH.units65 hr)) (pv 4) (pv 2) (by rfl)) (pw_or1 (pt_cmpR (r := rNotInD K) (op_notInD (LH.units65 hr)) (pv 5) (pv 2) (by rfl))))))
      (pss_one (ps_ret pe_bl))
      pss_nil)
    (pss_one (ps_if (PW.pt (pw_or (pt_cmpR op_ne (pe_ix (r := rIxT K) ix_tup (pv 4) pe_int (fun _ _ => rfl)) (pe_ix (r := rIxT K) ix_tup (pv 5) pe_int (fun _ _ => rfl)) (nomark _)) (pw_or (pt_cmpR op_ne (pe_ix (r := rIxT K) ix_tup (pv 4) pe_int (fun _ _ => rfl)) (pe_ix (r := rIxT K) ix_tup (pv 5) pe_int (fun _ _ => rfl)) (nomark _)) (pw_or (pt_cmpR op_ne (pe_ix (r := rIxT K) ix_tup (pv 4) pe_int (fun _ _ => rfl)) (pv 3) (nomark _)) (pw_or (pt_cmpR op_ne (pe_ix (r := rIxT K) ix_tup (pv 5) pe_int (fun _ _ => rfl)) (pv 3) (nomark _)) (pw_or1 (pt_cmpR op_eq (pe_ix (r := rIxT K) ix_tup (pv 4) pe_int (fun _ _ => rfl)) (pe_ix (r := rIxT K) ix_tup (pv 5) pe_int (fun _ _ => rfl)) (nomark _))))))))
      (pss_one (ps_ret pe_bl))
      pss_nil))))
  (pss_one (ps_ret (pe_cmpR op_eq (LH.pe_lenSetG rfl rfl T.n_len rfl T.n_set (pe_lc (own := [("_law_name", 6)]) (g := gName 6) (tt := tYes) rfl sc__law_named_right.nd (pi_list (pv 0)) (blkOk_by (N := N__law_named_right) (sc := defScope s__law_named_right) (by decide +kernel)) (fun _ _ _ _ _ => pg_name (i := 6) sc__law_named_right.nd rfl (Or.inl rfl)) (fun _ _ _ _ _ => pts_nil) (fun _ _ _ _ _ => (pe_ix (r := rIxT K) ix_tup (pv 6) pe_int (fun _ _ => rfl))))) (pe_callB (r := LH.rLen K) LH.call_len rfl T.n_len (by decide +kernel) (pa_cons (pv 0) pa_nil)) (nomark _))))), ?_⟩
    walk_at "rd"
    refine LH.for_Lg (SqL.of gn) (fun j σ H' => ∃ o3 o4 o5, σ = [some (.ref nl), some (.ref la), some (.ref sp), o3, o4, o5, none] ∧ Same H H') ⟨none, none, none, rfl, Same.refl _⟩ (fun j σ H' _ ⟨_, _, _, _, e⟩ => SqL.of (e _ _ gn)) ?_ ?_
    · rintro j x σ H' hx ⟨o3, o4, o5, rfl, e⟩
      obtain ⟨z, hzm, t, v1, v2, rfl, gt, ⟨t1, rfl, gt1⟩, ⟨t2, rfl, gt2⟩⟩ := paired_at pn hx
      obtain ⟨q1, q2, q3, q4, q5, q6, q7, q8⟩ := hz z (List.mem_of_getElem? hzm)
      refine LH.x_gtup (SqT.of (e _ _ gt)) rfl ?_
      walk_at "rd"
      refine LH.x_notInI (SqL.of (e _ _ gl)) ?_
      rw [decide_eq_true q1]
      walk_at "rd"
      refine ⟨z.2.1.dat, ss.map Wrd.dat, WT.dp (⟨t1, rfl, e _ _ gt1⟩ : WT H' (.ref t1) z.2.1), .lst (SqL.of (e _ _ gs)) (words_dp e ps), (Wrd.lay (okS _ q2)).shaped, (lay_words okS).shaped, ?_⟩
      rw [any_dat, decide_eq_true q2]
      walk_at "rd"
      refine ⟨z.2.2.dat, ss.map Wrd.dat, WT.dp (⟨t2, rfl, e _ _ gt2⟩ : WT H' (.ref t2) z.2.2), .lst (SqL.of (e _ _ gs)) (words_dp e ps), (Wrd.lay (okS _ q3)).shaped, (lay_words okS).shaped, ?_⟩
      rw [any_dat, decide_eq_true q3]
      walk_at "rd"
      refine LH.x_ixT (SqT.of (e _ _ gt1)) rfl ?_
      walk_at "rd"
      refine LH.x_ixT (SqT.of (e _ _ gt2)) rfl ?_
      walk_at "rd"
      refine LH.br_eq (b' := false) (by simp [q6]) ?_
      walk_at "rd"
      refine LH.x_ixT (SqT.of (e _ _ gt1)) rfl ?_
      walk_at "rd"
      refine LH.x_ixT (SqT.of (e _ _ gt2)) rfl ?_
      walk_at "rd"
      refine LH.br_eq (b' := false) (by simp [q7]) ?_
      walk_at "rd"
      refine LH.x_ixT (SqT.of (e _ _ gt1)) rfl ?_
      walk_at "rd"
      refine LH.br_eq (b' := false) (by simp [q4]) ?_
      walk_at "rd"
      refine LH.x_ixT (SqT.of (e _ _ gt2)) rfl ?_
      walk_at "rd"
      refine LH.br_eq (b' := false) (by simp [q5]) ?_
      walk_at "rd"
      refine LH.x_ixT (SqT.of (e _ _ gt1)) rfl ?_
      walk_at "rd"
      refine LH.x_ixT (SqT.of (e _ _ gt2)) rfl ?_
      walk_at "rd"
      refine LH.br_eq (b' := false) (by simp [q8]) ?_
      walk_at "rd"
      exact ⟨_, _, _, rfl, e⟩
    · rintro σ H' ⟨o3, o4, o5, rfl, e⟩
      walk_at "rd"
      refine LH.lc_Li (SqL.of (e _ _ gn)) (by omega) ((zs.map (·.1)).map fun h => some (V.int h)) (by rw [List.length_map, List.length_map, lx]) (fun _ => rfl) ?_ ?_ fun p1 H1 f1 e1 g1 => ?_
      · intro i x o hx ho H3 e3 Q3 q3
        rw [List.getElem?_map] at ho
        obtain ⟨h, _, rfl⟩ := Option.map_eq_some_iff.mp ho
        walk_at "rd"
        exact q3 _ (Same.refl _)
      · intro i x y hx ho H3 e3 Q3 q3
        obtain ⟨u, hu, t, v1, v2, rfl, gt, _, _⟩ := paired_at pn hx
        rw [List.getElem?_map, List.getElem?_map, hu] at ho
        injection ho with ho
        injection ho with ho
        subst ho
        walk_at "rd"
        exact LH.x_ixT (SqT.of (e3 _ _ (e _ _ gt))) rfl (q3 _ (Same.refl _))
      walk_at "rd"
      have g1 : H1 p1 = some (.lst ((zs.map (·.1)).map V.int)) := by
        rw [g1, someI]
      refine LH.lsv (SqL.of g1) (by rw [List.length_map]; omega) ?_
      walk_at "rd"
      refine LH.x_lenL (SqL.of (e1 _ _ (e _ _ gn))) ?_
      walk_at "rd"
      rw [(LH.dist_eq _).mpr nd, List.length_map, lx]
      have : decide (V.int (zs.length : Int) = V.int (zs.length : Int)) = true := by simp
      rw [this]
      exact k _ (e.trans e1)
end
end KB
namespace KB
open PySem L2 LM HM TN
local macro_rules | `(tactic| walk_at "rd1") => `(tactic| first
  | with_reducible refine LH.x_seq ?_
  | with_reducible refine LH.x_asg ?_
  | with_reducible refine LH.x_cons ?_
  | with_reducible refine LH.x_var (by with_unfolding_all exact rfl) ?_
  | with_reducible refine LH.x_c ?_
  | with_reducible refine LH.x_op ?_
  | with_reducible refine LH.x_gname ?_
  | with_reducible refine LH.x_nil ?_
  | with_reducible refine LH.x_I0 ?_
  | ((with_reducible refine LH.x_I ?k1 ?_); (case k1 => first | exact (by decide) | exact ⟨by decide, by decide⟩ | exact ⟨by decide, by decide, by decide⟩ | exact .inl ⟨by decide, by decide⟩ | exact .inr ⟨by decide, by decide⟩ | exact .inr ⟨by omega, by omega⟩ | exact .inl ⟨by omega, by omega⟩ | exact (by omega)))
  | with_reducible refine LH.x_ifS ?_
  | with_reducible refine LH.x_test ?_
  | with_reducible refine LH.x_tB ?_
  | with_reducible refine LH.bx ?_
  | with_reducible refine LH.x_and ?_
  | with_reducible refine LH.x_or ?_
  | with_reducible refine LH.x_not ?_
  | with_reducible refine LH.x_ret ?_
  | with_reducible refine LH.x_call ?_
  | with_reducible refine LH.x_cb ?_
  | with_reducible refine LH.x_lst ?_
  | with_reducible refine LH.x_tup ?_
  | with_reducible refine LH.x_bm ?_
  | with_reducible refine LH.x_drop ?_
  | with_reducible refine LH.x_next ?_
  | with_reducible refine LH.x_cont ?_
  | with_reducible refine LH.x_un ?_
  | with_reducible refine LH.x_U ?_
  | with_reducible refine LH.x_eq (by with_unfolding_all exact rfl) ?_
  | with_reducible refine LH.x_ne (by with_unfolding_all exact rfl) ?_
  | with_reducible refine LH.x_andV ?_
  | with_reducible refine LH.x_orV ?_
  | with_reducible refine LH.x_notV ?_
  | with_reducible refine LH.band ?_
  | with_reducible refine LH.bor ?_
  | with_reducible refine LH.x_if ?_
  | with_reducible refine LH.x_chain ?_
  | with_reducible refine LH.chk ?_
  | with_reducible refine LH.x_callS ?_
  | with_reducible refine LH.x_callE ?_
  | with_reducible refine LH.x_callV ?_
  | with_reducible refine LH.x_lrg ?_
  | with_reducible refine LH.x_lcS ?_
  | with_reducible refine LH.x_lcR1 ?_
  | with_reducible refine LH.x_forR1 ?_
  | with_reducible refine LH.x_forR3 ?_
  | with_reducible refine LH.strv ?_
  | with_reducible refine LH.x_yes ?_
  | with_reducible refine LH.x_sl ?_
  | with_reducible refine LH.x_noPart ?_
  | with_reducible refine LH.x_part ?_
  | with_reducible refine LH.pav ?_
  | with_reducible refine LH.x_jnv ?_
  | with_reducible refine LH.x_join ?_
  | with_reducible refine LH.x_inS ?_
  | with_reducible refine LH.x_niS ?_
  | with_reducible refine LH.x_isB ?_
  | with_reducible refine LH.x_isnB ?_
  | with_reducible refine LH.x_gcons ?_
  | with_reducible refine LH.x_gnil ?_
  | with_reducible refine LH.x_intB ?_
  | with_reducible refine LH.x_orT ?_
  | with_reducible refine LH.x_isTy ?_
  | with_reducible refine LH.x_niTy ?_
  | with_reducible refine LH.x_split ?_
  | with_reducible refine LH.x_spv ?_
  | with_reducible refine LH.x_gsub ?_
  | with_reducible refine LH.x_fmt ?_
  | with_reducible refine LH.x_js0 ?_
  | with_reducible refine LH.x_js ?_
  | with_reducible refine LH.x_rg1 ?_
  | with_reducible refine LH.x_forL ?_
  | with_reducible refine LH.x_abs ?_
  | with_reducible refine LH.x_rg2 ?_
  | with_reducible refine LH.rg1v ?_
  | with_reducible refine LH.rg2v ?_
  | with_reducible refine LH.x_forR2 ?_
  | with_reducible refine LH.x_lenSetG ?_
  | with_reducible refine LH.x_lc ?_
  | with_reducible refine LH.x_fld ?_
  | with_reducible refine LH.x_sfld ?_
  | with_reducible refine LH.x_afld ?_
  | with_reducible refine LH.x_meth ?_
  | with_reducible refine LH.x_make ?_
  | with_reducible refine LH.x_methSl ?_
  | with_reducible refine LH.x_makeSl ?_
  | with_reducible refine LH.x_din ?_
  | with_reducible refine LH.x_dni ?_
  | with_reducible refine LH.x_dget ?_
  | with_reducible refine LH.x_dput ?_
  | with_reducible refine LH.x_dget2 ?_
  | with_reducible refine LH.x_dpop1 ?_
  | with_reducible refine LH.x_litems ?_
  | with_reducible refine LH.x_tru ?_
  | with_reducible refine LH.x_revL ?_
  | with_reducible refine LH.x_stepL ?_
  | with_reducible refine LH.x_forE ?_
  | with_reducible refine LH.x_dsetT ?_
  | with_reducible refine LH.x_lvals ?_
  | with_reducible refine LH.br_nt ?_
  | with_reducible refine LH.br_nf ?_
  | with_reducible refine LH.br_t ?_
  | with_reducible refine LH.br_f ?_)
local macro_rules | `(tactic| walk_at "rd") => `(tactic| repeat (walk_at "rd1"))
local macro_rules | `(tactic| walk_at "rs1") => `(tactic| first
  | with_reducible refine LH.x_seq ?_
  | with_reducible refine LH.x_cons ?_
  | with_reducible refine LH.x_var (by with_unfolding_all exact rfl) ?_
  | with_reducible refine LH.x_c ?_
  | with_reducible refine LH.x_op ?_
  | with_reducible refine LH.x_gname ?_
  | with_reducible refine LH.x_nil ?_
  | with_reducible refine LH.x_I0 ?_
  | ((with_reducible refine LH.x_I ?k1 ?_); (case k1 => first | exact (by decide) | exact ⟨by decide, by decide⟩ | exact ⟨by decide, by decide, by decide⟩ | exact .inl ⟨by decide, by decide⟩ | exact .inr ⟨by decide, by decide⟩ | exact .inr ⟨by omega, by omega⟩ | exact .inl ⟨by omega, by omega⟩ | exact (by omega)))
  | with_reducible refine LH.x_test ?_
  | with_reducible refine LH.x_tB ?_
  | with_reducible refine LH.bx ?_
  | with_reducible refine LH.x_and ?_
  | with_reducible refine LH.x_or ?_
  | with_reducible refine LH.x_not ?_
  | with_reducible refine LH.x_call ?_
  | with_reducible refine LH.x_cb ?_
  | with_reducible refine LH.x_lst ?_
  | with_reducible refine LH.x_tup ?_
  | with_reducible refine LH.x_bm ?_
  | with_reducible refine LH.x_next ?_
  | with_reducible refine LH.x_cont ?_
  | with_reducible refine LH.x_un ?_
  | with_reducible refine LH.x_U ?_
  | with_reducible refine LH.x_eq (by with_unfolding_all exact rfl) ?_
  | with_reducible refine LH.x_ne (by with_unfolding_all exact rfl) ?_
  | with_reducible refine LH.x_andV ?_
  | with_reducible refine LH.x_orV ?_
  | with_reducible refine LH.x_notV ?_
  | with_reducible refine LH.band ?_
  | with_reducible refine LH.bor ?_
  | with_reducible refine LH.x_if ?_
  | with_reducible refine LH.x_chain ?_
  | with_reducible refine LH.chk ?_
  | with_reducible refine LH.x_callS ?_
  | with_reducible refine LH.x_callE ?_
  | with_reducible refine LH.x_callV ?_
  | with_reducible refine LH.x_lrg ?_
  | with_reducible refine LH.x_lcS ?_
  | with_reducible refine LH.x_lcR1 ?_
  | with_reducible refine LH.strv ?_
  | with_reducible refine LH.x_yes ?_
  | with_reducible refine LH.x_sl ?_
  | with_reducible refine LH.x_noPart ?_
  | with_reducible refine LH.x_part ?_
  | with_reducible refine LH.pav ?_
  | with_reducible refine LH.x_jnv ?_
  | with_reducible refine LH.x_join ?_
  | with_reducible refine LH.x_inS ?_
  | with_reducible refine LH.x_niS ?_
  | with_reducible refine LH.x_isB ?_
  | with_reducible refine LH.x_isnB ?_
  | with_reducible refine LH.x_gcons ?_
  | with_reducible refine LH.x_gnil ?_
  | with_reducible refine LH.x_intB ?_
  | with_reducible refine LH.x_orT ?_
  | with_reducible refine LH.x_isTy ?_
  | with_reducible refine LH.x_niTy ?_
  | with_reducible refine LH.x_split ?_
  | with_reducible refine LH.x_spv ?_
  | with_reducible refine LH.x_gsub ?_
  | with_reducible refine LH.x_fmt ?_
  | with_reducible refine LH.x_js0 ?_
  | with_reducible refine LH.x_js ?_
  | with_reducible refine LH.x_rg1 ?_
  | with_reducible refine LH.x_abs ?_
  | with_reducible refine LH.x_rg2 ?_
  | with_reducible refine LH.rg1v ?_
  | with_reducible refine LH.rg2v ?_
  | with_reducible refine LH.x_lenSetG ?_
  | with_reducible refine LH.x_lc ?_
  | with_reducible refine LH.x_fld ?_
  | with_reducible refine LH.x_sfld ?_
  | with_reducible refine LH.x_afld ?_
  | with_reducible refine LH.x_meth ?_
  | with_reducible refine LH.x_make ?_
  | with_reducible refine LH.x_methSl ?_
  | with_reducible refine LH.x_makeSl ?_
  | with_reducible refine LH.x_din ?_
  | with_reducible refine LH.x_dni ?_
  | with_reducible refine LH.x_dget ?_
  | with_reducible refine LH.x_dput ?_
  | with_reducible refine LH.x_dget2 ?_
  | with_reducible refine LH.x_dpop1 ?_
  | with_reducible refine LH.x_litems ?_
  | with_reducible refine LH.x_tru ?_
  | with_reducible refine LH.x_revL ?_
  | with_reducible refine LH.x_stepL ?_
  | with_reducible refine LH.x_dsetT ?_
  | with_reducible refine LH.x_lvals ?_
  | with_reducible refine LH.br_nt ?_
  | with_reducible refine LH.br_nf ?_
  | with_reducible refine LH.br_t ?_
  | with_reducible refine LH.br_f ?_)
local macro_rules | `(tactic| walk_at "rs") => `(tactic| repeat (walk_at "rs1"))

section
variable {P : Program} {w : World} {K : PySem.W.Frag} {mg : Str → Option Value} {base : Heap} {a : Ad}
def ndat (z : Int × Wrd × Wrd) : PyData := .tuple [.int z.1, z.2.1.dat, z.2.2.dat]
theorem names_dp {F H : Hp} (s : Same F H) : ∀ {ns : List V} {l : List (Int × Wrd × Wrd)}, Paired (Nm F) ns l → DpAll K H ns (l.map ndat)
  | _, _, .nil => .nil
  | _, _, .cons q r => by
    obtain ⟨t, v1, v2, rfl, ht, w1, w2⟩ := q
    exact .cons (.tup (SqT.of (s _ _ ht)) (.cons (.int _) (.cons (w1.up s).dp (.cons (w2.up s).dp .nil)))) (names_dp s r)
theorem lay_names {st : HS} (g : Good st) : Lay 4 (.list (st.named.map ndat)) := lay_list fun d hd => by
  obtain ⟨z, hz, rfl⟩ := List.mem_map.mp hd
  refine lay_tup fun d hd => ?_
  simp only [List.mem_cons, List.not_mem_nil, or_false] at hd
  rcases hd with rfl | rfl | rfl
  · exact lay_int _
  · exact Wrd.lay (g.wd _ (g.nk z hz).1).1
  · exact Wrd.lay (g.wd _ (g.nk z hz).2).1
theorem back_ok {st : HS} (g : Good st) {e : Int × List Wrd} (h : e ∈ st.backs) : ∀ w ∈ e.2, w.Ok := fun w hw => (g.wd w (g.bk e h w hw)).1
theorem x_isTup {K : PySem.W.Frag} {H : Hp} {F : Hp} {x : V} {z : Int × Wrd × Wrd} (s : Same F H) (q : Nm F x z) : TyB K H x "tuple" := by
  obtain ⟨t, v1, v2, rfl, ht, _⟩ := q
  exact .tup (SqT.of (s _ _ ht))
theorem led_keys {st : HS} : (ledK st).map (·.1) = st.nums.map Sum.inl := by
  unfold ledK
  rw [List.map_map]
  rfl
theorem led_flat {st : HS} : ∀ e ∈ ledK st, flatB e.2 = true := fun e he => by
  unfold ledK at he
  obtain ⟨n, _, rfl⟩ := List.mem_map.mp he
  rfl
theorem nums_len {st : HS} : st.nums.length = st.rows.length := by
  unfold HS.nums
  rw [(List.mergeSort_perm _ _).length_eq, List.length_map]
theorem back_none {st : HS} (g : Good st) {n : Int} (h : n ∉ st.rows.map (·.1)) : (st.backs.find? fun e => decide (e.1 = n)) = none := by
  refine List.find?_eq_none.mpr fun e he => ?_
  intro q
  refine h ?_
  rw [← g.bn]
  exact List.mem_map.mpr ⟨e, he, by simpa using q⟩
theorem back_some {st : HS} (g : Good st) {n : Int} (h : n ∈ st.rows.map (·.1)) : ∃ ws, (st.backs.find? fun e => decide (e.1 = n)) = some (n, ws) := by
  rw [← g.bn] at h
  obtain ⟨e0, he0, en⟩ := List.mem_map.mp h
  cases q : st.backs.find? fun e => decide (e.1 = n) with
  | none =>
    have := List.find?_eq_none.mp q e0 he0
    simp [en] at this
  | some e =>
    have : e.1 = n := by simpa using List.find?_some q
    exact ⟨e.2, by rw [← this]⟩
theorem rows_val {st : HS} {n : Int} (h : valV (st.rows.map fun e => ((Sum.inl e.1 : Key), V.str e.2)) (Sum.inl n) = none) : n ∉ st.rows.map (·.1) := fun q => by
  rw [rowAt_val q] at h
  cases h
theorem led_nd {st : HS} (g : Good st) : ((ledK st).map (·.1)).Nodup := by
  rw [led_keys]
  exact List.pairwise_map.mpr ((nums_nodup g).imp fun n q => n (Sum.inl.inj q))
theorem led_val {st : HS} (g : Good st) {n : Int} (h : n ∈ st.nums) : valV (ledK st) (Sum.inl n) = some (.str (st.rowAt n)) :=
  valV_self (led_nd g) (Sum.inl n, .str (st.rowAt n)) (List.mem_map.mpr ⟨n, h, rfl⟩)
def spGood (K : PySem.W.Frag) (CT CH CP : Addr) : Sp := fun vs H Q _ => ∃ (ta : TAd) (h : Int → HA) (ts : TSt) (M : List Addr) (la rd : Addr) (ln : List Int) (R : List (Key × V)) (Ns : List Int) (L : Nat), vs = [.ref ta.p, .int ts.c, .ref la, .ref rd] ∧ TownAt CT CH CP M H ta h ts ∧ Fine Ns L ts ∧ Ns.length ≤ 20 ∧ L ≤ 1200 ∧
  LH.Fr M H la = some (.lst (ln.map V.int)) ∧ rd ∈ M ∧ rd ∉ places ta h ts.hn ∧ H rd = some (.dK R) ∧ RowsD R ts ∧ R.length ≤ 9000 ∧ (ln.length : Int) ≤ (ts.c - 1) / 3 ∧ (∀ x, 0 ≤ x → x < ts.c → x ∉ ln → x ∈ ts.hn) ∧ (∀ x ∈ ln, x ∉ ts.hn) ∧
  ∀ H' M' R', TownAt CT CH CP M' H' ta h ts → Went M H ([rd] ++ places ta h ts.hn) M' H' ([rd] ++ places ta h ts.hn) → H' rd = some (.dK R') → RowsD R' ts → R'.length ≤ R.length + 140 → Q (.bl true) H'
theorem ok__law_good (T : Txt K mg a) : FnOk P w K mg base CX0 5 a._law_good a.d__law_good ["_law_town", "_law_count_here", "_law_liars_here", "_law_rows"] (spGood K a.Town a.House a.Post) := by
  have G_Town_spoken := ok_Town_spoken (P := P) (w := w) (base := base) T
  have G_Town_ledger := ok_Town_ledger (P := P) (w := w) (base := base) T
  have G_Town_backing := ok_Town_backing (P := P) (w := w) (base := base) T
  have G_Town_caught := ok_Town_caught (P := P) (w := w) (base := base) T
  have G__law_is_backing := ok__law_is_backing (P := P) (w := w) (base := base) T
  have G__law_named_right := ok__law_named_right (P := P) (w := w) (base := base) T
  refine T.F__law_good.ok sc__law_good (fun vs H Q E h => ?_) (fun cdv A outer s H vs Q E hr h => ?_)
  · obtain ⟨ta, h, ts, M, la, rd, ln, R, Ns, L, rfl, _⟩ := h
    rfl
  · obtain ⟨ta, h, ts, M, la, rd, ln, R, Ns, L, rfl, S, fine, nl, ll, gla, rdM, rdP, grd, rR, lR, few, lh, lnb, k⟩ := h
    have go := S.go
    have c1 := go.c1
    have c2 := go.c2
    have c7 := fine.c7
    have okS : ∀ w ∈ ts.sp, w.Ok := fun w hw => (go.sw w hw).1
    have liar : ∀ x : Int, 0 ≤ x → x < ts.c → x ∉ ts.hn → x ∈ ln := fun x h0 h1 n => Classical.byContradiction fun m => n (lh x h0 h1 m)
    have HR_Town_spoken : Room 1 _ := hr.mono (by decide)
    have HR_Town_ledger : Room 4 _ := hr.mono (by decide)
    have HR_Town_backing : Room 4 _ := hr.mono (by decide)
    have HR_Town_caught : Room 4 _ := hr.mono (by decide)
    have HR__law_is_backing : Room 2 _ := hr.mono (by decide)
    have HR__law_named_right : Room 1 _ := hr.mono (by decide)
    refine ⟨_, (pss_cons (ps_set (i := 4) sc__law_good.nd rfl (Or.inl rfl) (pe_meth0 (pv 0) T.cl_Town T.me_Town_spoken G_Town_spoken HR_Town_spoken T.b_Town_spoken .nil pass0))
  (pss_cons (ps_for PassesOwn.never rfl (pi_range1 rfl T.n_range (pa_cons (pv 1) pa_nil)) (pg_name (i := 5) sc__law_good.nd rfl (Or.inl rfl))
    (pss_one (ps_if (pt_cmpR (r := rIn K true) op_notIn_seq (pv 5) (pv 2) (by rfl))
      (pss_cons (ps_set (i := 6) sc__law_good.nd rfl (Or.inl rfl) (pe_meth (pv 0) T.cl_Town T.me_Town_ledger G_Town_ledger HR_Town_ledger T.b_Town_ledger .nil LH.passN (pa_cons (pv 5) pa_nil)))
      (pss_cons (ps_lock (ps_for PassesOwn.never rfl (pi_keys (pv 6)) (pg_name (i := 7) sc__law_good.nd rfl (Or.inl rfl))
        (pss_cons (ps_if (pt_cmpR op_ne (pe_dget2 (hu_of hr) (pv 3) (pv 7) (pe_dget (hu_of hr) (pv 6) (pv 7) (fun _ _ => rfl)) ⟨rfl, rfl, rfl, rfl⟩) (pe_dget (hu_of hr) (pv 6) (pv 7) (fun _ _ => rfl)) (nomark _))
          (pss_one (ps_ret pe_bl))
          pss_nil)
        (pss_cons (ps_dput (hu_of hr) (pv 3) (pv 7) (pe_dget (hu_of hr) (pv 6) (pv 7) (fun _ _ => rfl)) rfl)
        (pss_one (ps_if (pt_not (pt_val (pe_call G__law_is_backing HR__law_is_backing rfl T.g__law_is_backing T.F__law_is_backing.kp T.b__law_is_backing .nil pass0 (pa_cons (pe_meth (pv 0) T.cl_Town T.me_Town_backing G_Town_backing HR_Town_backing T.b_Town_backing .nil LH.passN (pa_cons (pv 5) (pa_cons (pv 7) pa_nil))) (pa_cons (pv 1) (pa_cons (pv 7) (pa_cons (pe_dget (hu_of hr) (pv 6) (pv 7) (fun _ _ => rfl)) (pa_cons (pv 4) pa_nil))))))))
          (pss_one (ps_ret pe_bl))
          pss_nil))))))
      (pss_one (ps_if (pt_not (pt_val (pe_call G__law_named_right HR__law_named_right rfl T.g__law_named_right T.F__law_named_right.kp T.b__law_named_right .nil pass0 (pa_cons (pe_meth (pv 0) T.cl_Town T.me_Town_caught G_Town_caught HR_Town_caught T.b_Town_caught .nil LH.passN (pa_cons (pv 5) pa_nil)) (pa_cons (pv 2) (pa_cons (pv 4) pa_nil))))))
        (pss_one (ps_ret pe_bl))
        pss_nil))))
      pss_nil)))
  (pss_one (ps_ret pe_bl)))), ?_⟩
    walk_at "rd"
    obtain ⟨dx, hp⟩ := S.ob
    refine LH.methv hp rfl ?_
    walk_at "rd"
    refine ⟨ta, h, ts, M, rfl, S, fun sp H1 bs f1 e1 g1 tw => ?_⟩
    have S1 := S.same e1
    have p1 := Pl.startE (E := [rd]) S1 (fun b hb => by rw [List.mem_singleton.mp hb]; exact rdP) (fun b hb => by rw [List.mem_singleton.mp hb]; exact rdM)
    have gla1 := LH.same_fr e1 _ _ gla
    have gsp := LH.fr_of g1 (LH.not_in f1 S.al)
    have tw1 : Paired (fun x w => WT (LH.Fr M H1) x w) (bs.map V.ref) ts.sp := LH.Paired.imp (fun _ _ q => q.up (LH.same_fr e1)) tw
    walk_at "rd"
    refine LH.rn1v (by omega) (by omega) ?_
    refine LH.for_R1 (fun i σ H' => ∃ o5 o6 o7, σ = [some (.ref ta.p), some (.int ts.c), some (.ref la), some (.ref rd), some (.ref sp), o5, o6, o7] ∧ ∃ M' R', Pl a.Town a.House a.Post M H1 ([rd] ++ places ta h ts.hn) [rd] M' H' ta h ts ∧ H' rd = some (.dK R') ∧ RowsD R' ts ∧ R'.length ≤ R.length + 20 * i) ?_ ?_ ?_
    · exact ⟨none, none, none, rfl, M, R, p1, e1 _ _ grd, rR, Nat.le_refl _⟩
    · rintro i σ H2 hi ⟨o5, o6, o7, rfl, M2, R2, p2, gr2, rR2, lR2⟩
      walk_at "rd"
      refine LH.x_notInI (SqL.of (p2.up gla1)) ?_
      rw [Int.zero_add]
      by_cases ci : (i : Int) ∈ ln
      · rw [decide_eq_true ci]
        walk_at "rd"
        exact ⟨_, _, _, rfl, M2, R2, p2, gr2, rR2, by omega⟩
      rw [decide_eq_false ci]
      have hx := lh i (by omega) (by omega) ci
      have gx := fine.s.gd i hx
      obtain ⟨hc, ho⟩ := go.hc i hx
      have fx := (fine.few go nl ll).2.2.2.2 i hx
      have hon : Hon ts (.int (i : Int)) i := ⟨rfl, hx⟩
      have un : ∀ j, Hon ts (.int (i : Int)) j → j = (i : Int) := fun j q => by have := q.1; injection this with this; exact this.symm
      walk_at "rd"
      obtain ⟨dx2, hp2⟩ := p2.t.ob
      refine LH.methv hp2 rfl ?_
      walk_at "rd"
      refine ⟨ta, h, ts, M2, .int (i : Int), _, rfl, p2.t, .int _, fun j hj => ⟨by rw [un j hj]; omega, fun fd H3 f3 e3 g3 => ?_⟩, fun q => absurd hon (q i)⟩
      rw [un j hj] at g3
      have p3 := p2.grow f3 e3 g3 (fun _ q => nomatch q)
      have fdr : fd ≠ rd := fun e => by rw [e, gr2] at f3; cases f3
      walk_at "rs"
      have gr3 := e3 _ _ gr2
      refine LH.lock_keys (kvs := ledK (ts.st i)) rfl g3 (fun od n σ H' => (∃ o7, σ = [some (.ref ta.p), some (.int ts.c), some (.ref la), some (.ref rd), some (.ref sp), some (.int (i : Int)), some (.ref fd), o7]) ∧ ∃ M' R', Pl a.Town a.House a.Post M H1 ([rd] ++ places ta h ts.hn) [fd, rd] M' H' ta h ts ∧ H' fd = some (.frz od (.dK (ledK (ts.st i)))) ∧ H' rd = some (.dK R') ∧ RowsD R' ts ∧ R'.length ≤ R2.length + n) ?_ ?_ ?_ ?_
      · intro od
        exact ⟨⟨_, rfl⟩, _, R2, p3.put (by simp) LH.Kp.upd upd_same (fun _ q => nomatch q), upd_same, by rw [upd_ne (Ne.symm fdr)]; exact gr3, rR2, Nat.le_refl _⟩
      · rintro od n σ H' ⟨_, M', R', _, q, _⟩
        exact q
      · rintro od n ky v σ H4 hkv ⟨⟨o7, rfl⟩, M4, R4, p4, gf4, gr4, rR4, lR4⟩
        obtain ⟨m, hm, em, ev⟩ : ∃ m ∈ (ts.st i).nums, ky = Sum.inl m ∧ v = .str ((ts.st i).rowAt m) := by
          have := List.mem_of_getElem? hkv
          unfold ledK at this
          obtain ⟨m, hm, e⟩ := List.mem_map.mp this
          injection e with e1 e2
          exact ⟨m, hm, e1.symm, e2.symm⟩
        subst em
        have ln20 : n < 20 := by
          have := (List.getElem?_eq_some_iff.mp hkv).1
          unfold ledK at this
          rw [List.length_map, nums_len] at this
          omega
        have hrow := row_in gx hm
        show gName 7 (V.int m) _ _ _
        walk_at "rd"
        refine LH.get2v (LH.isdK gr4) ?_
        walk_at "rd"
        refine LH.getv (LH.getIF gf4) (led_val gx hm) ?_
        refine LH.get2w (LH.getI gr4) ?_
        have eg : (valV R4 (Sum.inl m)).getD (.str ((ts.st i).rowAt m)) = .str ((ts.st i).rowAt m) := by
          cases q : valV R4 (Sum.inl m) with
          | none => rfl
          | some v =>
            obtain ⟨z, x, rfl, hx2, hz⟩ := rR4 m v q
            rw [fine.s.rows go liar few hx2 hx hz hrow]
            rfl
        rw [eg]
        walk_at "rd"
        refine LH.getv (LH.getIF gf4) (led_val gx hm) ?_
        walk_at "rd"
        refine LH.br_eq (b' := false) (by simp) ?_
        walk_at "rd"
        refine LH.getv (LH.getIF gf4) (led_val gx hm) ?_
        walk_at "rd"
        refine LH.putvI gr4 (by omega) fun H5 k5 g5 => ?_
        have p5 := p4.put (q := rd) (by simp) k5 g5 (fun _ q => nomatch q)
        have gf5 := k5 _ _ gf4 fdr
        obtain ⟨ws, hws⟩ := back_some gx (nums_mem.mp hm)
        walk_at "rd"
        obtain ⟨dx5, hp5⟩ := p5.t.ob
        refine LH.methv hp5 rfl ?_
        walk_at "rd"
        refine ⟨ta, h, ts, M4, .int (i : Int), .int m, _, _, rfl, p5.t, .int _, .int _, fun j hj => .inl ⟨m, ws, rfl, by rw [un j hj]; exact hws, fun rb H6 xs f6 e6 g6 tw6 => ?_⟩, fun q => absurd hon (q i)⟩
        have p6 := p5.same e6
        walk_at "rd"
        refine LH.getv (LH.getIF (e6 _ _ gf5)) (led_val gx hm) ?_
        walk_at "rd"
        obtain ⟨b1, b2, b3⟩ := backed_at gx (fine.s.bk i hx) hws
        have up6 : Same (LH.Fr M H1) H6 := p6.w.fr.trans LH.fr_le
        have gsp6 := up6 _ _ gsp
        have wl : ws.length ≤ 12 := by
          have := rng_len (c := ts.c) b2 fun x hx' => by
            obtain ⟨u, hu, rfl⟩ := List.mem_map.mp hx'
            have := (fine.s.gd i hx).wd u (b1 u hu).2.2.2
            rw [hc] at this
            exact this.2
          rw [List.length_map] at this
          omega
        refine ⟨rb, sp, ts.c, m, (ts.st i).rowAt m, xs, bs.map V.ref, ws, ts.sp, rfl, g6, LH.Paired.imp (fun _ _ q => q.up (LH.fr_le.trans e6)) tw6, gsp6, LH.Paired.imp (fun _ _ q => q.up up6) tw1, okS, fun u hu => ?_, b2, c1, c2, by rw [← hc]; exact b3, by omega, (gx.rk _ hrow), fun H7 e7 => ?_⟩
        · obtain ⟨a1, a2, a3, a4⟩ := b1 u hu
          exact ⟨a1, a2, a3, fine.s.kn i hx u a4⟩
        walk_at "rd"
        have e67 := e6.trans e7
        exact ⟨⟨_, rfl⟩, M4, _, p5.same e67, e67 _ _ gf5, e67 _ _ g5, rR4.put hx hrow, by have := putK_lenB (R := R4) (k := Sum.inl m) (v := .str ((ts.st i).rowAt m)); omega⟩
      · rintro od σ H4 ⟨⟨o7, rfl⟩, M4, R4, p4, gf4, gr4, rR4, lR4⟩
        have p5 := (p4.put (q := fd) (by simp) (LH.Kp.upd (o := .dK (ledK (ts.st i)))) upd_same (fun _ q => nomatch q)).less (E' := [rd]) fun b hb => List.mem_cons_of_mem _ hb
        have gr5 : upd H4 fd (.dK (ledK (ts.st i))) rd = some (.dK R4) := by rw [upd_ne (Ne.symm fdr)]; exact gr4
        generalize upd H4 fd (.dK (ledK (ts.st i))) = H5 at p5 gr5
        have ln20 : (ledK (ts.st i)).length ≤ 20 := by
          unfold ledK
          rw [List.length_map, nums_len]
          omega
        walk_at "rd"
        obtain ⟨dx5, hp5⟩ := p5.t.ob
        refine LH.methv hp5 rfl ?_
        walk_at "rd"
        refine ⟨ta, h, ts, M4, .int (i : Int), _, rfl, p5.t, .int _, fun j hj nl_ H6 ns f6 e6 g6 pn => ?_, fun q => absurd hon (q i)⟩
        rw [un j hj] at pn
        have p6 := p5.same e6
        have up6 : Same (LH.Fr M H1) H6 := p6.w.fr.trans LH.fr_le
        have nmx := fine.n i hx
        walk_at "rd"
        refine ⟨nl_, la, sp, ln, ns, bs.map V.ref, (ts.st i).named, ts.sp, rfl, g6, LH.Paired.imp (fun _ _ q => q.up (LH.fr_le.trans e6)) pn, up6 _ _ gla1, up6 _ _ gsp, LH.Paired.imp (fun _ _ q => q.up up6) tw1, okS, fun z hz => ?_, gx.nn, by omega, fun H7 e7 => ?_⟩
        · obtain ⟨n1, n2, n3⟩ := fine.n.liar go fine.s hx hz
          obtain ⟨h0, h1⟩ := fine.nm go hx z hz
          obtain ⟨m1, m2, m3, m4, m5⟩ := nmx z hz
          exact ⟨liar _ h0 h1 n1, n2, n3, m1, m2, m3, m4, m5⟩
        walk_at "rd"
        have e67 := e6.trans e7
        exact ⟨_, _, _, rfl, M4, R4, p5.same e67, e67 _ _ gr5, rR4, by omega⟩
    · rintro σ H2 ⟨o5, o6, o7, rfl, M2, R2, p2, gr2, rR2, lR2⟩
      walk_at "rd"
      exact k H2 M2 R2 p2.t ((Pl.startE (E := [rd]) S (fun b hb => by rw [List.mem_singleton.mp hb]; exact rdP) (fun b hb => by rw [List.mem_singleton.mp hb]; exact rdM)).same e1 |>.w.trans p2.w) gr2 rR2 (by omega)
end
end KB
namespace KB
open PySem L2 LM HM TN
local macro_rules | `(tactic| walk_at "rd1") => `(tactic| first
  | with_reducible refine LH.x_seq ?_
  | with_reducible refine LH.x_asg ?_
  | with_reducible refine LH.x_cons ?_
  | with_reducible refine LH.x_var (by with_unfolding_all exact rfl) ?_
  | with_reducible refine LH.x_c ?_
  | with_reducible refine LH.x_op ?_
  | with_reducible refine LH.x_gname ?_
  | with_reducible refine LH.x_nil ?_
  | with_reducible refine LH.x_I0 ?_
  | ((with_reducible refine LH.x_I ?k1 ?_); (case k1 => first | exact (by decide) | exact ⟨by decide, by decide⟩ | exact ⟨by decide, by decide, by decide⟩ | exact .inl ⟨by decide, by decide⟩ | exact .inr ⟨by decide, by decide⟩ | exact .inr ⟨by omega, by omega⟩ | exact .inl ⟨by omega, by omega⟩ | exact (by omega)))
  | with_reducible refine LH.x_ifS ?_
  | with_reducible refine LH.x_test ?_
  | with_reducible refine LH.x_tB ?_
  | with_reducible refine LH.bx ?_
  | with_reducible refine LH.x_and ?_
  | with_reducible refine LH.x_or ?_
  | with_reducible refine LH.x_not ?_
  | with_reducible refine LH.x_ret ?_
  | with_reducible refine LH.x_call ?_
  | with_reducible refine LH.x_cb ?_
  | with_reducible refine LH.x_lst ?_
  | with_reducible refine LH.x_tup ?_
  | with_reducible refine LH.x_bm ?_
  | with_reducible refine LH.x_drop ?_
  | with_reducible refine LH.x_next ?_
  | with_reducible refine LH.x_cont ?_
  | with_reducible refine LH.x_un ?_
  | with_reducible refine LH.x_U ?_
  | with_reducible refine LH.x_eq (by with_unfolding_all exact rfl) ?_
  | with_reducible refine LH.x_ne (by with_unfolding_all exact rfl) ?_
  | with_reducible refine LH.x_andV ?_
  | with_reducible refine LH.x_orV ?_
  | with_reducible refine LH.x_notV ?_
  | with_reducible refine LH.band ?_
  | with_reducible refine LH.bor ?_
  | with_reducible refine LH.x_if ?_
  | with_reducible refine LH.x_chain ?_
  | with_reducible refine LH.chk ?_
  | with_reducible refine LH.x_callS ?_
  | with_reducible refine LH.x_callE ?_
  | with_reducible refine LH.x_callV ?_
  | with_reducible refine LH.x_lrg ?_
  | with_reducible refine LH.x_lcS ?_
  | with_reducible refine LH.x_lcR1 ?_
  | with_reducible refine LH.x_forR1 ?_
  | with_reducible refine LH.x_forR3 ?_
  | with_reducible refine LH.strv ?_
  | with_reducible refine LH.x_yes ?_
  | with_reducible refine LH.x_sl ?_
  | with_reducible refine LH.x_noPart ?_
  | with_reducible refine LH.x_part ?_
  | with_reducible refine LH.pav ?_
  | with_reducible refine LH.x_jnv ?_
  | with_reducible refine LH.x_join ?_
  | with_reducible refine LH.x_inS ?_
  | with_reducible refine LH.x_niS ?_
  | with_reducible refine LH.x_isB ?_
  | with_reducible refine LH.x_isnB ?_
  | with_reducible refine LH.x_gcons ?_
  | with_reducible refine LH.x_gnil ?_
  | with_reducible refine LH.x_intB ?_
  | with_reducible refine LH.x_orT ?_
  | with_reducible refine LH.x_isTy ?_
  | with_reducible refine LH.x_niTy ?_
  | with_reducible refine LH.x_split ?_
  | with_reducible refine LH.x_spv ?_
  | with_reducible refine LH.x_gsub ?_
  | with_reducible refine LH.x_fmt ?_
  | with_reducible refine LH.x_js0 ?_
  | with_reducible refine LH.x_js ?_
  | with_reducible refine LH.x_rg1 ?_
  | with_reducible refine LH.x_forL ?_
  | with_reducible refine LH.x_abs ?_
  | with_reducible refine LH.x_rg2 ?_
  | with_reducible refine LH.rg1v ?_
  | with_reducible refine LH.rg2v ?_
  | with_reducible refine LH.x_forR2 ?_
  | with_reducible refine LH.x_lenSetG ?_
  | with_reducible refine LH.x_lc ?_
  | with_reducible refine LH.x_fld ?_
  | with_reducible refine LH.x_sfld ?_
  | with_reducible refine LH.x_afld ?_
  | with_reducible refine LH.x_meth ?_
  | with_reducible refine LH.x_make ?_
  | with_reducible refine LH.x_methSl ?_
  | with_reducible refine LH.x_makeSl ?_
  | with_reducible refine LH.x_din ?_
  | with_reducible refine LH.x_dni ?_
  | with_reducible refine LH.x_dget ?_
  | with_reducible refine LH.x_dput ?_
  | with_reducible refine LH.x_dget2 ?_
  | with_reducible refine LH.x_dpop1 ?_
  | with_reducible refine LH.x_litems ?_
  | with_reducible refine LH.x_tru ?_
  | with_reducible refine LH.x_revL ?_
  | with_reducible refine LH.x_stepL ?_
  | with_reducible refine LH.x_forE ?_
  | with_reducible refine LH.x_dsetT ?_
  | with_reducible refine LH.x_lvals ?_
  | with_reducible refine LH.br_nt ?_
  | with_reducible refine LH.br_nf ?_
  | with_reducible refine LH.br_t ?_
  | with_reducible refine LH.br_f ?_)
local macro_rules | `(tactic| walk_at "rd") => `(tactic| repeat (walk_at "rd1"))
local macro_rules | `(tactic| walk_at "rs1") => `(tactic| first
  | with_reducible refine LH.x_seq ?_
  | with_reducible refine LH.x_cons ?_
  | with_reducible refine LH.x_var (by with_unfolding_all exact rfl) ?_
  | with_reducible refine LH.x_c ?_
  | with_reducible refine LH.x_op ?_
  | with_reducible refine LH.x_gname ?_
  | with_reducible refine LH.x_nil ?_
  | with_reducible refine LH.x_I0 ?_
  | ((with_reducible refine LH.x_I ?k1 ?_); (case k1 => first | exact (by decide) | exact ⟨by decide, by decide⟩ | exact ⟨by decide, by decide, by decide⟩ | exact .inl ⟨by decide, by decide⟩ | exact .inr ⟨by decide, by decide⟩ | exact .inr ⟨by omega, by omega⟩ | exact .inl ⟨by omega, by omega⟩ | exact (by omega)))
  | with_reducible refine LH.x_test ?_
  | with_reducible refine LH.x_tB ?_
  | with_reducible refine LH.bx ?_
  | with_reducible refine LH.x_and ?_
  | with_reducible refine LH.x_or ?_
  | with_reducible refine LH.x_not ?_
  | with_reducible refine LH.x_call ?_
  | with_reducible refine LH.x_cb ?_
  | with_reducible refine LH.x_lst ?_
  | with_reducible refine LH.x_tup ?_
  | with_reducible refine LH.x_bm ?_
  | with_reducible refine LH.x_next ?_
  | with_reducible refine LH.x_cont ?_
  | with_reducible refine LH.x_un ?_
  | with_reducible refine LH.x_U ?_
  | with_reducible refine LH.x_eq (by with_unfolding_all exact rfl) ?_
  | with_reducible refine LH.x_ne (by with_unfolding_all exact rfl) ?_
  | with_reducible refine LH.x_andV ?_
  | with_reducible refine LH.x_orV ?_
  | with_reducible refine LH.x_notV ?_
  | with_reducible refine LH.band ?_
  | with_reducible refine LH.bor ?_
  | with_reducible refine LH.x_if ?_
  | with_reducible refine LH.x_chain ?_
  | with_reducible refine LH.chk ?_
  | with_reducible refine LH.x_callS ?_
  | with_reducible refine LH.x_callE ?_
  | with_reducible refine LH.x_callV ?_
  | with_reducible refine LH.x_lrg ?_
  | with_reducible refine LH.x_lcS ?_
  | with_reducible refine LH.x_lcR1 ?_
  | with_reducible refine LH.strv ?_
  | with_reducible refine LH.x_yes ?_
  | with_reducible refine LH.x_sl ?_
  | with_reducible refine LH.x_noPart ?_
  | with_reducible refine LH.x_part ?_
  | with_reducible refine LH.pav ?_
  | with_reducible refine LH.x_jnv ?_
  | with_reducible refine LH.x_join ?_
  | with_reducible refine LH.x_inS ?_
  | with_reducible refine LH.x_niS ?_
  | with_reducible refine LH.x_isB ?_
  | with_reducible refine LH.x_isnB ?_
  | with_reducible refine LH.x_gcons ?_
  | with_reducible refine LH.x_gnil ?_
  | with_reducible refine LH.x_intB ?_
  | with_reducible refine LH.x_orT ?_
  | with_reducible refine LH.x_isTy ?_
  | with_reducible refine LH.x_niTy ?_
  | with_reducible refine LH.x_split ?_
  | with_reducible refine LH.x_spv ?_
  | with_reducible refine LH.x_gsub ?_
  | with_reducible refine LH.x_fmt ?_
  | with_reducible refine LH.x_js0 ?_
  | with_reducible refine LH.x_js ?_
  | with_reducible refine LH.x_rg1 ?_
  | with_reducible refine LH.x_abs ?_
  | with_reducible refine LH.x_rg2 ?_
  | with_reducible refine LH.rg1v ?_
  | with_reducible refine LH.rg2v ?_
  | with_reducible refine LH.x_lenSetG ?_
  | with_reducible refine LH.x_lc ?_
  | with_reducible refine LH.x_fld ?_
  | with_reducible refine LH.x_sfld ?_
  | with_reducible refine LH.x_afld ?_
  | with_reducible refine LH.x_meth ?_
  | with_reducible refine LH.x_make ?_
  | with_reducible refine LH.x_methSl ?_
  | with_reducible refine LH.x_makeSl ?_
  | with_reducible refine LH.x_din ?_
  | with_reducible refine LH.x_dni ?_
  | with_reducible refine LH.x_dget ?_
  | with_reducible refine LH.x_dput ?_
  | with_reducible refine LH.x_dget2 ?_
  | with_reducible refine LH.x_dpop1 ?_
  | with_reducible refine LH.x_litems ?_
  | with_reducible refine LH.x_tru ?_
  | with_reducible refine LH.x_revL ?_
  | with_reducible refine LH.x_stepL ?_
  | with_reducible refine LH.x_dsetT ?_
  | with_reducible refine LH.x_lvals ?_
  | with_reducible refine LH.br_nt ?_
  | with_reducible refine LH.br_nf ?_
  | with_reducible refine LH.br_t ?_
  | with_reducible refine LH.br_f ?_)
local macro_rules | `(tactic| walk_at "rs") => `(tactic| repeat (walk_at "rs1"))

section
variable {P : Program} {w : World} {K : PySem.W.Frag} {mg : Str → Option Value} {base : Heap} {a : Ad}
theorem diff_ints {c : Int} {ns : List Int} (b : ∀ x ∈ ns, 0 ≤ x ∧ x < c) (nd : ns.Nodup) : diffB c (ns.map V.int) = true := by
  unfold diffB
  have e : ((ns.map V.int).map numV) = ns := by
    rw [List.map_map]
    exact List.map_id ns
  rw [e, decide_eq_true nd, Bool.and_true]
  refine List.all_eq_true.mpr fun y hy => ?_
  obtain ⟨x, hx, rfl⟩ := List.mem_map.mp hy
  have := b x hx
  exact isW_yes (by omega) (by omega)
theorem cut_range {xs : List V} {lo hi : Nat} (h : lo ≤ hi) : (cutV xs (some (lo : Int)) (some (hi : Int))).length ≤ hi - lo := by
  unfold cutV
  rw [List.length_take, HT.sIx_nat, HT.sIx_nat]
  omega
theorem two_rows {ys : List V} (h1 : ys.length = 2) (h2 : ∀ y ∈ ys, ∃ z, y = .str z ∧ isRowS z = true) : ∃ a b : Str, ys = [.str a, .str b] ∧ isRowS a = true ∧ isRowS b = true := by
  match ys, h1 with
  | [a, b], _ =>
    obtain ⟨a, rfl, ha⟩ := h2 a (by simp)
    obtain ⟨b, rfl, hb⟩ := h2 b (by simp)
    exact ⟨a, b, rfl, ha, hb⟩
theorem DeedR.keeps {H : Hp} {q : Addr} {ts ts' : TSt} (d : DeedR H q ts ts') : ts'.hn = ts.hn ∧ ts'.c = ts.c ∧ ∀ x e, e ∈ (ts.st x).rows → e ∈ (ts'.st x).rows := by
  rcases d with ⟨_, rc⟩ | ⟨_, x, z, _, _, _, _, rfl⟩
  · exact ⟨rc.hn.1, rc.hn.2, fun _ _ q => rc.rows q⟩
  · exact ⟨tell_same.2.1, tell_same.1, fun _ _ q => call_rows_in q⟩
/-- a ledger that was told earlier -/
def LedOk (kvs : List (Key × V)) (st : HS) : Prop := (kvs.map (·.1)).Nodup ∧ ∀ p ∈ kvs, ∃ (n : Int) (z : Str), p = (Sum.inl n, V.str z) ∧ (n, z) ∈ st.rows
theorem LedOk.more {kvs : List (Key × V)} {st st' : HS} (l : LedOk kvs st) (h : ∀ e ∈ st.rows, e ∈ st'.rows) : LedOk kvs st' := ⟨l.1, fun p hp => let ⟨n, z, q1, q2⟩ := l.2 p hp; ⟨n, z, q1, h _ q2⟩⟩
theorem LedOk.now {st : HS} (g : Good st) : LedOk (ledK st) st := ⟨led_nd g, fun p hp => by
  unfold ledK at hp
  obtain ⟨n, hn, rfl⟩ := List.mem_map.mp hp
  exact ⟨n, _, rfl, row_in g hn⟩⟩
def LedD (F : Hp) (LD : List (Key × V)) (ts : TSt) : Prop := ∀ (x : Int) v, valV LD (Sum.inl x) = some v → ∃ r kvs, v = .ref r ∧ F r = some (.dK kvs) ∧ LedOk kvs (ts.st x)
theorem LedD.up {F F' : Hp} {LD : List (Key × V)} {ts ts' : TSt} (l : LedD F LD ts) (e : Same F F') (h : ∀ x e, e ∈ (ts.st x).rows → e ∈ (ts'.st x).rows) : LedD F' LD ts' := fun x v q => by
  obtain ⟨r, kvs, q1, q2, q3⟩ := l x v q
  exact ⟨r, kvs, q1, e _ _ q2, q3.more (h x)⟩
theorem LedD.put {F : Hp} {LD : List (Key × V)} {ts : TSt} (l : LedD F LD ts) {x : Int} {r : Addr} {kvs : List (Key × V)} (g : F r = some (.dK kvs)) (o : LedOk kvs (ts.st x)) : LedD F (putK LD (Sum.inl x) (.ref r)) ts := fun y v q => by
  rw [valV_put] at q
  by_cases c : (Sum.inl y : Key) = Sum.inl x
  · rw [if_pos c] at q
    injection q with q
    injection c with c
    subst c
    exact ⟨r, kvs, q.symm, g, o⟩
  · rw [if_neg c] at q
    exact l y v q
def spLaw (K : PySem.W.Frag) : Sp := fun vs H Q _ => ∃ (q : Addr) (ns : List Int), vs = [.ref q] ∧ SqL K H q (ns.map V.int) ∧ ns.length ≤ 63 ∧ ∀ H', Q (.bl true) H'
theorem ok_law (T : Txt K mg a) : FnOk P w K mg base CX0 10 a.law a.d_law ["_law_script"] (spLaw K) := by
  have G__law_at := ok__law_at (P := P) (w := w) (base := base) T
  have G__law_row := ok__law_row (P := P) (w := w) (base := base) T
  have G__law_liars := ok__law_liars (P := P) (w := w) (base := base) T
  have G__law_count := ok__law_count (P := P) (w := w) (base := base) T
  have G__law_deed := ok__law_deed (P := P) (w := w) (base := base) T
  have G__law_good := ok__law_good (P := P) (w := w) (base := base) T
  have G_Town___init__ := ok_Town___init__ (P := P) (w := w) (base := base) T
  have G_Town_ledger := ok_Town_ledger (P := P) (w := w) (base := base) T
  refine T.F_law.ok sc_law (fun vs H Q E h => ?_) (fun cdv A outer s H vs Q E hr h => ?_)
  · obtain ⟨q, ns, rfl, _⟩ := h
    rfl
  · obtain ⟨q, ns, rfl, hq, hn, k⟩ := h
    have HR_Town_ledger : Room 4 _ := hr.mono (by decide)
    have HR__law_at : Room 1 _ := hr.mono (by decide)
    have HR__law_row : Room 1 _ := hr.mono (by decide)
    have HR__law_liars : Room 1 _ := hr.mono (by decide)
    have HR__law_count : Room 1 _ := hr.mono (by decide)
    have HR__law_deed : Room 9 _ := hr.mono (by decide)
    have HR__law_good : Room 5 _ := hr.mono (by decide)
    have HRM_Town : Room 6 _ := hr.mono (by decide)
    refine ⟨_, (pss_cons (ps_set (i := 1) sc_law.nd rfl (Or.inl rfl) (pe_callB LH.call_absI rfl T.n_abs (by decide +kernel) (pa_cons (pe_call G__law_at HR__law_at rfl T.g__law_at T.F__law_at.kp T.b__law_at .nil pass0 (pa_cons (pv 0) (pa_cons pe_int pa_nil))) pa_nil)))
  (pss_cons (ps_set (i := 2) sc_law.nd rfl (Or.inl rfl) (pe_call G__law_count HR__law_count rfl T.g__law_count T.F__law_count.kp T.b__law_count .nil pass0 (pa_cons (pv 1) pa_nil)))
  (pss_cons (ps_set (i := 3) sc_law.nd rfl (Or.inl rfl) (pe_call G__law_liars HR__law_liars rfl T.g__law_liars T.F__law_liars.kp T.b__law_liars .nil pass0 (pa_cons (pe_call G__law_at HR__law_at rfl T.g__law_at T.F__law_at.kp T.b__law_at .nil pass0 (pa_cons (pv 0) (pa_cons pe_int pa_nil))) (pa_cons (pv 2) (pa_cons (pe_callB (LH.call_maxI rfl) rfl T.n_max (by decide +kernel) (pa_cons pe_int (pa_cons (pe_op op_sub (pe_op op_fdiv (pe_op op_sub (pv 2) pe_int) pe_int) (pe_callTy LH.call_intB rfl T.n_int (by decide +kernel) (pa_cons (pe_cmpR op_eq (pe_op op_mod (pe_op op_fdiv (pv 1) pe_int) pe_int) pe_int (nomark _)) pa_nil))) pa_nil))) pa_nil)))))
  (pss_cons (ps_setLc (i := 4) (own := [("_law_k", 5)]) (g := gName 5) (tt := tYes) rfl sc_law.nd rfl rfl rfl (pi_range1 rfl T.n_range (pa_cons pe_int pa_nil)) (blkOk_by (N := N_law) (sc := defScope s_law) (by decide +kernel)) (fun _ _ _ _ _ => pg_name (i := 5) sc_law.nd rfl (Or.inl rfl)) (fun _ _ _ _ _ => pts_nil) (fun _ _ _ _ _ => (pe_call G__law_row HR__law_row rfl T.g__law_row T.F__law_row.kp T.b__law_row .nil pass0 (pa_cons (pe_op op_mod (pe_callB LH.call_absI rfl T.n_abs (by decide +kernel) (pa_cons (pe_call G__law_at HR__law_at rfl T.g__law_at T.F__law_at.kp T.b__law_at .nil pass0 (pa_cons (pv 0) (pa_cons pe_int pa_nil))) pa_nil)) pe_int) (pa_cons (pv 5) pa_nil)))))
  (pss_cons (ps_set (i := 6) sc_law.nd rfl (Or.inl rfl) (pe_make T.mk_Town G_Town___init__ HRM_Town rfl T.g_Town T.b_Town___init__ .nil LH.passN (pa_cons (pv 2) (pa_cons (pe_callTy (r := LH.rListOf K) LH.call_listOf rfl T.n_list (by decide +kernel) (pa_cons (pv 3) pa_nil)) pa_nil))))
  (pss_cons (ps_set (i := 7) sc_law.nd rfl (Or.inl rfl) pe_dnewK)
  (pss_cons (ps_set (i := 8) sc_law.nd rfl (Or.inl rfl) pe_dnewK)
  (pss_cons (ps_for PassesOwn.never rfl (pi_list (pe_slice sl_list (pv 0) (po_some pe_int) (po_some pe_int))) (pg_name (i := 9) sc_law.nd rfl (Or.inl rfl))
    (pss_cons (ps_expr (pe_call G__law_deed HR__law_deed rfl T.g__law_deed T.F__law_deed.kp T.b__law_deed .nil pass0 (pa_cons (pv 6) (pa_cons (pv 2) (pa_cons (pv 3) (pa_cons (pe_callB LH.call_absI rfl T.n_abs (by decide +kernel) (pa_cons (pv 9) pa_nil)) (pa_cons (pv 4) pa_nil)))))))
    (pss_cons (ps_if (pt_not (pt_val (pe_call G__law_good HR__law_good rfl T.g__law_good T.F__law_good.kp T.b__law_good .nil pass0 (pa_cons (pv 6) (pa_cons (pv 2) (pa_cons (pv 3) (pa_cons (pv 7) pa_nil)))))))
      (pss_one (ps_ret pe_bl))
      pss_nil)
    (pss_one (ps_for PassesOwn.never rfl (pi_range1 rfl T.n_range (pa_cons (pv 2) pa_nil)) (pg_name (i := 10) sc_law.nd rfl (Or.inl rfl))
      (pss_one (ps_if (pt_cmpR (r := rIn K true) op_notIn_seq (pv 10) (pv 3) (by rfl))
        (pss_cons (ps_set (i := 11) sc_law.nd rfl (Or.inr rfl) (pe_meth (pv 6) T.cl_Town T.me_Town_ledger G_Town_ledger HR_Town_ledger T.b_Town_ledger .nil LH.passN (pa_cons (pv 10) pa_nil)))
        (pss_cons (ps_set (i := 12) sc_law.nd rfl (Or.inr rfl) (pe_dget2 (hu_of hr) (pv 8) (pv 10) pe_dnewK ⟨rfl, rfl, rfl, rfl⟩))
        (pss_cons (ps_if (pt_cmpR (r := rNeD K) (op_neD hr.units) (pe_lock (pe_lc (own := [("_law_number", 13)]) (g := gName 13) rfl sc_law.nd (pi_keys (pv 12)) (blkOk_by (N := N_law) (sc := defScope s_law) (by decide +kernel)) (fun _ _ _ _ _ => pg_name (i := 13) sc_law.nd rfl (Or.inl rfl)) (fun _ _ _ _ _ => (pts_one (pt_cmpR op_ne (pe_dget2 (hu_of hr) (pv 11) (pv 13) pe_str ⟨rfl, rfl, rfl, rfl⟩) (pe_dget (hu_of hr) (pv 12) (pv 13) (fun _ _ => rfl)) (nomark _)))) (fun _ _ _ _ _ => (pv 13)))) (pe_lst pa_nil) (nomark _))
          (pss_one (ps_ret pe_bl))
          pss_nil)
        (pss_one (ps_dput (hu_of hr) (pv 8) (pv 10) (pv 11) rfl)))))
        pss_nil)))))))
  (pss_one (ps_ret pe_bl)))))))))), ?_⟩
    walk_at "rd"
    refine ⟨q, ns, _, rfl, hq, by omega, fun z0 => ?_⟩
    walk_at "rd"
    refine ⟨_, rfl, fun c c1 c7 H1 e1 => ?_⟩
    have c12 : c ≤ 12 := by omega
    walk_at "rd"
    refine ⟨q, ns, _, rfl, Same.seq e1 hq, by omega, fun z1 => ?_⟩
    walk_at "rd"
    refine LH.x_maxI ?_
    walk_at "rd"
    refine ⟨z1, c, _, rfl, c1, c12, fun li H2 ln e2 g2 lnd lnb lnl => ?_⟩
    have fewl : (ln.length : Int) ≤ (c - 1) / 3 := by
      rw [lnl]
      split <;> omega
    clear lnl
    walk_at "rd"
    have e02 := e1.trans e2
    refine LH.rn1v (by decide) (by decide) ?_
    refine LH.lc_RI (by decide) (fun _ => true) (fun i ys F => ys.length = i ∧ ∀ y ∈ ys, ∃ z, y = .str z ∧ isRowS z = true) (fun _ => rfl) (fun i ys F p => Nat.le_of_eq p.1) (fun D hD => ⟨rfl, fun _ h => nomatch h⟩) (fun i ys F hf p => nomatch hf) (fun i hi Hx ex Q q => ?_) (fun i ys D Hx hi hf ex gD p Q q => ?_) fun ra H4 ys f4 e4 g4 p4 => ?_
    · walk_at "rd"
      exact q
    · walk_at "rd"
      refine ⟨_, _, _, rfl, Same.seq (e02.trans (ex.trans LH.fr_le)) hq, by omega, fun z2 => ?_⟩
      walk_at "rd"
      refine ⟨_, _, rfl, fun Hy ey => ?_⟩
      refine q _ Hy ey ⟨by rw [List.length_append, List.length_singleton, p.1], fun y hy => ?_⟩
      rcases List.mem_append.mp hy with hy | hy
      · exact p.2 y hy
      · exact ⟨_, List.mem_singleton.mp hy, rowF_row _ _⟩
    obtain ⟨zs0, zs1, rfl, r0, r1⟩ := two_rows p4.1 p4.2
    walk_at "rd"
    have g24 := e4 _ _ g2
    refine LH.x_listOf (.inl (SqL.of g24)) fun hd5 H5 f5 e5 g5 => ?_
    walk_at "rd"
    have ln7 : ln.length ≤ 2 := by omega
    refine LH.makev fun p dx H6 f6 f6' n6 e6 g6 => ?_
    refine ⟨p, dx, .int c, .ref hd5, _, rfl, g6, .int _, fun b => (by rw [isW_yes c1 c12] at b; cases b), fun c' ec _ _ => ⟨true, ?_, (fun q => nomatch q), fun _ => ⟨hd5, ln, rfl, SqL.of (e6 _ _ g5), fun ta h H7 hp new7 ks7 al7 nt7 at7 => ⟨rfl, ?_⟩⟩⟩⟩
    · injection ec with ec
      subst ec
      refine .inl ⟨hd5, ln.map V.int, rfl, SqL.of (e6 _ _ g5), by rw [List.length_map]; omega, fun y hy => ?_, (diff_ints lnb lnd).symm⟩
      obtain ⟨x, _, rfl⟩ := List.mem_map.mp hy
      exact ⟨_, .int _⟩
    injection ec with ec
    subst ec
    have new57 : ∀ b ∈ places ta h (hnOf ln c.toNat), H5 b = none := fun b hb => by
      by_cases e : b = p
      · rw [e]; exact f6
      · exact LH.Same.none e6 (new7 b hb e)
    have keep57 : Same H5 H7 := fun b o q => ks7 _ _ (e6 _ _ q) fun m => by
      have e : b = p := by simpa using m
      rw [e, f6] at q
      cases q
    have S7 := at7 (places ta h (hnOf ln c.toNat)) (fun b hb => hb) al7 nt7
    have out7 : ∀ {b : Addr} {o : HO}, H5 b = some o → LH.Fr (places ta h (hnOf ln c.toNat)) H7 b = some o := fun {b o} z => LH.fr_of (keep57 _ _ z) fun m => by rw [new57 _ m] at z; cases z
    have gli7 := out7 (e5 _ _ g24)
    have gra7 := out7 (e5 _ _ g4)
    have eq7 : Same H H7 := ((e02.trans e4).trans e5).trans keep57
    have ehn : (TSt.new c (hnOf ln c.toNat)).hn = hnOf ln c.toNat := rfl
    have lh : ∀ x, 0 ≤ x → x < c → x ∉ ln → x ∈ hnOf ln c.toNat := fun x h0 h1 n => hnOf_mem.mpr ⟨h0, by omega, n⟩
    have lnh : ∀ x ∈ ln, 0 ≤ x ∧ x < c ∧ x ∉ hnOf ln c.toNat := fun x hx => ⟨(lnb x hx).1, (lnb x hx).2, fun m => (hnOf_mem.mp m).2.2 hx⟩
    rw [hp.symm]
    walk_at "rd"
    refine LH.x_dnew fun rd H8 f8 e8 g8 => ?_
    walk_at "rd"
    refine LH.x_dnew fun ld H9 f9 e9 g9 => ?_
    have p8 := (Pl.start S7).grow f8 e8 g8 (fun _ q => nomatch q)
    have p9 := p8.grow f9 e9 g9 (fun _ q => nomatch q)
    have ldr : ld ≠ rd := fun e => by rw [e, g8] at f9; cases f9
    walk_at "rd"
    refine LH.x_slL (Same.seq (eq7.trans (e8.trans e9)) hq) fun cs H10 f10 e10 g10 => ?_
    walk_at "rd"
    have gcs := p9.new f10 g10
    have p10 := p9.same e10
    have pB := Pl.startE p10.t p10.d p10.e
    have gliB := p10.w.fr _ _ gli7
    have graB := p10.w.fr _ _ gra7
    have clen := cut_range (xs := ns.map V.int) (lo := 3) (hi := 23) (by decide)
    have citem : ∀ x ∈ cutV (ns.map V.int) (some 3) (some 23), ∃ i, x = .int i := fun x hx => by
      unfold cutV at hx
      obtain ⟨i, _, e⟩ := List.mem_map.mp (List.mem_of_mem_drop (List.mem_of_mem_take hx))
      exact ⟨i, e.symm⟩
    generalize hcut : cutV (ns.map V.int) (some 3) (some 23) = cut at g10 gcs citem
    have clen : cut.length ≤ 20 := by rw [← hcut]; exact clen
    clear hcut
    obtain ⟨P0, hP0⟩ : ∃ P0, [ld, rd] ++ places ta h (TSt.new c (hnOf ln c.toNat)).hn = P0 := ⟨_, rfl⟩
    rw [hP0] at pB
    generalize ld :: rd :: places ta h (hnOf ln c.toNat) = M0 at pB gliB graB gcs
    refine LH.for_L (SqL.of g10) (fun i σ H' => ∃ o9 o10 o11 o12, σ = [some (.ref q), some (.int (if z0 < 0 then -z0 else z0)), some (.int c), some (.ref li), some (.ref ra), none, some (.ref ta.p), some (.ref rd), some (.ref ld), o9, o10, o11, o12, none] ∧ ∃ M' h' ts' R LD Ns L, Pl a.Town a.House a.Post M0 H10 P0 [ld, rd] M' H' ta h' ts' ∧ ts'.c = c ∧ ts'.hn = hnOf ln c.toNat ∧ Fine Ns L ts' ∧ Ns.length ≤ i ∧ L ≤ 56 * i ∧ H' rd = some (.dK R) ∧ RowsD R ts' ∧ R.length ≤ 140 * i ∧ H' ld = some (.dK LD) ∧ LedD (LH.Fr M' H') LD ts' ∧ LD.length ≤ 7 * i) ?_ ?_ ?_ ?_
    · exact ⟨none, none, none, none, rfl, _, h, _, [], [], [], 0, pB, rfl, rfl, Fine.new S7.go c7, Nat.le_refl _, Nat.le_refl _, e10 _ _ (e9 _ _ g8), (fun _ _ q => nomatch q), Nat.le_refl _, e10 _ _ g9, (fun _ _ q => nomatch q), Nat.le_refl _⟩
    · rintro i σ H' _ ⟨o9, o10, o11, o12, rfl, M', h', ts', R, LD, Ns, L, p', _⟩
      exact SqL.of (p'.up gcs)
    · rintro i x σ H' hx ⟨o9, o10, o11, o12, rfl, M1, h1, t1, R1, LD1, Ns, L, p1, c1_, hn1, fn1, nl1, ll1, gr1, rR1, lR1, gl1, lD1, lL1⟩
      obtain ⟨cell, rfl⟩ := citem x (List.mem_of_getElem? hx)
      have i20 : i < 20 := by
        have := (List.getElem?_eq_some_iff.mp hx).1
        omega
      walk_at "rd"
      refine ⟨ta, h1, t1, M1, _, li, ra, ln, zs0, zs1, Ns, L, by rw [c1_]; rfl, p1.t, fn1, by omega, by omega, p1.w.fr _ _ gliB, p1.w.fr _ _ graB, r0, r1, by omega, by rw [c1_, hn1]; exact lh, by rw [c1_, hn1]; exact lnh, fun H2 M2 h2 t2 n qd S2 w2 fn2 dr => ?_⟩
      obtain ⟨hn2, c2_, rows2⟩ := dr.keeps
      have p2 := p1.join S2 w2
      have gr2 := p1.keptJ w2 (b := rd) (by simp) gr1
      have gl2 := p1.keptJ w2 (b := ld) (by simp) gl1
      have hn2 := hn2.trans hn1
      have c2_ := c2_.trans c1_
      have rR2 := rR1.to (hn2.trans hn1.symm) rows2
      have lD2 := lD1.up w2.fr rows2
      clear dr rows2
      walk_at "rd"
      refine ⟨ta, h2, t2, M2, li, rd, ln, R1, n :: Ns, L + 56, by rw [c2_]; rfl, p2.t, fn2, by show Ns.length + 1 ≤ 20; omega, by omega, p2.w.fr _ _ gliB, p2.e rd (by simp), p2.d rd (by simp), gr2, rR2, by omega, by rw [c2_]; exact fewl, by rw [c2_, hn2]; exact lh, by rw [hn2]; exact fun x hx => (lnh x hx).2.2, fun H3 M3 R3 S3 w3 gr3 rR3 lR3 => ?_⟩
      have p3 := p2.joinS (E1 := [rd]) (fun b hb => by rw [List.mem_singleton.mp hb]; simp) S3 w3
      have gl3 : H3 ld = some (.dK LD1) := w3.ks ld _ gl2 fun m => by
        rcases List.mem_append.mp m with m | m
        · exact ldr (List.mem_singleton.mp m)
        · exact p2.d ld (by simp) m
      have lD3 := lD2.up w3.fr fun _ _ q => q
      clear S3 w3 w2 S2
      walk_at "rd"
      refine LH.rn1v (by omega) (by omega) ?_
      have few2 := fn2.few p3.t.go (by show Ns.length + 1 ≤ 20; omega) (by omega)
      refine LH.for_R1 (fun j σ H' => ∃ o10 o11 o12, σ = [some (.ref q), some (.int (if z0 < 0 then -z0 else z0)), some (.int c), some (.ref li), some (.ref ra), none, some (.ref ta.p), some (.ref rd), some (.ref ld), some (.int cell), o10, o11, o12, none] ∧ ∃ LD, Pl a.Town a.House a.Post M0 H10 P0 [ld, rd] M3 H' ta h2 t2 ∧ H' rd = some (.dK R3) ∧ H' ld = some (.dK LD) ∧ LedD (LH.Fr M3 H') LD t2 ∧ LD.length ≤ 7 * i + j) ?_ ?_ ?_
      · exact ⟨_, _, _, rfl, LD1, p3, gr3, gl3, lD3, lL1⟩
      · rintro j σ H4 hj ⟨o10, o11, o12, rfl, LD4, p4, gr4, gl4, lD4, lL4⟩
        walk_at "rd"
        refine LH.x_notInI (SqL.of (p4.up gliB)) ?_
        rw [Int.zero_add]
        by_cases cj : (j : Int) ∈ ln
        · rw [decide_eq_true cj]
          walk_at "rd"
          exact ⟨_, _, _, rfl, LD4, p4, gr4, gl4, lD4, by omega⟩
        rw [decide_eq_false cj]
        have hx := lh j (by omega) (by omega) cj
        rw [← hn2] at hx
        have gx := fn2.s.gd j hx
        have fx := few2.2.2.2.2 j hx
        have hon : Hon t2 (.int (j : Int)) j := ⟨rfl, hx⟩
        have un : ∀ x, Hon t2 (.int (j : Int)) x → x = (j : Int) := fun x q => by have := q.1; injection this with this; exact this.symm
        walk_at "rd"
        obtain ⟨dx4, hp4⟩ := p4.t.ob
        refine LH.methv hp4 rfl ?_
        walk_at "rd"
        refine ⟨ta, h2, t2, M3, .int (j : Int), _, rfl, p4.t, .int _, fun x hx2 => ⟨by rw [un x hx2]; omega, fun r H5 f5 e5 g5 => ?_⟩, fun q => absurd hon (q j)⟩
        rw [un x hx2] at g5
        have p5 := p4.same e5
        have gr5 := p4.new f5 g5
        walk_at "rd"
        refine LH.get2v (LH.isdK (e5 _ _ gl4)) ?_
        walk_at "rd"
        refine LH.x_dnew fun d0 H6 f6 e6 g6 => ?_
        have p6 := p5.same e6
        have gl6 := e6 _ _ (e5 _ _ gl4)
        refine LH.get2w (LH.getI gl6) ?_
        have lD6 : LedD (LH.Fr M3 H6) LD4 t2 := lD4.up (LH.same_fr (e5.trans e6)) fun _ _ q => q
        have gr6 := LH.same_fr e6 _ _ gr5
        obtain ⟨ar, kvs, ear, gar, lok, nar⟩ : ∃ ar kvs, (valV LD4 (Sum.inl (j : Int))).getD (.ref d0) = .ref ar ∧ H6 ar = some (.dK kvs) ∧ LedOk kvs (t2.st j) ∧ r ≠ ar := by
          cases e : valV LD4 (Sum.inl (j : Int)) with
          | none => exact ⟨d0, [], rfl, g6, ⟨List.nodup_nil, fun _ h => nomatch h⟩, fun q => by rw [← q, g5] at f6; cases f6⟩
          | some v =>
            obtain ⟨r', kvs, rfl, q2, q3⟩ := lD4 j v e
            exact ⟨r', kvs, rfl, e6 _ _ (e5 _ _ (LH.fr_le _ _ q2)), q3, fun q => by rw [q, LH.fr_le _ _ q2] at f5; cases f5⟩
        rw [ear]
        walk_at "rd"
        refine LH.lockE_none (kvs := kvs) rfl gar (fun _ => rfl) ?_ fun p7 H7 f7 e7 g7 => ?_
        · intro od n ky v H7 hkv ga7 ks7_ Q7 q7
          obtain ⟨m, z, ep, hz⟩ := lok.2 _ (List.mem_of_getElem? hkv)
          injection ep with ep1 ep2
          subst ep1
          have gr7 := ks7_ _ _ nar (LH.fr_le _ _ gr6)
          have rz := rowAt_of gx hz
          have mn : m ∈ (t2.st j).nums := nums_mem.mpr (List.mem_map.mpr ⟨_, hz, rfl⟩)
          have vk := valV_self lok.1 _ (List.mem_of_getElem? hkv)
          rw [ep2] at vk
          show tTest _ _ _ _
          walk_at "rd"
          refine LH.get2v (LH.isdK gr7) ?_
          walk_at "rd"
          refine LH.get2w (LH.getI (i := m) gr7) ?_
          rw [led_val gx mn, rz]
          walk_at "rd"
          refine LH.getv (LH.getIF (i := m) ga7) vk ?_
          show rNe (.str z) (.str z) _ _
          walk_at "rd"
          rw [show (!decide (V.str z = V.str z)) = false by simp]
          exact q7 _ (Same.refl _)
        walk_at "rd"
        refine LH.newl (LH.small rfl) fun p8 H8 f8 e8 g8 => ?_
        refine LH.x_neD (.lst (SqL.of (e8 _ _ g7)) .nil) (.lst (SqL.of g8) .nil) (by decide +kernel) (by decide +kernel) ?_
        rw [show PyData.eqv (.list []) (.list []) = true by decide +kernel]
        walk_at "rd"
        have e68 := e7.trans e8
        refine LH.putvI (e68 _ _ gl6) (by omega) fun H9 k9 g9 => ?_
        have p9 := (p6.same e68).put (q := ld) (by simp) k9 g9 (fun _ q => nomatch q)
        have fr9 : Same (LH.Fr M3 H6) (LH.Fr M3 H9) := (LH.same_fr e68).trans ((k9.ks (List.mem_singleton.mpr rfl)).frS fun b hb => by rw [List.mem_singleton.mp hb]; exact p6.e ld (by simp))
        exact ⟨_, _, _, rfl, _, p9, k9 _ _ (e68 _ _ (e6 _ _ (e5 _ _ gr4))) (Ne.symm ldr), g9, (lD6.up fr9 fun _ _ q => q).put (fr9 _ _ gr6) (LedOk.now gx), by have := putK_lenB (R := LD4) (k := Sum.inl (j : Int)) (v := .ref r); omega⟩
      · rintro σ H4 ⟨o10, o11, o12, rfl, LD4, p4, gr4, gl4, lD4, lL4⟩
        walk_at "rd"
        exact ⟨_, _, _, _, rfl, M3, h2, t2, R3, LD4, n :: Ns, L + 56, p4, c2_, hn2, fn2, by show Ns.length + 1 ≤ _; omega, by omega, gr4, rR3, by omega, gl4, lD4, by omega⟩
    · rintro σ H' ⟨o9, o10, o11, o12, rfl, _⟩
      walk_at "rd"
      exact k H'
end
end KB
namespace KB
open PySem L2
theorem all_mk {l : PySem.W.OpenLaw} {w : World} {K : PySem.W.Frag} {h : Heap} {mg : Str → Option Value} {fa f0 f1 f2 f3 f4 f5 f6 f7 f8 f9 f10 f11 f12 f13 f14 f15 f16 f17 f18 f19 f20 f21 f22 f23 f24 f25 f26 f27 f28 f29 f30 f31 f32 f33 f34 f35 f36 f37 f38 f39 f40 f41 f42 f43 f44 f45 f46 c0 c1 c2 c3 c4 c5 c6 c7 c8 c9 c10 : Addr} (X : K.In h) (G : h.Ns mainGlobals mg) (hfa : mg "law" = some (.ref fa))
    {od0 an0 : Option Addr} {sl0 : Array (Option Value)} {oc0 kV0 dc0 pm0 cd0 ct0 : Value} {od1 an1 : Option Addr} {sl1 : Array (Option Value)} {oc1 kV1 dc1 pm1 cd1 ct1 : Value} {od2 an2 : Option Addr} {sl2 : Array (Option Value)} {oc2 kV2 dc2 pm2 cd2 ct2 : Value} {od3 an3 : Option Addr} {sl3 : Array (Option Value)} {oc3 kV3 dc3 pm3 cd3 ct3 : Value} {od4 an4 : Option Addr} {sl4 : Array (Option Value)} {oc4 kV4 dc4 pm4 cd4 ct4 : Value} {od5 an5 : Option Addr} {sl5 : Array (Option Value)} {oc5 kV5 dc5 pm5 cd5 ct5 : Value} {od6 an6 : Option Addr} {sl6 : Array (Option Value)} {oc6 kV6 dc6 pm6 cd6 ct6 : Value} {od7 an7 : Option Addr} {sl7 : Array (Option Value)} {oc7 kV7 dc7 pm7 cd7 ct7 : Value} {od8 an8 : Option Addr} {sl8 : Array (Option Value)} {oc8 kV8 dc8 pm8 cd8 ct8 : Value} {od9 an9 : Option Addr} {sl9 : Array (Option Value)} {oc9 kV9 dc9 pm9 cd9 ct9 : Value} {od10 an10 : Option Addr} {sl10 : Array (Option Value)} {oc10 kV10 dc10 pm10 cd10 ct10 : Value} {od11 an11 : Option Addr} {sl11 : Array (Option Value)} {oc11 kV11 dc11 pm11 cd11 ct11 : Value} {od12 an12 : Option Addr} {sl12 : Array (Option Value)} {oc12 kV12 dc12 pm12 cd12 ct12 : Value} {od13 an13 : Option Addr} {sl13 : Array (Option Value)} {oc13 kV13 dc13 pm13 cd13 ct13 : Value} {od14 an14 : Option Addr} {sl14 : Array (Option Value)} {oc14 kV14 dc14 pm14 cd14 ct14 : Value} {od15 an15 : Option Addr} {sl15 : Array (Option Value)} {oc15 kV15 dc15 pm15 cd15 ct15 : Value} {od16 an16 : Option Addr} {sl16 : Array (Option Value)} {oc16 kV16 dc16 pm16 cd16 ct16 : Value} {od17 an17 : Option Addr} {sl17 : Array (Option Value)} {oc17 kV17 dc17 pm17 cd17 ct17 : Value} {od18 an18 : Option Addr} {sl18 : Array (Option Value)} {oc18 kV18 dc18 pm18 cd18 ct18 : Value} {od19 an19 : Option Addr} {sl19 : Array (Option Value)} {oc19 kV19 dc19 pm19 cd19 ct19 : Value} {od20 an20 : Option Addr} {sl20 : Array (Option Value)} {oc20 kV20 dc20 pm20 cd20 ct20 : Value} {od21 an21 : Option Addr} {sl21 : Array (Option Value)} {oc21 kV21 dc21 pm21 cd21 ct21 : Value} {od22 an22 : Option Addr} {sl22 : Array (Option Value)} {oc22 kV22 dc22 pm22 cd22 ct22 : Value} {od23 an23 : Option Addr} {sl23 : Array (Option Value)} {oc23 kV23 dc23 pm23 cd23 ct23 : Value} {od24 an24 : Option Addr} {sl24 : Array (Option Value)} {oc24 kV24 dc24 pm24 cd24 ct24 : Value} {od25 an25 : Option Addr} {sl25 : Array (Option Value)} {oc25 kV25 dc25 pm25 cd25 ct25 : Value} {od26 an26 : Option Addr} {sl26 : Array (Option Value)} {oc26 kV26 dc26 pm26 cd26 ct26 : Value} {od27 an27 : Option Addr} {sl27 : Array (Option Value)} {oc27 kV27 dc27 pm27 cd27 ct27 : Value} {od28 an28 : Option Addr} {sl28 : Array (Option Value)} {oc28 kV28 dc28 pm28 cd28 ct28 : Value} {od29 an29 : Option Addr} {sl29 : Array (Option Value)} {oc29 kV29 dc29 pm29 cd29 ct29 : Value} {od30 an30 : Option Addr} {sl30 : Array (Option Value)} {oc30 kV30 dc30 pm30 cd30 ct30 : Value} {od31 an31 : Option Addr} {sl31 : Array (Option Value)} {oc31 kV31 dc31 pm31 cd31 ct31 : Value} {od32 an32 : Option Addr} {sl32 : Array (Option Value)} {oc32 kV32 dc32 pm32 cd32 ct32 : Value} {od33 an33 : Option Addr} {sl33 : Array (Option Value)} {oc33 kV33 dc33 pm33 cd33 ct33 : Value} {od34 an34 : Option Addr} {sl34 : Array (Option Value)} {oc34 kV34 dc34 pm34 cd34 ct34 : Value} {od35 an35 : Option Addr} {sl35 : Array (Option Value)} {oc35 kV35 dc35 pm35 cd35 ct35 : Value} {od36 an36 : Option Addr} {sl36 : Array (Option Value)} {oc36 kV36 dc36 pm36 cd36 ct36 : Value} {od37 an37 : Option Addr} {sl37 : Array (Option Value)} {oc37 kV37 dc37 pm37 cd37 ct37 : Value} {od38 an38 : Option Addr} {sl38 : Array (Option Value)} {oc38 kV38 dc38 pm38 cd38 ct38 : Value} {od39 an39 : Option Addr} {sl39 : Array (Option Value)} {oc39 kV39 dc39 pm39 cd39 ct39 : Value} {od40 an40 : Option Addr} {sl40 : Array (Option Value)} {oc40 kV40 dc40 pm40 cd40 ct40 : Value} {od41 an41 : Option Addr} {sl41 : Array (Option Value)} {oc41 kV41 dc41 pm41 cd41 ct41 : Value} {od42 an42 : Option Addr} {sl42 : Array (Option Value)} {oc42 kV42 dc42 pm42 cd42 ct42 : Value} {od43 an43 : Option Addr} {sl43 : Array (Option Value)} {oc43 kV43 dc43 pm43 cd43 ct43 : Value} {od44 an44 : Option Addr} {sl44 : Array (Option Value)} {oc44 kV44 dc44 pm44 cd44 ct44 : Value} {od45 an45 : Option Addr} {sl45 : Array (Option Value)} {oc45 kV45 dc45 pm45 cd45 ct45 : Value} {od46 an46 : Option Addr} {sl46 : Array (Option Value)} {oc46 kV46 dc46 pm46 cd46 ct46 : Value}
    (g0 : PySem.W.nsIn K mainGlobals "HouseError" = some (some (.ref c0)))
    (g1 : PySem.W.nsIn K mainGlobals "BadCount" = some (some (.ref c1)))
    (g2 : PySem.W.nsIn K mainGlobals "BadHouse" = some (some (.ref c2)))
    (g3 : PySem.W.nsIn K mainGlobals "BadRow" = some (some (.ref c3)))
    (g4 : PySem.W.nsIn K mainGlobals "BadWord" = some (some (.ref c4)))
    (g5 : PySem.W.nsIn K mainGlobals "Forged" = some (some (.ref c5)))
    (g6 : PySem.W.nsIn K mainGlobals "NoLetter" = some (some (.ref c6)))
    (g7 : PySem.W.nsIn K mainGlobals "NotWritten" = some (some (.ref c7)))
    (g8 : PySem.W.nsIn K mainGlobals "House" = some (some (.ref c8)))
    (g9 : PySem.W.nsIn K mainGlobals "Post" = some (some (.ref c9)))
    (g10 : PySem.W.nsIn K mainGlobals "Town" = some (some (.ref c10)))
    (a0 : PySem.W.nsIn K mainGlobals "is_whole" = some (some (.ref f0)))
    (l0 : K.lookup f0 = some ⟨oc0, od0, .func (PySem.W.fnOf "is_whole" "is_whole" (defArgs s_is_whole) (defBody s_is_whole) (defScope s_is_whole) .none kV0 dc0 pm0 an0 cd0 ct0), sl0⟩)
    (c0c : PySem.W.codeIn K cd0 "is_whole" = true)
    (k0 : PySem.W.keepIn K (.ref f0) = true)
    (a1 : PySem.W.nsIn K mainGlobals "check_count" = some (some (.ref f1)))
    (l1 : K.lookup f1 = some ⟨oc1, od1, .func (PySem.W.fnOf "check_count" "check_count" (defArgs s_check_count) (defBody s_check_count) (defScope s_check_count) .none kV1 dc1 pm1 an1 cd1 ct1), sl1⟩)
    (c1c : PySem.W.codeIn K cd1 "check_count" = true)
    (k1 : PySem.W.keepIn K (.ref f1) = true)
    (a2 : PySem.W.nsIn K mainGlobals "is_house" = some (some (.ref f2)))
    (l2 : K.lookup f2 = some ⟨oc2, od2, .func (PySem.W.fnOf "is_house" "is_house" (defArgs s_is_house) (defBody s_is_house) (defScope s_is_house) .none kV2 dc2 pm2 an2 cd2 ct2), sl2⟩)
    (c2c : PySem.W.codeIn K cd2 "is_house" = true)
    (k2 : PySem.W.keepIn K (.ref f2) = true)
    (a3 : PySem.W.nsIn K mainGlobals "most_liars" = some (some (.ref f3)))
    (l3 : K.lookup f3 = some ⟨oc3, od3, .func (PySem.W.fnOf "most_liars" "most_liars" (defArgs s_most_liars) (defBody s_most_liars) (defScope s_most_liars) .none kV3 dc3 pm3 an3 cd3 ct3), sl3⟩)
    (c3c : PySem.W.codeIn K cd3 "most_liars" = true)
    (k3 : PySem.W.keepIn K (.ref f3) = true)
    (a4 : PySem.W.nsIn K mainGlobals "enough" = some (some (.ref f4)))
    (l4 : K.lookup f4 = some ⟨oc4, od4, .func (PySem.W.fnOf "enough" "enough" (defArgs s_enough) (defBody s_enough) (defScope s_enough) .none kV4 dc4 pm4 an4 cd4 ct4), sl4⟩)
    (c4c : PySem.W.codeIn K cd4 "enough" = true)
    (k4 : PySem.W.keepIn K (.ref f4) = true)
    (a5 : PySem.W.nsIn K mainGlobals "is_row" = some (some (.ref f5)))
    (l5 : K.lookup f5 = some ⟨oc5, od5, .func (PySem.W.fnOf "is_row" "is_row" (defArgs s_is_row) (defBody s_is_row) (defScope s_is_row) .none kV5 dc5 pm5 an5 cd5 ct5), sl5⟩)
    (c5c : PySem.W.codeIn K cd5 "is_row" = true)
    (k5 : PySem.W.keepIn K (.ref f5) = true)
    (a6 : PySem.W.nsIn K mainGlobals "caller" = some (some (.ref f6)))
    (l6 : K.lookup f6 = some ⟨oc6, od6, .func (PySem.W.fnOf "caller" "caller" (defArgs s_caller) (defBody s_caller) (defScope s_caller) .none kV6 dc6 pm6 an6 cd6 ct6), sl6⟩)
    (c6c : PySem.W.codeIn K cd6 "caller" = true)
    (k6 : PySem.W.keepIn K (.ref f6) = true)
    (a7 : PySem.W.nsIn K mainGlobals "is_word" = some (some (.ref f7)))
    (l7 : K.lookup f7 = some ⟨oc7, od7, .func (PySem.W.fnOf "is_word" "is_word" (defArgs s_is_word) (defBody s_is_word) (defScope s_is_word) .none kV7 dc7 pm7 an7 cd7 ct7), sl7⟩)
    (c7c : PySem.W.codeIn K cd7 "is_word" = true)
    (k7 : PySem.W.keepIn K (.ref f7) = true)
    (a8 : PySem.W.nsIn K mainGlobals "place" = some (some (.ref f8)))
    (l8 : K.lookup f8 = some ⟨oc8, od8, .func (PySem.W.fnOf "place" "place" (defArgs s_place) (defBody s_place) (defScope s_place) .none kV8 dc8 pm8 an8 cd8 ct8), sl8⟩)
    (c8c : PySem.W.codeIn K cd8 "place" = true)
    (k8 : PySem.W.keepIn K (.ref f8) = true)
    (a9 : PySem.W.findIn K (.ref c8) "__init__" = some (some (.ref f9)))
    (l9 : K.lookup f9 = some ⟨oc9, od9, .func (PySem.W.fnOf "__init__" "House.__init__" (defArgs s_House___init__) (defBody s_House___init__) (defScope s_House___init__) .none kV9 dc9 pm9 an9 cd9 ct9), sl9⟩)
    (c9c : PySem.W.codeIn K cd9 "House.__init__" = true)
    (k9 : PySem.W.keepIn K (.ref f9) = true)
    (ii9 : PySem.W.isFn K (.ref f9) = true)
    (a10 : PySem.W.findIn K (.ref c8) "call" = some (some (.ref f10)))
    (l10 : K.lookup f10 = some ⟨oc10, od10, .func (PySem.W.fnOf "call" "House.call" (defArgs s_House_call) (defBody s_House_call) (defScope s_House_call) .none kV10 dc10 pm10 an10 cd10 ct10), sl10⟩)
    (c10c : PySem.W.codeIn K cd10 "House.call" = true)
    (k10 : PySem.W.keepIn K (.ref f10) = true)
    (ii10 : PySem.W.isFn K (.ref f10) = true)
    (a11 : PySem.W.findIn K (.ref c8) "hear" = some (some (.ref f11)))
    (l11 : K.lookup f11 = some ⟨oc11, od11, .func (PySem.W.fnOf "hear" "House.hear" (defArgs s_House_hear) (defBody s_House_hear) (defScope s_House_hear) .none kV11 dc11 pm11 an11 cd11 ct11), sl11⟩)
    (c11c : PySem.W.codeIn K cd11 "House.hear" = true)
    (k11 : PySem.W.keepIn K (.ref f11) = true)
    (ii11 : PySem.W.isFn K (.ref f11) = true)
    (a12 : PySem.W.findIn K (.ref c8) "ledger" = some (some (.ref f12)))
    (l12 : K.lookup f12 = some ⟨oc12, od12, .func (PySem.W.fnOf "ledger" "House.ledger" (defArgs s_House_ledger) (defBody s_House_ledger) (defScope s_House_ledger) .none kV12 dc12 pm12 an12 cd12 ct12), sl12⟩)
    (c12c : PySem.W.codeIn K cd12 "House.ledger" = true)
    (k12 : PySem.W.keepIn K (.ref f12) = true)
    (ii12 : PySem.W.isFn K (.ref f12) = true)
    (a13 : PySem.W.findIn K (.ref c8) "backing" = some (some (.ref f13)))
    (l13 : K.lookup f13 = some ⟨oc13, od13, .func (PySem.W.fnOf "backing" "House.backing" (defArgs s_House_backing) (defBody s_House_backing) (defScope s_House_backing) .none kV13 dc13 pm13 an13 cd13 ct13), sl13⟩)
    (c13c : PySem.W.codeIn K cd13 "House.backing" = true)
    (k13 : PySem.W.keepIn K (.ref f13) = true)
    (ii13 : PySem.W.isFn K (.ref f13) = true)
    (a14 : PySem.W.findIn K (.ref c8) "caught" = some (some (.ref f14)))
    (l14 : K.lookup f14 = some ⟨oc14, od14, .func (PySem.W.fnOf "caught" "House.caught" (defArgs s_House_caught) (defBody s_House_caught) (defScope s_House_caught) .none kV14 dc14 pm14 an14 cd14 ct14), sl14⟩)
    (c14c : PySem.W.codeIn K cd14 "House.caught" = true)
    (k14 : PySem.W.keepIn K (.ref f14) = true)
    (ii14 : PySem.W.isFn K (.ref f14) = true)
    (a15 : PySem.W.findIn K (.ref c8) "_learn" = some (some (.ref f15)))
    (l15 : K.lookup f15 = some ⟨oc15, od15, .func (PySem.W.fnOf "_learn" "House._learn" (defArgs s_House__learn) (defBody s_House__learn) (defScope s_House__learn) .none kV15 dc15 pm15 an15 cd15 ct15), sl15⟩)
    (c15c : PySem.W.codeIn K cd15 "House._learn" = true)
    (k15 : PySem.W.keepIn K (.ref f15) = true)
    (ii15 : PySem.W.isFn K (.ref f15) = true)
    (a16 : PySem.W.findIn K (.ref c8) "_mark" = some (some (.ref f16)))
    (l16 : K.lookup f16 = some ⟨oc16, od16, .func (PySem.W.fnOf "_mark" "House._mark" (defArgs s_House__mark) (defBody s_House__mark) (defScope s_House__mark) .none kV16 dc16 pm16 an16 cd16 ct16), sl16⟩)
    (c16c : PySem.W.codeIn K cd16 "House._mark" = true)
    (k16 : PySem.W.keepIn K (.ref f16) = true)
    (ii16 : PySem.W.isFn K (.ref f16) = true)
    (a17 : PySem.W.findIn K (.ref c8) "_write" = some (some (.ref f17)))
    (l17 : K.lookup f17 = some ⟨oc17, od17, .func (PySem.W.fnOf "_write" "House._write" (defArgs s_House__write) (defBody s_House__write) (defScope s_House__write) .none kV17 dc17 pm17 an17 cd17 ct17), sl17⟩)
    (c17c : PySem.W.codeIn K cd17 "House._write" = true)
    (k17 : PySem.W.keepIn K (.ref f17) = true)
    (ii17 : PySem.W.isFn K (.ref f17) = true)
    (a18 : PySem.W.findIn K (.ref c8) "_name" = some (some (.ref f18)))
    (l18 : K.lookup f18 = some ⟨oc18, od18, .func (PySem.W.fnOf "_name" "House._name" (defArgs s_House__name) (defBody s_House__name) (defScope s_House__name) .none kV18 dc18 pm18 an18 cd18 ct18), sl18⟩)
    (c18c : PySem.W.codeIn K cd18 "House._name" = true)
    (k18 : PySem.W.keepIn K (.ref f18) = true)
    (ii18 : PySem.W.isFn K (.ref f18) = true)
    (a19 : PySem.W.findIn K (.ref c9) "__init__" = some (some (.ref f19)))
    (l19 : K.lookup f19 = some ⟨oc19, od19, .func (PySem.W.fnOf "__init__" "Post.__init__" (defArgs s_Post___init__) (defBody s_Post___init__) (defScope s_Post___init__) .none kV19 dc19 pm19 an19 cd19 ct19), sl19⟩)
    (c19c : PySem.W.codeIn K cd19 "Post.__init__" = true)
    (k19 : PySem.W.keepIn K (.ref f19) = true)
    (ii19 : PySem.W.isFn K (.ref f19) = true)
    (a20 : PySem.W.findIn K (.ref c9) "send" = some (some (.ref f20)))
    (l20 : K.lookup f20 = some ⟨oc20, od20, .func (PySem.W.fnOf "send" "Post.send" (defArgs s_Post_send) (defBody s_Post_send) (defScope s_Post_send) .none kV20 dc20 pm20 an20 cd20 ct20), sl20⟩)
    (c20c : PySem.W.codeIn K cd20 "Post.send" = true)
    (k20 : PySem.W.keepIn K (.ref f20) = true)
    (ii20 : PySem.W.isFn K (.ref f20) = true)
    (a21 : PySem.W.findIn K (.ref c9) "bring" = some (some (.ref f21)))
    (l21 : K.lookup f21 = some ⟨oc21, od21, .func (PySem.W.fnOf "bring" "Post.bring" (defArgs s_Post_bring) (defBody s_Post_bring) (defScope s_Post_bring) .none kV21 dc21 pm21 an21 cd21 ct21), sl21⟩)
    (c21c : PySem.W.codeIn K cd21 "Post.bring" = true)
    (k21 : PySem.W.keepIn K (.ref f21) = true)
    (ii21 : PySem.W.isFn K (.ref f21) = true)
    (a22 : PySem.W.findIn K (.ref c9) "waiting" = some (some (.ref f22)))
    (l22 : K.lookup f22 = some ⟨oc22, od22, .func (PySem.W.fnOf "waiting" "Post.waiting" (defArgs s_Post_waiting) (defBody s_Post_waiting) (defScope s_Post_waiting) .none kV22 dc22 pm22 an22 cd22 ct22), sl22⟩)
    (c22c : PySem.W.codeIn K cd22 "Post.waiting" = true)
    (k22 : PySem.W.keepIn K (.ref f22) = true)
    (ii22 : PySem.W.isFn K (.ref f22) = true)
    (a23 : PySem.W.nsIn K mainGlobals "are_different_houses" = some (some (.ref f23)))
    (l23 : K.lookup f23 = some ⟨oc23, od23, .func (PySem.W.fnOf "are_different_houses" "are_different_houses" (defArgs s_are_different_houses) (defBody s_are_different_houses) (defScope s_are_different_houses) .none kV23 dc23 pm23 an23 cd23 ct23), sl23⟩)
    (c23c : PySem.W.codeIn K cd23 "are_different_houses" = true)
    (k23 : PySem.W.keepIn K (.ref f23) = true)
    (a24 : PySem.W.findIn K (.ref c10) "__init__" = some (some (.ref f24)))
    (l24 : K.lookup f24 = some ⟨oc24, od24, .func (PySem.W.fnOf "__init__" "Town.__init__" (defArgs s_Town___init__) (defBody s_Town___init__) (defScope s_Town___init__) .none kV24 dc24 pm24 an24 cd24 ct24), sl24⟩)
    (c24c : PySem.W.codeIn K cd24 "Town.__init__" = true)
    (k24 : PySem.W.keepIn K (.ref f24) = true)
    (ii24 : PySem.W.isFn K (.ref f24) = true)
    (a25 : PySem.W.findIn K (.ref c10) "call" = some (some (.ref f25)))
    (l25 : K.lookup f25 = some ⟨oc25, od25, .func (PySem.W.fnOf "call" "Town.call" (defArgs s_Town_call) (defBody s_Town_call) (defScope s_Town_call) .none kV25 dc25 pm25 an25 cd25 ct25), sl25⟩)
    (c25c : PySem.W.codeIn K cd25 "Town.call" = true)
    (k25 : PySem.W.keepIn K (.ref f25) = true)
    (ii25 : PySem.W.isFn K (.ref f25) = true)
    (a26 : PySem.W.findIn K (.ref c10) "bring" = some (some (.ref f26)))
    (l26 : K.lookup f26 = some ⟨oc26, od26, .func (PySem.W.fnOf "bring" "Town.bring" (defArgs s_Town_bring) (defBody s_Town_bring) (defScope s_Town_bring) .none kV26 dc26 pm26 an26 cd26 ct26), sl26⟩)
    (c26c : PySem.W.codeIn K cd26 "Town.bring" = true)
    (k26 : PySem.W.keepIn K (.ref f26) = true)
    (ii26 : PySem.W.isFn K (.ref f26) = true)
    (a27 : PySem.W.findIn K (.ref c10) "lie" = some (some (.ref f27)))
    (l27 : K.lookup f27 = some ⟨oc27, od27, .func (PySem.W.fnOf "lie" "Town.lie" (defArgs s_Town_lie) (defBody s_Town_lie) (defScope s_Town_lie) .none kV27 dc27 pm27 an27 cd27 ct27), sl27⟩)
    (c27c : PySem.W.codeIn K cd27 "Town.lie" = true)
    (k27 : PySem.W.keepIn K (.ref f27) = true)
    (ii27 : PySem.W.isFn K (.ref f27) = true)
    (a28 : PySem.W.findIn K (.ref c10) "waiting" = some (some (.ref f28)))
    (l28 : K.lookup f28 = some ⟨oc28, od28, .func (PySem.W.fnOf "waiting" "Town.waiting" (defArgs s_Town_waiting) (defBody s_Town_waiting) (defScope s_Town_waiting) .none kV28 dc28 pm28 an28 cd28 ct28), sl28⟩)
    (c28c : PySem.W.codeIn K cd28 "Town.waiting" = true)
    (k28 : PySem.W.keepIn K (.ref f28) = true)
    (ii28 : PySem.W.isFn K (.ref f28) = true)
    (a29 : PySem.W.findIn K (.ref c10) "spoken" = some (some (.ref f29)))
    (l29 : K.lookup f29 = some ⟨oc29, od29, .func (PySem.W.fnOf "spoken" "Town.spoken" (defArgs s_Town_spoken) (defBody s_Town_spoken) (defScope s_Town_spoken) .none kV29 dc29 pm29 an29 cd29 ct29), sl29⟩)
    (c29c : PySem.W.codeIn K cd29 "Town.spoken" = true)
    (k29 : PySem.W.keepIn K (.ref f29) = true)
    (ii29 : PySem.W.isFn K (.ref f29) = true)
    (a30 : PySem.W.findIn K (.ref c10) "ledger" = some (some (.ref f30)))
    (l30 : K.lookup f30 = some ⟨oc30, od30, .func (PySem.W.fnOf "ledger" "Town.ledger" (defArgs s_Town_ledger) (defBody s_Town_ledger) (defScope s_Town_ledger) .none kV30 dc30 pm30 an30 cd30 ct30), sl30⟩)
    (c30c : PySem.W.codeIn K cd30 "Town.ledger" = true)
    (k30 : PySem.W.keepIn K (.ref f30) = true)
    (ii30 : PySem.W.isFn K (.ref f30) = true)
    (a31 : PySem.W.findIn K (.ref c10) "backing" = some (some (.ref f31)))
    (l31 : K.lookup f31 = some ⟨oc31, od31, .func (PySem.W.fnOf "backing" "Town.backing" (defArgs s_Town_backing) (defBody s_Town_backing) (defScope s_Town_backing) .none kV31 dc31 pm31 an31 cd31 ct31), sl31⟩)
    (c31c : PySem.W.codeIn K cd31 "Town.backing" = true)
    (k31 : PySem.W.keepIn K (.ref f31) = true)
    (ii31 : PySem.W.isFn K (.ref f31) = true)
    (a32 : PySem.W.findIn K (.ref c10) "caught" = some (some (.ref f32)))
    (l32 : K.lookup f32 = some ⟨oc32, od32, .func (PySem.W.fnOf "caught" "Town.caught" (defArgs s_Town_caught) (defBody s_Town_caught) (defScope s_Town_caught) .none kV32 dc32 pm32 an32 cd32 ct32), sl32⟩)
    (c32c : PySem.W.codeIn K cd32 "Town.caught" = true)
    (k32 : PySem.W.keepIn K (.ref f32) = true)
    (ii32 : PySem.W.isFn K (.ref f32) = true)
    (a33 : PySem.W.findIn K (.ref c10) "_honest_house" = some (some (.ref f33)))
    (l33 : K.lookup f33 = some ⟨oc33, od33, .func (PySem.W.fnOf "_honest_house" "Town._honest_house" (defArgs s_Town__honest_house) (defBody s_Town__honest_house) (defScope s_Town__honest_house) .none kV33 dc33 pm33 an33 cd33 ct33), sl33⟩)
    (c33c : PySem.W.codeIn K cd33 "Town._honest_house" = true)
    (k33 : PySem.W.keepIn K (.ref f33) = true)
    (ii33 : PySem.W.isFn K (.ref f33) = true)
    (a34 : PySem.W.findIn K (.ref c10) "_tell" = some (some (.ref f34)))
    (l34 : K.lookup f34 = some ⟨oc34, od34, .func (PySem.W.fnOf "_tell" "Town._tell" (defArgs s_Town__tell) (defBody s_Town__tell) (defScope s_Town__tell) .none kV34 dc34 pm34 an34 cd34 ct34), sl34⟩)
    (c34c : PySem.W.codeIn K cd34 "Town._tell" = true)
    (k34 : PySem.W.keepIn K (.ref f34) = true)
    (ii34 : PySem.W.isFn K (.ref f34) = true)
    (a35 : PySem.W.nsIn K mainGlobals "_law_at" = some (some (.ref f35)))
    (l35 : K.lookup f35 = some ⟨oc35, od35, .func (PySem.W.fnOf "_law_at" "_law_at" (defArgs s__law_at) (defBody s__law_at) (defScope s__law_at) .none kV35 dc35 pm35 an35 cd35 ct35), sl35⟩)
    (c35c : PySem.W.codeIn K cd35 "_law_at" = true)
    (k35 : PySem.W.keepIn K (.ref f35) = true)
    (a36 : PySem.W.nsIn K mainGlobals "_law_row" = some (some (.ref f36)))
    (l36 : K.lookup f36 = some ⟨oc36, od36, .func (PySem.W.fnOf "_law_row" "_law_row" (defArgs s__law_row) (defBody s__law_row) (defScope s__law_row) .none kV36 dc36 pm36 an36 cd36 ct36), sl36⟩)
    (c36c : PySem.W.codeIn K cd36 "_law_row" = true)
    (k36 : PySem.W.keepIn K (.ref f36) = true)
    (a37 : PySem.W.nsIn K mainGlobals "_law_liars" = some (some (.ref f37)))
    (l37 : K.lookup f37 = some ⟨oc37, od37, .func (PySem.W.fnOf "_law_liars" "_law_liars" (defArgs s__law_liars) (defBody s__law_liars) (defScope s__law_liars) .none kV37 dc37 pm37 an37 cd37 ct37), sl37⟩)
    (c37c : PySem.W.codeIn K cd37 "_law_liars" = true)
    (k37 : PySem.W.keepIn K (.ref f37) = true)
    (a38 : PySem.W.nsIn K mainGlobals "_law_count" = some (some (.ref f38)))
    (l38 : K.lookup f38 = some ⟨oc38, od38, .func (PySem.W.fnOf "_law_count" "_law_count" (defArgs s__law_count) (defBody s__law_count) (defScope s__law_count) .none kV38 dc38 pm38 an38 cd38 ct38), sl38⟩)
    (c38c : PySem.W.codeIn K cd38 "_law_count" = true)
    (k38 : PySem.W.keepIn K (.ref f38) = true)
    (a39 : PySem.W.nsIn K mainGlobals "_law_split" = some (some (.ref f39)))
    (l39 : K.lookup f39 = some ⟨oc39, od39, .func (PySem.W.fnOf "_law_split" "_law_split" (defArgs s__law_split) (defBody s__law_split) (defScope s__law_split) .none kV39 dc39 pm39 an39 cd39 ct39), sl39⟩)
    (c39c : PySem.W.codeIn K cd39 "_law_split" = true)
    (k39 : PySem.W.keepIn K (.ref f39) = true)
    (a40 : PySem.W.nsIn K mainGlobals "_law_lie" = some (some (.ref f40)))
    (l40 : K.lookup f40 = some ⟨oc40, od40, .func (PySem.W.fnOf "_law_lie" "_law_lie" (defArgs s__law_lie) (defBody s__law_lie) (defScope s__law_lie) .none kV40 dc40 pm40 an40 cd40 ct40), sl40⟩)
    (c40c : PySem.W.codeIn K cd40 "_law_lie" = true)
    (k40 : PySem.W.keepIn K (.ref f40) = true)
    (a41 : PySem.W.nsIn K mainGlobals "_law_deed" = some (some (.ref f41)))
    (l41 : K.lookup f41 = some ⟨oc41, od41, .func (PySem.W.fnOf "_law_deed" "_law_deed" (defArgs s__law_deed) (defBody s__law_deed) (defScope s__law_deed) .none kV41 dc41 pm41 an41 cd41 ct41), sl41⟩)
    (c41c : PySem.W.codeIn K cd41 "_law_deed" = true)
    (k41 : PySem.W.keepIn K (.ref f41) = true)
    (a42 : PySem.W.nsIn K mainGlobals "_law_enough" = some (some (.ref f42)))
    (l42 : K.lookup f42 = some ⟨oc42, od42, .func (PySem.W.fnOf "_law_enough" "_law_enough" (defArgs s__law_enough) (defBody s__law_enough) (defScope s__law_enough) .none kV42 dc42 pm42 an42 cd42 ct42), sl42⟩)
    (c42c : PySem.W.codeIn K cd42 "_law_enough" = true)
    (k42 : PySem.W.keepIn K (.ref f42) = true)
    (a43 : PySem.W.nsIn K mainGlobals "_law_is_backing" = some (some (.ref f43)))
    (l43 : K.lookup f43 = some ⟨oc43, od43, .func (PySem.W.fnOf "_law_is_backing" "_law_is_backing" (defArgs s__law_is_backing) (defBody s__law_is_backing) (defScope s__law_is_backing) .none kV43 dc43 pm43 an43 cd43 ct43), sl43⟩)
    (c43c : PySem.W.codeIn K cd43 "_law_is_backing" = true)
    (k43 : PySem.W.keepIn K (.ref f43) = true)
    (a44 : PySem.W.nsIn K mainGlobals "_law_named_right" = some (some (.ref f44)))
    (l44 : K.lookup f44 = some ⟨oc44, od44, .func (PySem.W.fnOf "_law_named_right" "_law_named_right" (defArgs s__law_named_right) (defBody s__law_named_right) (defScope s__law_named_right) .none kV44 dc44 pm44 an44 cd44 ct44), sl44⟩)
    (c44c : PySem.W.codeIn K cd44 "_law_named_right" = true)
    (k44 : PySem.W.keepIn K (.ref f44) = true)
    (a45 : PySem.W.nsIn K mainGlobals "_law_good" = some (some (.ref f45)))
    (l45 : K.lookup f45 = some ⟨oc45, od45, .func (PySem.W.fnOf "_law_good" "_law_good" (defArgs s__law_good) (defBody s__law_good) (defScope s__law_good) .none kV45 dc45 pm45 an45 cd45 ct45), sl45⟩)
    (c45c : PySem.W.codeIn K cd45 "_law_good" = true)
    (k45 : PySem.W.keepIn K (.ref f45) = true)
    (a46 : PySem.W.nsIn K mainGlobals "law" = some (some (.ref f46)))
    (l46 : K.lookup f46 = some ⟨oc46, od46, .func (PySem.W.fnOf "law" "law" (defArgs s_law) (defBody s_law) (defScope s_law) .none kV46 dc46 pm46 an46 cd46 ct46), sl46⟩)
    (c46c : PySem.W.codeIn K cd46 "law" = true)
    (k46 : PySem.W.keepIn K (.ref f46) = true)
    (pg_c8 : PySem.W.plainGet K c8 Str.empty = true)
    (hd_c8 : PySem.W.hasDictIn K c8 = true)
    (po_c8 : PySem.W.plainOver K c8 = true)
    (sa_c8 : PySem.W.findIn K (.ref c8) "__setattr__" = some (some (.builtin "object.__setattr__")))
    (mm_c8 : PySem.W.makesIn K c8 = true)
    (kp_c8 : PySem.W.keepIn K (.ref c8) = true)
    (na_c8__count : PySem.W.findIn K (.ref c8) "_count" = some none)
    (na_c8__own : PySem.W.findIn K (.ref c8) "_own" = some none)
    (na_c8__due : PySem.W.findIn K (.ref c8) "_due" = some none)
    (na_c8__known : PySem.W.findIn K (.ref c8) "_known" = some none)
    (na_c8__earliest : PySem.W.findIn K (.ref c8) "_earliest" = some none)
    (na_c8__marked : PySem.W.findIn K (.ref c8) "_marked" = some none)
    (na_c8__marks : PySem.W.findIn K (.ref c8) "_marks" = some none)
    (na_c8__rows : PySem.W.findIn K (.ref c8) "_rows" = some none)
    (na_c8__backings : PySem.W.findIn K (.ref c8) "_backings" = some none)
    (na_c8__named : PySem.W.findIn K (.ref c8) "_named" = some none)
    (pg_c9 : PySem.W.plainGet K c9 Str.empty = true)
    (hd_c9 : PySem.W.hasDictIn K c9 = true)
    (po_c9 : PySem.W.plainOver K c9 = true)
    (sa_c9 : PySem.W.findIn K (.ref c9) "__setattr__" = some (some (.builtin "object.__setattr__")))
    (mm_c9 : PySem.W.makesIn K c9 = true)
    (kp_c9 : PySem.W.keepIn K (.ref c9) = true)
    (na_c9__due : PySem.W.findIn K (.ref c9) "_due" = some none)
    (na_c9__letters : PySem.W.findIn K (.ref c9) "_letters" = some none)
    (pg_c10 : PySem.W.plainGet K c10 Str.empty = true)
    (hd_c10 : PySem.W.hasDictIn K c10 = true)
    (po_c10 : PySem.W.plainOver K c10 = true)
    (sa_c10 : PySem.W.findIn K (.ref c10) "__setattr__" = some (some (.builtin "object.__setattr__")))
    (mm_c10 : PySem.W.makesIn K c10 = true)
    (kp_c10 : PySem.W.keepIn K (.ref c10) = true)
    (na_c10__count : PySem.W.findIn K (.ref c10) "_count" = some none)
    (na_c10__honest : PySem.W.findIn K (.ref c10) "_honest" = some none)
    (na_c10__post : PySem.W.findIn K (.ref c10) "_post" = some none)
    (na_c10__spoken : PySem.W.findIn K (.ref c10) "_spoken" = some none)
    (x_c1 : PySem.W.excIn K c1 VEs "ValueError.__new__" = true)
    (kk_c1 : PySem.W.keepIn K (.ref c1) = true)
    (bx_c1 : PySem.W.subIn K (.ref c1) (.type "BaseException") = some true)
    (t_c1 : PySem.W.typeIn K (.ref c1) = some (.type "type"))
    (e_c1 : PySem.W.exmOne K (.ref c1) (.ref c0) = some true)
    (y1_c1 : PySem.W.findIn K (.ref c1) "__getattribute__" = some (some (.builtin "BaseException.__getattribute__")))
    (y2_c1 : PySem.W.findIn K (.ref c1) "__getattr__" = some none)
    (y4_c1 : PySem.W.hasDictIn K c1 = true)
    (y5_c1 : PySem.W.findIn K (.ref c1) "__class__" = some (some (.builtin "object.__class__")))
    (y8_c1 : PySem.W.mroIn K c1 (.type "object") = some true)
    (x_c2 : PySem.W.excIn K c2 VEs "ValueError.__new__" = true)
    (kk_c2 : PySem.W.keepIn K (.ref c2) = true)
    (bx_c2 : PySem.W.subIn K (.ref c2) (.type "BaseException") = some true)
    (t_c2 : PySem.W.typeIn K (.ref c2) = some (.type "type"))
    (e_c2 : PySem.W.exmOne K (.ref c2) (.ref c0) = some true)
    (y1_c2 : PySem.W.findIn K (.ref c2) "__getattribute__" = some (some (.builtin "BaseException.__getattribute__")))
    (y2_c2 : PySem.W.findIn K (.ref c2) "__getattr__" = some none)
    (y4_c2 : PySem.W.hasDictIn K c2 = true)
    (y5_c2 : PySem.W.findIn K (.ref c2) "__class__" = some (some (.builtin "object.__class__")))
    (y8_c2 : PySem.W.mroIn K c2 (.type "object") = some true)
    (x_c3 : PySem.W.excIn K c3 VEs "ValueError.__new__" = true)
    (kk_c3 : PySem.W.keepIn K (.ref c3) = true)
    (bx_c3 : PySem.W.subIn K (.ref c3) (.type "BaseException") = some true)
    (t_c3 : PySem.W.typeIn K (.ref c3) = some (.type "type"))
    (e_c3 : PySem.W.exmOne K (.ref c3) (.ref c0) = some true)
    (y1_c3 : PySem.W.findIn K (.ref c3) "__getattribute__" = some (some (.builtin "BaseException.__getattribute__")))
    (y2_c3 : PySem.W.findIn K (.ref c3) "__getattr__" = some none)
    (y4_c3 : PySem.W.hasDictIn K c3 = true)
    (y5_c3 : PySem.W.findIn K (.ref c3) "__class__" = some (some (.builtin "object.__class__")))
    (y8_c3 : PySem.W.mroIn K c3 (.type "object") = some true)
    (x_c4 : PySem.W.excIn K c4 VEs "ValueError.__new__" = true)
    (kk_c4 : PySem.W.keepIn K (.ref c4) = true)
    (bx_c4 : PySem.W.subIn K (.ref c4) (.type "BaseException") = some true)
    (t_c4 : PySem.W.typeIn K (.ref c4) = some (.type "type"))
    (e_c4 : PySem.W.exmOne K (.ref c4) (.ref c0) = some true)
    (y1_c4 : PySem.W.findIn K (.ref c4) "__getattribute__" = some (some (.builtin "BaseException.__getattribute__")))
    (y2_c4 : PySem.W.findIn K (.ref c4) "__getattr__" = some none)
    (y4_c4 : PySem.W.hasDictIn K c4 = true)
    (y5_c4 : PySem.W.findIn K (.ref c4) "__class__" = some (some (.builtin "object.__class__")))
    (y8_c4 : PySem.W.mroIn K c4 (.type "object") = some true)
    (x_c5 : PySem.W.excIn K c5 VEs "ValueError.__new__" = true)
    (kk_c5 : PySem.W.keepIn K (.ref c5) = true)
    (bx_c5 : PySem.W.subIn K (.ref c5) (.type "BaseException") = some true)
    (t_c5 : PySem.W.typeIn K (.ref c5) = some (.type "type"))
    (e_c5 : PySem.W.exmOne K (.ref c5) (.ref c0) = some true)
    (y1_c5 : PySem.W.findIn K (.ref c5) "__getattribute__" = some (some (.builtin "BaseException.__getattribute__")))
    (y2_c5 : PySem.W.findIn K (.ref c5) "__getattr__" = some none)
    (y4_c5 : PySem.W.hasDictIn K c5 = true)
    (y5_c5 : PySem.W.findIn K (.ref c5) "__class__" = some (some (.builtin "object.__class__")))
    (y8_c5 : PySem.W.mroIn K c5 (.type "object") = some true)
    (x_c6 : PySem.W.excIn K c6 VEs "ValueError.__new__" = true)
    (kk_c6 : PySem.W.keepIn K (.ref c6) = true)
    (bx_c6 : PySem.W.subIn K (.ref c6) (.type "BaseException") = some true)
    (t_c6 : PySem.W.typeIn K (.ref c6) = some (.type "type"))
    (e_c6 : PySem.W.exmOne K (.ref c6) (.ref c0) = some true)
    (y1_c6 : PySem.W.findIn K (.ref c6) "__getattribute__" = some (some (.builtin "BaseException.__getattribute__")))
    (y2_c6 : PySem.W.findIn K (.ref c6) "__getattr__" = some none)
    (y4_c6 : PySem.W.hasDictIn K c6 = true)
    (y5_c6 : PySem.W.findIn K (.ref c6) "__class__" = some (some (.builtin "object.__class__")))
    (y8_c6 : PySem.W.mroIn K c6 (.type "object") = some true)
    (x_c7 : PySem.W.excIn K c7 VEs "ValueError.__new__" = true)
    (kk_c7 : PySem.W.keepIn K (.ref c7) = true)
    (bx_c7 : PySem.W.subIn K (.ref c7) (.type "BaseException") = some true)
    (t_c7 : PySem.W.typeIn K (.ref c7) = some (.type "type"))
    (e_c7 : PySem.W.exmOne K (.ref c7) (.ref c0) = some true)
    (y1_c7 : PySem.W.findIn K (.ref c7) "__getattribute__" = some (some (.builtin "BaseException.__getattribute__")))
    (y2_c7 : PySem.W.findIn K (.ref c7) "__getattr__" = some none)
    (y4_c7 : PySem.W.hasDictIn K c7 = true)
    (y5_c7 : PySem.W.findIn K (.ref c7) "__class__" = some (some (.builtin "object.__class__")))
    (y8_c7 : PySem.W.mroIn K c7 (.type "object") = some true)
    (y6 : PySem.W.specialIn K (.builtin "object.__class__") "__get__" = some (some (.builtin "getset_descriptor.__get__")))
    (y7 : PySem.W.takesIn K (.builtin "object.__class__") = some true)
    (i_c1_c1 : PySem.W.kitOne K (.ref c1) (.ref c1) = some true)
    (i_c1_c2 : PySem.W.kitOne K (.ref c1) (.ref c2) = some false)
    (i_c1_c3 : PySem.W.kitOne K (.ref c1) (.ref c3) = some false)
    (i_c1_c4 : PySem.W.kitOne K (.ref c1) (.ref c4) = some false)
    (i_c1_c5 : PySem.W.kitOne K (.ref c1) (.ref c5) = some false)
    (i_c1_c6 : PySem.W.kitOne K (.ref c1) (.ref c6) = some false)
    (i_c1_c7 : PySem.W.kitOne K (.ref c1) (.ref c7) = some false)
    (i_c1_NoText : PySem.W.kitOne K (.ref c1) (.type "NoText") = some false)
    (i_c1_ValueError : PySem.W.kitOne K (.ref c1) (.type "ValueError") = some true)
    (i_c2_c1 : PySem.W.kitOne K (.ref c2) (.ref c1) = some false)
    (i_c2_c2 : PySem.W.kitOne K (.ref c2) (.ref c2) = some true)
    (i_c2_c3 : PySem.W.kitOne K (.ref c2) (.ref c3) = some false)
    (i_c2_c4 : PySem.W.kitOne K (.ref c2) (.ref c4) = some false)
    (i_c2_c5 : PySem.W.kitOne K (.ref c2) (.ref c5) = some false)
    (i_c2_c6 : PySem.W.kitOne K (.ref c2) (.ref c6) = some false)
    (i_c2_c7 : PySem.W.kitOne K (.ref c2) (.ref c7) = some false)
    (i_c2_NoText : PySem.W.kitOne K (.ref c2) (.type "NoText") = some false)
    (i_c2_ValueError : PySem.W.kitOne K (.ref c2) (.type "ValueError") = some true)
    (i_c3_c1 : PySem.W.kitOne K (.ref c3) (.ref c1) = some false)
    (i_c3_c2 : PySem.W.kitOne K (.ref c3) (.ref c2) = some false)
    (i_c3_c3 : PySem.W.kitOne K (.ref c3) (.ref c3) = some true)
    (i_c3_c4 : PySem.W.kitOne K (.ref c3) (.ref c4) = some false)
    (i_c3_c5 : PySem.W.kitOne K (.ref c3) (.ref c5) = some false)
    (i_c3_c6 : PySem.W.kitOne K (.ref c3) (.ref c6) = some false)
    (i_c3_c7 : PySem.W.kitOne K (.ref c3) (.ref c7) = some false)
    (i_c3_NoText : PySem.W.kitOne K (.ref c3) (.type "NoText") = some false)
    (i_c3_ValueError : PySem.W.kitOne K (.ref c3) (.type "ValueError") = some true)
    (i_c4_c1 : PySem.W.kitOne K (.ref c4) (.ref c1) = some false)
    (i_c4_c2 : PySem.W.kitOne K (.ref c4) (.ref c2) = some false)
    (i_c4_c3 : PySem.W.kitOne K (.ref c4) (.ref c3) = some false)
    (i_c4_c4 : PySem.W.kitOne K (.ref c4) (.ref c4) = some true)
    (i_c4_c5 : PySem.W.kitOne K (.ref c4) (.ref c5) = some false)
    (i_c4_c6 : PySem.W.kitOne K (.ref c4) (.ref c6) = some false)
    (i_c4_c7 : PySem.W.kitOne K (.ref c4) (.ref c7) = some false)
    (i_c4_NoText : PySem.W.kitOne K (.ref c4) (.type "NoText") = some false)
    (i_c4_ValueError : PySem.W.kitOne K (.ref c4) (.type "ValueError") = some true)
    (i_c5_c1 : PySem.W.kitOne K (.ref c5) (.ref c1) = some false)
    (i_c5_c2 : PySem.W.kitOne K (.ref c5) (.ref c2) = some false)
    (i_c5_c3 : PySem.W.kitOne K (.ref c5) (.ref c3) = some false)
    (i_c5_c4 : PySem.W.kitOne K (.ref c5) (.ref c4) = some false)
    (i_c5_c5 : PySem.W.kitOne K (.ref c5) (.ref c5) = some true)
    (i_c5_c6 : PySem.W.kitOne K (.ref c5) (.ref c6) = some false)
    (i_c5_c7 : PySem.W.kitOne K (.ref c5) (.ref c7) = some false)
    (i_c5_NoText : PySem.W.kitOne K (.ref c5) (.type "NoText") = some false)
    (i_c5_ValueError : PySem.W.kitOne K (.ref c5) (.type "ValueError") = some true)
    (i_c6_c1 : PySem.W.kitOne K (.ref c6) (.ref c1) = some false)
    (i_c6_c2 : PySem.W.kitOne K (.ref c6) (.ref c2) = some false)
    (i_c6_c3 : PySem.W.kitOne K (.ref c6) (.ref c3) = some false)
    (i_c6_c4 : PySem.W.kitOne K (.ref c6) (.ref c4) = some false)
    (i_c6_c5 : PySem.W.kitOne K (.ref c6) (.ref c5) = some false)
    (i_c6_c6 : PySem.W.kitOne K (.ref c6) (.ref c6) = some true)
    (i_c6_c7 : PySem.W.kitOne K (.ref c6) (.ref c7) = some false)
    (i_c6_NoText : PySem.W.kitOne K (.ref c6) (.type "NoText") = some false)
    (i_c6_ValueError : PySem.W.kitOne K (.ref c6) (.type "ValueError") = some true)
    (i_c7_c1 : PySem.W.kitOne K (.ref c7) (.ref c1) = some false)
    (i_c7_c2 : PySem.W.kitOne K (.ref c7) (.ref c2) = some false)
    (i_c7_c3 : PySem.W.kitOne K (.ref c7) (.ref c3) = some false)
    (i_c7_c4 : PySem.W.kitOne K (.ref c7) (.ref c4) = some false)
    (i_c7_c5 : PySem.W.kitOne K (.ref c7) (.ref c5) = some false)
    (i_c7_c6 : PySem.W.kitOne K (.ref c7) (.ref c6) = some false)
    (i_c7_c7 : PySem.W.kitOne K (.ref c7) (.ref c7) = some true)
    (i_c7_NoText : PySem.W.kitOne K (.ref c7) (.type "NoText") = some false)
    (i_c7_ValueError : PySem.W.kitOne K (.ref c7) (.type "ValueError") = some true)
    (m_MOST_HOUSES : ∃ t, PySem.W.nsIn K mainGlobals "MOST_HOUSES" = some (some (.int 12 t)))
    (m_SAY : ∃ t, PySem.W.nsIn K mainGlobals "SAY" = some (some (.str "say" t)))
    (m_MARK : ∃ t, PySem.W.nsIn K mainGlobals "MARK" = some (some (.str "mark" t)))
    (m_LAST_NUMBER : ∃ t, PySem.W.nsIn K mainGlobals "LAST_NUMBER" = some (some (.int 9999 t)))
    (m_LONGEST_ROW : ∃ t, PySem.W.nsIn K mainGlobals "LONGEST_ROW" = some (some (.int 8 t)))
    (m_LETTERS : ∃ t, PySem.W.nsIn K mainGlobals "LETTERS" = some (some (.str "abcdefghijklmnopqrstuvwxyz" t)))
    (n_abs : PySem.W.nsIn K mainGlobals "abs" = some none)
    (n_all : PySem.W.nsIn K mainGlobals "all" = some none)
    (n_enumerate : PySem.W.nsIn K mainGlobals "enumerate" = some none)
    (n_int : PySem.W.nsIn K mainGlobals "int" = some none)
    (n_len : PySem.W.nsIn K mainGlobals "len" = some none)
    (n_list : PySem.W.nsIn K mainGlobals "list" = some none)
    (n_max : PySem.W.nsIn K mainGlobals "max" = some none)
    (n_min : PySem.W.nsIn K mainGlobals "min" = some none)
    (n_range : PySem.W.nsIn K mainGlobals "range" = some none)
    (n_set : PySem.W.nsIn K mainGlobals "set" = some none)
    (n_sorted : PySem.W.nsIn K mainGlobals "sorted" = some none)
    (n_str : PySem.W.nsIn K mainGlobals "str" = some none)
    (n_tuple : PySem.W.nsIn K mainGlobals "tuple" = some none)
    (n_type : PySem.W.nsIn K mainGlobals "type" = some none) :
    ∃ fd : FuncData, (∀ (s : Shared) (v : Value), BindsTo s fd ⟨[v], []⟩ [("_law_script", v)]) ∧ ∀ base : Heap, K.In base → base.Ns mainGlobals mg → FnOk l.prog w K mg base CX0 10 fa fd ["_law_script"] (spLaw K) := by
  have e := hfa.symm.trans (PySem.W.mg_of X G a46)
  cases e
  have F0 := fun_mk (st := s_is_whole) l0 c0c k0
  have b0 := F0.binds (ps := ["thing", "least", "most"]) fun _ _ _ _ _ _ us hl => match us, hl with | [_, _, _], _ => rfl
  have F1 := fun_mk (st := s_check_count) l1 c1c k1
  have b1 := F1.binds (ps := ["count"]) fun _ _ _ _ _ _ us hl => match us, hl with | [_], _ => rfl
  have F2 := fun_mk (st := s_is_house) l2 c2c k2
  have b2 := F2.binds (ps := ["count", "thing"]) fun _ _ _ _ _ _ us hl => match us, hl with | [_, _], _ => rfl
  have F3 := fun_mk (st := s_most_liars) l3 c3c k3
  have b3 := F3.binds (ps := ["count"]) fun _ _ _ _ _ _ us hl => match us, hl with | [_], _ => rfl
  have F4 := fun_mk (st := s_enough) l4 c4c k4
  have b4 := F4.binds (ps := ["count"]) fun _ _ _ _ _ _ us hl => match us, hl with | [_], _ => rfl
  have F5 := fun_mk (st := s_is_row) l5 c5c k5
  have b5 := F5.binds (ps := ["thing"]) fun _ _ _ _ _ _ us hl => match us, hl with | [_], _ => rfl
  have F6 := fun_mk (st := s_caller) l6 c6c k6
  have b6 := F6.binds (ps := ["count", "number"]) fun _ _ _ _ _ _ us hl => match us, hl with | [_, _], _ => rfl
  have F7 := fun_mk (st := s_is_word) l7 c7c k7
  have b7 := F7.binds (ps := ["count", "thing"]) fun _ _ _ _ _ _ us hl => match us, hl with | [_, _], _ => rfl
  have F8 := fun_mk (st := s_place) l8 c8c k8
  have b8 := F8.binds (ps := ["word"]) fun _ _ _ _ _ _ us hl => match us, hl with | [_], _ => rfl
  have F9 := fun_mk (st := s_House___init__) l9 c9c k9
  have b9 := F9.binds (ps := ["self", "count", "own"]) fun _ _ _ _ _ _ us hl => match us, hl with | [_, _, _], _ => rfl
  have F10 := fun_mk (st := s_House_call) l10 c10c k10
  have b10 := F10.binds (ps := ["self", "row"]) fun _ _ _ _ _ _ us hl => match us, hl with | [_, _], _ => rfl
  have F11 := fun_mk (st := s_House_hear) l11 c11c k11
  have b11 := F11.binds (ps := ["self", "word"]) fun _ _ _ _ _ _ us hl => match us, hl with | [_, _], _ => rfl
  have F12 := fun_mk (st := s_House_ledger) l12 c12c k12
  have b12 := F12.binds (ps := ["self"]) fun _ _ _ _ _ _ us hl => match us, hl with | [_], _ => rfl
  have F13 := fun_mk (st := s_House_backing) l13 c13c k13
  have b13 := F13.binds (ps := ["self", "number"]) fun _ _ _ _ _ _ us hl => match us, hl with | [_, _], _ => rfl
  have F14 := fun_mk (st := s_House_caught) l14 c14c k14
  have b14 := F14.binds (ps := ["self"]) fun _ _ _ _ _ _ us hl => match us, hl with | [_], _ => rfl
  have F15 := fun_mk (st := s_House__learn) l15 c15c k15
  have b15 := F15.binds (ps := ["self", "word"]) fun _ _ _ _ _ _ us hl => match us, hl with | [_, _], _ => rfl
  have F16 := fun_mk (st := s_House__mark) l16 c16c k16
  have b16 := F16.binds (ps := ["self", "word"]) fun _ _ _ _ _ _ us hl => match us, hl with | [_, _], _ => rfl
  have F17 := fun_mk (st := s_House__write) l17 c17c k17
  have b17 := F17.binds (ps := ["self", "word"]) fun _ _ _ _ _ _ us hl => match us, hl with | [_, _], _ => rfl
  have F18 := fun_mk (st := s_House__name) l18 c18c k18
  have b18 := F18.binds (ps := ["self", "word"]) fun _ _ _ _ _ _ us hl => match us, hl with | [_, _], _ => rfl
  have F19 := fun_mk (st := s_Post___init__) l19 c19c k19
  have b19 := F19.binds (ps := ["self"]) fun _ _ _ _ _ _ us hl => match us, hl with | [_], _ => rfl
  have F20 := fun_mk (st := s_Post_send) l20 c20c k20
  have b20 := F20.binds (ps := ["self", "letter"]) fun _ _ _ _ _ _ us hl => match us, hl with | [_, _], _ => rfl
  have F21 := fun_mk (st := s_Post_bring) l21 c21c k21
  have b21 := F21.binds (ps := ["self", "number"]) fun _ _ _ _ _ _ us hl => match us, hl with | [_, _], _ => rfl
  have F22 := fun_mk (st := s_Post_waiting) l22 c22c k22
  have b22 := F22.binds (ps := ["self"]) fun _ _ _ _ _ _ us hl => match us, hl with | [_], _ => rfl
  have F23 := fun_mk (st := s_are_different_houses) l23 c23c k23
  have b23 := F23.binds (ps := ["count", "thing"]) fun _ _ _ _ _ _ us hl => match us, hl with | [_, _], _ => rfl
  have F24 := fun_mk (st := s_Town___init__) l24 c24c k24
  have b24 := F24.binds (ps := ["self", "count", "liars"]) fun _ _ _ _ _ _ us hl => match us, hl with | [_, _, _], _ => rfl
  have F25 := fun_mk (st := s_Town_call) l25 c25c k25
  have b25 := F25.binds (ps := ["self", "house", "row"]) fun _ _ _ _ _ _ us hl => match us, hl with | [_, _, _], _ => rfl
  have F26 := fun_mk (st := s_Town_bring) l26 c26c k26
  have b26 := F26.binds (ps := ["self", "number"]) fun _ _ _ _ _ _ us hl => match us, hl with | [_, _], _ => rfl
  have F27 := fun_mk (st := s_Town_lie) l27 c27c k27
  have b27 := F27.binds (ps := ["self", "house", "receiver", "word"]) fun _ _ _ _ _ _ us hl => match us, hl with | [_, _, _, _], _ => rfl
  have F28 := fun_mk (st := s_Town_waiting) l28 c28c k28
  have b28 := F28.binds (ps := ["self"]) fun _ _ _ _ _ _ us hl => match us, hl with | [_], _ => rfl
  have F29 := fun_mk (st := s_Town_spoken) l29 c29c k29
  have b29 := F29.binds (ps := ["self"]) fun _ _ _ _ _ _ us hl => match us, hl with | [_], _ => rfl
  have F30 := fun_mk (st := s_Town_ledger) l30 c30c k30
  have b30 := F30.binds (ps := ["self", "house"]) fun _ _ _ _ _ _ us hl => match us, hl with | [_, _], _ => rfl
  have F31 := fun_mk (st := s_Town_backing) l31 c31c k31
  have b31 := F31.binds (ps := ["self", "house", "number"]) fun _ _ _ _ _ _ us hl => match us, hl with | [_, _, _], _ => rfl
  have F32 := fun_mk (st := s_Town_caught) l32 c32c k32
  have b32 := F32.binds (ps := ["self", "house"]) fun _ _ _ _ _ _ us hl => match us, hl with | [_, _], _ => rfl
  have F33 := fun_mk (st := s_Town__honest_house) l33 c33c k33
  have b33 := F33.binds (ps := ["self", "house"]) fun _ _ _ _ _ _ us hl => match us, hl with | [_, _], _ => rfl
  have F34 := fun_mk (st := s_Town__tell) l34 c34c k34
  have b34 := F34.binds (ps := ["self", "house", "words"]) fun _ _ _ _ _ _ us hl => match us, hl with | [_, _, _], _ => rfl
  have F35 := fun_mk (st := s__law_at) l35 c35c k35
  have b35 := F35.binds (ps := ["_law_script", "_law_k"]) fun _ _ _ _ _ _ us hl => match us, hl with | [_, _], _ => rfl
  have F36 := fun_mk (st := s__law_row) l36 c36c k36
  have b36 := F36.binds (ps := ["_law_base", "_law_k"]) fun _ _ _ _ _ _ us hl => match us, hl with | [_, _], _ => rfl
  have F37 := fun_mk (st := s__law_liars) l37 c37c k37
  have b37 := F37.binds (ps := ["_law_cell", "_law_count_here", "_law_many"]) fun _ _ _ _ _ _ us hl => match us, hl with | [_, _, _], _ => rfl
  have F38 := fun_mk (st := s__law_count) l38 c38c k38
  have b38 := F38.binds (ps := ["_law_cell"]) fun _ _ _ _ _ _ us hl => match us, hl with | [_], _ => rfl
  have F39 := fun_mk (st := s__law_split) l39 c39c k39
  have b39 := F39.binds (ps := ["_law_town", "_law_count_here", "_law_liars_here", "_law_cell", "_law_rows"]) fun _ _ _ _ _ _ us hl => match us, hl with | [_, _, _, _, _], _ => rfl
  have F40 := fun_mk (st := s__law_lie) l40 c40c k40
  have b40 := F40.binds (ps := ["_law_town", "_law_count_here", "_law_liars_here", "_law_cell", "_law_rows"]) fun _ _ _ _ _ _ us hl => match us, hl with | [_, _, _, _, _], _ => rfl
  have F41 := fun_mk (st := s__law_deed) l41 c41c k41
  have b41 := F41.binds (ps := ["_law_town", "_law_count_here", "_law_liars_here", "_law_cell", "_law_rows"]) fun _ _ _ _ _ _ us hl => match us, hl with | [_, _, _, _, _], _ => rfl
  have F42 := fun_mk (st := s__law_enough) l42 c42c k42
  have b42 := F42.binds (ps := ["_law_count_here"]) fun _ _ _ _ _ _ us hl => match us, hl with | [_], _ => rfl
  have F43 := fun_mk (st := s__law_is_backing) l43 c43c k43
  have b43 := F43.binds (ps := ["_law_backing", "_law_count_here", "_law_number", "_law_row_here", "_law_spoken"]) fun _ _ _ _ _ _ us hl => match us, hl with | [_, _, _, _, _], _ => rfl
  have F44 := fun_mk (st := s__law_named_right) l44 c44c k44
  have b44 := F44.binds (ps := ["_law_names", "_law_liars_here", "_law_spoken"]) fun _ _ _ _ _ _ us hl => match us, hl with | [_, _, _], _ => rfl
  have F45 := fun_mk (st := s__law_good) l45 c45c k45
  have b45 := F45.binds (ps := ["_law_town", "_law_count_here", "_law_liars_here", "_law_rows"]) fun _ _ _ _ _ _ us hl => match us, hl with | [_, _, _, _], _ => rfl
  have F46 := fun_mk (st := s_law) l46 c46c k46
  obtain ⟨t_MOST_HOUSES, m_MOST_HOUSES⟩ := m_MOST_HOUSES
  obtain ⟨t_SAY, m_SAY⟩ := m_SAY
  obtain ⟨t_MARK, m_MARK⟩ := m_MARK
  obtain ⟨t_LAST_NUMBER, m_LAST_NUMBER⟩ := m_LAST_NUMBER
  obtain ⟨t_LONGEST_ROW, m_LONGEST_ROW⟩ := m_LONGEST_ROW
  obtain ⟨t_LETTERS, m_LETTERS⟩ := m_LETTERS
  let a : Ad := ⟨f0, f1, f2, f3, f4, f5, f6, f7, f8, f9, f10, f11, f12, f13, f14, f15, f16, f17, f18, f19, f20, f21, f22, f23, f24, f25, f26, f27, f28, f29, f30, f31, f32, f33, f34, f35, f36, f37, f38, f39, f40, f41, f42, f43, f44, f45, fa, PySem.W.fnOf "is_whole" "is_whole" (defArgs s_is_whole) (defBody s_is_whole) (defScope s_is_whole) .none kV0 dc0 pm0 an0 cd0 ct0, PySem.W.fnOf "check_count" "check_count" (defArgs s_check_count) (defBody s_check_count) (defScope s_check_count) .none kV1 dc1 pm1 an1 cd1 ct1, PySem.W.fnOf "is_house" "is_house" (defArgs s_is_house) (defBody s_is_house) (defScope s_is_house) .none kV2 dc2 pm2 an2 cd2 ct2, PySem.W.fnOf "most_liars" "most_liars" (defArgs s_most_liars) (defBody s_most_liars) (defScope s_most_liars) .none kV3 dc3 pm3 an3 cd3 ct3, PySem.W.fnOf "enough" "enough" (defArgs s_enough) (defBody s_enough) (defScope s_enough) .none kV4 dc4 pm4 an4 cd4 ct4, PySem.W.fnOf "is_row" "is_row" (defArgs s_is_row) (defBody s_is_row) (defScope s_is_row) .none kV5 dc5 pm5 an5 cd5 ct5, PySem.W.fnOf "caller" "caller" (defArgs s_caller) (defBody s_caller) (defScope s_caller) .none kV6 dc6 pm6 an6 cd6 ct6, PySem.W.fnOf "is_word" "is_word" (defArgs s_is_word) (defBody s_is_word) (defScope s_is_word) .none kV7 dc7 pm7 an7 cd7 ct7, PySem.W.fnOf "place" "place" (defArgs s_place) (defBody s_place) (defScope s_place) .none kV8 dc8 pm8 an8 cd8 ct8, PySem.W.fnOf "__init__" "House.__init__" (defArgs s_House___init__) (defBody s_House___init__) (defScope s_House___init__) .none kV9 dc9 pm9 an9 cd9 ct9, PySem.W.fnOf "call" "House.call" (defArgs s_House_call) (defBody s_House_call) (defScope s_House_call) .none kV10 dc10 pm10 an10 cd10 ct10, PySem.W.fnOf "hear" "House.hear" (defArgs s_House_hear) (defBody s_House_hear) (defScope s_House_hear) .none kV11 dc11 pm11 an11 cd11 ct11, PySem.W.fnOf "ledger" "House.ledger" (defArgs s_House_ledger) (defBody s_House_ledger) (defScope s_House_ledger) .none kV12 dc12 pm12 an12 cd12 ct12, PySem.W.fnOf "backing" "House.backing" (defArgs s_House_backing) (defBody s_House_backing) (defScope s_House_backing) .none kV13 dc13 pm13 an13 cd13 ct13, PySem.W.fnOf "caught" "House.caught" (defArgs s_House_caught) (defBody s_House_caught) (defScope s_House_caught) .none kV14 dc14 pm14 an14 cd14 ct14, PySem.W.fnOf "_learn" "House._learn" (defArgs s_House__learn) (defBody s_House__learn) (defScope s_House__learn) .none kV15 dc15 pm15 an15 cd15 ct15, PySem.W.fnOf "_mark" "House._mark" (defArgs s_House__mark) (defBody s_House__mark) (defScope s_House__mark) .none kV16 dc16 pm16 an16 cd16 ct16, PySem.W.fnOf "_write" "House._write" (defArgs s_House__write) (defBody s_House__write) (defScope s_House__write) .none kV17 dc17 pm17 an17 cd17 ct17, PySem.W.fnOf "_name" "House._name" (defArgs s_House__name) (defBody s_House__name) (defScope s_House__name) .none kV18 dc18 pm18 an18 cd18 ct18, PySem.W.fnOf "__init__" "Post.__init__" (defArgs s_Post___init__) (defBody s_Post___init__) (defScope s_Post___init__) .none kV19 dc19 pm19 an19 cd19 ct19, PySem.W.fnOf "send" "Post.send" (defArgs s_Post_send) (defBody s_Post_send) (defScope s_Post_send) .none kV20 dc20 pm20 an20 cd20 ct20, PySem.W.fnOf "bring" "Post.bring" (defArgs s_Post_bring) (defBody s_Post_bring) (defScope s_Post_bring) .none kV21 dc21 pm21 an21 cd21 ct21, PySem.W.fnOf "waiting" "Post.waiting" (defArgs s_Post_waiting) (defBody s_Post_waiting) (defScope s_Post_waiting) .none kV22 dc22 pm22 an22 cd22 ct22, PySem.W.fnOf "are_different_houses" "are_different_houses" (defArgs s_are_different_houses) (defBody s_are_different_houses) (defScope s_are_different_houses) .none kV23 dc23 pm23 an23 cd23 ct23, PySem.W.fnOf "__init__" "Town.__init__" (defArgs s_Town___init__) (defBody s_Town___init__) (defScope s_Town___init__) .none kV24 dc24 pm24 an24 cd24 ct24, PySem.W.fnOf "call" "Town.call" (defArgs s_Town_call) (defBody s_Town_call) (defScope s_Town_call) .none kV25 dc25 pm25 an25 cd25 ct25, PySem.W.fnOf "bring" "Town.bring" (defArgs s_Town_bring) (defBody s_Town_bring) (defScope s_Town_bring) .none kV26 dc26 pm26 an26 cd26 ct26, PySem.W.fnOf "lie" "Town.lie" (defArgs s_Town_lie) (defBody s_Town_lie) (defScope s_Town_lie) .none kV27 dc27 pm27 an27 cd27 ct27, PySem.W.fnOf "waiting" "Town.waiting" (defArgs s_Town_waiting) (defBody s_Town_waiting) (defScope s_Town_waiting) .none kV28 dc28 pm28 an28 cd28 ct28, PySem.W.fnOf "spoken" "Town.spoken" (defArgs s_Town_spoken) (defBody s_Town_spoken) (defScope s_Town_spoken) .none kV29 dc29 pm29 an29 cd29 ct29, PySem.W.fnOf "ledger" "Town.ledger" (defArgs s_Town_ledger) (defBody s_Town_ledger) (defScope s_Town_ledger) .none kV30 dc30 pm30 an30 cd30 ct30, PySem.W.fnOf "backing" "Town.backing" (defArgs s_Town_backing) (defBody s_Town_backing) (defScope s_Town_backing) .none kV31 dc31 pm31 an31 cd31 ct31, PySem.W.fnOf "caught" "Town.caught" (defArgs s_Town_caught) (defBody s_Town_caught) (defScope s_Town_caught) .none kV32 dc32 pm32 an32 cd32 ct32, PySem.W.fnOf "_honest_house" "Town._honest_house" (defArgs s_Town__honest_house) (defBody s_Town__honest_house) (defScope s_Town__honest_house) .none kV33 dc33 pm33 an33 cd33 ct33, PySem.W.fnOf "_tell" "Town._tell" (defArgs s_Town__tell) (defBody s_Town__tell) (defScope s_Town__tell) .none kV34 dc34 pm34 an34 cd34 ct34, PySem.W.fnOf "_law_at" "_law_at" (defArgs s__law_at) (defBody s__law_at) (defScope s__law_at) .none kV35 dc35 pm35 an35 cd35 ct35, PySem.W.fnOf "_law_row" "_law_row" (defArgs s__law_row) (defBody s__law_row) (defScope s__law_row) .none kV36 dc36 pm36 an36 cd36 ct36, PySem.W.fnOf "_law_liars" "_law_liars" (defArgs s__law_liars) (defBody s__law_liars) (defScope s__law_liars) .none kV37 dc37 pm37 an37 cd37 ct37, PySem.W.fnOf "_law_count" "_law_count" (defArgs s__law_count) (defBody s__law_count) (defScope s__law_count) .none kV38 dc38 pm38 an38 cd38 ct38, PySem.W.fnOf "_law_split" "_law_split" (defArgs s__law_split) (defBody s__law_split) (defScope s__law_split) .none kV39 dc39 pm39 an39 cd39 ct39, PySem.W.fnOf "_law_lie" "_law_lie" (defArgs s__law_lie) (defBody s__law_lie) (defScope s__law_lie) .none kV40 dc40 pm40 an40 cd40 ct40, PySem.W.fnOf "_law_deed" "_law_deed" (defArgs s__law_deed) (defBody s__law_deed) (defScope s__law_deed) .none kV41 dc41 pm41 an41 cd41 ct41, PySem.W.fnOf "_law_enough" "_law_enough" (defArgs s__law_enough) (defBody s__law_enough) (defScope s__law_enough) .none kV42 dc42 pm42 an42 cd42 ct42, PySem.W.fnOf "_law_is_backing" "_law_is_backing" (defArgs s__law_is_backing) (defBody s__law_is_backing) (defScope s__law_is_backing) .none kV43 dc43 pm43 an43 cd43 ct43, PySem.W.fnOf "_law_named_right" "_law_named_right" (defArgs s__law_named_right) (defBody s__law_named_right) (defScope s__law_named_right) .none kV44 dc44 pm44 an44 cd44 ct44, PySem.W.fnOf "_law_good" "_law_good" (defArgs s__law_good) (defBody s__law_good) (defScope s__law_good) .none kV45 dc45 pm45 an45 cd45 ct45, PySem.W.fnOf "law" "law" (defArgs s_law) (defBody s_law) (defScope s_law) .none kV46 dc46 pm46 an46 cd46 ct46, c0, c1, c2, c3, c4, c5, c6, c7, c8, c9, c10, t_MOST_HOUSES, t_SAY, t_MARK, t_LAST_NUMBER, t_LONGEST_ROW, t_LETTERS⟩
  have T : Txt K mg a := {
    F_is_whole := F0,
    g_is_whole := PySem.W.mg_of X G a0,
    b_is_whole := b0,
    F_check_count := F1,
    g_check_count := PySem.W.mg_of X G a1,
    b_check_count := b1,
    F_is_house := F2,
    g_is_house := PySem.W.mg_of X G a2,
    b_is_house := b2,
    F_most_liars := F3,
    g_most_liars := PySem.W.mg_of X G a3,
    b_most_liars := b3,
    F_enough := F4,
    g_enough := PySem.W.mg_of X G a4,
    b_enough := b4,
    F_is_row := F5,
    g_is_row := PySem.W.mg_of X G a5,
    b_is_row := b5,
    F_caller := F6,
    g_caller := PySem.W.mg_of X G a6,
    b_caller := b6,
    F_is_word := F7,
    g_is_word := PySem.W.mg_of X G a7,
    b_is_word := b7,
    F_place := F8,
    g_place := PySem.W.mg_of X G a8,
    b_place := b8,
    F_House___init__ := F9,
    me_House___init__ := ⟨a9, ii9, k9⟩,
    b_House___init__ := b9,
    F_House_call := F10,
    me_House_call := ⟨a10, ii10, k10⟩,
    b_House_call := b10,
    F_House_hear := F11,
    me_House_hear := ⟨a11, ii11, k11⟩,
    b_House_hear := b11,
    F_House_ledger := F12,
    me_House_ledger := ⟨a12, ii12, k12⟩,
    b_House_ledger := b12,
    F_House_backing := F13,
    me_House_backing := ⟨a13, ii13, k13⟩,
    b_House_backing := b13,
    F_House_caught := F14,
    me_House_caught := ⟨a14, ii14, k14⟩,
    b_House_caught := b14,
    F_House__learn := F15,
    me_House__learn := ⟨a15, ii15, k15⟩,
    b_House__learn := b15,
    F_House__mark := F16,
    me_House__mark := ⟨a16, ii16, k16⟩,
    b_House__mark := b16,
    F_House__write := F17,
    me_House__write := ⟨a17, ii17, k17⟩,
    b_House__write := b17,
    F_House__name := F18,
    me_House__name := ⟨a18, ii18, k18⟩,
    b_House__name := b18,
    F_Post___init__ := F19,
    me_Post___init__ := ⟨a19, ii19, k19⟩,
    b_Post___init__ := b19,
    F_Post_send := F20,
    me_Post_send := ⟨a20, ii20, k20⟩,
    b_Post_send := b20,
    F_Post_bring := F21,
    me_Post_bring := ⟨a21, ii21, k21⟩,
    b_Post_bring := b21,
    F_Post_waiting := F22,
    me_Post_waiting := ⟨a22, ii22, k22⟩,
    b_Post_waiting := b22,
    F_are_different_houses := F23,
    g_are_different_houses := PySem.W.mg_of X G a23,
    b_are_different_houses := b23,
    F_Town___init__ := F24,
    me_Town___init__ := ⟨a24, ii24, k24⟩,
    b_Town___init__ := b24,
    F_Town_call := F25,
    me_Town_call := ⟨a25, ii25, k25⟩,
    b_Town_call := b25,
    F_Town_bring := F26,
    me_Town_bring := ⟨a26, ii26, k26⟩,
    b_Town_bring := b26,
    F_Town_lie := F27,
    me_Town_lie := ⟨a27, ii27, k27⟩,
    b_Town_lie := b27,
    F_Town_waiting := F28,
    me_Town_waiting := ⟨a28, ii28, k28⟩,
    b_Town_waiting := b28,
    F_Town_spoken := F29,
    me_Town_spoken := ⟨a29, ii29, k29⟩,
    b_Town_spoken := b29,
    F_Town_ledger := F30,
    me_Town_ledger := ⟨a30, ii30, k30⟩,
    b_Town_ledger := b30,
    F_Town_backing := F31,
    me_Town_backing := ⟨a31, ii31, k31⟩,
    b_Town_backing := b31,
    F_Town_caught := F32,
    me_Town_caught := ⟨a32, ii32, k32⟩,
    b_Town_caught := b32,
    F_Town__honest_house := F33,
    me_Town__honest_house := ⟨a33, ii33, k33⟩,
    b_Town__honest_house := b33,
    F_Town__tell := F34,
    me_Town__tell := ⟨a34, ii34, k34⟩,
    b_Town__tell := b34,
    F__law_at := F35,
    g__law_at := PySem.W.mg_of X G a35,
    b__law_at := b35,
    F__law_row := F36,
    g__law_row := PySem.W.mg_of X G a36,
    b__law_row := b36,
    F__law_liars := F37,
    g__law_liars := PySem.W.mg_of X G a37,
    b__law_liars := b37,
    F__law_count := F38,
    g__law_count := PySem.W.mg_of X G a38,
    b__law_count := b38,
    F__law_split := F39,
    g__law_split := PySem.W.mg_of X G a39,
    b__law_split := b39,
    F__law_lie := F40,
    g__law_lie := PySem.W.mg_of X G a40,
    b__law_lie := b40,
    F__law_deed := F41,
    g__law_deed := PySem.W.mg_of X G a41,
    b__law_deed := b41,
    F__law_enough := F42,
    g__law_enough := PySem.W.mg_of X G a42,
    b__law_enough := b42,
    F__law_is_backing := F43,
    g__law_is_backing := PySem.W.mg_of X G a43,
    b__law_is_backing := b43,
    F__law_named_right := F44,
    g__law_named_right := PySem.W.mg_of X G a44,
    b__law_named_right := b44,
    F__law_good := F45,
    g__law_good := PySem.W.mg_of X G a45,
    b__law_good := b45,
    F_law := F46,
    g_HouseError := PySem.W.mg_of X G g0,
    g_BadCount := PySem.W.mg_of X G g1,
    g_BadHouse := PySem.W.mg_of X G g2,
    g_BadRow := PySem.W.mg_of X G g3,
    g_BadWord := PySem.W.mg_of X G g4,
    g_Forged := PySem.W.mg_of X G g5,
    g_NoLetter := PySem.W.mg_of X G g6,
    g_NotWritten := PySem.W.mg_of X G g7,
    g_House := PySem.W.mg_of X G g8,
    g_Post := PySem.W.mg_of X G g9,
    g_Town := PySem.W.mg_of X G g10,
    cl_House := ⟨pg_c8, hd_c8, po_c8, sa_c8⟩,
    mk_House := ⟨mm_c8, a9, ii9, kp_c8⟩,
    na_House__count := na_c8__count,
    na_House__own := na_c8__own,
    na_House__due := na_c8__due,
    na_House__known := na_c8__known,
    na_House__earliest := na_c8__earliest,
    na_House__marked := na_c8__marked,
    na_House__marks := na_c8__marks,
    na_House__rows := na_c8__rows,
    na_House__backings := na_c8__backings,
    na_House__named := na_c8__named,
    cl_Post := ⟨pg_c9, hd_c9, po_c9, sa_c9⟩,
    mk_Post := ⟨mm_c9, a19, ii19, kp_c9⟩,
    na_Post__due := na_c9__due,
    na_Post__letters := na_c9__letters,
    cl_Town := ⟨pg_c10, hd_c10, po_c10, sa_c10⟩,
    mk_Town := ⟨mm_c10, a24, ii24, kp_c10⟩,
    na_Town__count := na_c10__count,
    na_Town__honest := na_c10__honest,
    na_Town__post := na_c10__post,
    na_Town__spoken := na_c10__spoken,
    x_BadCount := x_c1,
    k_BadCount := kk_c1,
    bx_BadCount := bx_c1,
    t_BadCount := t_c1,
    e_BadCount := e_c1,
    c_BadCount := ⟨y1_c1, y2_c1, bx_c1, y4_c1, y5_c1, y6, y7, y8_c1⟩,
    x_BadHouse := x_c2,
    k_BadHouse := kk_c2,
    bx_BadHouse := bx_c2,
    t_BadHouse := t_c2,
    e_BadHouse := e_c2,
    c_BadHouse := ⟨y1_c2, y2_c2, bx_c2, y4_c2, y5_c2, y6, y7, y8_c2⟩,
    x_BadRow := x_c3,
    k_BadRow := kk_c3,
    bx_BadRow := bx_c3,
    t_BadRow := t_c3,
    e_BadRow := e_c3,
    c_BadRow := ⟨y1_c3, y2_c3, bx_c3, y4_c3, y5_c3, y6, y7, y8_c3⟩,
    x_BadWord := x_c4,
    k_BadWord := kk_c4,
    bx_BadWord := bx_c4,
    t_BadWord := t_c4,
    e_BadWord := e_c4,
    c_BadWord := ⟨y1_c4, y2_c4, bx_c4, y4_c4, y5_c4, y6, y7, y8_c4⟩,
    x_Forged := x_c5,
    k_Forged := kk_c5,
    bx_Forged := bx_c5,
    t_Forged := t_c5,
    e_Forged := e_c5,
    c_Forged := ⟨y1_c5, y2_c5, bx_c5, y4_c5, y5_c5, y6, y7, y8_c5⟩,
    x_NoLetter := x_c6,
    k_NoLetter := kk_c6,
    bx_NoLetter := bx_c6,
    t_NoLetter := t_c6,
    e_NoLetter := e_c6,
    c_NoLetter := ⟨y1_c6, y2_c6, bx_c6, y4_c6, y5_c6, y6, y7, y8_c6⟩,
    x_NotWritten := x_c7,
    k_NotWritten := kk_c7,
    bx_NotWritten := bx_c7,
    t_NotWritten := t_c7,
    e_NotWritten := e_c7,
    c_NotWritten := ⟨y1_c7, y2_c7, bx_c7, y4_c7, y5_c7, y6, y7, y8_c7⟩,
    i_BadCount_BadCount := i_c1_c1,
    i_BadCount_BadHouse := i_c1_c2,
    i_BadCount_BadRow := i_c1_c3,
    i_BadCount_BadWord := i_c1_c4,
    i_BadCount_Forged := i_c1_c5,
    i_BadCount_NoLetter := i_c1_c6,
    i_BadCount_NotWritten := i_c1_c7,
    i_BadCount_NoText := i_c1_NoText,
    i_BadCount_ValueError := i_c1_ValueError,
    i_BadHouse_BadCount := i_c2_c1,
    i_BadHouse_BadHouse := i_c2_c2,
    i_BadHouse_BadRow := i_c2_c3,
    i_BadHouse_BadWord := i_c2_c4,
    i_BadHouse_Forged := i_c2_c5,
    i_BadHouse_NoLetter := i_c2_c6,
    i_BadHouse_NotWritten := i_c2_c7,
    i_BadHouse_NoText := i_c2_NoText,
    i_BadHouse_ValueError := i_c2_ValueError,
    i_BadRow_BadCount := i_c3_c1,
    i_BadRow_BadHouse := i_c3_c2,
    i_BadRow_BadRow := i_c3_c3,
    i_BadRow_BadWord := i_c3_c4,
    i_BadRow_Forged := i_c3_c5,
    i_BadRow_NoLetter := i_c3_c6,
    i_BadRow_NotWritten := i_c3_c7,
    i_BadRow_NoText := i_c3_NoText,
    i_BadRow_ValueError := i_c3_ValueError,
    i_BadWord_BadCount := i_c4_c1,
    i_BadWord_BadHouse := i_c4_c2,
    i_BadWord_BadRow := i_c4_c3,
    i_BadWord_BadWord := i_c4_c4,
    i_BadWord_Forged := i_c4_c5,
    i_BadWord_NoLetter := i_c4_c6,
    i_BadWord_NotWritten := i_c4_c7,
    i_BadWord_NoText := i_c4_NoText,
    i_BadWord_ValueError := i_c4_ValueError,
    i_Forged_BadCount := i_c5_c1,
    i_Forged_BadHouse := i_c5_c2,
    i_Forged_BadRow := i_c5_c3,
    i_Forged_BadWord := i_c5_c4,
    i_Forged_Forged := i_c5_c5,
    i_Forged_NoLetter := i_c5_c6,
    i_Forged_NotWritten := i_c5_c7,
    i_Forged_NoText := i_c5_NoText,
    i_Forged_ValueError := i_c5_ValueError,
    i_NoLetter_BadCount := i_c6_c1,
    i_NoLetter_BadHouse := i_c6_c2,
    i_NoLetter_BadRow := i_c6_c3,
    i_NoLetter_BadWord := i_c6_c4,
    i_NoLetter_Forged := i_c6_c5,
    i_NoLetter_NoLetter := i_c6_c6,
    i_NoLetter_NotWritten := i_c6_c7,
    i_NoLetter_NoText := i_c6_NoText,
    i_NoLetter_ValueError := i_c6_ValueError,
    i_NotWritten_BadCount := i_c7_c1,
    i_NotWritten_BadHouse := i_c7_c2,
    i_NotWritten_BadRow := i_c7_c3,
    i_NotWritten_BadWord := i_c7_c4,
    i_NotWritten_Forged := i_c7_c5,
    i_NotWritten_NoLetter := i_c7_c6,
    i_NotWritten_NotWritten := i_c7_c7,
    i_NotWritten_NoText := i_c7_NoText,
    i_NotWritten_ValueError := i_c7_ValueError,
    m_MOST_HOUSES := PySem.W.mg_of X G m_MOST_HOUSES,
    m_SAY := PySem.W.mg_of X G m_SAY,
    m_MARK := PySem.W.mg_of X G m_MARK,
    m_LAST_NUMBER := PySem.W.mg_of X G m_LAST_NUMBER,
    m_LONGEST_ROW := PySem.W.mg_of X G m_LONGEST_ROW,
    m_LETTERS := PySem.W.mg_of X G m_LETTERS,
    n_abs := PySem.W.mg_none_of X G n_abs,
    n_all := PySem.W.mg_none_of X G n_all,
    n_enumerate := PySem.W.mg_none_of X G n_enumerate,
    n_int := PySem.W.mg_none_of X G n_int,
    n_len := PySem.W.mg_none_of X G n_len,
    n_list := PySem.W.mg_none_of X G n_list,
    n_max := PySem.W.mg_none_of X G n_max,
    n_min := PySem.W.mg_none_of X G n_min,
    n_range := PySem.W.mg_none_of X G n_range,
    n_set := PySem.W.mg_none_of X G n_set,
    n_sorted := PySem.W.mg_none_of X G n_sorted,
    n_str := PySem.W.mg_none_of X G n_str,
    n_tuple := PySem.W.mg_none_of X G n_tuple,
    n_type := PySem.W.mg_none_of X G n_type }
  exact ⟨_, fun s v => .of_eq rfl, fun base _ _ => ok_law T⟩
end KB
open PySem PySem.W PyProof.Rows
set_option maxRecDepth 100000 in
set_option maxHeartbeats 0 in
theorem PySem.Challenge.cw_latehouse_k11_whole_no_two_unlike_rows_holds : PySem.Challenge.rw_latehouse_k11_whole_no_two_unlike_rows.Holds := by
  w_on; o_law; k_head; (case hw => w_witness2)
  k_fill
  refine L2.walk_of (l := PySem.Challenge.rw_latehouse_k11_whole_no_two_unlike_rows) (n := 63) (k := 10) (x := "_law_script") (CX := fun _ => L2.CX0) (sp := fun w => KB.spLaw _) rfl (by decide) rfl ⟨rfl, by decide, by decide⟩ (fun w h Y => PySem.W.kIn_of Y) ?F (fun _ _ a ns hl _ hS => ⟨a, ns, rfl, hS, hl, fun _ => rfl⟩) (fun _ _ _ _ _ h => h)
  case F =>
    intro w mg fa h KX G hmg
    refine' KB.all_mk KX G hmg ?zq_g0 ?zq_g1 ?zq_g2 ?zq_g3 ?zq_g4 ?zq_g5 ?zq_g6 ?zq_g7 ?zq_g8 ?zq_g9 ?zq_g10 ?zq_a0 ?zq_l0 ?zq_c0c ?zq_k0 ?zq_a1 ?zq_l1 ?zq_c1c ?zq_k1 ?zq_a2 ?zq_l2 ?zq_c2c ?zq_k2 ?zq_a3 ?zq_l3 ?zq_c3c ?zq_k3 ?zq_a4 ?zq_l4 ?zq_c4c ?zq_k4 ?zq_a5 ?zq_l5 ?zq_c5c ?zq_k5 ?zq_a6 ?zq_l6 ?zq_c6c ?zq_k6 ?zq_a7 ?zq_l7 ?zq_c7c ?zq_k7 ?zq_a8 ?zq_l8 ?zq_c8c ?zq_k8 ?zq_a9 ?zq_l9 ?zq_c9c ?zq_k9 ?zq_ii9 ?zq_a10 ?zq_l10 ?zq_c10c ?zq_k10 ?zq_ii10 ?zq_a11 ?zq_l11 ?zq_c11c ?zq_k11 ?zq_ii11 ?zq_a12 ?zq_l12 ?zq_c12c ?zq_k12 ?zq_ii12 ?zq_a13 ?zq_l13 ?zq_c13c ?zq_k13 ?zq_ii13 ?zq_a14 ?zq_l14 ?zq_c14c ?zq_k14 ?zq_ii14 ?zq_a15 ?zq_l15 ?zq_c15c ?zq_k15 ?zq_ii15 ?zq_a16 ?zq_l16 ?zq_c16c ?zq_k16 ?zq_ii16 ?zq_a17 ?zq_l17 ?zq_c17c ?zq_k17 ?zq_ii17 ?zq_a18 ?zq_l18 ?zq_c18c ?zq_k18 ?zq_ii18 ?zq_a19 ?zq_l19 ?zq_c19c ?zq_k19 ?zq_ii19 ?zq_a20 ?zq_l20 ?zq_c20c ?zq_k20 ?zq_ii20 ?zq_a21 ?zq_l21 ?zq_c21c ?zq_k21 ?zq_ii21 ?zq_a22 ?zq_l22 ?zq_c22c ?zq_k22 ?zq_ii22 ?zq_a23 ?zq_l23 ?zq_c23c ?zq_k23 ?zq_a24 ?zq_l24 ?zq_c24c ?zq_k24 ?zq_ii24 ?zq_a25 ?zq_l25 ?zq_c25c ?zq_k25 ?zq_ii25 ?zq_a26 ?zq_l26 ?zq_c26c ?zq_k26 ?zq_ii26 ?zq_a27 ?zq_l27 ?zq_c27c ?zq_k27 ?zq_ii27 ?zq_a28 ?zq_l28 ?zq_c28c ?zq_k28 ?zq_ii28 ?zq_a29 ?zq_l29 ?zq_c29c ?zq_k29 ?zq_ii29 ?zq_a30 ?zq_l30 ?zq_c30c ?zq_k30 ?zq_ii30 ?zq_a31 ?zq_l31 ?zq_c31c ?zq_k31 ?zq_ii31 ?zq_a32 ?zq_l32 ?zq_c32c ?zq_k32 ?zq_ii32 ?zq_a33 ?zq_l33 ?zq_c33c ?zq_k33 ?zq_ii33 ?zq_a34 ?zq_l34 ?zq_c34c ?zq_k34 ?zq_ii34 ?zq_a35 ?zq_l35 ?zq_c35c ?zq_k35 ?zq_a36 ?zq_l36 ?zq_c36c ?zq_k36 ?zq_a37 ?zq_l37 ?zq_c37c ?zq_k37 ?zq_a38 ?zq_l38 ?zq_c38c ?zq_k38 ?zq_a39 ?zq_l39 ?zq_c39c ?zq_k39 ?zq_a40 ?zq_l40 ?zq_c40c ?zq_k40 ?zq_a41 ?zq_l41 ?zq_c41c ?zq_k41 ?zq_a42 ?zq_l42 ?zq_c42c ?zq_k42 ?zq_a43 ?zq_l43 ?zq_c43c ?zq_k43 ?zq_a44 ?zq_l44 ?zq_c44c ?zq_k44 ?zq_a45 ?zq_l45 ?zq_c45c ?zq_k45 ?zq_a46 ?zq_l46 ?zq_c46c ?zq_k46 ?zq_pg_c8 ?zq_hd_c8 ?zq_po_c8 ?zq_sa_c8 ?zq_mm_c8 ?zq_kp_c8 ?zq_na_c8__count ?zq_na_c8__own ?zq_na_c8__due ?zq_na_c8__known ?zq_na_c8__earliest ?zq_na_c8__marked ?zq_na_c8__marks ?zq_na_c8__rows ?zq_na_c8__backings ?zq_na_c8__named ?zq_pg_c9 ?zq_hd_c9 ?zq_po_c9 ?zq_sa_c9 ?zq_mm_c9 ?zq_kp_c9 ?zq_na_c9__due ?zq_na_c9__letters ?zq_pg_c10 ?zq_hd_c10 ?zq_po_c10 ?zq_sa_c10 ?zq_mm_c10 ?zq_kp_c10 ?zq_na_c10__count ?zq_na_c10__honest ?zq_na_c10__post ?zq_na_c10__spoken ?zq_x_c1 ?zq_kk_c1 ?zq_bx_c1 ?zq_t_c1 ?zq_e_c1 ?zq_y1_c1 ?zq_y2_c1 ?zq_y4_c1 ?zq_y5_c1 ?zq_y8_c1 ?zq_x_c2 ?zq_kk_c2 ?zq_bx_c2 ?zq_t_c2 ?zq_e_c2 ?zq_y1_c2 ?zq_y2_c2 ?zq_y4_c2 ?zq_y5_c2 ?zq_y8_c2 ?zq_x_c3 ?zq_kk_c3 ?zq_bx_c3 ?zq_t_c3 ?zq_e_c3 ?zq_y1_c3 ?zq_y2_c3 ?zq_y4_c3 ?zq_y5_c3 ?zq_y8_c3 ?zq_x_c4 ?zq_kk_c4 ?zq_bx_c4 ?zq_t_c4 ?zq_e_c4 ?zq_y1_c4 ?zq_y2_c4 ?zq_y4_c4 ?zq_y5_c4 ?zq_y8_c4 ?zq_x_c5 ?zq_kk_c5 ?zq_bx_c5 ?zq_t_c5 ?zq_e_c5 ?zq_y1_c5 ?zq_y2_c5 ?zq_y4_c5 ?zq_y5_c5 ?zq_y8_c5 ?zq_x_c6 ?zq_kk_c6 ?zq_bx_c6 ?zq_t_c6 ?zq_e_c6 ?zq_y1_c6 ?zq_y2_c6 ?zq_y4_c6 ?zq_y5_c6 ?zq_y8_c6 ?zq_x_c7 ?zq_kk_c7 ?zq_bx_c7 ?zq_t_c7 ?zq_e_c7 ?zq_y1_c7 ?zq_y2_c7 ?zq_y4_c7 ?zq_y5_c7 ?zq_y8_c7 ?zq_y6 ?zq_y7 ?zq_i_c1_c1 ?zq_i_c1_c2 ?zq_i_c1_c3 ?zq_i_c1_c4 ?zq_i_c1_c5 ?zq_i_c1_c6 ?zq_i_c1_c7 ?zq_i_c1_NoText ?zq_i_c1_ValueError ?zq_i_c2_c1 ?zq_i_c2_c2 ?zq_i_c2_c3 ?zq_i_c2_c4 ?zq_i_c2_c5 ?zq_i_c2_c6 ?zq_i_c2_c7 ?zq_i_c2_NoText ?zq_i_c2_ValueError ?zq_i_c3_c1 ?zq_i_c3_c2 ?zq_i_c3_c3 ?zq_i_c3_c4 ?zq_i_c3_c5 ?zq_i_c3_c6 ?zq_i_c3_c7 ?zq_i_c3_NoText ?zq_i_c3_ValueError ?zq_i_c4_c1 ?zq_i_c4_c2 ?zq_i_c4_c3 ?zq_i_c4_c4 ?zq_i_c4_c5 ?zq_i_c4_c6 ?zq_i_c4_c7 ?zq_i_c4_NoText ?zq_i_c4_ValueError ?zq_i_c5_c1 ?zq_i_c5_c2 ?zq_i_c5_c3 ?zq_i_c5_c4 ?zq_i_c5_c5 ?zq_i_c5_c6 ?zq_i_c5_c7 ?zq_i_c5_NoText ?zq_i_c5_ValueError ?zq_i_c6_c1 ?zq_i_c6_c2 ?zq_i_c6_c3 ?zq_i_c6_c4 ?zq_i_c6_c5 ?zq_i_c6_c6 ?zq_i_c6_c7 ?zq_i_c6_NoText ?zq_i_c6_ValueError ?zq_i_c7_c1 ?zq_i_c7_c2 ?zq_i_c7_c3 ?zq_i_c7_c4 ?zq_i_c7_c5 ?zq_i_c7_c6 ?zq_i_c7_c7 ?zq_i_c7_NoText ?zq_i_c7_ValueError ?zq_m_MOST_HOUSES ?zq_m_SAY ?zq_m_MARK ?zq_m_LAST_NUMBER ?zq_m_LONGEST_ROW ?zq_m_LETTERS ?zq_n_abs ?zq_n_all ?zq_n_enumerate ?zq_n_int ?zq_n_len ?zq_n_list ?zq_n_max ?zq_n_min ?zq_n_range ?zq_n_set ?zq_n_sorted ?zq_n_str ?zq_n_tuple ?zq_n_type
    (case zq_g0 => first | k_is | rfl)
    (case zq_g1 => first | k_is | rfl)
    (case zq_g2 => first | k_is | rfl)
    (case zq_g3 => first | k_is | rfl)
    (case zq_g4 => first | k_is | rfl)
    (case zq_g5 => first | k_is | rfl)
    (case zq_g6 => first | k_is | rfl)
    (case zq_g7 => first | k_is | rfl)
    (case zq_g8 => first | k_is | rfl)
    (case zq_g9 => first | k_is | rfl)
    (case zq_g10 => first | k_is | rfl)
    (case zq_a0 => first | k_is | rfl)
    (case zq_l0 => first | k_is | rfl)
    (case zq_c0c => first | k_is | rfl)
    (case zq_k0 => first | k_is | rfl)
    (case zq_a1 => first | k_is | rfl)
    (case zq_l1 => first | k_is | rfl)
    (case zq_c1c => first | k_is | rfl)
    (case zq_k1 => first | k_is | rfl)
    (case zq_a2 => first | k_is | rfl)
    (case zq_l2 => first | k_is | rfl)
    (case zq_c2c => first | k_is | rfl)
    (case zq_k2 => first | k_is | rfl)
    (case zq_a3 => first | k_is | rfl)
    (case zq_l3 => first | k_is | rfl)
    (case zq_c3c => first | k_is | rfl)
    (case zq_k3 => first | k_is | rfl)
    (case zq_a4 => first | k_is | rfl)
    (case zq_l4 => first | k_is | rfl)
    (case zq_c4c => first | k_is | rfl)
    (case zq_k4 => first | k_is | rfl)
    (case zq_a5 => first | k_is | rfl)
    (case zq_l5 => first | k_is | rfl)
    (case zq_c5c => first | k_is | rfl)
    (case zq_k5 => first | k_is | rfl)
    (case zq_a6 => first | k_is | rfl)
    (case zq_l6 => first | k_is | rfl)
    (case zq_c6c => first | k_is | rfl)
    (case zq_k6 => first | k_is | rfl)
    (case zq_a7 => first | k_is | rfl)
    (case zq_l7 => first | k_is | rfl)
    (case zq_c7c => first | k_is | rfl)
    (case zq_k7 => first | k_is | rfl)
    (case zq_a8 => first | k_is | rfl)
    (case zq_l8 => first | k_is | rfl)
    (case zq_c8c => first | k_is | rfl)
    (case zq_k8 => first | k_is | rfl)
    (case zq_a9 => first | k_is | rfl)
    (case zq_l9 => first | k_is | rfl)
    (case zq_c9c => first | k_is | rfl)
    (case zq_k9 => first | k_is | rfl)
    (case zq_ii9 => first | k_is | rfl)
    (case zq_a10 => first | k_is | rfl)
    (case zq_l10 => first | k_is | rfl)
    (case zq_c10c => first | k_is | rfl)
    (case zq_k10 => first | k_is | rfl)
    (case zq_ii10 => first | k_is | rfl)
    (case zq_a11 => first | k_is | rfl)
    (case zq_l11 => first | k_is | rfl)
    (case zq_c11c => first | k_is | rfl)
    (case zq_k11 => first | k_is | rfl)
    (case zq_ii11 => first | k_is | rfl)
    (case zq_a12 => first | k_is | rfl)
    (case zq_l12 => first | k_is | rfl)
    (case zq_c12c => first | k_is | rfl)
    (case zq_k12 => first | k_is | rfl)
    (case zq_ii12 => first | k_is | rfl)
    (case zq_a13 => first | k_is | rfl)
    (case zq_l13 => first | k_is | rfl)
    (case zq_c13c => first | k_is | rfl)
    (case zq_k13 => first | k_is | rfl)
    (case zq_ii13 => first | k_is | rfl)
    (case zq_a14 => first | k_is | rfl)
    (case zq_l14 => first | k_is | rfl)
    (case zq_c14c => first | k_is | rfl)
    (case zq_k14 => first | k_is | rfl)
    (case zq_ii14 => first | k_is | rfl)
    (case zq_a15 => first | k_is | rfl)
    (case zq_l15 => first | k_is | rfl)
    (case zq_c15c => first | k_is | rfl)
    (case zq_k15 => first | k_is | rfl)
    (case zq_ii15 => first | k_is | rfl)
    (case zq_a16 => first | k_is | rfl)
    (case zq_l16 => first | k_is | rfl)
    (case zq_c16c => first | k_is | rfl)
    (case zq_k16 => first | k_is | rfl)
    (case zq_ii16 => first | k_is | rfl)
    (case zq_a17 => first | k_is | rfl)
    (case zq_l17 => first | k_is | rfl)
    (case zq_c17c => first | k_is | rfl)
    (case zq_k17 => first | k_is | rfl)
    (case zq_ii17 => first | k_is | rfl)
    (case zq_a18 => first | k_is | rfl)
    (case zq_l18 => first | k_is | rfl)
    (case zq_c18c => first | k_is | rfl)
    (case zq_k18 => first | k_is | rfl)
    (case zq_ii18 => first | k_is | rfl)
    (case zq_a19 => first | k_is | rfl)
    (case zq_l19 => first | k_is | rfl)
    (case zq_c19c => first | k_is | rfl)
    (case zq_k19 => first | k_is | rfl)
    (case zq_ii19 => first | k_is | rfl)
    (case zq_a20 => first | k_is | rfl)
    (case zq_l20 => first | k_is | rfl)
    (case zq_c20c => first | k_is | rfl)
    (case zq_k20 => first | k_is | rfl)
    (case zq_ii20 => first | k_is | rfl)
    (case zq_a21 => first | k_is | rfl)
    (case zq_l21 => first | k_is | rfl)
    (case zq_c21c => first | k_is | rfl)
    (case zq_k21 => first | k_is | rfl)
    (case zq_ii21 => first | k_is | rfl)
    (case zq_a22 => first | k_is | rfl)
    (case zq_l22 => first | k_is | rfl)
    (case zq_c22c => first | k_is | rfl)
    (case zq_k22 => first | k_is | rfl)
    (case zq_ii22 => first | k_is | rfl)
    (case zq_a23 => first | k_is | rfl)
    (case zq_l23 => first | k_is | rfl)
    (case zq_c23c => first | k_is | rfl)
    (case zq_k23 => first | k_is | rfl)
    (case zq_a24 => first | k_is | rfl)
    (case zq_l24 => first | k_is | rfl)
    (case zq_c24c => first | k_is | rfl)
    (case zq_k24 => first | k_is | rfl)
    (case zq_ii24 => first | k_is | rfl)
    (case zq_a25 => first | k_is | rfl)
    (case zq_l25 => first | k_is | rfl)
    (case zq_c25c => first | k_is | rfl)
    (case zq_k25 => first | k_is | rfl)
    (case zq_ii25 => first | k_is | rfl)
    (case zq_a26 => first | k_is | rfl)
    (case zq_l26 => first | k_is | rfl)
    (case zq_c26c => first | k_is | rfl)
    (case zq_k26 => first | k_is | rfl)
    (case zq_ii26 => first | k_is | rfl)
    (case zq_a27 => first | k_is | rfl)
    (case zq_l27 => first | k_is | rfl)
    (case zq_c27c => first | k_is | rfl)
    (case zq_k27 => first | k_is | rfl)
    (case zq_ii27 => first | k_is | rfl)
    (case zq_a28 => first | k_is | rfl)
    (case zq_l28 => first | k_is | rfl)
    (case zq_c28c => first | k_is | rfl)
    (case zq_k28 => first | k_is | rfl)
    (case zq_ii28 => first | k_is | rfl)
    (case zq_a29 => first | k_is | rfl)
    (case zq_l29 => first | k_is | rfl)
    (case zq_c29c => first | k_is | rfl)
    (case zq_k29 => first | k_is | rfl)
    (case zq_ii29 => first | k_is | rfl)
    (case zq_a30 => first | k_is | rfl)
    (case zq_l30 => first | k_is | rfl)
    (case zq_c30c => first | k_is | rfl)
    (case zq_k30 => first | k_is | rfl)
    (case zq_ii30 => first | k_is | rfl)
    (case zq_a31 => first | k_is | rfl)
    (case zq_l31 => first | k_is | rfl)
    (case zq_c31c => first | k_is | rfl)
    (case zq_k31 => first | k_is | rfl)
    (case zq_ii31 => first | k_is | rfl)
    (case zq_a32 => first | k_is | rfl)
    (case zq_l32 => first | k_is | rfl)
    (case zq_c32c => first | k_is | rfl)
    (case zq_k32 => first | k_is | rfl)
    (case zq_ii32 => first | k_is | rfl)
    (case zq_a33 => first | k_is | rfl)
    (case zq_l33 => first | k_is | rfl)
    (case zq_c33c => first | k_is | rfl)
    (case zq_k33 => first | k_is | rfl)
    (case zq_ii33 => first | k_is | rfl)
    (case zq_a34 => first | k_is | rfl)
    (case zq_l34 => first | k_is | rfl)
    (case zq_c34c => first | k_is | rfl)
    (case zq_k34 => first | k_is | rfl)
    (case zq_ii34 => first | k_is | rfl)
    (case zq_a35 => first | k_is | rfl)
    (case zq_l35 => first | k_is | rfl)
    (case zq_c35c => first | k_is | rfl)
    (case zq_k35 => first | k_is | rfl)
    (case zq_a36 => first | k_is | rfl)
    (case zq_l36 => first | k_is | rfl)
    (case zq_c36c => first | k_is | rfl)
    (case zq_k36 => first | k_is | rfl)
    (case zq_a37 => first | k_is | rfl)
    (case zq_l37 => first | k_is | rfl)
    (case zq_c37c => first | k_is | rfl)
    (case zq_k37 => first | k_is | rfl)
    (case zq_a38 => first | k_is | rfl)
    (case zq_l38 => first | k_is | rfl)
    (case zq_c38c => first | k_is | rfl)
    (case zq_k38 => first | k_is | rfl)
    (case zq_a39 => first | k_is | rfl)
    (case zq_l39 => first | k_is | rfl)
    (case zq_c39c => first | k_is | rfl)
    (case zq_k39 => first | k_is | rfl)
    (case zq_a40 => first | k_is | rfl)
    (case zq_l40 => first | k_is | rfl)
    (case zq_c40c => first | k_is | rfl)
    (case zq_k40 => first | k_is | rfl)
    (case zq_a41 => first | k_is | rfl)
    (case zq_l41 => first | k_is | rfl)
    (case zq_c41c => first | k_is | rfl)
    (case zq_k41 => first | k_is | rfl)
    (case zq_a42 => first | k_is | rfl)
    (case zq_l42 => first | k_is | rfl)
    (case zq_c42c => first | k_is | rfl)
    (case zq_k42 => first | k_is | rfl)
    (case zq_a43 => first | k_is | rfl)
    (case zq_l43 => first | k_is | rfl)
    (case zq_c43c => first | k_is | rfl)
    (case zq_k43 => first | k_is | rfl)
    (case zq_a44 => first | k_is | rfl)
    (case zq_l44 => first | k_is | rfl)
    (case zq_c44c => first | k_is | rfl)
    (case zq_k44 => first | k_is | rfl)
    (case zq_a45 => first | k_is | rfl)
    (case zq_l45 => first | k_is | rfl)
    (case zq_c45c => first | k_is | rfl)
    (case zq_k45 => first | k_is | rfl)
    (case zq_a46 => first | k_is | rfl)
    (case zq_l46 => first | k_is | rfl)
    (case zq_c46c => first | k_is | rfl)
    (case zq_k46 => first | k_is | rfl)
    (case zq_pg_c8 => first | k_is | rfl)
    (case zq_hd_c8 => first | k_is | rfl)
    (case zq_po_c8 => first | k_is | rfl)
    (case zq_sa_c8 => first | k_is | rfl)
    (case zq_mm_c8 => first | k_is | rfl)
    (case zq_kp_c8 => first | k_is | rfl)
    (case zq_na_c8__count => first | k_is | rfl)
    (case zq_na_c8__own => first | k_is | rfl)
    (case zq_na_c8__due => first | k_is | rfl)
    (case zq_na_c8__known => first | k_is | rfl)
    (case zq_na_c8__earliest => first | k_is | rfl)
    (case zq_na_c8__marked => first | k_is | rfl)
    (case zq_na_c8__marks => first | k_is | rfl)
    (case zq_na_c8__rows => first | k_is | rfl)
    (case zq_na_c8__backings => first | k_is | rfl)
    (case zq_na_c8__named => first | k_is | rfl)
    (case zq_pg_c9 => first | k_is | rfl)
    (case zq_hd_c9 => first | k_is | rfl)
    (case zq_po_c9 => first | k_is | rfl)
    (case zq_sa_c9 => first | k_is | rfl)
    (case zq_mm_c9 => first | k_is | rfl)
    (case zq_kp_c9 => first | k_is | rfl)
    (case zq_na_c9__due => first | k_is | rfl)
    (case zq_na_c9__letters => first | k_is | rfl)
    (case zq_pg_c10 => first | k_is | rfl)
    (case zq_hd_c10 => first | k_is | rfl)
    (case zq_po_c10 => first | k_is | rfl)
    (case zq_sa_c10 => first | k_is | rfl)
    (case zq_mm_c10 => first | k_is | rfl)
    (case zq_kp_c10 => first | k_is | rfl)
    (case zq_na_c10__count => first | k_is | rfl)
    (case zq_na_c10__honest => first | k_is | rfl)
    (case zq_na_c10__post => first | k_is | rfl)
    (case zq_na_c10__spoken => first | k_is | rfl)
    (case zq_x_c1 => k_exc)
    (case zq_kk_c1 => first | k_is | rfl)
    (case zq_bx_c1 => first | k_is | rfl)
    (case zq_t_c1 => first | k_is | rfl)
    (case zq_e_c1 => first | k_is | rfl)
    (case zq_y1_c1 => first | k_is | rfl)
    (case zq_y2_c1 => first | k_is | rfl)
    (case zq_y4_c1 => first | k_is | rfl)
    (case zq_y5_c1 => first | k_is | rfl)
    (case zq_y8_c1 => first | k_is | rfl)
    (case zq_x_c2 => k_exc)
    (case zq_kk_c2 => first | k_is | rfl)
    (case zq_bx_c2 => first | k_is | rfl)
    (case zq_t_c2 => first | k_is | rfl)
    (case zq_e_c2 => first | k_is | rfl)
    (case zq_y1_c2 => first | k_is | rfl)
    (case zq_y2_c2 => first | k_is | rfl)
    (case zq_y4_c2 => first | k_is | rfl)
    (case zq_y5_c2 => first | k_is | rfl)
    (case zq_y8_c2 => first | k_is | rfl)
    (case zq_x_c3 => k_exc)
    (case zq_kk_c3 => first | k_is | rfl)
    (case zq_bx_c3 => first | k_is | rfl)
    (case zq_t_c3 => first | k_is | rfl)
    (case zq_e_c3 => first | k_is | rfl)
    (case zq_y1_c3 => first | k_is | rfl)
    (case zq_y2_c3 => first | k_is | rfl)
    (case zq_y4_c3 => first | k_is | rfl)
    (case zq_y5_c3 => first | k_is | rfl)
    (case zq_y8_c3 => first | k_is | rfl)
    (case zq_x_c4 => k_exc)
    (case zq_kk_c4 => first | k_is | rfl)
    (case zq_bx_c4 => first | k_is | rfl)
    (case zq_t_c4 => first | k_is | rfl)
    (case zq_e_c4 => first | k_is | rfl)
    (case zq_y1_c4 => first | k_is | rfl)
    (case zq_y2_c4 => first | k_is | rfl)
    (case zq_y4_c4 => first | k_is | rfl)
    (case zq_y5_c4 => first | k_is | rfl)
    (case zq_y8_c4 => first | k_is | rfl)
    (case zq_x_c5 => k_exc)
    (case zq_kk_c5 => first | k_is | rfl)
    (case zq_bx_c5 => first | k_is | rfl)
    (case zq_t_c5 => first | k_is | rfl)
    (case zq_e_c5 => first | k_is | rfl)
    (case zq_y1_c5 => first | k_is | rfl)
    (case zq_y2_c5 => first | k_is | rfl)
    (case zq_y4_c5 => first | k_is | rfl)
    (case zq_y5_c5 => first | k_is | rfl)
    (case zq_y8_c5 => first | k_is | rfl)
    (case zq_x_c6 => k_exc)
    (case zq_kk_c6 => first | k_is | rfl)
    (case zq_bx_c6 => first | k_is | rfl)
    (case zq_t_c6 => first | k_is | rfl)
    (case zq_e_c6 => first | k_is | rfl)
    (case zq_y1_c6 => first | k_is | rfl)
    (case zq_y2_c6 => first | k_is | rfl)
    (case zq_y4_c6 => first | k_is | rfl)
    (case zq_y5_c6 => first | k_is | rfl)
    (case zq_y8_c6 => first | k_is | rfl)
    (case zq_x_c7 => k_exc)
    (case zq_kk_c7 => first | k_is | rfl)
    (case zq_bx_c7 => first | k_is | rfl)
    (case zq_t_c7 => first | k_is | rfl)
    (case zq_e_c7 => first | k_is | rfl)
    (case zq_y1_c7 => first | k_is | rfl)
    (case zq_y2_c7 => first | k_is | rfl)
    (case zq_y4_c7 => first | k_is | rfl)
    (case zq_y5_c7 => first | k_is | rfl)
    (case zq_y8_c7 => first | k_is | rfl)
    (case zq_y6 => first | k_is | rfl)
    (case zq_y7 => first | k_is | rfl)
    (case zq_i_c1_c1 => first | k_is | rfl)
    (case zq_i_c1_c2 => first | k_is | rfl)
    (case zq_i_c1_c3 => first | k_is | rfl)
    (case zq_i_c1_c4 => first | k_is | rfl)
    (case zq_i_c1_c5 => first | k_is | rfl)
    (case zq_i_c1_c6 => first | k_is | rfl)
    (case zq_i_c1_c7 => first | k_is | rfl)
    (case zq_i_c1_NoText => first | k_is | rfl)
    (case zq_i_c1_ValueError => first | k_is | rfl)
    (case zq_i_c2_c1 => first | k_is | rfl)
    (case zq_i_c2_c2 => first | k_is | rfl)
    (case zq_i_c2_c3 => first | k_is | rfl)
    (case zq_i_c2_c4 => first | k_is | rfl)
    (case zq_i_c2_c5 => first | k_is | rfl)
    (case zq_i_c2_c6 => first | k_is | rfl)
    (case zq_i_c2_c7 => first | k_is | rfl)
    (case zq_i_c2_NoText => first | k_is | rfl)
    (case zq_i_c2_ValueError => first | k_is | rfl)
    (case zq_i_c3_c1 => first | k_is | rfl)
    (case zq_i_c3_c2 => first | k_is | rfl)
    (case zq_i_c3_c3 => first | k_is | rfl)
    (case zq_i_c3_c4 => first | k_is | rfl)
    (case zq_i_c3_c5 => first | k_is | rfl)
    (case zq_i_c3_c6 => first | k_is | rfl)
    (case zq_i_c3_c7 => first | k_is | rfl)
    (case zq_i_c3_NoText => first | k_is | rfl)
    (case zq_i_c3_ValueError => first | k_is | rfl)
    (case zq_i_c4_c1 => first | k_is | rfl)
    (case zq_i_c4_c2 => first | k_is | rfl)
    (case zq_i_c4_c3 => first | k_is | rfl)
    (case zq_i_c4_c4 => first | k_is | rfl)
    (case zq_i_c4_c5 => first | k_is | rfl)
    (case zq_i_c4_c6 => first | k_is | rfl)
    (case zq_i_c4_c7 => first | k_is | rfl)
    (case zq_i_c4_NoText => first | k_is | rfl)
    (case zq_i_c4_ValueError => first | k_is | rfl)
    (case zq_i_c5_c1 => first | k_is | rfl)
    (case zq_i_c5_c2 => first | k_is | rfl)
    (case zq_i_c5_c3 => first | k_is | rfl)
    (case zq_i_c5_c4 => first | k_is | rfl)
    (case zq_i_c5_c5 => first | k_is | rfl)
    (case zq_i_c5_c6 => first | k_is | rfl)
    (case zq_i_c5_c7 => first | k_is | rfl)
    (case zq_i_c5_NoText => first | k_is | rfl)
    (case zq_i_c5_ValueError => first | k_is | rfl)
    (case zq_i_c6_c1 => first | k_is | rfl)
    (case zq_i_c6_c2 => first | k_is | rfl)
    (case zq_i_c6_c3 => first | k_is | rfl)
    (case zq_i_c6_c4 => first | k_is | rfl)
    (case zq_i_c6_c5 => first | k_is | rfl)
    (case zq_i_c6_c6 => first | k_is | rfl)
    (case zq_i_c6_c7 => first | k_is | rfl)
    (case zq_i_c6_NoText => first | k_is | rfl)
    (case zq_i_c6_ValueError => first | k_is | rfl)
    (case zq_i_c7_c1 => first | k_is | rfl)
    (case zq_i_c7_c2 => first | k_is | rfl)
    (case zq_i_c7_c3 => first | k_is | rfl)
    (case zq_i_c7_c4 => first | k_is | rfl)
    (case zq_i_c7_c5 => first | k_is | rfl)
    (case zq_i_c7_c6 => first | k_is | rfl)
    (case zq_i_c7_c7 => first | k_is | rfl)
    (case zq_i_c7_NoText => first | k_is | rfl)
    (case zq_i_c7_ValueError => first | k_is | rfl)
    (case zq_m_MOST_HOUSES => exact ⟨_, by k_is⟩)
    (case zq_m_SAY => exact ⟨_, by k_is⟩)
    (case zq_m_MARK => exact ⟨_, by k_is⟩)
    (case zq_m_LAST_NUMBER => exact ⟨_, by k_is⟩)
    (case zq_m_LONGEST_ROW => exact ⟨_, by k_is⟩)
    (case zq_m_LETTERS => exact ⟨_, by k_is⟩)
    (case zq_n_abs => first | k_is | rfl)
    (case zq_n_all => first | k_is | rfl)
    (case zq_n_enumerate => first | k_is | rfl)
    (case zq_n_int => first | k_is | rfl)
    (case zq_n_len => first | k_is | rfl)
    (case zq_n_list => first | k_is | rfl)
    (case zq_n_max => first | k_is | rfl)
    (case zq_n_min => first | k_is | rfl)
    (case zq_n_range => first | k_is | rfl)
    (case zq_n_set => first | k_is | rfl)
    (case zq_n_sorted => first | k_is | rfl)
    (case zq_n_str => first | k_is | rfl)
    (case zq_n_tuple => first | k_is | rfl)
    (case zq_n_type => first | k_is | rfl)
