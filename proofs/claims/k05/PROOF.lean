import PyProof.Rows.All
import Wide.All
import OpenK.AllK
import Wide.FinOn
import HandS.ForMost
import HandS.Exc
import HandS.TryOnly
import HandS.ExcOwn
import HandS.WordsExc
import HandS.IsInst
import HandS.ExcIs
import HandS.ExcCtx
import HandS.HotCalls
import HandS.SetFor
import HandS.More
import HandS.Conv
import HandS.FStr
import HandS.Walk
import HandS.Flow
import HandS.TupAny
import HandS.TupLe
import HandS.Steps
import HandS.Zip
import HandS.DictComp
import PyProof.Rows.SetFrom
import PyProof.SetRoads
import PyProof.P3Eq
import HandS.ListItems
import HandS.CallSlots
import PyProof.DictMoreH
import KE.KDictList
import HandS.SetBool
import HandS.SetKeys
import HandS.Codes
import HandS.Style
import PySem.Challenge.RW_latehouse_k05_blamed
set_option Elab.async false
set_option linter.all false
set_option maxRecDepth 100000
set_option maxHeartbeats 4000000
/-! own rules beside the layer's: a caught error handed to a def, its isinstance, count, value calls -/
namespace LH
open PySem PySem.Spec PyProof.Rows L2
abbrev St := L2.St

/-! ### isinstance of the error that a context bears -/
theorem call_isP {X : Cx} {a D : Addr} {oe : Obj} (C : ExcC X.K D) (hp : (a, oe) ∈ X.pn) (hz : Zc (.ref D) none oe)
    (hf : ∃ vs, oe.data = .fields vs) : CallR X (.builtin "isinstance") (rIsE X.K D a) := by
  intro pins s σ H xs us Q I r h
  obtain ⟨c, cv, b, rfl, hcv, e, q⟩ := h
  match us, r with
  | [_, _], .cons rx (.cons rt .nil) =>
    cases rx
    have ec := hcv _ rt
    subst ec
    have hget := (I.pin (a, oe) (List.mem_append_left _ hp)).1
    obtain ⟨vs, hv⟩ := hf
    have J : PySem.W.InstAt s.heap a oe D none := by
      refine ⟨hget, hz.1, ?_, ?_⟩
      · unfold PySem.W.notCls; rw [hv] <;> rfl
      · rw [hz.2]; trivial
    exact PySem.W.kia_one (PySem.W.handS_kitx_exc C.hg C.hk C.hs C.hd C.ha C.hn C.ht C.hm) I.kIn J e
      (fun z => nomatch z) fun tk => ⟨.bl b, H, I.kept (t' := tk) fun _ _ z => z, rfl, q⟩

/-! ### a def that is handed the error that is handled -/
/-- the error's address, its class, its dict, then as Sp -/
abbrev SpE := Addr → Value → Option Addr → List V → Hp → VK → Prop
structure FnE (P : Program) (w : World) (K : PySem.W.Frag) (mg : Str → Option Value) (base : Heap) (k : Nat) (f : Addr)
    (fd : FuncData) (ps : List Str) (sp : SpE) : Prop where
  len : ∀ e cls d vs H Q, sp e cls d vs H Q → vs.length = ps.length
  run : ∀ (A : Around) (outer : List Env) (s : Shared) (H : Hp) (us : List Value) (vs : List V) (Q : VK) (p : Addr × Obj) (cls : Value) (d : Option Addr),
    L2H.RoomH k A → L2H.Hot1 A p → L2N.Zn cls d p.2 → L2H.PinOk outer H s p → Env0 P w K mg base A outer s H → BindsTo s fd ⟨us, []⟩ (ps.zip us) →
    Vals vs us → sp p.1 cls d vs H Q → codeAny (model P w) A (.call (.ref f) ⟨us, []⟩) (CR CX0 outer P w H s Q E0) s

theorem fnE_of {P : Program} {w : World} {K : PySem.W.Frag} {mg : Str → Option Value} {base : Heap} {x qual : Str} {st : Stmt}
    {f : Addr} {fd : FuncData} {N ps : List Str} {k : Nat} {sp : SpE} (F : Fun K x qual st f fd) (S : FnScope N ps (defScope st))
    (len : ∀ e cls d vs H Q, sp e cls d vs H Q → vs.length = ps.length)
    (hbody : ∀ (cdv : Value) (A : Around) (outer : List Env) (s : Shared) (H : Hp) (vs : List V) (Q : VK) (p : Addr × Obj) (cls : Value) (d : Option Addr),
      L2H.Hot1 A p → L2N.Zn cls d p.2 → L2H.RoomH k (A.deeper (envOfC qual (defScope st) s.heap.objs.size f cdv)) → sp p.1 cls d vs H Q →
      ∃ t, PSs (L2H.cxH CX0 P w K mg base N qual (defScope st) f cdv A outer s H E0 p) (defBody st) t ∧
        t { nx := fun _ H' => Q .non H', rt := Q } (L2.start N vs) H) :
    FnE P w K mg base (k + 1) f fd ps sp := by
  obtain ⟨oc, od, kV, doc, pm, an, cdv, ct, osl, rfl, lk, hcd⟩ := F.ex
  refine ⟨len, ?_⟩
  intro A outer s H us vs Q p cls d hr hot hz hpin e0 hb r hsp
  have inS : K.In s.heap := e0.mod.kin.keeps fun b o e => (e0.bs b o e).1
  have lim : s.heap.NoLimit := e0.mod.nolimit.keeps fun b o e => (e0.bs b o e).1
  have hkd : ∀ y ∈ ps.zip us, (defScope st).names.lookup y.1 = some .local ∨ ((defScope st).names.lookup y.1 = some .cell ∧
      ((cellsFrom (s.heap.objs.size + 1) (defScope st).names []).lookup y.1).isSome = true) := by
    rintro ⟨n, v⟩ hy
    rcases S.par n (List.of_mem_zip hy).1 with q | q
    · exact Or.inl q
    · exact Or.inr ⟨q, PySem.W.cellsFrom_some _ _ _ (Or.inl q)⟩
  refine codeAny_call_function hr.depth (inS _ _ lk) rfl S.co S.gen rfl
    (PySem.W.codeRec_of inS hcd) (hb _ _ _ _ ?_)
  refine wpAny_newFunctionEnv_cells S.kind hkd ?_
  intro env he s1 x
  subst he
  refine ⟨lim.keeps x.toInCall.keep, codeAny_func ?_⟩
  obtain ⟨t, ht, hq⟩ := hbody cdv A outer s H vs Q p cls d hot hz (hr.deeper _) hsp
  have I := L2H.inv_startH (CX := CX0) (E := E0) S hpin e0 (len _ _ _ _ _ _ hsp) r x
  refine wpAny_mono (ht.run [] s1 (L2.start N vs) H _ I hq) ?_ (fun _ _ z => z)
  intro fl s' hs
  cases fl with
  | ret u =>
    obtain ⟨v, σ', H', J, rv, q⟩ := hs
    exact ⟨v, H', J.os, J.bare, J.base, J.hok, rv, q⟩
  | next =>
    obtain ⟨σ', H', J, q⟩ := hs
    exact ⟨V.non, H', J.os, J.bare, J.base, J.hok, rfl, q⟩
  | brk =>
    obtain ⟨_, _, _, q⟩ := hs
    exact False.elim q
  | cont =>
    obtain ⟨_, _, _, q⟩ := hs
    exact False.elim q

def tCallE (sp : SpE) (e : Addr) (cls : Value) (d : Option Addr) (t : TA) : TE := fun σ H Q => t σ H fun vs H1 => sp e cls d vs H1 Q
theorem pe_callE {X : Cx} {k : Nat} {f : Addr} {fd : FuncData} {ps : List Str} {sp : SpE} {x : Str} {q pos : Pos} {e : Expr}
    {es : List Expr} {t : TA} {p : Addr × Obj} {cls : Value} {d : Option Addr} (F : FnE X.prog X.w X.K X.mg X.base k f fd ps sp) (hr : L2H.RoomH k X.A)
    (hot : L2H.Hot1 X.A p) (hz : L2N.Zn cls d p.2) (hp : p ∈ X.pn) (hg : Gl X x) (hm : X.mg x = some (.ref f)) (hk : PySem.W.keepIn X.K (.ref f) = true)
    (hb : Binds X.K fd ps []) (ha : PA X (e :: es) t) (hdb : (x == ("__debug__" : Str)) = false := by decide)
    (he : starEach (e :: es) X.env = (false, eval e X.env) :: starEach es X.env := by rfl)
    (hpl : (backTo pos (starEach es X.env)).any (·.1) = false := by rfl) : PE X (.Call (.Name x q) (e :: es) [] pos) (tCallE sp p.1 cls d t) := by
  refine ⟨fun pins s σ H Q I h => ?_⟩
  refine wpAny_Call_Name_kw (ld_glob I hg hm ?_ hdb)
  refine PySem.W.callWith_K (h₀ := X.base) I.ok.mod.kin hk (thn (ha.run pos pins s σ H _ I h) ?_) he hpl
  rintro us s1 ⟨vs, H1, I1, r, h1⟩
  refine ⟨I1.kIn, ?_⟩
  have hl : us.length = ps.length := by rw [← r.length]; exact F.len _ _ _ _ _ _ h1
  have b := hb s1 us I1.kIn (by rw [List.append_nil]; exact hl)
  rw [List.append_nil] at b
  have P1 := I1.pin p (List.mem_append_left _ hp)
  have hpin : L2H.PinOk X.stack H1 s1 p :=
    ⟨P1.1, P1.2.1, fun hm => (List.mem_cons.mp (I1.stkSub p.1 hm)).elim P1.2.2.1 P1.2.2.2.1, P1.2.2.2.2⟩
  refine wpAny_call (codeAny_mono (F.run X.A X.stack s1 H1 us vs Q p cls d hr hot hz hpin I1.env0 b r h1) ?_)
  intro rr s' hq
  cases rr with
  | error e => exact False.elim hq
  | ok fl =>
    cases fl with
    | ret u => exact I1.after hq
    | next => exact False.elim hq
    | brk => exact False.elim hq
    | cont => exact False.elim hq

/-! ### xs.count(y), flat things -/
theorem cnt_eqU {x : V} {xs : List V} {us : List Value} (r : Vals xs us) (f : xs.all flatV = true) :
    us.countP (eqU x) = xs.countP fun y => eqV y x := by
  induction r with
  | nil => rfl
  | cons ry rt ih =>
    rw [List.all_cons, Bool.and_eq_true] at f
    rw [List.countP_cons, List.countP_cons, ih f.2, eqU_of ry f.1]
def rCntV (K : PySem.W.Frag) : V → List V → Hp → VK → Prop := fun x vs H Q => ∃ (a : Addr) (ys : List V) (y : V), x = .ref a ∧ vs = [y] ∧
  SqL K H a ys ∧ flatV y = true ∧ ys.all flatV = true ∧ Q (.int (ys.countP fun z => eqV z y : Nat)) H
theorem mt_cntV {X : Cx} : MtR X "list.count" (rCntV X.K) := by
  intro pins s σ H x xs v us Q I rx rxs h
  obtain ⟨p, ys, y, rfl, rfl, hs, fy, fys, q⟩ := h
  cases rx
  obtain ⟨u, rfl, ru⟩ := rxs.one
  obtain ⟨its, rv, ⟨⟨cls, dd, data, sl⟩, n, ho, hc, hdn, hd⟩, hlen⟩ := I.list hs
  simp only at hc hd
  subst hc hd
  refine call_meets PySem.F.slot_list_count ⟨_, ho, rfl⟩ PySem.F.entry_list_count (PySem.F.args_list_count_2 _ _)
    (SeqAt.list_countAt p its.toArray n dd sl u (eqU y)) ⟨ho, fun w hw => mem_eqAt ru fy rv fys w (by simpa using hw), ?_⟩
  have ec : its.toArray.toList.countP (eqU y) = ys.countP fun z => eqV z y := cnt_eqU rv fys
  refine ⟨.int (ys.countP fun z => eqV z y : Nat), H, I.tok _, ⟨s.toks, ?_⟩, q⟩
  show Value.int ((its.toArray.toList.countP (eqU y) : Nat) : Int) s.toks = _
  rw [ec]

/-! ### a list and a list, the left one perhaps the script -/
def rCatS (K : PySem.W.Frag) : R2 := fun x y H Q => ∃ l b xs zs, x = .ref l ∧ y = .ref b ∧ SqL K H l xs ∧ SqL K H b zs ∧
  xs.length + zs.length ≤ sizeLine ∧ ∀ p, H p = none → Q (.ref p) (upd H p (.lst (xs ++ zs)))
theorem op_catS {X : Cx} : OpR X (binaryOp .Add) (rCatS X.K) := by
  intro pins s σ H x y v u Q I rx ry h
  obtain ⟨l, b, xs, zs, rfl, rfl, hl, hb, hz, q⟩ := h
  cases rx
  cases ry
  obtain ⟨its, r, pl, _⟩ := I.list hl
  obtain ⟨its2, r2, pl2, _⟩ := I.list hb
  have n1 := r.length
  have n2 := r2.length
  obtain ⟨⟨c1, d1, da1, sl1⟩, m1, ho1, hc1, _, hd1⟩ := pl
  obtain ⟨⟨c2, d2, da2, sl2⟩, m2, ho2, hc2, _, hd2⟩ := pl2
  simp only at hc1 hd1 hc2 hd2
  subst hc1 hd1 hc2 hd2
  have ea : its.toArray ++ its2.toArray = (its ++ its2).toArray := by simp
  refine concat_meets ⟨_, ho1, rfl⟩ ⟨_, ho2, rfl⟩ noFill_list_add seq_list_add PySem.F.slot_list_add PySem.F.entry_list_add
    (PySem.F.args_list_add_2 _ _) (list_addW l b its.toArray its2.toArray m1 m2 d1 d2 sl1 sl2
      (by rw [List.size_toArray, List.size_toArray]; omega)) ⟨ho1, ho2, ?_⟩
  rw [ea]
  exact ⟨.ref _, _, I.lnew (t' := s.toks) (r.append r2) (by rw [List.length_append]; omega), rfl, q _ I.fresh⟩

/-! ### e(..), the value of e one of some defs of one promise -/
def tCallV (S : Addr → Prop) (sp : Sp) (E : St → XK) (te : TE) (t : TA) : TE := fun σ H Q => te σ H fun x H1 => ∃ f, x = .ref f ∧ S f ∧ t σ H1 fun vs H2 => sp vs H2 Q (E σ)
theorem pe_callV {X : Cx} {CX : CXT} {k : Nat} {S : Addr → Prop} {sp : Sp} {E : St → XK} {g e : Expr} {es : List Expr} {te : TE} {t : TA} {pos : Pos}
    (F : ∀ f, S f → ∃ (fd : FuncData) (ps : List Str), FnOk X.prog X.w X.K X.mg X.base CX k f fd ps sp ∧ PySem.W.keepIn X.K (.ref f) = true ∧ Binds X.K fd ps [])
    (hr : Room k X.A) (hx : ∀ σ, PassesAt CX X σ (E σ)) (hg : PE X g te) (ha : PA X (e :: es) t)
    (hev : eval (.Call g (e :: es) [] pos) X.env = (do callWith pos (← eval g X.env) [] (backTo pos (starEach (e :: es) X.env)) (backToKw pos (keywordEach [] X.env))) := by rfl)
    (he : starEach (e :: es) X.env = (false, eval e X.env) :: starEach es X.env := by rfl)
    (hpl : (backTo pos (starEach es X.env)).any (·.1) = false := by rfl) : PE X (.Call g (e :: es) [] pos) (tCallV S sp E te t) := by
  refine ⟨fun pins s σ H Q I h => ?_⟩
  refine PyProof.Rows.Call_ (thn (hg.run pins s σ H _ I h) ?_) hev
  rintro u s1 ⟨x, H1, I1, rx, f, rfl, hS, h1⟩
  obtain rfl : u = Value.ref f := rx
  obtain ⟨fd, ps, F1, hk, hb⟩ := F f hS
  refine PySem.W.callWith_K (h₀ := X.base) I.ok.mod.kin hk (thn (ha.run pos pins s1 σ H1 _ I1 h1) ?_) he hpl
  rintro us s2 ⟨vs, H2, I2, r, h2⟩
  exact ⟨I2.kIn, run_fnS F1 hr hb (hx σ) I2 r h2⟩

/-! ### a def that may raise, with the errors' context told -/
theorem okN {P : Program} {w : World} {K : PySem.W.Frag} {mg : Str → Option Value} {base : Heap} {x qual : Str} {st : Stmt} {f : Addr} {fd : FuncData}
    {N ps : List Str} {k : Nat} {sp : Sp} (F : Fun K x qual st f fd) (S : FnScope N ps (defScope st)) (len : ∀ vs H Q E, sp vs H Q E → vs.length = ps.length)
    (hbody : ∀ (cdv : Value) (A : Around) (outer : List Env) (s : Shared) (H : Hp) (vs : List V) (Q : VK) (E : XK), Room k (A.deeper (envOfC qual (defScope st) s.heap.objs.size f cdv)) →
      sp vs H Q E → ∃ t, PSs (cxOf (L2N.CX P w) P w K mg base N qual (defScope st) f cdv A outer s H E) (defBody st) t ∧
        t { nx := fun _ H' => Q .non H', rt := Q } (start N vs) H) : FnOk P w K mg base (L2N.CX P w) (k + 1) f fd ps sp := by
  obtain ⟨oc, od, kV, doc, pm, an, cdv, ct, osl, rfl, lk, hcd⟩ := F.ex
  exact fn_of lk hcd S len fun A outer s H vs Q E hr hsp => hbody cdv A outer s H vs Q E hr hsp
/-- X(e, ..), X an own error class without its own __init__; its context told -/
theorem pmkN {X : Cx} {C : Addr} {bmB : List Value} {B newId initId : String} {x : Str} {p pos : Pos} {e : Expr} {es : List Expr} {t : TA}
    (F : ExcBaseFacts B newId initId bmB) (q : PySem.W.excIn X.K C bmB newId = true) (gC : X.mg x = some (.ref C))
    (kC : PySem.W.keepIn X.K (.ref C) = true) (r : Raises X (.ref C)) (hg : Gl X x) (ha : PA X (e :: es) t)
    (hdb : (x == ("__debug__" : Str)) = false := by decide)
    (he : starEach (e :: es) X.env = (false, eval e X.env) :: starEach es X.env := by rfl)
    (hpl : (backTo pos (starEach es X.env)).any (·.1) = false := by rfl) :
    L2N.PMk X (.Call (.Name x p) (e :: es) [] pos) (fun σ H Q => t σ H fun vs H1 => vs.length ≤ sizeLine ∧ Q (.ref C) none H1) := by
  intro pins s σ H Q I h
  refine wpAny_Call_Name_kw (ld_glob I hg gC ?_ hdb)
  refine PySem.W.callWith_K (h₀ := X.base) I.ok.mod.kin kC (thn (ha.run pos pins s σ H _ I h) ?_) he hpl
  rintro us s1 ⟨vs, H1, I1, r1, hz, q1⟩
  refine ⟨I1.kIn, ?_⟩
  show wpAny _ _ (call (.ref C) us) _ _ _
  obtain ⟨bm, N, nm, qn, bs, hdct, sn, sub, ab, col, dd, k0, k1, k2, k3, k5, mN, hC, hN, hni, T⟩ := exc_obj I1.kIn q
  refine wpAny_call_exc_subT F T hC hN hni ?_ (by rw [← r1.length]; exact hz)
  intro h' e' hm
  exact L2N.mk_of I1 hm r q1 (I1.hok.gone hm.new)
theorem tkN {X : Cx} {E : XK} (hs : X.stack = X.env :: X.outer := by rfl) (hf : X.env.frame = some X.env.locals := by rfl) (hex : X.ex = [] := by rfl) {E₁ : Value → Shared → Prop}
    (hx : X.xe = fun e s' => wpAny (model X.prog X.w) X.A (leaving X.env e) (fun _ s'' => L2N.CX X.prog X.w X.outer X.H_0 X.s_0 E e s'') E₁ s' := by rfl) : L2N.Takes X (fun cls d _ H => E cls d H) := L2N.takes_of hs hf hex hx
/-- nothing is let out where the wish is none -/
theorem passN {X : Cx} : Passes (L2N.CX X.prog X.w) X E0 := by
  intro _ _ _ _ _ _ _ h
  obtain ⟨_, _, _, _, _, _, _, _, _, _, _, _, z⟩ := h
  exact z.elim
/-! ### heaps -/
theorem get_new {H : Hp} {p q : Addr} {o x : HO} (h : H p = none) (e : H q = some x) : upd H p o q = some x := by
  rw [upd_ne (ne_of_none e h)]
  exact e
theorem sq_new {K : PySem.W.Frag} {H : Hp} {p q : Addr} {o : HO} {xs : List V} (h : H p = none) (e : SqL K H q xs) : SqL K (upd H p o) q xs := by
  rcases e with (e | ⟨ob, e⟩) | e
  · exact .inl (.inl (get_new h e))
  · exact .inl (.inr ⟨ob, get_new h e⟩)
  · exact .inr e
theorem st_new {K : PySem.W.Frag} {H : Hp} {p q : Addr} {o : HO} {xs : List V} (h : H p = none) (e : SqT K H q xs) : SqT K (upd H p o) q xs := by
  rcases e with (e | ⟨ob, e⟩) | e
  · exact .inl (.inl (get_new h e))
  · exact .inl (.inr ⟨ob, get_new h e⟩)
  · exact .inr e
theorem same_new {H H' : Hp} {p : Addr} {o : HO} (h : H' p = none) (e : Same H H') : Same H (upd H' p o) := fun b x q => get_new h (e b x q)
theorem Same.new {H : Hp} {p : Addr} {o : HO} (h : H p = none) : Same H (upd H p o) := fun b x q => get_new h q
/-- a new object: from then on the heap is told by what it keeps and holds -/
theorem nw {H : Hp} {o : HO} {Q : VK} (k : ∀ (p : Addr) (H2 : Hp), H p = none → Same H H2 → H2 p = some o → Q (.ref p) H2) : ∀ p : Addr, H p = none → Q (.ref p) (upd H p o) :=
  fun p hp => k p _ hp (Same.new hp) upd_same
theorem takesN0 {X : Cx} : L2N.Takes X (fun _ _ _ _ => False) := by
  intro _ _ x
  obtain ⟨_, _, _, _, _, _, _, _, _, _, _, _, _, _, _, _, z⟩ := x
  exact z.elim
theorem ctx_of {cls : Value} {d : Option Addr} {oe : Obj} (hz : L2N.Zn cls d oe) (hf : ∃ vs, oe.data = .fields vs) : ∃ vs : Array Value, oe.data = .fields vs ∧ vs[2]? = some .none := by
  obtain ⟨vs, e⟩ := hf
  exact ⟨vs, e, hz.2.2 vs e⟩
theorem Same.seqT {K : PySem.W.Frag} {H H' : Hp} {a : Addr} {xs : List V} (e : Same H H') (h : SqT K H a xs) : SqT K H' a xs := by
  rcases h with (h | ⟨o, h⟩) | h
  · exact .inl (.inl (e _ _ h))
  · exact .inl (.inr ⟨o, e _ _ h⟩)
  · exact .inr h
theorem Same.ty {K : PySem.W.Frag} {H H' : Hp} {x : V} {T : String} (e : Same H H') (h : TyB K H x T) : TyB K H' x T := by
  cases h with
  | non => exact .non
  | bl b => exact .bl b
  | int i => exact .int i
  | str x => exact .str x
  | byt b => exact .byt b
  | lst h => exact .lst (Same.seq e h)
  | tup h => exact .tup (Same.seqT e h)
  | dK h => exact .dK (e _ _ h)
theorem small {n : Nat} (h : n.ble 100000 = true) : n ≤ 100000 := Nat.le_of_ble_eq_true h
end LH
/-! the reader: a reading, step by step, what follows kept as a letter -/
namespace LH
open PySem L2
variable {K : PySem.W.Frag} {σ : L2.St} {H : Hp} {Q : VK} {D : Ends} {ta tb te tc : TE} {t u : TS} {c c' : TT} {x y v : V} {r r' : R2} {tr : TA} {g : TG}
def Br (b : Bool) (A B : Prop) : Prop := if b = true then A else B
theorem br_t {A B : Prop} (h : A) : Br true A B := by unfold Br; rw [if_pos rfl]; exact h
theorem br_f {A B : Prop} (h : B) : Br false A B := by unfold Br; rw [if_neg Bool.false_ne_true]; exact h
theorem br {b : Bool} {A B : Prop} (h1 : b = true → A) (h2 : b = false → B) : Br b A B := by
  cases b
  · exact br_f (h2 rfl)
  · exact br_t (h1 rfl)
theorem br_p {p A B : Prop} [Decidable p] (h : p) (k : A) : Br (decide p) A B := by rw [decide_eq_true h]; exact br_t k
theorem br_n {p A B : Prop} [Decidable p] (h : ¬ p) (k : B) : Br (decide p) A B := by rw [decide_eq_false h]; exact br_f k
theorem br_d {p A B : Prop} [Decidable p] (h1 : p → A) (h2 : ¬ p → B) : Br (decide p) A B := br (fun e => h1 (of_decide_eq_true e)) (fun e => h2 (of_decide_eq_false e))
theorem br_nd {p A B : Prop} [Decidable p] (h1 : ¬ p → A) (h2 : p → B) : Br (!decide p) A B := br (fun e => h1 (by simpa using e)) (fun e => h2 (by simpa using e))
theorem br_nt {A B : Prop} (h : B) : Br (!true) A B := br_f h
theorem br_nf {A B : Prop} (h : A) : Br (!false) A B := br_t h
theorem br_eq {b b' : Bool} {A B : Prop} (e : b = b') (h : Br b' A B) : Br b A B := by rw [e]; exact h
def Bx (x : V) (H : Hp) (Q : Bool → Hp → Prop) : Prop := ∃ k, x = .bl k ∧ Q k H
theorem bx {k : Bool} {Q : Bool → Hp → Prop} (q : Q k H) : Bx (.bl k) H Q := ⟨k, rfl, q⟩
def BAnd (x : V) (H : Hp) (Q : VK) (R : Hp → VK → Prop) : Prop := ∃ c, x = .bl c ∧ if c = true then R H Q else Q (.bl false) H
def BOr (x : V) (H : Hp) (Q : VK) (R : Hp → VK → Prop) : Prop := ∃ c, x = .bl c ∧ if c = true then Q (.bl true) H else R H Q
theorem band {k : Bool} {R : Hp → VK → Prop} (q : Br k (R H Q) (Q (.bl false) H)) : BAnd (.bl k) H Q R := ⟨k, rfl, q⟩
theorem bor {k : Bool} {R : Hp → VK → Prop} (q : Br k (Q (.bl true) H) (R H Q)) : BOr (.bl k) H Q R := ⟨k, rfl, q⟩
def NewL (xs : List V) (H : Hp) (Q : VK) : Prop := xs.length ≤ sizeLine ∧ ∀ p, H p = none → Q (.ref p) (upd H p (.lst xs))
def NewT (xs : List V) (H : Hp) (Q : VK) : Prop := xs.length ≤ sizeLine ∧ ∀ p, H p = none → Q (.ref p) (upd H p (.tup xs))
theorem sz {n : Nat} (h : n ≤ 100000) : n ≤ sizeLine := Nat.le_trans h (by decide)
theorem sz' {n : Nat} (h : n ≤ 100000) : n < sizeLine := Nat.lt_of_le_of_lt h (by decide)
theorem newl {xs : List V} (hl : xs.length ≤ 100000) (k : ∀ p H2, H p = none → Same H H2 → H2 p = some (.lst xs) → Q (.ref p) H2) : NewL xs H Q :=
  ⟨sz hl, fun p hp => k p _ hp (Same.new hp) upd_same⟩
theorem newt {xs : List V} (hl : xs.length ≤ 100000) (k : ∀ p H2, H p = none → Same H H2 → H2 p = some (.tup xs) → Q (.ref p) H2) : NewT xs H Q :=
  ⟨sz hl, fun p hp => k p _ hp (Same.new hp) upd_same⟩
def NewO (o : HO) (H : Hp) (Q : VK) : Prop := ∀ p, H p = none → Q (.ref p) (upd H p o)
theorem newo {o : HO} (k : ∀ p H2, H p = none → Same H H2 → H2 p = some o → Q (.ref p) H2) : NewO o H Q := fun p hp => k p _ hp (Same.new hp) upd_same
/-! statements -/
theorem x_seq (h : t { D with nx := u D } σ H) : tSeq t u D σ H := h
theorem x_asg (h : te σ H fun x H1 => g x σ H1 D.nx) : tAsg te g D σ H := h
theorem x_gname {i : Nat} {Q : L2.St → Hp → Prop} (h : Q (σ.set i (some v)) H) : gName i v σ H Q := h
theorem x_ret (h : te σ H D.rt) : tRet te D σ H := h
theorem x_drop (h : te σ H fun _ H1 => D.nx σ H1) : tDrop te D σ H := h
theorem x_ifS (h : c σ H fun b H1 => Br b (t D σ H1) (u D σ H1)) : tIfS c t u D σ H := h
theorem x_next (h : D.nx σ H) : tNext D σ H := h
theorem x_cont (h : D.ct σ H) : tCont D σ H := h
/-! expressions -/
theorem x_var {i : Nat} (h : σ[i]? = some (some v)) (q : Q v H) : tVar i σ H Q := ⟨v, h, q⟩
theorem x_c (q : Q v H) : tC v σ H Q := q
theorem x_op (h : ta σ H fun x H1 => tb σ H1 fun y H2 => r x y H2 Q) : tOp r ta tb σ H Q := h
theorem x_un {r : V → Hp → VK → Prop} (h : ta σ H fun x H1 => r x H1 Q) : tUn r ta σ H Q := h
theorem x_U {f : Int → V} {i : Int} (q : Q (f i) H) : rU f (.int i) H Q := ⟨i, rfl, q⟩
theorem x_I0 {f : Int → Int → V} {i j : Int} (q : Q (f i j) H) : rI0 f (.int i) (.int j) H Q := ⟨i, j, rfl, rfl, q⟩
theorem x_I {C : Int → Int → Prop} {f : Int → Int → V} {i j : Int} (h : C i j) (q : Q (f i j) H) : rI C f (.int i) (.int j) H Q := ⟨i, j, rfl, rfl, h, q⟩
theorem x_eq (h : scal x y = true) (q : Q (.bl (decide (x = y))) H) : rEq x y H Q := ⟨h, q⟩
theorem x_ne (h : scal x y = true) (q : Q (.bl (!decide (x = y))) H) : rNe x y H Q := ⟨h, q⟩
theorem x_test {Q : Bool → Hp → Prop} (h : te σ H fun x H1 => Bx x H1 Q) : tTest te σ H Q := h
theorem x_tB {Q : Bool → Hp → Prop} (h : te σ H fun x H1 => Bx x H1 Q) : tB te σ H Q := h
theorem x_and {Q : Bool → Hp → Prop} (h : c σ H fun b H1 => Br b (c' σ H1 Q) (Q false H1)) : tAnd c c' σ H Q := h
theorem x_or {Q : Bool → Hp → Prop} (h : c σ H fun b H1 => Br b (Q true H1) (c' σ H1 Q)) : tOr c c' σ H Q := h
theorem x_not {Q : Bool → Hp → Prop} (h : c σ H fun b H1 => Q (!b) H1) : tNot c σ H Q := h
theorem x_andV (h : ta σ H fun x H1 => BAnd x H1 Q (tb σ)) : tAndV ta tb σ H Q := h
theorem x_orV (h : ta σ H fun x H1 => BOr x H1 Q (tb σ)) : tOrV ta tb σ H Q := h
theorem x_notV (h : ta σ H fun x H1 => Bx x H1 fun b H2 => Q (.bl (!b)) H2) : tNotV ta σ H Q := h
theorem x_if (h : c σ H fun b H1 => Br b (ta σ H1 Q) (tb σ H1 Q)) : tIf c ta tb σ H Q := h
def ChK (z : V) (σ : L2.St) (H : Hp) (Q : VK) (tc : TE) (r' : R2) (y : V) : Prop := ∃ k, z = .bl k ∧ if k = true then tc σ H fun w' H4 => r' y w' H4 Q else Q (.bl false) H
theorem x_chain (h : ta σ H fun x H1 => tb σ H1 fun y H2 => r x y H2 fun z H3 => ChK z σ H3 Q tc r' y) : tChain r r' ta tb tc σ H Q := h
theorem chk {k : Bool} (h : Br k (tc σ H fun w' H4 => r' y w' H4 Q) (Q (.bl false) H)) : ChK (.bl k) σ H Q tc r' y := ⟨k, rfl, h⟩
theorem x_nil {Q : List V → Hp → Prop} (q : Q [] H) : tNil σ H Q := q
theorem x_cons {Q : List V → Hp → Prop} (h : ta σ H fun x H1 => tr σ H1 fun xs H2 => Q (x :: xs) H2) : tCons ta tr σ H Q := h
theorem x_lst (h : tr σ H fun xs H1 => NewL xs H1 Q) : tLst tr σ H Q := h
theorem x_tup (h : tr σ H fun xs H1 => NewT xs H1 Q) : tTup tr σ H Q := h
theorem x_call {sp : Sp} {dvs : List V} {E : XK} (h : tr σ H fun vs H1 => sp (vs ++ dvs) H1 Q E) : tCall sp dvs E tr σ H Q := h
theorem x_callS {sp : Sp} {E : L2.St → XK} (h : tr σ H fun vs H1 => sp vs H1 Q (E σ)) : tCallS sp E tr σ H Q := h
theorem x_callE {sp : SpE} {e : Addr} {cls : Value} {d : Option Addr} (h : tr σ H fun vs H1 => sp e cls d vs H1 Q) : tCallE sp e cls d tr σ H Q := h
theorem x_cb {r : List V → Hp → VK → Prop} (h : tr σ H fun vs H1 => r vs H1 Q) : tCB r tr σ H Q := h
def BmV (K : PySem.W.Frag) (T : String) (r : V → List V → Hp → VK → Prop) (tr : TA) (σ : L2.St) (x : V) (H : Hp) (Q : VK) : Prop := tyV K T x H ∧ tr σ H fun xs H2 => r x xs H2 Q
theorem x_bm {T : String} {r : V → List V → Hp → VK → Prop} (h : te σ H fun x H1 => BmV K T r tr σ x H1 Q) : tBM K T r te tr σ H Q := h
theorem bm_l {r : V → List V → Hp → VK → Prop} {p : Addr} {xs : List V} (h : SqL K H p xs) (q : tr σ H fun ys H2 => r (.ref p) ys H2 Q) : BmV K "list" r tr σ (.ref p) H Q := ⟨.inl ⟨rfl, _, h⟩, q⟩
def CvV (S : Addr → Prop) (sp : Sp) (E : L2.St → XK) (tr : TA) (σ : L2.St) (x : V) (H : Hp) (Q : VK) : Prop := ∃ f, x = .ref f ∧ S f ∧ tr σ H fun vs H2 => sp vs H2 Q (E σ)
theorem x_callV {S : Addr → Prop} {sp : Sp} {E : L2.St → XK} (h : te σ H fun x H1 => CvV S sp E tr σ x H1 Q) : tCallV S sp E te tr σ H Q := h
theorem cvv {S : Addr → Prop} {sp : Sp} {E : L2.St → XK} {f : Addr} (h : S f) (q : tr σ H fun vs H2 => sp vs H2 Q (E σ)) : CvV S sp E tr σ (.ref f) H Q := ⟨f, rfl, h, q⟩
/-! values -/
theorem x_ixL {p : Addr} {xs : List V} {i : Int} (h : SqL K H p xs) (e : atI xs i = some v) (q : Q v H) : rIxL K (.ref p) (.int i) H Q := ⟨p, xs, i, v, rfl, rfl, h, e, q⟩
theorem x_ixT {p : Addr} {xs : List V} {i : Int} (h : SqT K H p xs) (e : atI xs i = some v) (q : Q v H) : rIxT K (.ref p) (.int i) H Q := ⟨p, xs, i, v, rfl, rfl, h, e, q⟩
theorem x_isi {t : Value} {n : Value} {b : Bool} {cv : V} (k : ClsV cv n) (ty : TyX K H x t) (e : PySem.W.kitOne K t n = some b) (q : Q (.bl b) H) : rIsi K [x, cv] H Q := ⟨x, cv, t, n, b, rfl, k, ty, e, q⟩
theorem x_isE {C a : Addr} {b : Bool} {cv : V} {n : Value} (hc : ∀ u, RelV cv u → u = n) (e : PySem.W.kitOne K (.ref C) n = some b) (q : Q (.bl b) H) : rIsE K C a [.ref a, cv] H Q := ⟨cv, n, b, rfl, hc, e, q⟩
theorem x_cntV {p : Addr} {ys : List V} (h : SqL K H p ys) (fy : flatV y = true) (fys : ys.all flatV = true) (q : Q (.int (ys.countP fun z => eqV z y : Nat)) H) : rCntV K (.ref p) [y] H Q := ⟨p, ys, y, rfl, rfl, h, fy, fys, q⟩
theorem x_index {p : Addr} {ys : List V} {j : Nat} {z : V} (h : SqL K H p ys) (fy : flatV y = true) (fys : ys.all flatV = true) (e : ys[j]? = some z) (ez : eqV z y = true)
    (hn : ∀ (m : Nat) (z' : V), m < j → ys[m]? = some z' → eqV z' y = false) (q : Q (.int (j : Nat)) H) : rIndex K (.ref p) [y] H Q := ⟨p, ys, y, j, z, rfl, rfl, h, fy, fys, e, ez, hn, q⟩
theorem x_catS {p q : Addr} {xs ys : List V} (h1 : SqL K H p xs) (h2 : SqL K H q ys) (hl : xs.length + ys.length ≤ 100000)
    (k : ∀ p H2, H p = none → Same H H2 → H2 p = some (.lst (xs ++ ys)) → Q (.ref p) H2) : rCatS K (.ref p) (.ref q) H Q :=
  ⟨p, q, xs, ys, rfl, rfl, h1, h2, sz hl, fun p hp => k p _ hp (Same.new hp) upd_same⟩
theorem x_in {neg : Bool} {p : Addr} {xs : List V} (h : SqL K H p xs) (hx : flatV x = true) (ha : xs.all flatV = true) (q : Q (.bl (if neg then !inV x xs else inV x xs)) H) : rIn K neg x (.ref p) H Q := ⟨p, xs, rfl, Or.inl h, hx, ha, q⟩
theorem x_typ {T : String} (h : TyB K H x T) (q : Q (.ty T) H) : rTyp K [x] H Q := ⟨x, T, rfl, h, q⟩
theorem x_neD {d e : PyData} (hx : Dp K H x d) (hy : Dp K H y e) (sd : SeqAt.shaped d = true) (se : SeqAt.shaped e = true) (q : Q (.bl (!PyData.eqv d e)) H) : rNeD K x y H Q := ⟨d, e, hx, hy, sd, se, q⟩
theorem x_eqD {d e : PyData} (hx : Dp K H x d) (hy : Dp K H y e) (sd : SeqAt.shaped d = true) (se : SeqAt.shaped e = true) (q : Q (.bl (PyData.eqv d e)) H) : rEqD K x y H Q := ⟨d, e, hx, hy, sd, se, q⟩
def LrV (a b : Int) (H : Hp) (Q : VK) : Prop := RgOk a b ∧ NewO (.lst (rgV a b)) H Q
theorem lrv {a b : Int} (h : RgOk a b) (k : ∀ p H2, H p = none → Same H H2 → H2 p = some (.lst (rgV a b)) → Q (.ref p) H2) : LrV a b H Q := ⟨h, newo k⟩
theorem x_lrg {te : L2.St → Hp → (Int → Int → Hp → Prop) → Prop} (h : te σ H fun a b H1 => LrV a b H1 Q) : tLstRg te σ H Q := h
end LH
namespace LH
open PySem L2
section
variable {K : PySem.W.Frag} {σ : L2.St} {H : Hp} {Q : VK} {te tl : TE} {t : TT} {g : TG}
/-! comprehensions over a list -/
def LcV (K : PySem.W.Frag) (g : TG) (t : TT) (te : TE) (vs : List Nat) (σ : L2.St) (x : V) (H1 : Hp) (Q : VK) : Prop :=
  ∃ a, x = .ref a ∧ (∃ xs, SqL K H1 a xs) ∧ ∀ D, H1 D = none → ∃ W : Nat → Nat → Hp → Prop, (∃ m, W 0 m (upd H1 D (.lst []))) ∧ ∀ i m H, W i m H →
  ((Itl K a).stop i H ∧ Q (.ref D) H) ∨ ((Itl K a).go i H ∧ ∃ Nx : Hp → Prop, (∀ H', Nx H' → ∃ m', m' < m ∧ W (i + 1) m' H') ∧ ∀ x H', (Itl K a).yld i H x H' → g x (wipe σ vs) H' fun σ2 H2 => wipe σ2 vs = wipe σ vs ∧ t σ2 H2 fun b H3 =>
    if b = true then te σ2 H3 fun y H4 => ∃ acc, H4 D = some (.lst acc) ∧ acc.length < sizeLine ∧ Nx (upd H4 D (.lst (acc ++ [y]))) else Nx H3)
theorem x_lc {vs : List Nat} (h : tl σ H fun x H1 => LcV K g t te vs σ x H1 Q) : tLc (iList K tl) g t te vs σ H Q := h
theorem take_more {α : Type} {l : List α} {i : Nat} {x : α} (h : l[i]? = some x) : l.take (i + 1) = l.take i ++ [x] := by
  rw [List.take_add_one, h]
  rfl
theorem Same.mut {H H' : Hp} {p : Addr} {o : HO} (e : Same H H') (h : H p = none) : Same H (upd H' p o) := fun a u ha => by
  rw [upd_ne (ne_of_none ha h)]
  exact e a u ha
/-- each item kept where f says so, and turned by v; tests and elements may make things of their own -/
theorem lc_L {a : Addr} {xs : List V} {j : Nat} {vs : List Nat} (hx : SqL K H a xs) (hz : xs.length ≤ 100000) (f : V → Bool) (v : V → V)
    (hw : ∀ x, wipe ((wipe σ vs).set j (some x)) vs = wipe σ vs)
    (ht : ∀ x, x ∈ xs → ∀ H1, Same H H1 → ∀ Q : Bool → Hp → Prop, (∀ H2, Same H1 H2 → Q (f x) H2) → t ((wipe σ vs).set j (some x)) H1 Q)
    (he : ∀ x, x ∈ xs → f x = true → ∀ H1, Same H H1 → ∀ Q : VK, (∀ H2, Same H1 H2 → Q (v x) H2) → te ((wipe σ vs).set j (some x)) H1 Q)
    (k : ∀ p H2, H p = none → Same H H2 → H2 p = some (.lst ((xs.filter f).map v)) → Q (.ref p) H2) : LcV K (gName j) t te vs σ (.ref a) H Q := by
  refine ⟨a, rfl, ⟨xs, hx⟩, fun D hD => ?_⟩
  refine lc_list (xs := xs) (fun i H' => Same H H' ∧ H' D = some (.lst (((xs.take i).filter f).map v))) ⟨Same.new hD, upd_same⟩ (fun i H' _ p => Same.seq p.1 hx) ?_ ?_
  · intro i x H' hi p
    have hm : x ∈ xs := List.mem_of_getElem? hi
    have hlt : i < xs.length := (List.getElem?_eq_some_iff.mp hi).1
    have et := take_more hi
    refine ⟨hw x, ht x hm H' p.1 _ fun H2 e2 => ?_⟩
    cases hf : f x with
    | true =>
      rw [if_pos rfl]
      refine he x hm hf H2 (p.1.trans e2) _ fun H3 e3 => ⟨_, e3 _ _ (e2 _ _ p.2), ?_, ?_, ?_⟩
      · have z1 := List.length_filter_le f (xs.take i)
        rw [List.length_map]
        rw [List.length_take] at z1
        exact sz' (by omega)
      · exact Same.mut ((p.1.trans e2).trans e3) hD
      · rw [et, List.filter_append, List.map_append, upd_same]
        simp [List.filter, hf]
    | false =>
      rw [if_neg Bool.false_ne_true]
      refine ⟨p.1.trans e2, ?_⟩
      rw [et, List.filter_append, List.map_append]
      simp [List.filter, hf]
      exact e2 _ _ p.2
  · intro H' p
    rw [List.take_length] at p
    exact k D H' hD p.1 p.2
/-- len(..) -/
def rLen (K : PySem.W.Frag) : List V → Hp → VK → Prop := fun xs H Q => ∃ p ys, xs = [.ref p] ∧ (SqL K H p ys ∨ SqT K H p ys) ∧ Q (.int ys.length) H
theorem call_len {X : Cx} : CallR X (.builtin "len") (rLen X.K) := call_len_seq
theorem x_lenL {p : Addr} {xs : List V} (h : SqL K H p xs) (q : Q (.int xs.length) H) : rLen K [.ref p] H Q := ⟨p, xs, rfl, .inl h, q⟩
theorem x_lenT {p : Addr} {xs : List V} (h : SqT K H p xs) (q : Q (.int xs.length) H) : rLen K [.ref p] H Q := ⟨p, xs, rfl, .inr h, q⟩
def rAbs : List V → Hp → VK → Prop := fun xs H Q => ∃ i, xs = [.int i] ∧ Q (.int (if i < 0 then -i else i)) H
theorem call_absI {X : Cx} : CallR X (.builtin "abs") rAbs := call_abs
theorem x_abs {i : Int} (q : Q (.int (if i < 0 then -i else i)) H) : rAbs [.int i] H Q := ⟨i, rfl, q⟩
def ForL (K : PySem.W.Frag) (g : TG) (tb : TS) (D : Ends) (σ : L2.St) (x : V) (H1 : Hp) : Prop := ∃ a, x = .ref a ∧ (∃ xs, SqL K H1 a xs) ∧ ∃ W : Nat → Nat → L2.St → Hp → Prop, (∃ m, W 0 m σ H1) ∧ ∀ i m σ H, W i m σ H →
  ((Itl K a).stop i H ∧ D.nx σ H) ∨ ((Itl K a).go i H ∧ ∃ N : L2.St → Hp → Prop, (∀ σ' H', N σ' H' → ∃ m', m' < m ∧ W (i + 1) m' σ' H') ∧ ∀ x H', (Itl K a).yld i H x H' → g x σ H' fun σ2 H2 => tb { D with nx := N, ct := N, bk := D.nx } σ2 H2)
theorem x_forL {tb : TS} {D : Ends} (h : tl σ H fun x H1 => ForL K g tb D σ x H1) : tFor (iList K tl) g tb D σ H := h
/-- a for over a list by what holds between two turns; the turn's item is x -/
theorem for_L {tb : TS} {D : Ends} {j : Nat} {a : Addr} {xs : List V} (hx : SqL K H a xs) (Pv : Nat → L2.St → Hp → Prop) (h0 : Pv 0 σ H) (hl : ∀ i σ H, i ≤ xs.length → Pv i σ H → SqL K H a xs)
    (hs : ∀ i x σ H, xs[i]? = some x → Pv i σ H → tb { nx := Pv (i + 1), rt := D.rt, ct := Pv (i + 1), bk := D.nx } (σ.set j (some x)) H) (hd : ∀ σ H, Pv xs.length σ H → D.nx σ H) : ForL K (gName j) tb D σ (.ref a) H :=
  ⟨a, rfl, ⟨xs, hx⟩, for_list (xs := xs) Pv h0 hl (fun i x σ H e p => hs i x σ H e p) hd⟩
def Rg1V (x : V) (H : Hp) (Q : Int → Int → Hp → Prop) : Prop := ∃ n, x = .int n ∧ Q 0 n H
def Rg2V (x y : V) (H : Hp) (Q : Int → Int → Hp → Prop) : Prop := ∃ i j, x = .int i ∧ y = .int j ∧ Q i j H
theorem x_rg1 {Q : Int → Int → Hp → Prop} (h : te σ H fun x H1 => Rg1V x H1 Q) : tRg1 te σ H Q := h
theorem x_rg2 {tb : TE} {Q : Int → Int → Hp → Prop} (h : te σ H fun x H1 => tb σ H1 fun y H2 => Rg2V x y H2 Q) : tRg2 te tb σ H Q := h
theorem rg1v {n : Int} {Q : Int → Int → Hp → Prop} (q : Q 0 n H) : Rg1V (.int n) H Q := ⟨n, rfl, q⟩
theorem rg2v {i j : Int} {Q : Int → Int → Hp → Prop} (q : Q i j H) : Rg2V (.int i) (.int j) H Q := ⟨i, j, rfl, rfl, q⟩
end
end LH
namespace LH
open PySem L2
section
variable {K : PySem.W.Frag} {σ : L2.St} {H : Hp} {Q : VK} {D : Ends} {te tl ta tb : TE} {tr : TA} {t : TT} {g : TG} {x y : V}
/-! walks of any kind -/
def LcJ (J : It) (g : TG) (t : TT) (te : TE) (vs : List Nat) (σ : L2.St) (H1 : Hp) (Q : VK) : Prop :=
  ∀ D, H1 D = none → ∃ W : Nat → Nat → Hp → Prop, (∃ m, W 0 m (upd H1 D (.lst []))) ∧ ∀ i m H, W i m H →
  (J.stop i H ∧ Q (.ref D) H) ∨ (J.go i H ∧ ∃ Nx : Hp → Prop, (∀ H', Nx H' → ∃ m', m' < m ∧ W (i + 1) m' H') ∧ ∀ x H', J.yld i H x H' → g x (wipe σ vs) H' fun σ2 H2 => wipe σ2 vs = wipe σ vs ∧ t σ2 H2 fun b H3 =>
    if b = true then te σ2 H3 fun y H4 => ∃ acc, H4 D = some (.lst acc) ∧ acc.length < sizeLine ∧ Nx (upd H4 D (.lst (acc ++ [y]))) else Nx H3)
def ForJ (J : It) (g : TG) (tb : TS) (D : Ends) (σ : L2.St) (H1 : Hp) : Prop := ∃ W : Nat → Nat → L2.St → Hp → Prop, (∃ m, W 0 m σ H1) ∧ ∀ i m σ H, W i m σ H →
  (J.stop i H ∧ D.nx σ H) ∨ (J.go i H ∧ ∃ N : L2.St → Hp → Prop, (∀ σ' H', N σ' H' → ∃ m', m' < m ∧ W (i + 1) m' σ' H') ∧ ∀ x H', J.yld i H x H' → g x σ H' fun σ2 H2 => tb { D with nx := N, ct := N, bk := D.nx } σ2 H2)
def StrV (v : V) (H : Hp) (R : It → Hp → Prop) : Prop := ∃ x, v = .str x ∧ R (Its x) H
theorem strv {z : Str} {R : It → Hp → Prop} (h : R (Its z) H) : StrV (.str z) H R := ⟨z, rfl, h⟩
def Rn1V (vs : List V) (H : Hp) (R : It → Hp → Prop) : Prop := ∃ j : Int, vs = [.int j] ∧ -(2 ^ 62) ≤ j ∧ j < 2 ^ 62 ∧ R (Itr 0 j.toNat) H
theorem rn1v {j : Int} {R : It → Hp → Prop} (h1 : -100000 ≤ j) (h2 : j ≤ 100000) (h : R (Itr 0 j.toNat) H) : Rn1V [.int j] H R := ⟨j, rfl, by omega, by omega, h⟩
def Rn3V (vs : List V) (H : Hp) (R : It → Hp → Prop) : Prop := ∃ (i j c : Int) (n : Nat), vs = [.int i, .int j, .int c] ∧ RgC i j c n ∧ R (Itc i c n) H
theorem rn3v {i j c : Int} {n : Nat} {R : It → Hp → Prop} (h1 : RgC i j c n) (h : R (Itc i c n) H) : Rn3V [.int i, .int j, .int c] H R := ⟨i, j, c, n, rfl, h1, h⟩
def TupV (K : PySem.W.Frag) (x : V) (H : Hp) (R : It → Hp → Prop) : Prop := ∃ a, x = .ref a ∧ (∃ xs, SqT K H a xs) ∧ R (Itt K a) H
theorem x_lcS {vs : List Nat} (h : tl σ H fun v H1 => StrV v H1 fun J H2 => LcJ J g t te vs σ H2 Q) : tLc (iStr tl) g t te vs σ H Q := h
theorem x_lcR1 {vs : List Nat} (h : tr σ H fun v H1 => Rn1V v H1 fun J H2 => LcJ J g t te vs σ H2 Q) : tLc (iRng1 tr) g t te vs σ H Q := h
theorem x_forR1 {tb : TS} (h : tr σ H fun v H1 => Rn1V v H1 fun J H2 => ForJ J g tb D σ H2) : tFor (iRng1 tr) g tb D σ H := h
theorem x_forR3 {tb : TS} (h : tr σ H fun v H1 => Rn3V v H1 fun J H2 => ForJ J g tb D σ H2) : tFor (iRng3 tr) g tb D σ H := h
theorem for_R3 {tb : TS} {lo c : Int} {n : Nat} {j : Nat} (Pv : Nat → L2.St → Hp → Prop) (h0 : Pv 0 σ H)
    (hs : ∀ i σ H, i < n → Pv i σ H → tb { nx := Pv (i + 1), rt := D.rt, ct := Pv (i + 1), bk := D.nx } (σ.set j (some (.int (lo + (i : Nat) * c)))) H) (hd : ∀ σ H, Pv n σ H → D.nx σ H) : ForJ (Itc lo c n) (gName j) tb D σ H :=
  for_rangeC Pv h0 (fun i σ H hi p => hs i σ H hi p) hd
theorem for_R1 {tb : TS} {lo : Int} {n : Nat} {j : Nat} (Pv : Nat → L2.St → Hp → Prop) (h0 : Pv 0 σ H)
    (hs : ∀ i σ H, i < n → Pv i σ H → tb { nx := Pv (i + 1), rt := D.rt, ct := Pv (i + 1), bk := D.nx } (σ.set j (some (.int (lo + (i : Nat))))) H) (hd : ∀ σ H, Pv n σ H → D.nx σ H) : ForJ (Itr lo n) (gName j) tb D σ H :=
  for_range Pv h0 (fun i σ H hi p => hs i σ H hi p) hd
/-- a comprehension whose walk gives the items xs, the heap as it was -/
theorem lc_J {J : It} {n : Nat} {Y : Nat → Hp → V → Hp → Prop} (w : Walk J n (fun _ => True) Y) {xs : List V} (hn : xs.length = n) (hY : ∀ i H x H', Y i H x H' → H' = H ∧ xs[i]? = some x) {j : Nat} {vs : List Nat} (hz : xs.length ≤ 100000)
    (f : V → Bool) (v : V → V) (hw : ∀ x, wipe ((wipe σ vs).set j (some x)) vs = wipe σ vs)
    (ht : ∀ x, x ∈ xs → ∀ H1, Same H H1 → ∀ Q : Bool → Hp → Prop, (∀ H2, Same H1 H2 → Q (f x) H2) → t ((wipe σ vs).set j (some x)) H1 Q)
    (he : ∀ x, x ∈ xs → f x = true → ∀ H1, Same H H1 → ∀ Q : VK, (∀ H2, Same H1 H2 → Q (v x) H2) → te ((wipe σ vs).set j (some x)) H1 Q)
    (k : ∀ p H2, H p = none → Same H H2 → H2 p = some (.lst ((xs.filter f).map v)) → Q (.ref p) H2) : LcJ J (gName j) t te vs σ H Q := by
  intro D hD
  refine lc_it w (fun i H' => Same H H' ∧ H' D = some (.lst (((xs.take i).filter f).map v))) ⟨Same.new hD, upd_same⟩ (fun _ _ _ _ => trivial) ?_ ?_
  · intro i x H' H'' hi p y
    obtain ⟨rfl, hx⟩ := hY _ _ _ _ y
    have hm : x ∈ xs := List.mem_of_getElem? hx
    have et := take_more hx
    refine ⟨hw x, ht x hm _ p.1 _ fun H2 e2 => ?_⟩
    cases hf : f x with
    | true =>
      rw [if_pos rfl]
      refine he x hm hf H2 (p.1.trans e2) _ fun H3 e3 => ⟨_, e3 _ _ (e2 _ _ p.2), ?_, ?_, ?_⟩
      · have z1 := List.length_filter_le f (xs.take i)
        rw [List.length_map]
        rw [List.length_take] at z1
        exact sz' (by omega)
      · exact Same.mut ((p.1.trans e2).trans e3) hD
      · rw [et, List.filter_append, List.map_append, upd_same]
        simp [List.filter, hf]
    | false =>
      rw [if_neg Bool.false_ne_true]
      refine ⟨p.1.trans e2, ?_⟩
      rw [et, List.filter_append, List.map_append]
      simp [List.filter, hf]
      exact e2 _ _ p.2
  · intro H' p
    rw [← hn, List.take_length] at p
    exact k D H' hD p.1 p.2
def signs (z : Str) : List V := z.cps.toList.map fun c => .str ⟨#[c]⟩
theorem signs_len (z : Str) : (signs z).length = z.cps.size := by unfold signs; rw [List.length_map, Array.length_toList]
/-- .. over a text's signs -/
theorem lc_S {z : Str} {j : Nat} {vs : List Nat} (hz : z.cps.size ≤ 100000) (f : V → Bool) (v : V → V) (hw : ∀ x, wipe ((wipe σ vs).set j (some x)) vs = wipe σ vs)
    (ht : ∀ x, x ∈ signs z → ∀ H1, Same H H1 → ∀ Q : Bool → Hp → Prop, (∀ H2, Same H1 H2 → Q (f x) H2) → t ((wipe σ vs).set j (some x)) H1 Q)
    (he : ∀ x, x ∈ signs z → f x = true → ∀ H1, Same H H1 → ∀ Q : VK, (∀ H2, Same H1 H2 → Q (v x) H2) → te ((wipe σ vs).set j (some x)) H1 Q)
    (k : ∀ p H2, H p = none → Same H H2 → H2 p = some (.lst (((signs z).filter f).map v)) → Q (.ref p) H2) : LcJ (Its z) (gName j) t te vs σ H Q :=
  lc_J walk_str (signs_len z) (fun i H x H' ⟨e, c, hc, hx⟩ => ⟨e, by unfold signs; rw [List.getElem?_map, Array.getElem?_toList, hc, hx]; rfl⟩) (by rw [signs_len]; exact hz) f v hw ht he k
theorem walk_rg {lo : Int} {n : Nat} : Walk (Itr lo n) n (fun _ => True) (fun i H x H' => H' = H ∧ x = .int (lo + (i : Nat)) ∧ i < n) :=
  ⟨fun _ _ h _ => h, fun _ _ => Nat.le_refl _, fun i H x H' h _ y => ⟨y.1, y.2, h⟩⟩
def intsV (lo : Int) (n : Nat) : List V := (List.range n).map fun i => V.int (lo + (i : Nat))
/-- .. over a range -/
theorem lc_R {lo : Int} {n : Nat} {j : Nat} {vs : List Nat} (hz : n ≤ 100000) (f : V → Bool) (v : V → V) (hw : ∀ x, wipe ((wipe σ vs).set j (some x)) vs = wipe σ vs)
    (ht : ∀ x, x ∈ intsV lo n → ∀ H1, Same H H1 → ∀ Q : Bool → Hp → Prop, (∀ H2, Same H1 H2 → Q (f x) H2) → t ((wipe σ vs).set j (some x)) H1 Q)
    (he : ∀ x, x ∈ intsV lo n → f x = true → ∀ H1, Same H H1 → ∀ Q : VK, (∀ H2, Same H1 H2 → Q (v x) H2) → te ((wipe σ vs).set j (some x)) H1 Q)
    (k : ∀ p H2, H p = none → Same H H2 → H2 p = some (.lst (((intsV lo n).filter f).map v)) → Q (.ref p) H2) : LcJ (Itr lo n) (gName j) t te vs σ H Q :=
  lc_J walk_rg (by unfold intsV; rw [List.length_map, List.length_range]) (fun i H x H' ⟨e, hx, hi⟩ => ⟨e, by unfold intsV; rw [List.getElem?_map, List.getElem?_range hi, hx]; rfl⟩) (by unfold intsV; rw [List.length_map, List.length_range]; exact hz) f v hw ht he k
theorem x_yes {Q : Bool → Hp → Prop} (q : Q true H) : tYes σ H Q := q
/-! texts -/
def rLenS : List V → Hp → VK → Prop := fun xs H Q => ∃ z, xs = [.str z] ∧ z.length ≤ sizeLine ∧ Q (.int z.length) H
theorem call_lenS {X : Cx} : CallR X (.builtin "len") rLenS := call_len_str
theorem x_lenS {z : Str} (h : z.length ≤ 100000) (q : Q (.int z.length) H) : rLenS [.str z] H Q := ⟨z, rfl, sz h, q⟩
def rAddS : R2 := fun x y H Q => ∃ i j, x = .str i ∧ y = .str j ∧ i.length + j.length ≤ sizeLine ∧ Q (.str (i ++ j)) H
theorem op_addS {X : Cx} : OpR X (binaryOp .Add) rAddS := op_add_str
theorem x_addS {a b : Str} (h : a.length + b.length ≤ 100000) (q : Q (.str (a ++ b)) H) : rAddS (.str a) (.str b) H Q := ⟨a, b, rfl, rfl, sz h, q⟩
def rInS (neg : Bool) : R2 := fun x y H Q => ∃ (c : Nat) (z : Str), x = .str ⟨#[c]⟩ ∧ y = .str z ∧ Q (.bl (if neg then !decide (c ∈ z.cps.toList) else decide (c ∈ z.cps.toList))) H
theorem op_inS {X : Cx} : OpR X (compareOp .In) (rInS false) := op_in_sign
theorem op_niS {X : Cx} : OpR X (compareOp .NotIn) (rInS true) := op_notIn_sign
theorem x_inS {c : Nat} {z : Str} (q : Q (.bl (decide (c ∈ z.cps.toList))) H) : rInS false (.str ⟨#[c]⟩) (.str z) H Q := ⟨c, z, rfl, rfl, q⟩
theorem x_niS {c : Nat} {z : Str} (q : Q (.bl (!decide (c ∈ z.cps.toList))) H) : rInS true (.str ⟨#[c]⟩) (.str z) H Q := ⟨c, z, rfl, rfl, q⟩
theorem x_ixS {z : Str} {i : Int} {c : Nat} (h : z.length ≤ 100000) (e : atI z.cps.toList i = some c) (q : Q (.str ⟨#[c]⟩) H) : rIxS (.str z) (.int i) H Q := ⟨z, i, c, rfl, rfl, sz h, e, q⟩
theorem x_sl {r : V → Option Int → Option Int → Hp → VK → Prop} {lo hi : TO} (h : te σ H fun x H1 => lo σ H1 fun l H2 => hi σ H2 fun u H3 => r x l u H3 Q) : tSl r te lo hi σ H Q := h
theorem x_noPart {Q : Option Int → Hp → Prop} (q : Q none H) : tNoPart σ H Q := q
def PaV (x : V) (H : Hp) (Q : Option Int → Hp → Prop) : Prop := ∃ i, x = .int i ∧ Q (some i) H
theorem pav {i : Int} {Q : Option Int → Hp → Prop} (q : Q (some i) H) : PaV (.int i) H Q := ⟨i, rfl, q⟩
theorem x_part {Q : Option Int → Hp → Prop} (h : te σ H fun x H1 => PaV x H1 Q) : tPart te σ H Q := h
theorem x_slS {z : Str} {lo hi : Option Int} (h : z.length ≤ 100000) (q : Q (.str (cutS z lo hi)) H) : rSlS (.str z) lo hi H Q := ⟨z, rfl, sz h, q⟩
def JnV (K : PySem.W.Frag) (te : TE) (σ : L2.St) (x : V) (H : Hp) (Q : VK) : Prop := (∃ a, x = .str a) ∧ te σ H fun y H2 => ∃ a p, ∃ ys : List Str, x = .str a ∧ [y] = [.ref p] ∧ (SqL K H2 p (ys.map V.str) ∨ SqT K H2 p (ys.map V.str)) ∧
  (ys.map (·.length)).sum + ys.length * a.length ≤ 16777216 ∧ Q (.str (Txt.join a ys)) H2
def JnW (K : PySem.W.Frag) (a : Str) (y : V) (H2 : Hp) (Q : VK) : Prop := ∃ a' p, ∃ ys : List Str, V.str a = .str a' ∧ [y] = [.ref p] ∧ (SqL K H2 p (ys.map V.str) ∨ SqT K H2 p (ys.map V.str)) ∧
  (ys.map (·.length)).sum + ys.length * a'.length ≤ 16777216 ∧ Q (.str (Txt.join a' ys)) H2
theorem x_jnv {a : Str} (h : te σ H fun y H2 => JnW K a y H2 Q) : JnV K te σ (.str a) H Q := ⟨⟨a, rfl⟩, h⟩
theorem x_jnw {a : Str} {p : Addr} {ys : List Str} (h : SqL K H p (ys.map V.str)) (hz : (ys.map (·.length)).sum + ys.length * a.length ≤ 100000) (q : Q (.str (Txt.join a ys)) H) : JnW K a (.ref p) H Q := ⟨a, p, ys, rfl, rfl, .inl h, Nat.le_trans hz (by decide), q⟩
def tJoin (K : PySem.W.Frag) (to te : TE) : TE := fun σ H Q => to σ H fun x H1 => JnV K te σ x H1 Q
theorem x_join {to : TE} (h : to σ H fun x H1 => JnV K te σ x H1 Q) : tJoin K to te σ H Q := h
theorem pe_joinN {X : Cx} {o e : Expr} {to te : TE} {apos pos : Pos} (ho : PE X o to) (he : PE X e te) (hs : starEach [e] X.env = [(false, eval e X.env)] := by rfl) (hbase : attributeBase o "join" X.env (eval o X.env) = eval o X.env := by rfl) (hline : (apos.endLine == pos.line) = true := by rfl) :
    PE X (.Call (.Attribute o "join" apos) [e] [] pos) (tJoin X.K to te) := pe_join ho he hs hbase hline
/-! tuples, bools, lists of, unpacking -/
theorem x_slA {p : Addr} {xs : List V} {lo hi : Option Int} (h : SqT K H p xs) (k : ∀ p' H2, Same H H2 → SqT K H2 p' (cutV xs lo hi) → Q (.ref p') H2) : rSlA K (.ref p) lo hi H Q := by
  refine ⟨p, xs, rfl, h, fun hw => ?_, fun hw q hq => k q _ (Same.new hq) (SqT.of upd_same)⟩
  have e : cutV xs lo hi = xs := by
    unfold cutV
    rw [hw.1, hw.2, List.drop_zero, Nat.sub_zero, List.take_length]
  exact k p H (Same.refl H) (by rw [e]; exact h)
theorem x_catA {p q : Addr} {xs ys : List V} (h1 : SqT K H p xs) (h2 : SqT K H q ys) (hl : xs.length + ys.length ≤ 100000) (k : ∀ p' H2, Same H H2 → SqT K H2 p' (xs ++ ys) → Q (.ref p') H2) : rCatA K (.ref p) (.ref q) H Q := by
  refine ⟨p, q, xs, ys, rfl, rfl, h1, h2, sz hl, fun e => ?_, fun _ e => ?_, fun _ _ r hr => k r _ (Same.new hr) (SqT.of upd_same)⟩
  · exact k q H (Same.refl H) (by rw [e]; exact h2)
  · exact k p H (Same.refl H) (by rw [e, List.append_nil]; exact h1)
def rIsB (neg : Bool) : R2 := fun x y H Q => ∃ a b, x = .bl a ∧ y = .bl b ∧ Q (.bl (if neg then !decide (a = b) else decide (a = b))) H
theorem op_isB {X : Cx} : OpR X (compareOp .Is) (rIsB false) := op_is_bl
theorem op_isnB {X : Cx} : OpR X (compareOp .IsNot) (rIsB true) := op_isnot_bl
theorem x_isB {b c : Bool} (q : Q (.bl (decide (b = c))) H) : rIsB false (.bl b) (.bl c) H Q := ⟨b, c, rfl, rfl, q⟩
theorem x_isnB {b c : Bool} (q : Q (.bl (!decide (b = c))) H) : rIsB true (.bl b) (.bl c) H Q := ⟨b, c, rfl, rfl, q⟩
theorem x_gtup {n : Nat} {tg : TGs} {a : Addr} {xs : List V} {Q : L2.St → Hp → Prop} (h : SqT K H a xs) (e : xs.length = n) (q : tg xs σ H Q) : gTup K n tg (.ref a) σ H Q := ⟨a, xs, rfl, h, e, q⟩
theorem x_gcons {tg : TGs} {v : V} {r : List V} {Q : L2.St → Hp → Prop} (q : g v σ H fun σ' H' => tg r σ' H' Q) : gCons g tg (v :: r) σ H Q := ⟨v, r, rfl, q⟩
theorem x_gnil {Q : L2.St → Hp → Prop} (q : Q σ H) : gNil [] σ H Q := ⟨rfl, q⟩
def rInt1 : List V → Hp → VK → Prop := fun xs H Q => (∃ i, xs = [.int i] ∧ Q (.int i) H) ∨ ∃ k, xs = [.bl k] ∧ Q (.int (if k then 1 else 0)) H
theorem call_intB {X : Cx} : CallR X (.type "int") rInt1 := call_int1
theorem x_intB {b : Bool} (q : Q (.int (if b then 1 else 0)) H) : rInt1 [.bl b] H Q := .inr ⟨b, rfl, q⟩
theorem x_dnew (k : ∀ p H2, H p = none → Same H H2 → H2 p = some (.dK []) → Q (.ref p) H2) : tDNewK σ H Q := fun p hp => k p _ hp (Same.new hp) upd_same
def rListOf (K : PySem.W.Frag) : List V → Hp → VK → Prop := fun xs H Q => ∃ p ys, xs = [.ref p] ∧ (SqL K H p ys ∨ SqT K H p ys) ∧ ∀ l, H l = none → Q (.ref l) (upd H l (.lst ys))
theorem call_listOf {X : Cx} : CallR X (.type "list") (rListOf X.K) := call_list_of
theorem x_listOf {p : Addr} {ys : List V} (h : SqL K H p ys ∨ SqT K H p ys) (k : ∀ l H2, H l = none → Same H H2 → H2 l = some (.lst ys) → Q (.ref l) H2) : rListOf K [.ref p] H Q := ⟨p, ys, rfl, h, fun l hl => k l _ hl (Same.new hl) upd_same⟩
theorem x_all {p : Addr} {bs : List Bool} (h : SqL K H p (bs.map V.bl)) (q : Q (.bl (bs.all id)) H) : rAll K [.ref p] H Q := ⟨p, bs, rfl, h, q⟩
theorem x_any {p : Addr} {bs : List Bool} (h : SqL K H p (bs.map V.bl)) (q : Q (.bl (bs.any id)) H) : rAny K [.ref p] H Q := ⟨p, bs, rfl, h, q⟩
theorem x_ixQ {p : Addr} {xs : List V} {i : Int} {v : V} (h : SqT K H p xs) (e : atI xs i = some v) (q : Q v H) : rIx K (.ref p) (.int i) H Q := .inr (.inl ⟨p, xs, i, v, rfl, rfl, h, e, q⟩)
def OrV (K : PySem.W.Frag) (x : V) (H : Hp) (Q : VK) (R : Hp → VK → Prop) : Prop := ∃ k, TruV K x H k ∧ if k = true then Q x H else R H Q
theorem x_orT (h : ta σ H fun x H1 => OrV K x H1 Q (tb σ)) : tOrT K ta tb σ H Q := h
theorem orv {k : Bool} {R : Hp → VK → Prop} (h : TruV K x H k) (q : Br k (Q x H) (R H Q)) : OrV K x H Q R := ⟨k, h, q⟩
def rIsTy : R2 := fun x y H Q => ∃ a b, x = .ty a ∧ y = .ty b ∧ Q (.bl (decide (a = b))) H
theorem op_isTy {X : Cx} : OpR X (compareOp .Is) rIsTy := op_isTyB
theorem x_isTy {a b : String} (q : Q (.bl (decide (a = b))) H) : rIsTy (.ty a) (.ty b) H Q := ⟨a, b, rfl, rfl, q⟩
theorem x_niTy {a b : String} (q : Q (.bl (!decide (a = b))) H) : rNT (.ty a) (.ty b) H Q := ⟨a, b, rfl, rfl, q⟩
def rIntS : List V → Hp → VK → Prop := fun xs H Q => ∃ a n, xs = [.str a] ∧ PySem.intText? a = some n ∧ a.length ≤ 640 ∧ Q (.int n) H
theorem call_intS {X : Cx} : CallR X (.type "int") rIntS := call_int_str
theorem x_intS {z : Str} {n : Int} (e : PySem.intText? z = some n) (h : z.length ≤ 640) (q : Q (.int n) H) : rIntS [.str z] H Q := ⟨z, n, rfl, e, h, q⟩
def rStrI : List V → Hp → VK → Prop := fun xs H Q => ∃ i, xs = [.int i] ∧ i.natAbs.log2 < 1920 ∧ Q (.str (toString i)) H
theorem call_strI {X : Cx} : CallR X (.type "str") rStrI := call_str_int
theorem x_strI {i : Int} (h : i.natAbs.log2 < 1920) (q : Q (.str (toString i)) H) : rStrI [.int i] H Q := ⟨i, rfl, h, q⟩
theorem x_glst {n : Nat} {tg : TGs} {a : Addr} {xs : List V} {Q : L2.St → Hp → Prop} (h : SqL K H a xs) (e : xs.length = n) (q : tg xs σ H Q) : gLst K n tg (.ref a) σ H Q := ⟨a, xs, rfl, h, e, q⟩
def SpV (te : TE) (σ : L2.St) (x : V) (H : Hp) (Q : VK) : Prop := (∃ a, x = .str a) ∧ te σ H fun y H2 => ∃ a b, x = .str a ∧ [y] = [.str b] ∧ (b.length == 0) = false ∧ a.length + 2 ≤ sizeLine ∧ rNewStrs (Txt.split a b) H2 Q
def SpW (a : Str) (y : V) (H2 : Hp) (Q : VK) : Prop := ∃ a' b, V.str a = .str a' ∧ [y] = [.str b] ∧ (b.length == 0) = false ∧ a'.length + 2 ≤ sizeLine ∧ rNewStrs (Txt.split a' b) H2 Q
def tSplit (to te : TE) : TE := fun σ H Q => to σ H fun x H1 => SpV te σ x H1 Q
theorem x_split {to : TE} (h : to σ H fun x H1 => SpV te σ x H1 Q) : tSplit to te σ H Q := h
theorem x_spv {a : Str} (h : te σ H fun y H2 => SpW a y H2 Q) : SpV te σ (.str a) H Q := ⟨⟨a, rfl⟩, h⟩
theorem x_spw {a b : Str} (hb : (b.length == 0) = false) (hz : a.length ≤ 100000) (k : ∀ p H2, H p = none → Same H H2 → H2 p = some (.lst ((Txt.split a b).map V.str)) → Q (.ref p) H2) : SpW a (.str b) H Q :=
  ⟨a, b, rfl, rfl, hb, Nat.le_trans (Nat.add_le_add_right hz 2) (by decide), fun p hp => k p _ hp (Same.new hp) upd_same⟩
theorem pe_splitN {X : Cx} {o e : Expr} {to te : TE} {apos pos : Pos} (ho : PE X o to) (he : PE X e te) (hs : starEach [e] X.env = [(false, eval e X.env)] := by rfl) (hbase : attributeBase o "split" X.env (eval o X.env) = eval o X.env := by rfl) (hline : (apos.endLine == pos.line) = true := by rfl) :
    PE X (.Call (.Attribute o "split" apos) [e] [] pos) (tSplit to te) := pe_split ho he hs hbase hline
def SetLV (v o i : V) (H : Hp) (Q : Hp → Prop) : Prop := rSetL o i v H Q
theorem x_gsub {to ti : TE} {v : V} {Q : L2.St → Hp → Prop} (h : to σ H fun o H1 => ti σ H1 fun i H2 => SetLV v o i H2 fun H3 => Q σ H3) : gSub to ti rSetL v σ H Q := h
/-- xs[j] = v of a list of one's own: nothing else changes -/
theorem setLV {p : Addr} {xs : List V} {i : Int} {j : Nat} {v : V} {Q : Hp → Prop} (h : H p = some (.lst xs)) (e : ixN xs.length i = some j) (k : ∀ H', (∀ b o, H b = some o → b ≠ p → H' b = some o) → H' p = some (.lst (xs.set j v)) → Q H') : SetLV v (.ref p) (.int i) H Q :=
  ⟨p, xs, i, j, rfl, rfl, h, e, k _ (fun b o q hb => by rw [upd_ne hb]; exact q) upd_same⟩
def tFmt2 (te : TE) : TE := fun σ H Q => te σ H fun x H1 => (∃ y : Str, x = .str y ∧ y.length ≤ sizeLine ∧ Q (.str y) H1) ∨ ∃ i : Int, x = .int i ∧ i.natAbs.log2 < 1920 ∧ Q (.str (toString i)) H1
def FmV (x : V) (H1 : Hp) (Q : VK) : Prop := (∃ y : Str, x = .str y ∧ y.length ≤ sizeLine ∧ Q (.str y) H1) ∨ ∃ i : Int, x = .int i ∧ i.natAbs.log2 < 1920 ∧ Q (.str (toString i)) H1
theorem x_fmt (h : te σ H fun x H1 => FmV x H1 Q) : tFmt te σ H Q := h
theorem fm_s {y : Str} (h : y.length ≤ 100000) (q : Q (.str y) H) : FmV (.str y) H Q := .inl ⟨y, rfl, sz h, q⟩
theorem fm_i {i : Int} (h : i.natAbs.log2 < 1920) (q : Q (.str (toString i)) H) : FmV (.int i) H Q := .inr ⟨i, rfl, h, q⟩
def JsV (ts : List TE) (acc : Str) (σ : L2.St) (x : V) (H1 : Hp) (Q : Str → Hp → Prop) : Prop := ∃ y : Str, x = .str y ∧ (acc ++ y).length ≤ sizeLine ∧ tJs ts (acc ++ y) σ H1 Q
theorem x_js0 {acc : Str} {Q : Str → Hp → Prop} (q : Q acc H) : tJs [] acc σ H Q := q
theorem x_js {ts : List TE} {acc : Str} {Q : Str → Hp → Prop} (h : te σ H fun x H1 => JsV ts acc σ x H1 Q) : tJs (te :: ts) acc σ H Q := h
theorem jsv {ts : List TE} {acc y : Str} {Q : Str → Hp → Prop} (h : (acc ++ y).length ≤ 100000) (q : tJs ts (acc ++ y) σ H Q) : JsV ts acc σ (.str y) H Q := ⟨y, rfl, sz h, q⟩
/-- a for over a list whose target is any -/
theorem for_Lg {tb : TS} {D : Ends} {a : Addr} {xs : List V} (hx : SqL K H a xs) (Pv : Nat → L2.St → Hp → Prop) (h0 : Pv 0 σ H) (hl : ∀ i σ H, i ≤ xs.length → Pv i σ H → SqL K H a xs)
    (hs : ∀ i x σ H, xs[i]? = some x → Pv i σ H → g x σ H fun σ2 H2 => tb { nx := Pv (i + 1), rt := D.rt, ct := Pv (i + 1), bk := D.nx } σ2 H2) (hd : ∀ σ H, Pv xs.length σ H → D.nx σ H) : ForL K g tb D σ (.ref a) H :=
  ⟨a, rfl, ⟨xs, hx⟩, for_list (xs := xs) Pv h0 hl (fun i x σ H e p => hs i x σ H e p) hd⟩
/-- a value's type by isinstance -/
theorem ty_x {T : String} (h : TyB K H x T) : TyX K H x (.type T) := by
  cases h with
  | non => exact .base .non
  | bl b => exact .base (.bl b)
  | int i => exact .base (.int i)
  | str z => exact .base (.str z)
  | byt b => exact .byt b
  | lst h =>
    rcases h with (h | ⟨o, h⟩) | ⟨o, its, n, hk, hc, _⟩
    · exact .base (.lst h)
    · exact .base (.frz h)
    · exact .kList hk hc
  | tup h =>
    rcases h with (h | ⟨o, h⟩) | ⟨o, its, n, hk, hc, _⟩
    · exact .base (.tup h)
    · exact .fTuple h
    · exact .kTuple hk hc
  | dK h => exact .base (.dK h)
theorem x_isiT {T n : String} {b : Bool} (h : TyB K H x T) (e : kitB T n = some b) (q : Q (.bl b) H) : rIsi K [x, .ty n] H Q := x_isi (.ty n) (ty_x h) (kit_ty e) q
end
end LH
/-! more readings: while, range(a, b), min, pop at a place, how many different ints -/
namespace LH
open PySem L2
section
variable {K : PySem.W.Frag} {σ : L2.St} {H : Hp} {Q : VK} {D : Ends} {te tl ta tb : TE} {tr : TA} {c : TT} {t : TS} {g : TG} {x y : V}
/-! range(a, b) -/
def Rn2V (vs : List V) (H : Hp) (R : It → Hp → Prop) : Prop := ∃ i j : Int, vs = [.int i, .int j] ∧ (-(2 ^ 62) ≤ i ∧ i < 2 ^ 62 ∧ -(2 ^ 62) ≤ j ∧ j < 2 ^ 62) ∧ R (Itr i (j - i).toNat) H
theorem rn2v {i j : Int} {R : It → Hp → Prop} (h1 : -100000 ≤ i ∧ i ≤ 100000) (h2 : -100000 ≤ j ∧ j ≤ 100000) (h : R (Itr i (j - i).toNat) H) : Rn2V [.int i, .int j] H R := ⟨i, j, rfl, ⟨by omega, by omega, by omega, by omega⟩, h⟩
theorem x_forR2 (h : tr σ H fun v H1 => Rn2V v H1 fun J H2 => ForJ J g t D σ H2) : tFor (iRng2 tr) g t D σ H := h
/-! while -/
def WhB (W : Nat → L2.St → Hp → Prop) (m : Nat) (t : TS) (D : Ends) (σ : L2.St) (b : Bool) (H1 : Hp) : Prop :=
  if b = true then ∃ N : L2.St → Hp → Prop, (∀ σ' H', N σ' H' → ∃ m', m' < m ∧ W m' σ' H') ∧ t { D with nx := N, ct := N, bk := D.nx } σ H1 else D.nx σ H1
theorem while_m (W : Nat → L2.St → Hp → Prop) (m0 : Nat) (h0 : W m0 σ H) (hs : ∀ m σ H, W m σ H → c σ H (WhB W m t D σ)) : tWhile c t D σ H := ⟨W, ⟨m0, h0⟩, hs⟩
theorem whb {W : Nat → L2.St → Hp → Prop} {m : Nat} {b : Bool} (h1 : b = true → t { D with nx := fun σ' H' => ∃ m', m' < m ∧ W m' σ' H', ct := fun σ' H' => ∃ m', m' < m ∧ W m' σ' H', bk := D.nx } σ H) (h2 : b = false → D.nx σ H) : WhB W m t D σ b H := by
  unfold WhB
  cases b with
  | false => rw [if_neg Bool.false_ne_true]; exact h2 rfl
  | true => rw [if_pos rfl]; exact ⟨_, fun _ _ q => q, h1 rfl⟩
/-! min, max of two ints -/
def rMinI : List V → Hp → VK → Prop := fun xs H Q => ∃ i j, xs = [.int i, .int j] ∧ Q (.int (if j < i then j else i)) H
theorem call_minI {X : Cx} (hc : X.calm = true) : CallR X (.builtin "min") rMinI := call_min2 hc
theorem x_minI {i j : Int} (q : Q (.int (min i j)) H) : rMinI [.int i, .int j] H Q := ⟨i, j, rfl, by
  have e : (if j < i then j else i) = min i j := by
    split <;> omega
  rw [e]; exact q⟩
/-! xs.pop(i) of a list of one's own -/
theorem x_popAt {p : Addr} {xs : List V} {i : Int} {k : Nat} {y : V} (h : H p = some (.lst xs)) (h1 : -100000 ≤ i) (h2 : i ≤ 100000) (hk : seqIndex? i xs.length = some k) (hy : xs[k]? = some y)
    (q : ∀ H', (∀ b o, H b = some o → b ≠ p → H' b = some o) → H' p = some (.lst (xs.eraseIdx k)) → Q y H') : rPopAt (.ref p) [.int i] H Q :=
  ⟨p, xs, i, k, y, rfl, rfl, h, by omega, by omega, hk, hy, q _ (fun b o e hb => by rw [upd_ne hb]; exact e) upd_same⟩
/-- xs.append(y) to a list of one's own -/
theorem x_app {p : Addr} {xs : List V} {y : V} (h : H p = some (.lst xs)) (hl : xs.length ≤ 100000)
    (q : ∀ H', (∀ b o, H b = some o → b ≠ p → H' b = some o) → H' p = some (.lst (xs ++ [y])) → Q .non H') : rAppend (.ref p) [y] H Q :=
  ⟨p, xs, y, rfl, rfl, h, sz' hl, q _ (fun b o e hb => by rw [upd_ne hb]; exact e) upd_same⟩
theorem Same.set {H0 H H' : Hp} {p : Addr} (e : L2.Same H0 H) (f : H0 p = none) (k : ∀ b o, H b = some o → b ≠ p → H' b = some o) : L2.Same H0 H' := fun b o h => k b o (e b o h) fun q => by
  rw [q, f] at h
  cases h
theorem Same.none {H H' : Hp} {p : Addr} (e : L2.Same H H') (h : H' p = none) : H p = none := by
  cases hq : H p with
  | none => rfl
  | some o => rw [e _ _ hq] at h; cases h
theorem perm_erase {α : Type} : ∀ (l : List α) (j : Nat) (h : j < l.length), (l[j] :: l.eraseIdx j).Perm l
  | [], j, h => absurd h (Nat.not_lt_zero _)
  | a :: l, 0, _ => List.Perm.refl _
  | a :: l, j + 1, h => (List.Perm.swap a (l[j]'(Nat.lt_of_succ_lt_succ h)) (l.eraseIdx j)).trans ((perm_erase l j (Nat.lt_of_succ_lt_succ h)).cons a)
theorem map_erase {α β : Type} (f : α → β) : ∀ (l : List α) (j : Nat), (l.map f).eraseIdx j = (l.eraseIdx j).map f
  | [], _ => rfl
  | _ :: _, 0 => rfl
  | a :: l, j + 1 => congrArg (fun z => f a :: z) (map_erase f l j)
/-- a comprehension over a list, by what becomes of each item: nothing, or a value -/
theorem lc_Li {a : Addr} {xs : List V} {j : Nat} {vs : List Nat} {t : TT} (hx : SqL K H a xs) (hz : xs.length ≤ 100000) (out : List (Option V)) (hn : out.length = xs.length)
    (hw : ∀ x, wipe ((wipe σ vs).set j (some x)) vs = wipe σ vs)
    (ht : ∀ (i : Nat) x o, xs[i]? = some x → out[i]? = some o → ∀ H1, L2.Same H H1 → ∀ Q : Bool → Hp → Prop, (∀ H2, L2.Same H1 H2 → Q o.isSome H2) → t ((wipe σ vs).set j (some x)) H1 Q)
    (he : ∀ (i : Nat) x y, xs[i]? = some x → out[i]? = some (some y) → ∀ H1, L2.Same H H1 → ∀ Q : VK, (∀ H2, L2.Same H1 H2 → Q y H2) → te ((wipe σ vs).set j (some x)) H1 Q)
    (k : ∀ p H2, H p = none → L2.Same H H2 → H2 p = some (.lst (out.filterMap id)) → Q (.ref p) H2) : LcV K (gName j) t te vs σ (.ref a) H Q := by
  refine ⟨a, rfl, ⟨xs, hx⟩, fun D hD => ?_⟩
  refine lc_list (xs := xs) (fun i H' => L2.Same H H' ∧ H' D = some (.lst ((out.take i).filterMap id))) ⟨LH.Same.new hD, upd_same⟩ (fun i H' _ p => Same.seq p.1 hx) ?_ ?_
  · intro i x H' hi p
    have hlt : i < xs.length := (List.getElem?_eq_some_iff.mp hi).1
    have ho : out[i]? = some (out[i]'(by omega)) := List.getElem?_eq_getElem (by omega)
    generalize out[i]'(by omega) = o at ho
    have et := take_more ho
    have small : ((out.take i).filterMap id).length ≤ 100000 := by
      have z1 := List.length_filterMap_le id (out.take i)
      rw [List.length_take] at z1
      omega
    refine ⟨hw x, ht i x o hi ho H' p.1 _ fun H2 e2 => ?_⟩
    cases o with
    | some y =>
      show (if true = true then _ else _)
      rw [if_pos rfl]
      refine he i x y hi ho H2 (p.1.trans e2) _ fun H3 e3 => ⟨_, e3 _ _ (e2 _ _ p.2), sz' small, ?_, ?_⟩
      · exact Same.mut ((p.1.trans e2).trans e3) hD
      · rw [et, List.filterMap_append, upd_same]
        rfl
    | none =>
      show (if false = true then _ else _)
      rw [if_neg Bool.false_ne_true]
      refine ⟨p.1.trans e2, ?_⟩
      rw [et, List.filterMap_append]
      have := e2 _ _ p.2
      simpa using this
  · intro H' p
    rw [← hn, List.take_length] at p
    exact k D H' hD p.1 p.2
/-- a comprehension whose items are objects of their own: the i-th holds ob i, which is no list -/
theorem lc_N {a : Addr} {xs : List V} {j : Nat} {vs : List Nat} {t : TT} (hx : SqL K H a xs) (hz : xs.length ≤ 100000) (ob : Nat → HO) (no : ∀ i l, ob i ≠ .lst l)
    (hw : ∀ x, wipe ((wipe σ vs).set j (some x)) vs = wipe σ vs)
    (ht : ∀ x, x ∈ xs → ∀ H1, L2.Same H H1 → ∀ Q : Bool → Hp → Prop, (∀ H2, L2.Same H1 H2 → Q true H2) → t ((wipe σ vs).set j (some x)) H1 Q)
    (he : ∀ (i : Nat) x, xs[i]? = some x → ∀ H1, L2.Same H H1 → ∀ Q : VK, (∀ p H2, L2.Same H1 H2 → H2 p = some (ob i) → Q (.ref p) H2) → te ((wipe σ vs).set j (some x)) H1 Q)
    (k : ∀ p H2 ys, H p = none → L2.Same H H2 → H2 p = some (.lst ys) → ys.length = xs.length → (∀ i y, ys[i]? = some y → ∃ p, y = .ref p ∧ H2 p = some (ob i)) → Q (.ref p) H2) : LcV K (gName j) t te vs σ (.ref a) H Q := by
  refine ⟨a, rfl, ⟨xs, hx⟩, fun D hD => ?_⟩
  refine lc_list (xs := xs) (fun i H' => L2.Same H H' ∧ ∃ ys : List V, H' D = some (.lst ys) ∧ ys.length = i ∧ ∀ i y, ys[i]? = some y → ∃ p, y = .ref p ∧ H' p = some (ob i)) ⟨LH.Same.new hD, [], upd_same, rfl, fun i y h => nomatch h⟩ (fun i H' _ p => Same.seq p.1 hx) ?_ ?_
  · rintro i x H' hi ⟨e0, ys, gD, ly, hy⟩
    have hlt : i < xs.length := (List.getElem?_eq_some_iff.mp hi).1
    refine ⟨hw x, ht x (List.mem_of_getElem? hi) H' e0 _ fun H2 e2 => ?_⟩
    show (if true = true then _ else _)
    rw [if_pos rfl]
    refine he i x hi H2 (e0.trans e2) _ fun p H3 e3 g3 => ⟨ys, e3 _ _ (e2 _ _ gD), sz' (by omega), ?_, ys ++ [.ref p], upd_same, by rw [List.length_append, ly]; rfl, fun m y hm => ?_⟩
    · exact Same.mut ((e0.trans e2).trans e3) hD
    · have other : ∀ b o, H3 b = some o → (∀ l, o ≠ .lst l) → upd H3 D (.lst (ys ++ [.ref p])) b = some o := fun b o hb hl => by
        rw [upd_ne (fun q => by
          rw [q, e3 _ _ (e2 _ _ gD)] at hb
          injection hb with hb
          exact hl _ hb.symm)]
        exact hb
      by_cases h : m < ys.length
      · rw [List.getElem?_append_left h] at hm
        obtain ⟨p1, e1, g1⟩ := hy m y hm
        exact ⟨p1, e1, other _ _ (e3 _ _ (e2 _ _ g1)) (no m)⟩
      · rw [List.getElem?_append_right (by omega)] at hm
        have hm0 : m - ys.length = 0 := by
          cases hq : m - ys.length with
          | zero => rfl
          | succ z => rw [hq] at hm; cases hm
        rw [hm0] at hm
        injection hm with hm
        have : m = i := by omega
        subst this
        exact ⟨p, hm.symm, other _ _ g3 (no m)⟩
  · rintro H' ⟨e0, ys, gD, ly, hy⟩
    exact k D H' ys hD e0 gD ly hy
/-- two ways that meet again: what follows, R, is proved once -/
theorem join {α : Type} {A : Prop} {R : α → Hp → Prop} (X : α → Hp → Prop) (hA : (∀ y H', X y H' → R y H') → A) (h : ∀ y H', X y H' → R y H') : A := hA h
/-! tuple(xs) of a list; != of plain data or of two dicts -/
def rTupL (K : PySem.W.Frag) : List V → Hp → VK → Prop := fun xs H Q => ∃ p ys, xs = [.ref p] ∧ ((SqL K H p ys ∧ ∀ l, H l = none → Q (.ref l) (upd H l (.tup ys))) ∨ (SqT K H p ys ∧ Q (.ref p) H))
theorem call_tupL {X : Cx} : CallR X (.type "tuple") (rTupL X.K) := call_tuple_of
theorem x_tupL {p : Addr} {ys : List V} (h : SqL K H p ys) (k : ∀ l H2, H l = none → L2.Same H H2 → H2 l = some (.tup ys) → Q (.ref l) H2) : rTupL K [.ref p] H Q := ⟨p, ys, rfl, .inl ⟨h, fun l hl => k l _ hl (LH.Same.new hl) upd_same⟩⟩
def rNeX (K : PySem.W.Frag) : R2 := fun x y H Q => rNeD K x y H Q ∨ rNeDA x y H Q
theorem op_neX {X : Cx} (hu : X.A.units + 64 < cLine) : OpR X (compareOp .NotEq) (rNeX X.K) := (op_neD hu).or (op_ne_dictA (by omega))
theorem x_neX {d : PyData} (hx : Dp K H x d) (sd : SeqAt.shaped d = true) (hy : Dp K H y d) (q : Q (.bl false) H) : rNeX K x y H Q := .inl ⟨d, d, hx, hy, sd, sd, by
  have e : PyData.eqv d d = true := by
    unfold SeqAt.shaped at sd
    rw [Bool.and_eq_true] at sd
    exact SeqAt.eqv_refl _ sd.1
  rw [e]
  exact q⟩
theorem x_neX0 {p : Addr} (h : H p = some (.dK [])) (q : Q (.bl false) H) : rNeX K (.ref p) (.ref p) H Q := .inr ⟨p, p, [], [], rfl, rfl, h, h, rfl, (fun _ m => nomatch m), q⟩
/-! how many different ones -/
def dist (ns : List Int) : List Int := PyProof.Rows.firstMet (fun i => ns.getD i 0) ns.length
def LsV (K : PySem.W.Frag) (x : V) (H : Hp) (Q : VK) : Prop := ∃ (l : Addr) (ns : List Int), x = V.ref l ∧ SqL K H l (ns.map V.int) ∧ ns.length < 60 ∧ Q (.int (dist ns).length) H
def tLenSetG (K : PySem.W.Frag) (ta : TE) : TE := fun σ H Q => ta σ H fun x H1 => LsV K x H1 Q
theorem x_lenSetG (h : ta σ H fun x H1 => LsV K x H1 Q) : tLenSetG K ta σ H Q := h
theorem lsv {p : Addr} {ns : List Int} (h : SqL K H p (ns.map V.int)) (hl : ns.length < 60) (q : Q (.int (dist ns).length) H) : LsV K (.ref p) H Q := ⟨p, ns, rfl, h, hl, q⟩
theorem fold_dist : ∀ (l acc : List Int), (l.foldl PyProof.Rows.step_dedup acc).length ≤ acc.length + l.length ∧ ((l.foldl PyProof.Rows.step_dedup acc).length = acc.length + l.length → l.Nodup ∧ ∀ k ∈ l, k ∉ acc)
  | [], acc => ⟨Nat.le_refl _, fun _ => ⟨List.nodup_nil, fun k h => nomatch h⟩⟩
  | k :: l, acc => by
    have ih := fold_dist l (PyProof.Rows.step_dedup acc k)
    rw [List.foldl_cons]
    by_cases hk : acc.any (· == k) = true
    · have e : PyProof.Rows.step_dedup acc k = acc := by unfold PyProof.Rows.step_dedup; rw [if_pos hk]
      rw [e] at ih ⊢
      refine ⟨by rw [List.length_cons]; omega, fun h => ?_⟩
      rw [List.length_cons] at h
      omega
    · have e : PyProof.Rows.step_dedup acc k = acc ++ [k] := by unfold PyProof.Rows.step_dedup; rw [if_neg hk]
      rw [e] at ih ⊢
      rw [List.length_append, List.length_singleton] at ih
      refine ⟨by rw [List.length_cons]; omega, fun h => ?_⟩
      rw [List.length_cons] at h
      obtain ⟨h1, h2⟩ := ih.2 (by omega)
      have nk : k ∉ acc := fun hm => hk (List.any_eq_true.mpr ⟨k, hm, beq_self_eq_true k⟩)
      refine ⟨List.nodup_cons.mpr ⟨fun hm => h2 k hm (List.mem_append.mpr (.inr (List.mem_singleton.mpr rfl))), h1⟩, fun j hj => ?_⟩
      rcases List.mem_cons.mp hj with rfl | hj
      · exact nk
      · exact fun hm => h2 j hj (List.mem_append.mpr (.inl hm))
theorem dist_eq (ns : List Int) : (dist ns).length = ns.length ↔ ns.Nodup := by
  constructor
  · intro h
    have e : (List.range ns.length).map (fun i => ns.getD i 0) = ns := by
      refine List.ext_getElem (by simp) fun i h1 h2 => ?_
      simp at h1 ⊢
      rw [List.getElem?_eq_getElem h1]
      rfl
    have h2 : (ns.foldl PyProof.Rows.step_dedup []).length = ([] : List Int).length + ns.length := by
      unfold dist PyProof.Rows.firstMet at h
      rw [e] at h
      simpa using h
    exact ((fold_dist ns []).2 h2).1
  · intro h
    unfold dist
    rw [RZ.firstMet_nodup h ns.length (Nat.le_refl _), List.take_length]
end
section
open PySem.Spec PyProof.Rows
variable {X : Cx}
/-- len(set(a)): how many different ints -/
theorem pe_lenSetG {a : Expr} {ta : TE} {p p2 q pos : Pos} (calm : X.calm = true) (g1 : Gl X "len") (m1 : X.mg "len" = none) (g2 : Gl X "set") (m2 : X.mg "set" = none) (ea : PE X a ta)
    (sp : starEach [a] X.env = (false, eval a X.env) :: starEach [] X.env := by rfl) :
    PE X (.Call (.Name "len" p) [.Call (.Name "set" p2) [a] [] q] [] pos) (tLenSetG X.K ta) := by
  constructor
  intro pins s σ H Q inv need
  refine Call_ ?_
  apply ld_blt inv g1 m1 boot_len
  apply PyProof.Rows.callWith_builtin1
  · apply PyProof.Rows.args_cons
    · refine Call_ ?_
      apply ld_blt inv g2 m2 boot_set
      apply PyProof.Rows.callWith_type1
      · apply PyProof.Rows.args_cons
        · apply thn (ea.run pins s σ H _ inv need)
          rintro v s1 ⟨x, H1, inv1, rel, l, ns, rfl, sq, hl, go⟩
          apply PyProof.Rows.args_nil
          cases rel
          obtain ⟨its, vals, plain, _⟩ := inv1.list sq
          have size : its.toArray.size = ns.length := by
            rw [List.size_toArray, ← vals.length, List.length_map]
          refine call_set_list (inv1.ok.hd calm) plain.isList (ns := ns) (by simpa using vals.ints) (by unfold scanBound; omega) ?_
          intro h' tk made kept
          rw [size] at made
          obtain ⟨o, es, ep, tb, at_, exact_, data, _, _, _, fits, count⟩ := made
          apply PyProof.Rows.args_nil
          have inv2 : Inv X pins σ H1 { s1 with heap := h', toks := tk } := inv1.kept fun b u e => kept b u (Heap.lt_size e) e
          have few := PyProof.Rows.firstMet_length_le (fun i => ns.getD i 0) ns.length
          refine call_len_set at_ exact_ data fits (by rw [count]; omega) ⟨.int (dist ns).length, H1, inv2.tok _, ⟨_, by rw [count]; rfl⟩, go⟩
        · exact sp
      · exact sp
      · rfl
    · rfl
  · rfl
  · rfl
end
end LH
/-! readings for classes and dicts; the part of a heap that stands still -/
namespace LH
open PySem L2
/-! ### what stands still -/
/-- the heap without the places M that may change -/
def Fr (M : List Addr) (H : Hp) : Hp := fun b => if b ∈ M then none else H b
/-- all but the place a stays -/
def Kp (a : Addr) (H H' : Hp) : Prop := ∀ b o, H b = some o → b ≠ a → H' b = some o
/-- all but the places M stay -/
def Ks (M : List Addr) (H H' : Hp) : Prop := ∀ b o, H b = some o → b ∉ M → H' b = some o
theorem Kp.ks {a : Addr} {M : List Addr} {H H' : Hp} (k : Kp a H H') (m : a ∈ M) : Ks M H H' := fun b o h n => k b o h fun e => n (e ▸ m)
theorem Ks.of {M : List Addr} {H H' : Hp} (e : L2.Same H H') : Ks M H H' := fun b o h _ => e b o h
theorem Ks.trans {M : List Addr} {H H1 H2 : Hp} (a : Ks M H H1) (b : Ks M H1 H2) : Ks M H H2 := fun c o h n => b c o (a c o h n) n
theorem Ks.sub {M N : List Addr} {H H1 : Hp} (a : Ks M H H1) (s : ∀ b ∈ M, b ∈ N) : Ks N H H1 := fun c o h n => a c o h fun m => n (s c m)
theorem Kp.up {a : Addr} {H H' : Hp} : Kp a H (upd H a o) := fun b o h n => by rw [upd_ne n]; exact h
theorem Kp.upd {a : Addr} {H : Hp} {o : HO} : Kp a H (L2.upd H a o) := fun b u h n => by rw [upd_ne n]; exact h
theorem fr_of {M : List Addr} {H : Hp} {b : Addr} {o : HO} (h : H b = some o) (n : b ∉ M) : Fr M H b = some o := by
  unfold Fr
  rw [if_neg n]
  exact h
theorem fr_in {M : List Addr} {H : Hp} {b : Addr} (m : b ∈ M) : Fr M H b = none := by
  unfold Fr
  rw [if_pos m]
theorem fr_some {M : List Addr} {H : Hp} {b : Addr} {o : HO} (h : Fr M H b = some o) : H b = some o ∧ b ∉ M := by
  unfold Fr at h
  by_cases m : b ∈ M
  · rw [if_pos m] at h
    cases h
  · rw [if_neg m] at h
    exact ⟨h, m⟩
theorem fr_le {M : List Addr} {H : Hp} : L2.Same (Fr M H) H := fun _ _ h => (fr_some h).1
theorem Ks.fr {M : List Addr} {H H' : Hp} (k : Ks M H H') : L2.Same (Fr M H) (Fr M H') := fun b o h => let ⟨h1, n⟩ := fr_some h; fr_of (k b o h1 n) n
theorem Ks.frS {M N : List Addr} {H H' : Hp} (k : Ks M H H') (s : ∀ b ∈ M, b ∈ N) : L2.Same (Fr N H) (Fr N H') := (k.sub s).fr
theorem same_fr {M : List Addr} {H H' : Hp} (e : L2.Same H H') : L2.Same (Fr M H) (Fr M H') := (Ks.of e).fr
/-- a new place that may change from now on -/
theorem fr_new {M : List Addr} {H H' : Hp} {p : Addr} (f : H p = none) (e : L2.Same H H') : L2.Same (Fr M H) (Fr (p :: M) H') := fun b o h => by
  obtain ⟨h1, n⟩ := fr_some h
  exact fr_of (e _ _ h1) fun m => by
    rcases List.mem_cons.mp m with rfl | m
    · rw [f] at h1
      cases h1
    · exact n m
theorem not_in {M : List Addr} {H : Hp} {p : Addr} (f : H p = none) (l : ∀ b ∈ M, ∃ o, H b = some o) : p ∉ M := fun m => by
  obtain ⟨o, h⟩ := l p m
  rw [f] at h
  cases h
section
variable {K : PySem.W.Frag} {σ : L2.St} {H : Hp} {Q : VK} {D : Ends} {te tl ta tb td ty tv tx : TE} {tr : TA} {t : TS} {g : TG} {x y z v : V} {f m : Str} {C dx a : Addr} {fs : List (Str × V)} {sp : Sp} {dvs : List V} {E : XK}
/-! ### fields -/
def FldV (K : PySem.W.Frag) (f : Str) (x : V) (H1 : Hp) (Q : VK) : Prop := ∃ a C dx fs v, x = .ref a ∧ H1 a = some (.ins C dx fs) ∧ Cls K C ∧ NoAttr K C f ∧ fs.lookup f = some v ∧ Q v H1
theorem x_fld (h : ta σ H fun x H1 => FldV K f x H1 Q) : tFld K ta f σ H Q := h
theorem fldv (h : H a = some (.ins C dx fs)) (c : Cls K C) (n : NoAttr K C f) (e : fs.lookup f = some v) (q : Q v H) : FldV K f (.ref a) H Q := ⟨a, C, dx, fs, v, rfl, h, c, n, e, q⟩
def SFldV (K : PySem.W.Frag) (f : Str) (y : V) (D : Ends) (σ : L2.St) (x : V) (H2 : Hp) : Prop := ∃ a C dx fs, x = .ref a ∧ H2 a = some (.ins C dx fs) ∧ Cls K C ∧ NoAttr K C f ∧ fs.length < 1000 ∧ D.nx σ (upd H2 a (.ins C dx (putF f y fs)))
theorem x_sfld (h : tv σ H fun y H1 => ta σ H1 fun x H2 => SFldV K f y D σ x H2) : sFld K ta tv f D σ H := h
theorem sfldv (h : H a = some (.ins C dx fs)) (c : Cls K C) (n : NoAttr K C f) (l : fs.length < 1000) (k : ∀ H', Kp a H H' → H' a = some (.ins C dx (putF f y fs)) → D.nx σ H') : SFldV K f y D σ (.ref a) H :=
  ⟨a, C, dx, fs, rfl, h, c, n, l, k _ Kp.upd upd_same⟩
def AFldV (K : PySem.W.Frag) (f : Str) (tv : TE) (rd : V → V → Hp → VK → Prop) (D : Ends) (σ : L2.St) (x : V) (H1 : Hp) : Prop := ∃ a C dx fs v, x = .ref a ∧ H1 a = some (.ins C dx fs) ∧ Cls K C ∧ NoAttr K C f ∧ fs.lookup f = some v ∧
  tv σ H1 fun y H2 => rd v y H2 fun z H3 => ∃ dx' fs', H3 a = some (.ins C dx' fs') ∧ fs'.length < 1000 ∧ D.nx σ (upd H3 a (.ins C dx' (putF f z fs')))
theorem x_afld {rd : V → V → Hp → VK → Prop} (h : ta σ H fun x H1 => AFldV K f tv rd D σ x H1) : sFldAug K ta tv rd f D σ H := h
/-- e.f += i, ints -/
theorem afldI {i j : Int} {rd : V → V → Hp → VK → Prop} (h : H a = some (.ins C dx fs)) (c : Cls K C) (n : NoAttr K C f) (e : fs.lookup f = some (.int i)) (l : fs.length < 1000)
    (hr : ∀ Q : VK, Q (.int (i + j)) H → rd (.int i) (.int j) H Q) (hv : ∀ Q : VK, Q (.int j) H → tv σ H Q)
    (k : ∀ H', Kp a H H' → H' a = some (.ins C dx (putF f (.int (i + j)) fs)) → D.nx σ H') : AFldV K f tv rd D σ (.ref a) H :=
  ⟨a, C, dx, fs, _, rfl, h, c, n, e, hv _ (hr _ ⟨dx, fs, h, l, k _ Kp.upd upd_same⟩)⟩
/-! ### methods, new instances -/
def MethV (C : Addr) (m : Str) (sp : Sp) (dvs : List V) (E : XK) (tr : TA) (σ : L2.St) (x : V) (H1 : Hp) (Q : VK) : Prop := ∃ a dx fs, x = .ref a ∧ H1 a = some (.ins C dx fs) ∧ fs.lookup m = none ∧ tr σ H1 fun vs H2 => sp (x :: (vs ++ dvs)) H2 Q E
theorem x_meth (h : ta σ H fun x H1 => MethV C m sp dvs E tr σ x H1 Q) : tMeth C m sp dvs E ta tr σ H Q := h
theorem methv (h : H a = some (.ins C dx fs)) (l : fs.lookup m = none) (k : tr σ H fun vs H2 => sp (.ref a :: (vs ++ dvs)) H2 Q E) : MethV C m sp dvs E tr σ (.ref a) H Q := ⟨a, dx, fs, rfl, h, l, k⟩
def MakeV (C : Addr) (sp : Sp) (dvs : List V) (E : XK) (vs : List V) (H1 : Hp) (Q : VK) : Prop := ∀ x dx, H1 x = none → H1 dx = none → dx ≠ x → sp (.ref x :: (vs ++ dvs)) (upd (upd H1 dx (.own x)) x (.ins C dx [])) (fun v H2 => v = .non ∧ Q (.ref x) H2) E
theorem x_make (h : tr σ H fun vs H1 => MakeV C sp dvs E vs H1 Q) : tMake C sp dvs E tr σ H Q := h
theorem makev {vs : List V} (k : ∀ x dx H2, H x = none → H dx = none → dx ≠ x → L2.Same H H2 → H2 x = some (.ins C dx []) → sp (.ref x :: (vs ++ dvs)) H2 (fun v H3 => v = .non ∧ Q (.ref x) H3) E) : MakeV C sp dvs E vs H Q := fun x dx f1 f2 n => by
  refine k x dx _ f1 f2 n (fun b o h => ?_) upd_same
  rw [upd_ne (ne_of_none h f1), upd_ne (ne_of_none h f2)]
  exact h
/-! ### dicts -/
def InV (y x : V) (H2 : Hp) (Q : VK) : Prop := ∃ a o, x = .ref a ∧ DGet H2 a y o ∧ Q (.bl o.isSome) H2
def NiV (y x : V) (H2 : Hp) (Q : VK) : Prop := ∃ a o, x = .ref a ∧ DGet H2 a y o ∧ Q (.bl (!o.isSome)) H2
theorem x_din (h : ty σ H fun y H1 => td σ H1 fun x H2 => InV y x H2 Q) : tDIn ty td σ H Q := h
theorem x_dni (h : ty σ H fun y H1 => td σ H1 fun x H2 => NiV y x H2 Q) : tDNotIn ty td σ H Q := h
theorem getI {kvs : List (Key × V)} {i : Int} (h : H a = some (.dK kvs)) : DGet H a (.int i) (valV kvs (Sum.inl i)) := DGet.k (k := Sum.inl i) h
theorem getS {kvs : List (Key × V)} {s : Str} (h : H a = some (.dK kvs)) : DGet H a (.str s) (valV kvs (Sum.inr s)) := DGet.k (k := Sum.inr s) h
theorem getT {kvs : List (List Key × V)} {k : List Key} {b : Addr} (h : H a = some (.dT kvs)) (e : H b = some (.tup (k.map kV))) : DGet H a (.ref b) (valV kvs k) := DGet.t h e
theorem inv {o : Option V} (h : DGet H a y o) (q : Q (.bl o.isSome) H) : InV y (.ref a) H Q := ⟨a, o, rfl, h, q⟩
theorem niv {o : Option V} (h : DGet H a y o) (q : Q (.bl (!o.isSome)) H) : NiV y (.ref a) H Q := ⟨a, o, rfl, h, q⟩
def GetV (x y : V) (H2 : Hp) (Q : VK) : Prop := ∃ a v, x = .ref a ∧ DGet H2 a y (some v) ∧ Q v H2
theorem x_dget (h : td σ H fun x H1 => ty σ H1 fun y H2 => GetV x y H2 Q) : tDGet td ty σ H Q := h
theorem getv {o : Option V} (h : DGet H a y o) (e : o = some v) (q : Q v H) : GetV (.ref a) y H Q := ⟨a, v, rfl, e ▸ h, q⟩
def DpV (v x y : V) (D : Ends) (σ : L2.St) (H3 : Hp) : Prop := ∃ a H4, x = .ref a ∧ DPut H3 a y v H4 ∧ D.nx σ H4
theorem x_dput (h : tv σ H fun v H1 => td σ H1 fun x H2 => ty σ H2 fun y H3 => DpV v x y D σ H3) : sDPut td ty tv D σ H := h
theorem putvI {kvs : List (Key × V)} {i : Int} (h : H a = some (.dK kvs)) (l : kvs.length ≤ 100000) (k : ∀ H', Kp a H H' → H' a = some (.dK (putK kvs (Sum.inl i) v)) → D.nx σ H') : DpV v (.ref a) (.int i) D σ H :=
  ⟨a, _, rfl, DPut.k (k := Sum.inl i) h (sz' l), k _ Kp.upd upd_same⟩
theorem putvS {kvs : List (Key × V)} {s : Str} (h : H a = some (.dK kvs)) (l : kvs.length ≤ 100000) (k : ∀ H', Kp a H H' → H' a = some (.dK (putK kvs (Sum.inr s) v)) → D.nx σ H') : DpV v (.ref a) (.str s) D σ H :=
  ⟨a, _, rfl, DPut.k (k := Sum.inr s) h (sz' l), k _ Kp.upd upd_same⟩
theorem putvT {kvs : List (List Key × V)} {ks : List Key} {b : Addr} (h : H a = some (.dT kvs)) (e : H b = some (.tup (ks.map kV))) (l : kvs.length ≤ 100000) (k : ∀ H', Kp a H H' → H' a = some (.dT (putK kvs ks v)) → D.nx σ H') : DpV v (.ref a) (.ref b) D σ H :=
  ⟨a, _, rfl, DPut.t h e (sz' l), k _ Kp.upd upd_same⟩
def Get2V (ty tx : TE) (σ : L2.St) (x : V) (H1 : Hp) (Q : VK) : Prop := ∃ a, x = .ref a ∧ IsD H1 a ∧ ty σ H1 fun y H2 => tx σ H2 fun z H3 => ∃ o, DGet H3 a y o ∧ Q (o.getD z) H3
def Get2W (a : Addr) (y z : V) (H3 : Hp) (Q : VK) : Prop := ∃ o, DGet H3 a y o ∧ Q (o.getD z) H3
theorem x_dget2 (h : td σ H fun x H1 => Get2V ty tx σ x H1 Q) : tDGet2 td ty tx σ H Q := h
theorem get2v (h : IsD H a) (k : ty σ H fun y H2 => tx σ H2 fun z H3 => Get2W a y z H3 Q) : Get2V ty tx σ (.ref a) H Q := ⟨a, rfl, h, k⟩
theorem get2w {o : Option V} (h : DGet H a y o) (q : Q (o.getD z) H) : Get2W a y z H Q := ⟨o, h, q⟩
theorem isdK {kvs : List (Key × V)} (h : H a = some (.dK kvs)) : IsD H a := .inl ⟨kvs, .inl h⟩
theorem isdT {kvs : List (List Key × V)} (h : H a = some (.dT kvs)) : IsD H a := .inr ⟨kvs, .inl h⟩
def PopV (ty : TE) (σ : L2.St) (x : V) (H1 : Hp) (Q : VK) : Prop := ∃ a, x = .ref a ∧ IsD H1 a ∧ ty σ H1 fun y H2 => ∃ kvs k v, H2 a = some (.dK kvs) ∧ y = kV k ∧ valV kvs k = some v ∧ Q v (upd H2 a (.dK (dropK kvs k)))
def PopW (a : Addr) (y : V) (H2 : Hp) (Q : VK) : Prop := ∃ kvs k v, H2 a = some (.dK kvs) ∧ y = kV k ∧ valV kvs k = some v ∧ Q v (upd H2 a (.dK (dropK kvs k)))
theorem x_dpop1 (h : td σ H fun x H1 => PopV ty σ x H1 Q) : tDPop1 td ty σ H Q := h
theorem popv (h : IsD H a) (k : ty σ H fun y H2 => PopW a y H2 Q) : PopV ty σ (.ref a) H Q := ⟨a, rfl, h, k⟩
theorem popwI {kvs : List (Key × V)} {i : Int} (h : H a = some (.dK kvs)) (e : valV kvs (Sum.inl i) = some v) (k : ∀ H', Kp a H H' → H' a = some (.dK (dropK kvs (Sum.inl i))) → Q v H') : PopW a (.int i) H Q :=
  ⟨kvs, Sum.inl i, v, h, rfl, e, k _ Kp.upd upd_same⟩
def LiV (x : V) (H1 : Hp) (Q : VK) : Prop := LiI.rItemsL x H1 Q
theorem x_litems (h : te σ H fun x H1 => LiV x H1 Q) : LiI.tListItems te σ H Q := h
theorem liv {kvs : List (Key × V)} (h : H a = some (.dK kvs))
    (k : ∀ p H' (ts : List Addr), L2.Same H H' → H p = none → (∀ t ∈ ts, H t = none) → H' p = some (.lst (ts.map V.ref)) → Paired (fun (t : Addr) (q : Key × V) => H' t = some (.tup [kV q.1, q.2])) ts kvs → Q (.ref p) H') : LiV (.ref a) H Q :=
  ⟨a, kvs, rfl, h, fun H' p ts e f ft _ g pr => k p H' ts e f ft g pr⟩
/-! ### displays, lists -/
theorem x_dnewT (k : ∀ p H2, H p = none → L2.Same H H2 → H2 p = some (.dT []) → Q (.ref p) H2) : tDNewT σ H Q := fun p hp => k p _ hp (LH.Same.new hp) upd_same
theorem x_clear {p : Addr} {xs : List V} (h : H p = some (.lst xs)) (q : ∀ H', Kp p H H' → H' p = some (.lst []) → Q .non H') : rClear (.ref p) [] H Q :=
  ⟨p, xs, rfl, rfl, h, q _ Kp.upd upd_same⟩
theorem x_appK {p : Addr} {xs : List V} (h : H p = some (.lst xs)) (hl : xs.length ≤ 100000) (q : ∀ H', Kp p H H' → H' p = some (.lst (xs ++ [y])) → Q .non H') : rAppend (.ref p) [y] H Q :=
  ⟨p, xs, y, rfl, rfl, h, sz' hl, q _ Kp.upd upd_same⟩
def SlLV (K : PySem.W.Frag) (x : V) (lo hi : Option Int) (H : Hp) (Q : VK) : Prop := rSlL K x lo hi H Q
end
end LH
namespace LH
open PySem L2 PySem.Spec PyProof.Rows
/-! ### methods and new instances within a try: what is raised is wished for at the slots -/
section
variable {X : Cx} {CX : CXT} {k : Nat} {f C : Addr} {fd : FuncData} {ps : List Str} {sp : Sp} {E : L2.St → XK} {x m : Str} {p pos apos : Pos} {e o : Expr} {es : List Expr} {to : TE} {tr : TA}
def tMethSl (C : Addr) (m : Str) (sp : Sp) (E : L2.St → XK) (to : TE) (tr : TA) : TE := fun σ H Q => to σ H fun x H1 => MethV C m sp [] (E σ) tr σ x H1 Q
theorem x_methSl {σ : L2.St} {H : Hp} {Q : VK} (h : to σ H fun x H1 => MethV C m sp [] (E σ) tr σ x H1 Q) : tMethSl C m sp E to tr σ H Q := h
theorem pe_methSl {pl : Sem Bool} (ho : PE X o to) (c : Cls X.K C) (hm : Meth X.K C m f) (G : FnOk X.prog X.w X.K X.mg X.base CX k f fd ps sp) (room : Room k X.A) (hb : Binds X.K fd ps []) (hx : ∀ σ, PassesAt CX X σ (E σ)) (ha : PA X (e :: es) tr)
    (h1 : starEach (e :: es) X.env = (false, eval e X.env) :: starEach es X.env := by rfl) (h2 : (backTo pos (starEach es X.env)).any (·.1) = false := by rfl)
    (h3 : eval (.Call (.Attribute o m apos) (e :: es) [] pos) X.env = (do
      let obj ← eval o X.env
      standAt apos.atName
      let (fn, lead) ← holding [obj] (getMethod obj m pl)
      callWith pos fn lead (backTo pos (starEach (e :: es) X.env)) (backToKw pos (keywordEach [] X.env))) := by rfl) :
    PE X (.Call (.Attribute o m apos) (e :: es) [] pos) (tMethSl C m sp E to tr) := by
  constructor
  intro pins s σ H Q I need
  apply PySem.W.methodCall_KW (pl := pl) _ h3
  apply thn (ho.run pins s σ H _ I need)
  rintro u s1 ⟨x, H1, I1, rx, a, dx, fs, rfl, ea, l, q⟩
  have eu : u = Value.ref a := rx
  rw [eu]
  apply getmeth_ok I1 ea c hm l
  refine PySem.W.callWith_K (first := [.ref a]) (h₀ := X.base) I.ok.mod.kin hm.kp (thn (ha.run pos pins s1 σ H1 _ I1 q) ?_) h1 h2
  rintro us s2 ⟨vs, H2, I2, r, q2⟩
  rw [List.append_nil] at q2
  exact ⟨I2.kIn, run_fnS G room hb (hx σ) I2 (.cons (show L2.RelV (V.ref a) (Value.ref a) from rfl) r) q2⟩
def tMakeSl (C : Addr) (sp : Sp) (E : L2.St → XK) (tr : TA) : TE := fun σ H Q => tr σ H fun vs H1 => MakeV C sp [] (E σ) vs H1 Q
theorem x_makeSl {σ : L2.St} {H : Hp} {Q : VK} (h : tr σ H fun vs H1 => MakeV C sp [] (E σ) vs H1 Q) : tMakeSl C sp E tr σ H Q := h
theorem run_makeSl {pins : List (Addr × Obj)} {σ : L2.St} {H : Hp} {s : Shared} {Q : VK} {us : List Value} {vs : List V} (M : Mk X.K C f) (G : FnOk X.prog X.w X.K X.mg X.base CX k f fd ps sp) (room : Room (k + 1) X.A) (hb : Binds X.K fd ps [])
    (hx : PassesAt CX X σ (E σ)) (I : Inv X pins σ H s) (r : Vals vs us) (need : MakeV C sp [] (E σ) vs H Q) : wpAny (model X.prog X.w) X.A (call (.ref C) us) (EP X pins σ Q) X.xe s := by
  have wish := need (s.heap.objs.size + 1) s.heap.objs.size (I.hok.fresh (Nat.le_succ _)) (I.hok.fresh (Nat.le_refl _)) (Nat.ne_of_lt (Nat.lt_succ_self _))
  rw [List.append_nil] at wish
  have made := Inv.made (C := C) I
  have all : Vals (V.ref (s.heap.objs.size + 1) :: vs) (Value.ref (s.heap.objs.size + 1) :: us) := .cons rfl r
  have same : (Value.ref (s.heap.objs.size + 1) :: us).length = ps.length := by
    rw [← all.length]
    exact G.len _ _ _ _ wish
  have b := hb _ (Value.ref (s.heap.objs.size + 1) :: us) made.kIn (by rw [List.append_nil]; exact same)
  rw [List.append_nil] at b
  apply wpAny_call
  apply make_map (f := f) I.kIn M.makes M.init (beq_iff_eq.mp M.fn)
  apply codeAny_mono (G.run _ X.stack _ _ ⟨Value.ref (s.heap.objs.size + 1) :: us, []⟩ (Value.ref (s.heap.objs.size + 1) :: us) _ _ (E σ) (room.make C us []) (made.env0.make C us []) b all wish)
  intro fl s' got
  cases fl with
  | error e => exact hx pins _ _ e s' made got
  | ok fl =>
    cases fl with
    | ret u =>
      obtain ⟨v, H', I3, rv, rfl, q3⟩ := made.after got
      exact ⟨rv, V.ref (s.heap.objs.size + 1), H', I3, rfl, q3⟩
    | next => exact False.elim got
    | brk => exact False.elim got
    | cont => exact False.elim got
theorem pe_makeSl (M : Mk X.K C f) (G : FnOk X.prog X.w X.K X.mg X.base CX k f fd ps sp) (room : Room (k + 1) X.A) (hg : Gl X x) (hm : X.mg x = some (.ref C)) (hb : Binds X.K fd ps []) (hx : ∀ σ, PassesAt CX X σ (E σ))
    (ha : PA X (e :: es) tr) (h0 : (x == ("__debug__" : Str)) = false := by decide) (h1 : starEach (e :: es) X.env = (false, eval e X.env) :: starEach es X.env := by rfl) (h2 : (backTo pos (starEach es X.env)).any (·.1) = false := by rfl) :
    PE X (.Call (.Name x p) (e :: es) [] pos) (tMakeSl C sp E tr) := by
  constructor
  intro pins s σ H Q I need
  apply wpAny_Call_Name_kw (ld_glob I hg hm _ h0)
  refine PySem.W.callWith_K (h₀ := X.base) I.ok.mod.kin M.kp (thn (ha.run pos pins s σ H _ I need) ?_) h1 h2
  rintro us s1 ⟨vs, H1, I1, r, q⟩
  exact ⟨I1.kIn, run_makeSl M G room hb (hx σ) I1 r q⟩
end
end LH
namespace LH
open PySem L2
section
variable {K : PySem.W.Frag} {σ : L2.St} {H : Hp} {Q : VK} {te : TE} {t : TT}
theorem x_slL {p : Addr} {xs : List V} {lo hi : Option Int} (h : SqL K H p xs) (k : ∀ p' H2, H p' = none → L2.Same H H2 → H2 p' = some (.lst (cutV xs lo hi)) → Q (.ref p') H2) : rSlL K (.ref p) lo hi H Q :=
  ⟨p, xs, rfl, h, fun q hq => k q _ hq (LH.Same.new hq) upd_same⟩
theorem Paired.imp {α β : Type} {F G : α → β → Prop} (h : ∀ a b, F a b → G a b) : ∀ {xs : List α} {ys : List β}, Paired F xs ys → Paired G xs ys
  | _, _, .nil => .nil
  | _, _, .cons a r => .cons (h _ _ a) (Paired.imp h r)
theorem Paired.snoc {α β : Type} {F : α → β → Prop} {a : α} {b : β} : ∀ {xs : List α} {ys : List β}, Paired F xs ys → F a b → Paired F (xs ++ [a]) (ys ++ [b])
  | _, _, .nil, h => .cons h .nil
  | _, _, .cons c r, h => .cons c (Paired.snoc r h)
theorem Paired.len {α β : Type} {F : α → β → Prop} : ∀ {xs : List α} {ys : List β}, Paired F xs ys → xs.length = ys.length
  | _, _, .nil => rfl
  | _, _, .cons _ r => congrArg (· + 1) (Paired.len r)
theorem range_filter_succ (f : Nat → Bool) (i : Nat) : (List.range (i + 1)).filter f = if f i = true then (List.range i).filter f ++ [i] else (List.range i).filter f := by
  rw [List.range_succ, List.filter_append]
  cases h : f i <;> simp [List.filter, h]
theorem fr_same {M : List Addr} {H H' : Hp} {p : Addr} (f : H p = none) (e : L2.Same H H') : L2.Same H (Fr [p] H') := fun b o h => fr_of (e _ _ h) fun m => by
  rw [List.mem_singleton.mp m, f] at h
  cases h
theorem same_mut {H H1 H' : Hp} {D : Addr} (e : L2.Same H (Fr [D] H1)) (k : Kp D H1 H') : L2.Same H (Fr [D] H') := e.trans (k.ks (List.mem_singleton.mpr rfl)).fr
/-- a comprehension over a walk, each item told by R, which speaks of what stands still beside the new list -/
theorem lc_JR {J : It} {n : Nat} {Y : Nat → Hp → V → Hp → Prop} (w : Walk J n (fun _ => True) Y) {xs : List V} (hn : xs.length = n) (hY : ∀ i H x H', Y i H x H' → H' = H ∧ xs[i]? = some x) {j : Nat} {vs : List Nat} (hz : n ≤ 100000)
    (f : Nat → Bool) (R : Nat → V → Hp → Prop) (st : ∀ i y H1 H2, L2.Same H1 H2 → R i y H1 → R i y H2) (hw : ∀ x, wipe ((wipe σ vs).set j (some x)) vs = wipe σ vs)
    (ht : ∀ i x, xs[i]? = some x → ∀ H1, L2.Same H H1 → ∀ Q : Bool → Hp → Prop, (∀ H2, L2.Same H1 H2 → Q (f i) H2) → t ((wipe σ vs).set j (some x)) H1 Q)
    (he : ∀ i x, xs[i]? = some x → f i = true → ∀ D H1, L2.Same H (Fr [D] H1) → L2.Same H H1 → (∃ l, H1 D = some (.lst l)) → ∀ Q : VK, (∀ y H2, L2.Same H1 H2 → R i y (Fr [D] H2) → Q y H2) → te ((wipe σ vs).set j (some x)) H1 Q)
    (k : ∀ D H2 ys, H D = none → L2.Same H H2 → H2 D = some (.lst ys) → Paired (fun i y => R i y (Fr [D] H2)) ((List.range n).filter f) ys → Q (.ref D) H2) : LcJ J (gName j) t te vs σ H Q := by
  intro D hD
  refine lc_it w (fun i H' => L2.Same H (Fr [D] H') ∧ ∃ ys, H' D = some (.lst ys) ∧ ys.length ≤ i ∧ Paired (fun i y => R i y (Fr [D] H')) ((List.range i).filter f) ys)
    ⟨fr_same (M := []) hD (LH.Same.new hD), [], upd_same, Nat.le_refl _, .nil⟩ (fun _ _ _ _ => trivial) ?_ ?_
  · rintro i x H' H'' hi ⟨e0, ys, gD, ly, hy⟩ y
    obtain ⟨rfl, hx⟩ := hY _ _ _ _ y
    have e1 : L2.Same H H'' := e0.trans fr_le
    refine ⟨hw x, ht i x hx _ e1 _ fun H2 e2 => ?_⟩
    cases hf : f i with
    | true =>
      rw [if_pos rfl]
      refine he i x hx hf D H2 (e0.trans (same_fr e2)) (e1.trans e2) ⟨_, e2 _ _ gD⟩ _ fun y H3 e3 r3 => ⟨ys, e3 _ _ (e2 _ _ gD), sz' (by omega), ?_, ys ++ [y], upd_same, by rw [List.length_append]; exact Nat.add_le_add_right ly 1, ?_⟩
      · exact same_mut (e0.trans (same_fr (e2.trans e3))) Kp.upd
      · rw [range_filter_succ, if_pos hf]
        have s3 : L2.Same (Fr [D] H3) (Fr [D] (upd H3 D (.lst (ys ++ [y])))) := (Kp.ks (a := D) Kp.upd (List.mem_singleton.mpr rfl)).fr
        exact Paired.snoc (Paired.imp (fun a b h => st a b _ _ ((same_fr (e2.trans e3)).trans s3) h) hy) (st _ _ _ _ s3 r3)
    | false =>
      rw [if_neg Bool.false_ne_true]
      refine ⟨e0.trans (same_fr e2), ys, e2 _ _ gD, Nat.le_succ_of_le ly, ?_⟩
      rw [range_filter_succ, if_neg (by rw [hf]; exact Bool.false_ne_true)]
      exact Paired.imp (fun a b h => st a b _ _ (same_fr e2) h) hy
  · rintro H' ⟨e0, ys, gD, ly, hy⟩
    exact k D H' ys hD (e0.trans fr_le) gD hy
/-- the same over a range -/
theorem lc_RR {lo : Int} {n : Nat} {j : Nat} {vs : List Nat} (hz : n ≤ 100000)
    (f : Nat → Bool) (R : Nat → V → Hp → Prop) (st : ∀ i y H1 H2, L2.Same H1 H2 → R i y H1 → R i y H2) (hw : ∀ x, wipe ((wipe σ vs).set j (some x)) vs = wipe σ vs)
    (ht : ∀ i, i < n → ∀ H1, L2.Same H H1 → ∀ Q : Bool → Hp → Prop, (∀ H2, L2.Same H1 H2 → Q (f i) H2) → t ((wipe σ vs).set j (some (.int (lo + (i : Nat))))) H1 Q)
    (he : ∀ i, i < n → f i = true → ∀ D H1, L2.Same H (Fr [D] H1) → L2.Same H H1 → (∃ l, H1 D = some (.lst l)) → ∀ Q : VK, (∀ y H2, L2.Same H1 H2 → R i y (Fr [D] H2) → Q y H2) → te ((wipe σ vs).set j (some (.int (lo + (i : Nat))))) H1 Q)
    (k : ∀ D H2 ys, H D = none → L2.Same H H2 → H2 D = some (.lst ys) → Paired (fun i y => R i y (Fr [D] H2)) ((List.range n).filter f) ys → Q (.ref D) H2) : LcJ (Itr lo n) (gName j) t te vs σ H Q := by
  have hx : ∀ i x, (intsV lo n)[i]? = some x → i < n ∧ x = .int (lo + (i : Nat)) := fun i x h => by
    unfold intsV at h
    rw [List.getElem?_map] at h
    by_cases hi : i < n
    · rw [List.getElem?_range hi] at h
      injection h with h
      exact ⟨hi, h.symm⟩
    · rw [List.getElem?_eq_none (by rw [List.length_range]; omega)] at h
      cases h
  refine lc_JR (xs := intsV lo n) walk_rg (by unfold intsV; rw [List.length_map, List.length_range]) (fun i H x H' ⟨e, hx, hi⟩ => ⟨e, by unfold intsV; rw [List.getElem?_map, List.getElem?_range hi, hx]; rfl⟩) hz f R st hw ?_ ?_ k
  · intro i x h
    obtain ⟨hi, rfl⟩ := hx i x h
    exact ht i hi
  · intro i x h
    obtain ⟨hi, rfl⟩ := hx i x h
    exact he i hi
/-- the same over a list -/
theorem lc_LR {a : Addr} {xs : List V} {j : Nat} {vs : List Nat} (hx : SqL K H a xs) (hz : xs.length ≤ 100000)
    (f : Nat → Bool) (R : Nat → V → Hp → Prop) (st : ∀ i y H1 H2, L2.Same H1 H2 → R i y H1 → R i y H2) (hw : ∀ x, wipe ((wipe σ vs).set j (some x)) vs = wipe σ vs)
    (ht : ∀ i x, xs[i]? = some x → ∀ H1, L2.Same H H1 → ∀ Q : Bool → Hp → Prop, (∀ H2, L2.Same H1 H2 → Q (f i) H2) → t ((wipe σ vs).set j (some x)) H1 Q)
    (he : ∀ i x, xs[i]? = some x → f i = true → ∀ D H1, L2.Same H (Fr [D] H1) → L2.Same H H1 → (∃ l, H1 D = some (.lst l)) → ∀ Q : VK, (∀ y H2, L2.Same H1 H2 → R i y (Fr [D] H2) → Q y H2) → te ((wipe σ vs).set j (some x)) H1 Q)
    (k : ∀ D H2 ys, H D = none → L2.Same H H2 → H2 D = some (.lst ys) → Paired (fun i y => R i y (Fr [D] H2)) ((List.range xs.length).filter f) ys → Q (.ref D) H2) : LcV K (gName j) t te vs σ (.ref a) H Q := by
  refine ⟨a, rfl, ⟨xs, hx⟩, fun D hD => ?_⟩
  refine lc_list (xs := xs) (fun i H' => L2.Same H (Fr [D] H') ∧ ∃ ys, H' D = some (.lst ys) ∧ ys.length ≤ i ∧ Paired (fun i y => R i y (Fr [D] H')) ((List.range i).filter f) ys)
    ⟨fr_same (M := []) hD (LH.Same.new hD), [], upd_same, Nat.le_refl _, .nil⟩ (fun i H' _ p => L2.Same.seq (p.1.trans fr_le) hx) ?_ ?_
  · rintro i x H' hi ⟨e0, ys, gD, ly, hy⟩
    have hlt : i < xs.length := (List.getElem?_eq_some_iff.mp hi).1
    have e1 : L2.Same H H' := e0.trans fr_le
    refine ⟨hw x, ht i x hi _ e1 _ fun H2 e2 => ?_⟩
    cases hf : f i with
    | true =>
      rw [if_pos rfl]
      refine he i x hi hf D H2 (e0.trans (same_fr e2)) (e1.trans e2) ⟨_, e2 _ _ gD⟩ _ fun y H3 e3 r3 => ⟨ys, e3 _ _ (e2 _ _ gD), sz' (by omega), ?_, ys ++ [y], upd_same, by rw [List.length_append]; exact Nat.add_le_add_right ly 1, ?_⟩
      · exact same_mut (e0.trans (same_fr (e2.trans e3))) Kp.upd
      · rw [range_filter_succ, if_pos hf]
        have s3 : L2.Same (Fr [D] H3) (Fr [D] (upd H3 D (.lst (ys ++ [y])))) := (Kp.ks (a := D) Kp.upd (List.mem_singleton.mpr rfl)).fr
        exact Paired.snoc (Paired.imp (fun a b h => st a b _ _ ((same_fr (e2.trans e3)).trans s3) h) hy) (st _ _ _ _ s3 r3)
    | false =>
      rw [if_neg Bool.false_ne_true]
      refine ⟨e0.trans (same_fr e2), ys, e2 _ _ gD, Nat.le_succ_of_le ly, ?_⟩
      rw [range_filter_succ, if_neg (by rw [hf]; exact Bool.false_ne_true)]
      exact Paired.imp (fun a b h => st a b _ _ (same_fr e2) h) hy
  · rintro H' ⟨e0, ys, gD, ly, hy⟩
    exact k D H' ys hD (e0.trans fr_le) gD hy
end
end LH
namespace LH
open PySem L2
/-- ways that meet again behind an expression -/
theorem cut {te : TE} {σ : L2.St} {H : Hp} {Q0 : VK} (X : V → Hp → Prop) (h : ∀ Q : VK, (∀ y H', X y H' → Q y H') → te σ H Q) (k : ∀ y H', X y H' → Q0 y H') : te σ H Q0 := h Q0 k
/-- .. behind a statement -/
theorem cutS {t : TS} {D : Ends} {σ : L2.St} {H : Hp} (X : L2.St → Hp → Prop) (h : ∀ N : L2.St → Hp → Prop, (∀ σ' H', X σ' H' → N σ' H') → t { D with nx := N } σ H) (k : ∀ σ' H', X σ' H' → D.nx σ' H') : t D σ H := h D.nx k
/-- .. behind a test -/
theorem cutT {t : TT} {σ : L2.St} {H : Hp} {Q0 : Bool → Hp → Prop} (X : Bool → Hp → Prop) (h : ∀ Q : Bool → Hp → Prop, (∀ y H', X y H' → Q y H') → t σ H Q) (k : ∀ y H', X y H' → Q0 y H') : t σ H Q0 := h Q0 k
end LH
/-! more rules: setdefault with tuple keys, list(d.values()) -/
namespace LH
open PySem PySem.Spec PyProof.Rows L2
section
variable {X : Cx} {o e f : Expr} {td ty tx : TE} {apos cpos : Pos}
def SdV (ty tx : TE) (σ : L2.St) (x : V) (H1 : Hp) (Q : VK) : Prop := ∃ a, x = .ref a ∧ IsD H1 a ∧ ty σ H1 fun y H2 => tx σ H2 fun z H3 => ∃ (kvs : List (List Key × V)) (k : List Key) (b : Addr), H3 a = some (.dT kvs) ∧ y = .ref b ∧ H3 b = some (.tup (k.map kV)) ∧ kvs.length < sizeLine ∧
  (∀ v, valV kvs k = some v → Q v H3) ∧ (valV kvs k = none → Q z (upd H3 a (.dT (putK kvs k z))))
def tDSetT (td ty tx : TE) : TE := fun σ H Q => td σ H fun x H1 => SdV ty tx σ x H1 Q
/-- d.setdefault(y, z), the keys tuples -/
theorem pe_dsetdT (hu : X.A.units + 1 < cLine) (ho : PE X o td) (he : PE X e ty) (hf : PE X f tx) (m : M2 X o "setdefault" apos e f cpos) : PE X (.Call (.Attribute o "setdefault" apos) [e, f] [] cpos) (tDSetT td ty tx) := by
  constructor
  intro pins s σ H Q I need
  apply wpAny_Call_method m.base m.few m.line PySem.F.plainAttrs_dict PySem.F.slot_dict_setdefault PySem.F.type_dict_setdefault
  apply thn (ho.run pins s σ H _ I need)
  rintro u s1 ⟨x, H1, I1, rx, a, rfl, isd, q1⟩
  have eu : u = Value.ref a := rx
  rw [eu]
  obtain ⟨t1, t2, _⟩ := isD_at I1 isd
  refine ⟨t1, t2, ?_⟩
  rw [m.trees]
  apply Calls.callWith_builtin rfl
  apply Calls.evalArgs_plain
  apply Calls.spliced_cons
  apply thn (he.run pins s1 σ H1 _ I1 q1)
  rintro kv s2 ⟨y, H2, I2, ry, q2⟩
  apply Calls.spliced_cons
  apply thn (hf.run pins s2 σ H2 _ I2 q2)
  rintro dv s3 ⟨z, H3, I3, rz, kvs, k, b, ea, rfl, eb, len, there, absent⟩
  apply Calls.spliced_nil
  have ek : kv = Value.ref b := ry
  rw [ek]
  obtain ⟨lim, own, xs, rel, dd⟩ := dt_of I3.hok ea
  have lim' : xs.length ≤ sizeLine := by
    rw [← Paired.length rel]
    exact lim
  refine call_setdefault_heap (tupleKind_room_in1 hu) (key_of I3.hok eb) own dd (fun p hp => ?_) (fun hn h' dd' but => ?_) lim'
  · have r := rel.val k
    rw [hp] at r
    cases c : valV kvs k with
    | none =>
      rw [c] at r
      exact (show False from r).elim
    | some v =>
      rw [c] at r
      exact ⟨v, H3, I3.tok _, r, there v c⟩
  · have r := rel.val k
    rw [hn] at r
    cases c : valV kvs k with
    | some v =>
      rw [c] at r
      exact (show False from r).elim
    | none =>
      have len' : (putK kvs k z).length ≤ sizeLine := by
        have := length_putK kvs k z
        omega
      obtain ⟨ob, es, ep, hq, h2, h3, h4, _, h5⟩ := dd'
      refine ⟨z, upd H3 a (.dT (putK kvs k z)), d_write (t' := s3.toks + _) I3 (by rw [ea]; trivial) but ⟨ob, hq⟩ ⟨len', own, _, (rel.put k eb rz).keeps (fun c ys ec => ?_), ob, es, ep, hq, h2, h3, h4, h5⟩, rz, absent c⟩
      have ne : c ≠ a := ne_of ec ea (fun z => nomatch z)
      rw [upd_ne ne]
      exact ec
theorem x_dsetT {σ : L2.St} {H : Hp} {Q : VK} (h : td σ H fun x H1 => SdV ty tx σ x H1 Q) : tDSetT td ty tx σ H Q := h
def SdW (a : Addr) (y z : V) (H3 : Hp) (Q : VK) : Prop := ∃ (kvs : List (List Key × V)) (k : List Key) (b : Addr), H3 a = some (.dT kvs) ∧ y = .ref b ∧ H3 b = some (.tup (k.map kV)) ∧ kvs.length < sizeLine ∧
  (∀ v, valV kvs k = some v → Q v H3) ∧ (valV kvs k = none → Q z (upd H3 a (.dT (putK kvs k z))))
theorem sdv {a : Addr} {σ : L2.St} {H : Hp} {Q : VK} (h : IsD H a) (k : ty σ H fun y H2 => tx σ H2 fun z H3 => SdW a y z H3 Q) : SdV ty tx σ (.ref a) H Q := ⟨a, rfl, h, k⟩
theorem sdw {a b : Addr} {z : V} {H : Hp} {Q : VK} {kvs : List (List Key × V)} {k : List Key} (h : H a = some (.dT kvs)) (e : H b = some (.tup (k.map kV))) (l : kvs.length ≤ 100000) (h1 : ∀ v, valV kvs k = some v → Q v H)
    (h2 : valV kvs k = none → ∀ H', Kp a H H' → H' a = some (.dT (putK kvs k z)) → Q z H') : SdW a (.ref b) z H Q := ⟨kvs, k, b, h, rfl, e, sz' l, h1, fun n => h2 n _ Kp.upd upd_same⟩
end
section
variable {X : Cx} {e : Expr} {te : TE} {apos cpos p pos : Pos}
def LvV (x : V) (H : Hp) (Q : VK) : Prop := ∃ (d : Addr) (kvs : List (Key × V)), x = .ref d ∧ H d = some (.dK kvs) ∧ ∀ q, H q = none → Q (.ref q) (upd H q (.lst (kvs.map (·.2))))
def tListValues (te : TE) : TE := fun σ H Q => te σ H fun x H1 => LvV x H1 Q
theorem x_lvals {σ : L2.St} {H : Hp} {Q : VK} (h : te σ H fun x H1 => LvV x H1 Q) : tListValues te σ H Q := h
theorem lvv {d : Addr} {kvs : List (Key × V)} {H : Hp} {Q : VK} (h : H d = some (.dK kvs)) (k : ∀ q H', H q = none → L2.Same H H' → H' q = some (.lst (kvs.map (·.2))) → Q (.ref q) H') : LvV (.ref d) H Q :=
  ⟨d, kvs, rfl, h, fun q f => k q _ f (LH.Same.new f) upd_same⟩
theorem vals_of {kvs : List (Key × V)} {vs : List (Key × Value)} (r : KV kvs vs) : Vals (kvs.map (·.2)) (vs.map (·.2)) := by
  induction r with
  | nil => exact .nil
  | cons h _ ih => exact .cons h.2 ih
/-- list(e.values()) -/
theorem pe_listValues (calm : X.calm = true) (he : PE X e te) (hg : Gl X "list") (hm : X.mg "list" = none) (hv : bootBuiltins "list" = some (.type "list")) (h1 : attributeBase e "values" X.env (eval e X.env) = eval e X.env := by rfl) (h2 : (apos.endLine == cpos.line) = true := by rfl)
    (h3 : starEach [.Call (.Attribute e "values" apos) [] [] cpos] X.env = (false, eval (.Call (.Attribute e "values" apos) [] [] cpos) X.env) :: starEach [] X.env := by rfl) :
    PE X (.Call (.Name "list" p) [.Call (.Attribute e "values" apos) [] [] cpos] [] pos) (tListValues te) := by
  constructor
  intro pins s σ H Q I need
  apply wpAny_Call_Name_kw (ld_blt I hg hm hv _)
  refine PyProof.Rows.callWith_type1 ?_ h3 rfl
  rw [h3]
  show wpAny _ _ (spliced ((false, eval (.Call (.Attribute e "values" apos) [] [] cpos) X.env) :: backTo pos (starEach [] X.env))) _ _ s
  apply Calls.spliced_cons
  apply wpAny_Call_method (T := "dict") (id := "dict.values") h1 rfl h2 F.plainAttrs_dict F.slot_dict_values F.type_dict_values
  apply thn (he.run pins s σ H _ I need)
  rintro u s1 ⟨x, H1, I1, rx, d, kvs, rfl, hd, q⟩
  have eu : u = Value.ref d := rx
  rw [eu]
  obtain ⟨lim, own, vs, rel, dd⟩ := I1.hok d _ hd
  obtain ⟨ep, at_⟩ := dd.dictAt
  have ll : kvs.length = vs.length := Paired.length rel
  refine ⟨dd.typeIs, dd.mapOf.noDict, ?_⟩
  show wpAny _ _ (callWith cpos (.builtin "dict.values") [.ref d] [] []) _ X.xe s1
  refine method_meetsIn F.slot_dict_values F.entry_dict_values rfl (PySem.evalArgs_none ⟨rfl, dd.typeIs, F.args_dict_values_1 _, _, meets_dict_values (mixKind X.prog X.w) d own, ⟨vs, dd⟩, ?_⟩)
  apply Calls.spliced_nil
  refine PySem.W.kdl_call (PySem.W.kdl_values (knd := mixKind X.prog X.w) (kvs := vs) (ep := ep)) (I1.ok.hd calm) ⟨⟨_, Heap.get?_push_size _ rfl, rfl, rfl⟩, at_.push _⟩ (by omega) fun h' tk acc c kept got items => ?_
  have eq : acc.toList = vs.map (·.2) := PySem.W.kdl_vals_eq acc.toList (by rw [Array.length_toList]; exact items.1) fun j v hj => items.2 j v (by rw [← Array.getElem?_toList]; exact hj)
  have new : H1 (s1.heap.push { cls := .type "dict_values", data := .fields #[.ref d] }).objs.size = none := I1.hok.fresh (by rw [Heap.size_push]; exact Nat.le_succ _)
  refine ⟨.ref _, upd H1 _ (.lst (kvs.map (·.2))), I1.laid (t' := tk) (fun b ob hb => kept b ob (Heap.get?_push_of_some _ hb)) (by rw [Heap.size_push]; exact Nat.le_succ _) ⟨by rw [List.length_map]; exact lim, acc.toList, c, ?_, ?_⟩, rfl, q _ new⟩
  · rw [eq]
    exact vals_of rel
  · rw [Array.toArray_toList]
    exact got
end
end LH
/-! sets of ints and texts by a comprehension; how many they are -/
namespace LH
open PySem PySem.Spec PyProof.Rows L2 PpSet
section
variable {X : Cx}
theorem freshK {P : Program} {w : World} (h : Heap) : (h.push { cls := .type "set", dict := none, data := .set #[] 0 (.fresh 0 0 (!w.params.followText "set-order")) }).SetOf (mixKind P w) h.objs.size (fun _ => false) 0 :=
  ⟨_, #[], 0, _, Heap.get?_push_size _ rfl, ⟨rfl, rfl, rfl⟩, rfl, (fun e he => by simp at he), (fun k => by simp), (by decide), (by rfl), rfl⟩
theorem addK_ok {pins : List (Addr × Obj)} {σ : L2.St} {H : Hp} {s : Shared} {E : Value → Shared → Prop} {D : Addr} {S : Key → Bool} {n : Nat} {y : Key} {u : Value} {Q : Value → Shared → Prop} (I : Inv X pins σ H s) (ry : RelV (kV y) u)
    (at_ : H D = some (SetK X.prog X.w D S n)) (room : n + 1 < scanBound)
    (k : ∀ s', Inv X pins σ (upd H D (SetK X.prog X.w D (fun j => S j || decide (j = y)) (if S y = true then n else n + 1))) s' → Q .none s') : wpAny (model X.prog X.w) X.A (call (.builtin "set.add") [.ref D, u]) Q E s := by
  apply call_set_add (kV_is ry) (key_scan ry) (setK_get I at_) room
  intro h' but new
  have there : ∃ u, h'.get? D = some u := by
    obtain ⟨o, _, _, _, ho, _⟩ := id new
    exact ⟨o, ho⟩
  exact k _ (I.write (e := D) (t' := s.toks + 1) (by rw [at_]; trivial) (.inl rfl) (fun b v hb hv => (but.2 b hb).trans hv) there (setK_new new))
/-- what a turn of the comprehension leaves -/
def ScT (P : Program) (w : World) (J : It) (g : TG) (tt : TT) (te : TE) (vs : List Nat) (σ : L2.St) (D : Addr) (i m : Nat) (W : Nat → Nat → Hp → Prop) (Q : VK) (H : Hp) : Prop :=
  (J.stop i H ∧ Q (.ref D) H) ∨ (J.go i H ∧ ∃ Nx : Hp → Prop, (∀ H', Nx H' → ∃ m', m' < m ∧ W (i + 1) m' H') ∧ ∀ x H', J.yld i H x H' → g x (wipe σ vs) H' fun σ2 H2 => wipe σ2 vs = wipe σ vs ∧ tt σ2 H2 fun b H3 =>
    if b = true then te σ2 H3 fun y H4 => ∃ (c : Key) (S : Key → Bool) (n : Nat), y = kV c ∧ H4 D = some (SetK P w D S n) ∧ n + 1 < scanBound ∧ Nx (upd H4 D (SetK P w D (fun j => S j || decide (j = c)) (if S c = true then n else n + 1))) else Nx H3)
def tScK (P : Program) (w : World) (wi : TI) (g : TG) (tt : TT) (te : TE) (vs : List Nat) : TE := fun σ H Q => wi σ H fun J H1 => ∀ D, H1 D = none → ∃ W : Nat → Nat → Hp → Prop, (∃ m, W 0 m (upd H1 D (SetK P w D (fun _ => false) 0))) ∧ ∀ i m H, W i m H → ScT P w J g tt te vs σ D i m W Q H
/-- {elt for target in iter if ..}, elt an int or a text: what comes behind it is a letter -/
theorem scK_core {pins : List (Addr × Obj)} {s : Shared} {σ : L2.St} {H : Hp} {Q : VK} {elt tg iter : Expr} {ifs : List Expr} {scope : Scope} {own : List (PySem.Str × Nat)} {pos pos' : Pos} {wi : TI} {g : TG} {tt : TT} {te : TE} {use : Option (Value → Sem Unit)} {Qf : Value → Shared → Prop}
    (calm : X.calm = true) (nd : X.N.Nodup) (I : Inv X pins σ H s) (hi : PI X tg iter wi) (ok : BlkOk X.N X.env.scope scope own)
    (hg : ∀ (s : Shared) (H : Hp) (C : Addr) (cl : List (PySem.Str × Addr)) (fp : List Addr), PG (X.blk s H scope (compEnvC scope cl C X.env) fp) tg g)
    (ht : ∀ (s : Shared) (H : Hp) (C : Addr) (cl : List (PySem.Str × Addr)) (fp : List Addr), PTs (X.blk s H scope (compEnvC scope cl C X.env) fp) ifs tt)
    (he : ∀ (s : Shared) (H : Hp) (C : Addr) (cl : List (PySem.Str × Addr)) (fp : List Addr), PE (X.blk s H scope (compEnvC scope cl C X.env) fp) elt te)
    (fold : ∀ x, foldedSetIterable iter X.env x = pure x) (need : tScK X.prog X.w wi g tt te (own.map (·.2)) σ H Q)
    (then_ : ∀ D C s' m H', Inv X pins σ H' s' → Q (.ref D) H' → s'.heap.Ns C m → FpOk X pins H' C → compPost (model X.prog X.w) X.A X.xe use Qf (.ref D) C (.ok .next) s') :
    wpAny (model X.prog X.w) X.A (comprehension (.SetComp elt [⟨tg, iter, ifs, 0⟩] scope pos) scope X.env pos' (newSet (.type "set")) false (eval iter X.env) use) Qf X.xe s := by
  have bound : ∀ y ∈ scope.names, y.2 = .free → ∃ c, X.env.cells.lookup y.1 = some c := fun y hy e => by
    rcases ok.free y hy e with k | k
    · exact I.ok.has _ (.inl k)
    · exact I.ok.has _ (.inr k)
  apply wpAny_comprehension_free (use := use) rfl fold (closure_ok bound) ok.kind (fun y hy e => by rw [ok.uniq y hy, e])
  apply thn (hi.run pins s σ H _ I need)
  intro xv s1 hx
  apply thn hx
  rintro itv s2 ⟨it, fp, tn, J, H2, rfl, I2, T, st2, f2, q⟩
  apply newSet_ok
  apply newEnv_comp
  generalize eD : s2.heap.objs.size = D
  have noD : H2 D = none := I2.hok.fresh (Nat.le_of_eq eD)
  obtain ⟨W, ⟨m0, w0⟩, turn⟩ := q D noD
  generalize es3 : ({ s2 with heap := s2.heap.push { cls := .type "set", dict := none, data := .set #[] 0 (.fresh 0 0 (!X.w.params.followText "set-order")) } } : Shared) = s3
  have hp3 : s3.heap = s2.heap.push { cls := .type "set", dict := none, data := .set #[] 0 (.fresh 0 0 (!X.w.params.followText "set-order")) } := by rw [← es3]
  have I3 : Inv X pins σ (upd H2 D (SetK X.prog X.w D (fun _ => false) 0)) s3 := by
    subst es3 eD
    exact I2.laid (t' := s2.toks) (fun b o hb => Heap.get?_push_of_some _ hb) (Nat.le_refl _) (setK_new (freshK _))
  have old : ∀ b ∈ fp, b < s2.heap.objs.size := fun b hb => by
    obtain ⟨o, e, _⟩ := T.obj _ _ st2 b hb
    exact Heap.lt_size e
  have f3 : ∀ b ∈ fp, FpOk X pins (upd H2 D (SetK X.prog X.w D (fun _ => false) 0)) b ∧ b < s3.heap.objs.size := fun b hb => by
    have lt := old b hb
    have ne : b ≠ D := by
      rw [← eD]
      exact Nat.ne_of_lt lt
    exact ⟨⟨(upd_ne ne).trans (f2 b hb).1, (f2 b hb).2⟩, by rw [hp3, Heap.size_push]; exact Nat.lt_succ_of_lt lt⟩
  have st3 : tn 0 s3.heap := T.keep _ _ _ st2 fun b _ o e => by
    rw [hp3]
    exact Heap.get?_push_of_some _ e
  have I4 := block_start I3 ok nd f3
  have pg := hg s3 (upd H2 D (SetK X.prog X.w D (fun _ => false) 0)) s3.heap.objs.size (cellsFrom (s3.heap.objs.size + 1) scope.names (cloFrom X.env.cells scope.names [])) fp
  have pt := ht s3 (upd H2 D (SetK X.prog X.w D (fun _ => false) 0)) s3.heap.objs.size (cellsFrom (s3.heap.objs.size + 1) scope.names (cloFrom X.env.cells scope.names [])) fp
  have pe := he s3 (upd H2 D (SetK X.prog X.w D (fun _ => false) 0)) s3.heap.objs.size (cellsFrom (s3.heap.objs.size + 1) scope.names (cloFrom X.env.cells scope.names [])) fp
  show codeAny _ _ (.compStart (.SetComp elt [⟨tg, iter, ifs, 0⟩] scope pos) 0 (.ref it) (.ref D) (compEnvC scope (cellsFrom (s3.heap.objs.size + 1) scope.names (cloFrom X.env.cells scope.names [])) s3.heap.objs.size X.env)) _ { s3 with heap := pushCells (s3.heap.push { cls := .type "dict", data := .dict #[] }) scope.names }
  have no3 : ∀ b ∈ fp, (upd H2 D (SetK X.prog X.w D (fun _ => false) 0)) b = none := fun b hb => (f3 b hb).1.1
  generalize env3 : compEnvC scope (cellsFrom (s3.heap.objs.size + 1) scope.names (cloFrom X.env.cells scope.names [])) s3.heap.objs.size X.env = ce at I4 pg pt pe ⊢
  have here : ce.locals = s3.heap.objs.size := by
    subst env3
    rfl
  generalize eH3 : upd H2 D (SetK X.prog X.w D (fun _ => false) 0) = H3 at I3 I4 pg pt pe w0 no3 f3
  generalize es4 : ({ s3 with heap := pushCells (s3.heap.push { cls := .type "dict", data := .dict #[] }) scope.names } : Shared) = s4 at I4 ⊢
  have st4 : tn 0 s4.heap := T.keep _ _ _ st3 fun b _ o e => by
    rw [← es4]
    exact pushCells_keeps _ _ _ _ (Heap.get?_push_of_some _ e)
  have still : ∀ {σ' : L2.St} {H' : Hp} {s' : Shared}, Inv (X.blk s3 H3 scope ce fp) [] σ' H' s' → (∀ b ∈ fp, H' b = none) → ∀ b ∈ fp, FpOk (X.blk s3 H3 scope ce fp) [] H' b := fun {σ' H' s'} I' no b hb =>
    ⟨no b hb, (I'.ok.exf b hb).1, I'.ok.exfs b hb, .inl hb, fun x c e => (I'.ok.exf b hb).2 x c e, fun p hp => absurd (show p ∈ ([] : List (Addr × Obj)) ++ [] from hp) (by simp)⟩
  suffices loop : codeAny (model X.prog X.w) X.A (.compLoop (.SetComp elt [⟨tg, iter, ifs, 0⟩] scope pos) 0 (.ref it) (.ref D) ce) (compPost (model X.prog X.w) X.A X.xe use Qf (.ref D) s3.heap.objs.size) s4 from
    codeAny_compStart_set loop (T.self X.A 0 _ _ _ st4 loop)
  apply compLoopS_any (fun n s' => ∃ i H', Inv (X.blk s3 H3 scope ce fp) [] (wipe σ (own.map (·.2))) H' s' ∧ tn i s'.heap ∧ (∀ b ∈ fp, H' b = none) ∧ W i n H') _ m0 ⟨0, H3, I4, st4, no3, w0⟩
  rintro n s5 ⟨i, H5, I5, st5, no5, w5⟩
  rcases turn i n H5 w5 with ⟨stop, fin⟩ | ⟨go, Nx, hNx, step⟩
  · apply thnF (T.done (X.blk s3 H3 scope ce fp) rfl rfl rfl calm i [] s5 _ H5 (fun _ _ => False) I5 (still I5 no5) st5 stop)
    rintro r s6 ⟨rfl, I6⟩
    have I7 : Inv X pins σ H5 s6 := I3.call' (ch := fp) I6.os I6.base I6.hok I6.bare fun b hb => ⟨(f3 b hb).1.2.2.2.1, (f3 b hb).1.2.1, (f3 b hb).1.2.2.2.2.1, (f3 b hb).1.2.2.2.2.2⟩
    have noC : H5 s3.heap.objs.size = none := by
      have z : H5 ce.locals = none := I6.free
      rwa [here] at z
    obtain ⟨m, ns, _⟩ := I6.loc
    have ns : s6.heap.Ns ce.locals m := ns
    rw [here] at ns
    exact then_ D s3.heap.objs.size s6 m H5 I7 fin ns (I3.fpOk (Nat.le_refl _) noC)
  · apply thnF (T.item (X.blk s3 H3 scope ce fp) rfl rfl rfl calm i [] s5 _ H5 (fun _ _ => False) I5 (still I5 no5) st5 go)
    rintro r s6 ⟨u, rfl, h6⟩
    apply thnF h6
    rintro _ s7 ⟨x, H7, I7, r7, y7, st7, no7⟩
    have I7' := I7.pinned (still I7 no7) (T.obj _ _ st7)
    apply thnF (pg.run _ s7 _ H7 x u _ I7' r7 (step x H7 y7))
    rintro _ s8 ⟨σ8, H8, I8, same8, q8⟩
    apply thnF (pt.run _ s8 σ8 H8 _ I8 q8)
    rintro b s9 ⟨H9, I9, q9⟩
    have again : ∀ {s' : Shared} {H' : Hp}, Inv (X.blk s3 H3 scope ce fp) ([] ++ pinsAt fp s7.heap) σ8 H' s' → Nx H' → ∃ m, m < n ∧ ∃ i H', Inv (X.blk s3 H3 scope ce fp) [] (wipe σ (own.map (·.2))) H' s' ∧ tn i s'.heap ∧ (∀ b ∈ fp, H' b = none) ∧ W i m H' := fun {s' H'} I' nx => by
      obtain ⟨m', lt, w'⟩ := hNx H' nx
      have pinned : ∀ b ∈ fp, ∀ o, s7.heap.get? b = some o → s'.heap.get? b = some o ∧ H' b = none := fun b hb o e => by
        have z := I'.pin (b, o) (List.mem_append_right _ (List.mem_append_right _ (mem_pinsAt hb e)))
        exact ⟨z.1, z.2.1⟩
      have len : (wipe σ (own.map (·.2))).length = σ8.length := by rw [← same8, wipe_length]
      refine ⟨m', lt, i + 1, H', (I'.unpinned (pins := [])).weak len (fun j v e => ?_), T.keep _ _ _ st7 fun b hb o e => (pinned b hb o e).1, fun b hb => ?_, w'⟩
      · rw [← same8] at e
        exact (wipe_some e).1
      · obtain ⟨o, e, _⟩ := T.obj _ _ st7 b hb
        exact (pinned b hb o e).2
    cases b with
    | false =>
      rw [if_neg Bool.false_ne_true] at q9
      rw [if_neg Bool.false_ne_true]
      exact again I9 q9
    | true =>
      rw [if_pos rfl] at q9
      rw [if_pos rfl]
      apply thnF (pe.run _ s9 σ8 H9 _ I9 q9)
      rintro z s10 ⟨yv, H10, I10, r10, c, S0, n0, rfl, at10, room10, nx⟩
      exact addK_ok (X := X.blk s3 H3 scope ce fp) I10 r10 at10 room10 fun s11 I11 => again I11 nx
/-- as a value -/
theorem pe_scK {elt tg iter : Expr} {ifs : List Expr} {scope : Scope} {own : List (PySem.Str × Nat)} {pos : Pos} {wi : TI} {g : TG} {tt : TT} {te : TE} (calm : X.calm = true) (nd : X.N.Nodup) (hi : PI X tg iter wi) (ok : BlkOk X.N X.env.scope scope own)
    (hg : ∀ (s : Shared) (H : Hp) (C : Addr) (cl : List (PySem.Str × Addr)) (fp : List Addr), PG (X.blk s H scope (compEnvC scope cl C X.env) fp) tg g)
    (ht : ∀ (s : Shared) (H : Hp) (C : Addr) (cl : List (PySem.Str × Addr)) (fp : List Addr), PTs (X.blk s H scope (compEnvC scope cl C X.env) fp) ifs tt)
    (he : ∀ (s : Shared) (H : Hp) (C : Addr) (cl : List (PySem.Str × Addr)) (fp : List Addr), PE (X.blk s H scope (compEnvC scope cl C X.env) fp) elt te)
    (fold : ∀ x, foldedSetIterable iter X.env x = pure x := by intro _; rfl) :
    PE X (.SetComp elt [⟨tg, iter, ifs, 0⟩] scope pos) (tScK X.prog X.w wi g tt te (own.map (·.2))) := by
  constructor
  intro pins s σ H Q I need
  rw [eval_SetComp]
  apply scK_core calm nd I hi ok hg ht he fold need
  rintro D C s' m H' I' q hn ⟨z0, z1, z2, z3, z4, z5⟩
  exact ⟨m, hn, fun h'' but => ⟨.ref D, H', I'.turned (t' := s'.toks) (fun b o hb e => (but.2 b hb).trans e) z0 z1 z3 z4 z5, rfl, q⟩⟩
theorem sw_trueS {elt : Expr} {gs : List Comprehension} {scope : Scope} {pos py : Pos} {y : PySem.Str} {l : Nat} {env : Env} (h1 : env.scope.kind = .function) (h2 : env.scope.names.lookup y = some .local) (h3 : (py.line == pos.line) = true)
    (h4 : (scope.names.any fun (n, k) => n == y && (k == .local || k == .cell)) = false) : swapsWith (.SetComp elt gs scope pos) (some (.Name y py)) l env = pure true := by
  have k1 : env.kindOf y = some .local := h2
  have k2 : env.blockKind = .function := by
    unfold Env.blockKind
    rw [h1] <;> rfl
  unfold swapsWith
  simp only [k2, k1, h4, Expr.pos, h3]
  rfl
/-- name = {..} on one line, the name a local -/
theorem ps_setScK {i : Nat} {y : PySem.Str} {py : Pos} {elt tg iter : Expr} {ifs : List Expr} {scope : Scope} {own : List (PySem.Str × Nat)} {pos spos : Pos} {wi : TI} {g : TG} {tt : TT} {te : TE} (calm : X.calm = true) (nd : X.N.Nodup) (hy : X.N[i]? = some y) (loc : X.env.scope.names.lookup y = some .local)
    (swap : swapsWith (.SetComp elt [⟨tg, iter, ifs, 0⟩] scope pos) (some (.Name y py)) spos.line X.env = pure true) (hi : PI X tg iter wi) (ok : BlkOk X.N X.env.scope scope own)
    (hg : ∀ (s : Shared) (H : Hp) (C : Addr) (cl : List (PySem.Str × Addr)) (fp : List Addr), PG (X.blk s H scope (compEnvC scope cl C X.env) fp) tg g)
    (ht : ∀ (s : Shared) (H : Hp) (C : Addr) (cl : List (PySem.Str × Addr)) (fp : List Addr), PTs (X.blk s H scope (compEnvC scope cl C X.env) fp) ifs tt)
    (he : ∀ (s : Shared) (H : Hp) (C : Addr) (cl : List (PySem.Str × Addr)) (fp : List Addr), PE (X.blk s H scope (compEnvC scope cl C X.env) fp) elt te)
    (fold : ∀ x, foldedSetIterable iter X.env x = pure x := by intro _; rfl) :
    PS X (.Assign [.Name y py] (.SetComp elt [⟨tg, iter, ifs, 0⟩] scope pos) spos) (tAsg (tScK X.prog X.w wi g tt te (own.map (·.2))) (gName i)) := by
  constructor
  intro pins s σ H D I need
  rw [exec_Assign_Name_used _ _ _ _ swap]
  apply wpAny_bind
  apply wpAny_standAt
  apply wpAny_bind
  show wpAny _ X.A (do let _ ← comprehension (.SetComp elt [⟨tg, iter, ifs, 0⟩] scope pos) scope X.env (firstIterPos [⟨tg, iter, ifs, 0⟩] pos) (newSet (.type "set")) false (eval iter X.env) (some (assign (.Name y py) X.env))) _ _ s
  have need : tScK X.prog X.w wi g tt te (own.map (·.2)) σ H (fun x H1 => gName i x σ H1 D.nx) := need
  apply wpAny_bind
  refine thn (scK_core (Qf := fun _ s' => SP X pins D .next s') calm nd I hi ok hg ht he fold need ?_) fun _ s' hq => wpAny_pure (wpAny_pure hq)
  rintro L C s' m H' I' q hn ⟨z0, z1, z2, z3, z4, z5⟩
  show wpAny _ _ (assign (.Name y py) X.env (.ref L)) _ _ _
  apply wpAny_assign_Name
  refine store_ok2 (v := V.ref L) I' nd hy (.inl loc) rfl ?_ (.inr loc)
  rintro s2 I2 ⟨a, but, ha⟩
  have ne : C ≠ a := by
    rcases ha with z | z
    · rw [z]
      exact z1
    · exact fun e => z4 y a z e.symm
  exact ⟨m, hn.sameBut but ne, fun h3 but3 => ⟨_, H', I2.turned (t' := s2.toks) (fun b o hb e => (but3.2 b hb).trans e) z0 z1 z3 z4 z5, q⟩⟩
end
end LH
namespace LH
open PySem L2
section
variable {P : Program} {w : World} {K : PySem.W.Frag} {σ : L2.St} {H : Hp} {Q : VK} {te tl : TE}
/-- over a list: the i-th item gives the int ns[i] -/
def ScV (P : Program) (w : World) (K : PySem.W.Frag) (g : TG) (te : TE) (vs : List Nat) (σ : L2.St) (x : V) (H1 : Hp) (Q : VK) : Prop :=
  ∃ a, x = .ref a ∧ (∃ xs, SqL K H1 a xs) ∧ ∀ D, H1 D = none → ∃ W : Nat → Nat → Hp → Prop, (∃ m, W 0 m (upd H1 D (SetK P w D (fun _ => false) 0))) ∧ ∀ i m H, W i m H → ScT P w (Itl K a) g tYes te vs σ D i m W Q H
theorem x_scK {g : TG} {vs : List Nat} (h : tl σ H fun x H1 => ScV P w K g te vs σ x H1 Q) : tScK P w (iList K tl) g tYes te vs σ H Q := h
theorem sc_L {a : Addr} {xs : List V} {ns : List Int} {j : Nat} {vs : List Nat} (hx : SqL K H a xs) (hz : xs.length ≤ 4000) (hn : ns.length = xs.length)
    (hw : ∀ x, wipe ((wipe σ vs).set j (some x)) vs = wipe σ vs)
    (he : ∀ (i : Nat) x z, xs[i]? = some x → ns[i]? = some z → ∀ H1, L2.Same H H1 → ∀ Q : VK, (∀ H2, L2.Same H1 H2 → Q (.int z) H2) → te ((wipe σ vs).set j (some x)) H1 Q)
    (k : ∀ D H2 S n, H D = none → L2.Same H H2 → H2 D = some (SetK P w D S n) → n ≤ ns.length → (n = ns.length ↔ ns.Nodup) → Q (.ref D) H2) : ScV P w K (gName j) te vs σ (.ref a) H Q := by
  refine ⟨a, rfl, ⟨xs, hx⟩, fun D hD => ?_⟩
  let Pv : Nat → Hp → Prop := fun i H' => L2.Same H H' ∧ ∃ S n, H' D = some (SetK P w D S n) ∧ n ≤ i ∧ (n = i ↔ (ns.take i).Nodup) ∧ ∀ z : Int, S (Sum.inl z) = true ↔ z ∈ ns.take i
  refine ⟨fun i m H' => m = xs.length - i ∧ i ≤ xs.length ∧ Pv i H', ⟨xs.length, by simp, Nat.zero_le _, LH.Same.new hD, _, 0, upd_same, Nat.le_refl _, by simp, fun z => by simp⟩, ?_⟩
  rintro i m H' ⟨rfl, hi, e0, S, n, gD, ln, nd, mem⟩
  have q := L2.Same.seq e0 hx
  by_cases lt : i < xs.length
  · refine .inr ⟨⟨xs, xs[i], q, by simp [lt]⟩, Pv (i + 1), fun H2 p2 => ⟨xs.length - (i + 1), by omega, rfl, lt, p2⟩, ?_⟩
    rintro x H2 ⟨rfl, y⟩
    have hxi := y xs q
    have hz2 : ns[i]? = some (ns[i]'(by omega)) := List.getElem?_eq_getElem (by omega)
    generalize ns[i]'(by omega) = z at hz2
    refine ⟨hw x, ?_⟩
    suffices goal : te ((wipe σ vs).set j (some x)) H2 fun y H4 => ∃ (c : Key) (S : Key → Bool) (n : Nat), y = kV c ∧ H4 D = some (SetK P w D S n) ∧ n + 1 < scanBound ∧ Pv (i + 1) (upd H4 D (SetK P w D (fun j => S j || decide (j = c)) (if S c = true then n else n + 1))) by
      exact x_yes (by rw [if_pos rfl]; exact goal)
    refine he i x z hxi hz2 _ e0 _ fun H3 e3 => ⟨Sum.inl z, S, n, rfl, e3 _ _ gD, ?_, Same.mut (e0.trans e3) hD, _, _, upd_same, ?_, ?_, ?_⟩
    · unfold scanBound
      omega
    · split <;> omega
    · rw [take_more hz2, List.nodup_append]
      by_cases c : S (Sum.inl z) = true
      · rw [if_pos c]
        have hm := (mem z).mp c
        constructor
        · intro h
          omega
        · rintro ⟨_, _, h3⟩
          exact absurd rfl (h3 z hm z (List.mem_singleton.mpr rfl))
      · rw [if_neg c]
        constructor
        · intro h
          refine ⟨nd.mp (by omega), by simp, fun b hb b' hb' e => c ((mem z).mpr ?_)⟩
          rw [List.mem_singleton.mp hb'] at e
          rw [← e]
          exact hb
        · rintro ⟨h1, _, _⟩
          have := nd.mpr h1
          omega
    · intro u
      show (S (Sum.inl u) || decide ((Sum.inl u : Key) = Sum.inl z)) = true ↔ _
      rw [take_more hz2, List.mem_append, List.mem_singleton, Bool.or_eq_true, mem u, decide_eq_true_eq]
      constructor
      · rintro (h | h)
        · exact .inl h
        · injection h with h
          exact .inr h
      · rintro (h | h)
        · exact .inl h
        · exact .inr (by rw [h])
  · have e : i = xs.length := by omega
    subst e
    refine .inl ⟨⟨xs, q, Nat.le_refl _⟩, k D H' S n hD e0 gD (by omega) ?_⟩
    rw [← hn] at nd
    rw [List.take_length] at nd
    exact nd
end
end LH
namespace LH
open PySem PySem.Spec PyProof.Rows L2
/-- len of such a set -/
def rLenK (P : Program) (w : World) : List V → Hp → VK → Prop := fun xs H Q => ∃ (a : Addr) (S : Key → Bool) (n : Nat), xs = [.ref a] ∧ H a = some (SetK P w a S n) ∧ Q (.int n) H
theorem call_lenK {X : Cx} : CallR X (.builtin "len") (rLenK X.prog X.w) := by
  intro pins s σ H xs us Q I r h
  obtain ⟨a, S, n, rfl, ha, q⟩ := h
  obtain ⟨u, rfl, ru⟩ := r.one
  have eu : u = Value.ref a := ru
  rw [eu]
  obtain ⟨o, es, ep, t, at_, exact_, data, _, _, small, fits, count⟩ := setK_get I ha
  refine call_len_set at_ exact_ data fits (by unfold scanBound at small; omega) ⟨.int n, H, I.tok _, ⟨_, by rw [count]⟩, q⟩
theorem x_lenK {P : Program} {w : World} {a : Addr} {S : Key → Bool} {n : Nat} {H : Hp} {Q : VK} (h : H a = some (SetK P w a S n)) (q : Q (.int n) H) : rLenK P w [.ref a] H Q := ⟨a, S, n, rfl, h, q⟩
end LH
/-! numbers, rows, words, as plain mathematics; data -/
namespace LM
open PySem L2
variable {K : PySem.W.Frag}
def isW : V → Int → Int → Bool
  | .int i, lo, hi => decide (lo ≤ i) && decide (i ≤ hi)
  | _, _, _ => false
theorem isW_int {x : V} {lo hi : Int} (h : isW x lo hi = true) : ∃ i, x = .int i ∧ lo ≤ i ∧ i ≤ hi := by
  cases x <;> simp [isW] at h
  exact ⟨_, rfl, h.1, h.2⟩
theorem isW_yes {i lo hi : Int} (h1 : lo ≤ i) (h2 : i ≤ hi) : isW (.int i) lo hi = true := by simp [isW, h1, h2]
def letters : Str := "abcdefghijklmnopqrstuvwxyz"
def isLet (c : Nat) : Bool := decide (c ∈ letters.cps.toList)
def isRowS (z : Str) : Bool := decide (1 ≤ z.length) && (decide (z.length ≤ 8) && z.cps.toList.all isLet)
def isRow : V → Bool
  | .str z => isRowS z
  | _ => false
/-- no text beyond a hundred thousand signs -/
def Ok (z : Str) : Prop := z.length ≤ 100000 ∧ z.cps.all (· < 0x110000) = true
def Sm (x : V) : Prop := ∀ z, x = .str z → Ok z
def signV : V → Bool
  | .str z => match z.cps.toList with
    | [c] => isLet c
    | _ => false
  | _ => false
theorem signs_let (z : Str) : ((LH.signs z).filter fun _ => true).map (fun x => V.bl (signV x)) = (z.cps.toList.map isLet).map V.bl := by
  rw [List.filter_eq_self.mpr (fun _ _ => rfl)]
  unfold LH.signs
  rw [List.map_map, List.map_map]
  rfl
theorem all_id (l : List Nat) : (l.map isLet).all id = l.all isLet := by
  rw [List.all_map]
  rfl
/-! ### texts of letters -/
theorem cut_lo (z : Str) (k : Nat) : cutS z none (some (k : Int)) = ⟨(z.cps.toList.take k).toArray⟩ := by
  unfold cutS
  rw [HT.sIx_none, HT.sIx_nat, List.drop_zero, Nat.sub_zero]
  congr 2
  have : z.length = z.cps.toList.length := by rw [Array.length_toList]; rfl
  rw [this]
  exact (List.take_eq_take_min).symm
theorem cut_hi (z : Str) (k : Nat) : cutS z (some (k : Int)) none = ⟨(z.cps.toList.drop k).toArray⟩ := by
  unfold cutS
  rw [HT.sIx_none, HT.sIx_nat]
  congr 1
  have e : z.length = z.cps.toList.length := by rw [Array.length_toList]; rfl
  rw [e]
  by_cases h : k ≤ z.cps.toList.length
  · rw [Nat.min_eq_left h, List.take_of_length_le]
    rw [List.length_drop]
    exact Nat.le_refl _
  · rw [Nat.min_eq_right (by omega), List.drop_of_length_le (by omega), List.drop_of_length_le (by omega), List.take_nil]
theorem join_signs : ∀ cs : List Nat, Txt.join (Str.ofString "") (cs.map fun c => (⟨#[c]⟩ : Str)) = ⟨cs.toArray⟩ := fun cs => by
  have e0 : Str.ofString "" = SX.S [] := rfl
  have e1 : (cs.map fun c => (⟨#[c]⟩ : Str)) = (cs.map fun c => [c]).map SX.S := by rw [List.map_map]; rfl
  rw [e0, e1, SX.join_S]
  have e2 : ∀ cs : List Nat, TL.joinL [] (cs.map fun c => [c]) = cs := by
    intro cs
    induction cs with
    | nil => rfl
    | cons c cs ih =>
      cases cs with
      | nil => rfl
      | cons d cs =>
        show [c] ++ ([] ++ TL.joinL [] ((d :: cs).map fun c => [c])) = c :: d :: cs
        rw [ih]
        rfl
  rw [e2]
theorem lens1 (f : Nat → Nat) (l : List Nat) : (((l.map f).map fun c => (⟨#[c]⟩ : Str)).map (·.length)).sum = l.length := by
  induction l with
  | nil => rfl
  | cons c l ih =>
    simp only [List.map_cons, List.sum_cons, List.length_cons] at ih ⊢
    rw [ih]
    show 1 + l.length = l.length + 1
    omega
theorem let_at (u : Int) : ∃ c, atI letters.cps.toList (u % 26) = some c ∧ isLet c = true ∧ c = letters.cps.toList.getD (u % 26).toNat 0 := by
  have h1 := Int.emod_nonneg u (show (26 : Int) ≠ 0 by decide)
  have h2 := Int.emod_lt_of_pos u (show (0 : Int) < 26 by decide)
  obtain ⟨j, e⟩ : ∃ j : Nat, u % 26 = (j : Int) := ⟨(u % 26).toNat, by omega⟩
  have hj : j < letters.cps.toList.length := by
    have : letters.cps.toList.length = 26 := by decide +kernel
    omega
  refine ⟨letters.cps.toList[j], by rw [e]; exact atI_nat (List.getElem?_eq_getElem hj), decide_eq_true (List.getElem_mem _), ?_⟩
  rw [e]
  show _ = letters.cps.toList.getD j 0
  rw [List.getD_eq_getElem?_getD, List.getElem?_eq_getElem hj]
  rfl
theorem row_of {l : List Nat} (h1 : 1 ≤ l.length) (h2 : l.length ≤ 8) (h3 : ∀ c ∈ l, isLet c = true) : isRowS ⟨l.toArray⟩ = true := by
  have e : (⟨l.toArray⟩ : Str).length = l.length := List.size_toArray
  unfold isRowS
  rw [e, decide_eq_true h1, decide_eq_true h2]
  simp only [Bool.true_and]
  exact List.all_eq_true.mpr (by simpa using h3)
theorem row_ok {z : Str} (h : isRowS z = true) : Ok z := by
  unfold isRowS at h
  rw [Bool.and_eq_true, Bool.and_eq_true, decide_eq_true_eq, decide_eq_true_eq] at h
  refine ⟨by omega, ?_⟩
  rw [← Array.all_toList]
  refine List.all_eq_true.mpr fun c hc => ?_
  have := List.all_eq_true.mp h.2.2 c hc
  have hm : c ∈ letters.cps.toList := of_decide_eq_true this
  have : ∀ c ∈ letters.cps.toList, decide (c < 0x110000) = true := by decide +kernel
  exact this c hm
def letF (t : Int) (j : Nat) : Nat := letters.cps.toList.getD ((t + 5 * (j : Int) * (1 + t % 3)) % 26).toNat 0
def letV (t : Int) : V → V
  | .int j => .str ⟨#[letters.cps.toList.getD ((t + 5 * j * (1 + t % 3)) % 26).toNat 0]⟩
  | x => x
theorem lets (t : Int) (n : Nat) : ((LH.intsV 0 n).filter fun _ => true).map (letV t) = (((List.range n).map (letF t)).map fun c => (⟨#[c]⟩ : Str)).map V.str := by
  rw [List.filter_eq_self.mpr (fun _ _ => rfl)]
  unfold LH.intsV
  rw [List.map_map, List.map_map, List.map_map]
  refine List.map_congr_left fun i _ => ?_
  show V.str ⟨#[letters.cps.toList.getD ((t + 5 * (0 + (i : Int)) * (1 + t % 3)) % 26).toNat 0]⟩ = V.str ⟨#[letF t i]⟩
  rw [Int.zero_add]
  rfl
theorem let_letF (t : Int) (j : Nat) : isLet (letF t j) = true := by
  obtain ⟨c, _, h, e⟩ := let_at (t + 5 * (j : Int) * (1 + t % 3))
  unfold letF
  rw [← e]
  exact h
theorem four_at (i : Int) : ∃ z, atI [V.str "say", .str "mark", .str "by", .str "house"] (i % 4) = some (V.str z) ∧ isRowS z = true := by
  have h : i % 4 = 0 ∨ i % 4 = 1 ∨ i % 4 = 2 ∨ i % 4 = 3 := by omega
  rcases h with h | h | h | h <;> rw [h]
  · exact ⟨_, rfl, by decide +kernel⟩
  · exact ⟨_, rfl, by decide +kernel⟩
  · exact ⟨_, rfl, by decide +kernel⟩
  · exact ⟨_, rfl, by decide +kernel⟩
theorem kqxz_at (i : Int) : ∃ c, atI (Str.ofString "kqxz").cps.toList (i % 4) = some c ∧ isLet c = true := by
  have h : i % 4 = 0 ∨ i % 4 = 1 ∨ i % 4 = 2 ∨ i % 4 = 3 := by omega
  rcases h with h | h | h | h <;> rw [h]
  · exact ⟨107, by decide +kernel, by decide +kernel⟩
  · exact ⟨113, by decide +kernel, by decide +kernel⟩
  · exact ⟨120, by decide +kernel, by decide +kernel⟩
  · exact ⟨122, by decide +kernel, by decide +kernel⟩
theorem mod_at (x : Int) (n : Nat) : ∃ m : Nat, m ≤ n ∧ x.fmod ((n : Int) + 1) = (m : Int) := by
  rw [Int.fmod_eq_emod_of_nonneg _ (by omega)]
  have h1 := Int.emod_nonneg x (show (n : Int) + 1 ≠ 0 by omega)
  have h2 := Int.emod_lt_of_pos x (show (0 : Int) < (n : Int) + 1 by omega)
  exact ⟨(x % ((n : Int) + 1)).toNat, by omega, by omega⟩
abbrev wd (k : Str) (n : Int) (r : Str) (h : Int) : List V := [.str k, .int n, .str r, .int h]
theorem dstr {x y : Str} : decide (V.str x = V.str y) = decide (x = y) := by simp
theorem dint {x y : Int} : decide (V.int x = V.int y) = decide (x = y) := by simp
theorem str_data {H : Hp} : ∀ l : List Str, DpAll K H (l.map V.str) (l.map PyData.str)
  | [] => .nil
  | x :: l => .cons (.str x) (str_data l)
theorem lay_strs : ∀ {l : List Str}, (∀ x ∈ l, Ok x) → PyData.canLayAll0 (l.map PyData.str) = true
  | [], _ => rfl
  | x :: l, h => by
    show (PyData.canLay0 (.str x) && PyData.canLayAll0 (l.map PyData.str)) = true
    rw [lay_strs fun y hy => h y (List.mem_cons_of_mem _ hy)]
    have e : PyData.canLay0 (.str x) = true := by
      show (PyData.strOk x) = true
      exact (h x List.mem_cons_self).2
    rw [e]
    rfl
theorem shaped_strs {l : List Str} (h : ∀ x ∈ l, Ok x) : SeqAt.shaped (.list (l.map PyData.str)) = true := by
  have d : ∀ l : List Str, PyData.depthAll (l.map PyData.str) ≤ 2 := by
    intro l
    induction l with
    | nil => simp [PyData.depthAll]
    | cons x l ih => simp [PyData.depthAll, PyData.depth]; omega
  unfold SeqAt.shaped
  rw [Bool.and_eq_true]
  refine ⟨lay_strs h, decide_eq_true ?_⟩
  have := d l
  simp [PyData.depth]
  omega
/-- the signs that are no letters -/
def noLet (z : Str) : List Str := (z.cps.toList.filter fun c => !isLet c).map fun c => ⟨#[c]⟩
theorem signs_no (z : Str) : ((LH.signs z).filter fun x => !signV x).map id = (noLet z).map V.str := by
  unfold LH.signs noLet
  rw [List.map_id, List.filter_map, List.map_map]
  rfl
theorem no_ok {z : Str} (h : Ok z) : ∀ x ∈ noLet z, Ok x := fun x hx => by
  obtain ⟨c, hc, rfl⟩ := List.mem_map.mp hx
  have hm := (List.mem_filter.mp hc).1
  have h2 := h.2
  rw [← Array.all_toList] at h2
  have := List.all_eq_true.mp h2 c hm
  exact ⟨by show 1 ≤ 100000; decide, by simpa using this⟩
theorem no_eqv (z : Str) : PyData.eqv (.list ((noLet z).map PyData.str)) (.list []) = z.cps.toList.all isLet := by
  have e : ∀ l : List Nat, PyData.eqvAll (((l.filter fun c => !isLet c).map fun c => (⟨#[c]⟩ : Str)).map PyData.str) [] = l.all isLet := by
    intro l
    induction l with
    | nil => simp [PyData.eqvAll]
    | cons c l ih =>
      rw [List.all_cons, List.filter_cons]
      cases isLet c with
      | true => simpa using ih
      | false => simp [PyData.eqvAll]
  show PyData.eqvAll _ [] = _
  exact e _
/-- a thing that may stand in a word -/
def Gd (K : PySem.W.Frag) (H : Hp) (y : V) : Prop := Sm y ∧ ∃ T, TyB K H y T
theorem Gd.up {H H' : Hp} {y : V} (e : Same H H') (g : Gd K H y) : Gd K H' y := let ⟨s, T, h⟩ := g; ⟨s, T, LH.Same.ty e h⟩
theorem gd_int {H : Hp} (i : Int) : Gd K H (.int i) := ⟨fun z e => (by cases e), _, .int i⟩
theorem gd_str {H : Hp} {z : Str} (h : Ok z) : Gd K H (.str z) := ⟨fun z' e => (by cases e; exact h), _, .str z⟩
theorem gd_bl {H : Hp} (b : Bool) : Gd K H (.bl b) := ⟨fun z e => (by cases e), _, .bl b⟩
theorem gd_non {H : Hp} : Gd K H .non := ⟨fun z e => (by cases e), _, .non⟩
theorem gd_lst {H : Hp} {p : Addr} {xs : List V} (h : SqL K H p xs) : Gd K H (.ref p) := ⟨fun z e => (by cases e), _, .lst h⟩
theorem gd_tup {H : Hp} {p : Addr} {xs : List V} (h : SqT K H p xs) : Gd K H (.ref p) := ⟨fun z e => (by cases e), _, .tup h⟩
theorem gd_dK {H : Hp} {p : Addr} {kvs : List (Key × V)} (h : H p = some (.dK kvs)) : Gd K H (.ref p) := ⟨fun z e => (by cases e), _, .dK h⟩
theorem fmod_pos {n c : Int} (h : 1 ≤ c) : n.fmod c = n % c := Int.fmod_eq_emod_of_nonneg _ (by omega)
/-! ### the row that is told by two numbers -/
def kq (k : Int) : Nat := [107, 113, 120, 122].getD (k % 4).toNat 0
def word4 (k : Int) : Str := [("say" : Str), "mark", "by", "house"].getD (k % 4).toNat "say"
def tOf (b k : Int) : Int := b + 31 * k * (b % 2)
def nOf (b k : Int) : Nat := (tOf b k / 26 % 8).toNat
def atOf (b k : Int) : Nat := if b % 2 = 0 then ((b / 4).fmod ((nOf b k : Int) + 1)).toNat else nOf b k
def tailOf (b k : Int) : List Nat := (List.range (nOf b k)).map (letF (tOf b k))
def rowL (b k : Int) : List Nat := (tailOf b k).take (atOf b k) ++ [kq k] ++ (tailOf b k).drop (atOf b k)
def rowF (b k : Int) : Str := if b % 9 = 4 then word4 k else ⟨(rowL b k).toArray⟩
theorem word4_at (k : Int) : atI [V.str "say", .str "mark", .str "by", .str "house"] (k % 4) = some (V.str (word4 k)) ∧ isRowS (word4 k) = true := by
  have h : k % 4 = 0 ∨ k % 4 = 1 ∨ k % 4 = 2 ∨ k % 4 = 3 := by omega
  unfold word4
  rcases h with h | h | h | h <;> rw [h]
  all_goals exact ⟨rfl, by decide +kernel⟩
theorem kq_at (k : Int) : atI (Str.ofString "kqxz").cps.toList (k % 4) = some (kq k) ∧ isLet (kq k) = true := by
  have h : k % 4 = 0 ∨ k % 4 = 1 ∨ k % 4 = 2 ∨ k % 4 = 3 := by omega
  unfold kq
  rcases h with h | h | h | h <;> rw [h]
  all_goals exact ⟨by decide +kernel, by decide +kernel⟩
theorem nOf_lt (b k : Int) : nOf b k < 8 := by
  unfold nOf
  omega
theorem nOf_eq (b k : Int) : tOf b k / 26 % 8 = (nOf b k : Int) := by
  unfold nOf
  omega
theorem atOf_le (b k : Int) : atOf b k ≤ nOf b k := by
  unfold atOf
  split
  · obtain ⟨m, h, e⟩ := mod_at (b / 4) (nOf b k)
    rw [e]
    exact h
  · exact Nat.le_refl _
theorem tail_len (b k : Int) : (tailOf b k).length = nOf b k := by
  unfold tailOf
  rw [List.length_map, List.length_range]
theorem atOf_even {b k : Int} (h : b % 2 = 0) : (b / 4).fmod ((nOf b k : Int) + 1) = (atOf b k : Int) := by
  unfold atOf
  rw [if_pos h]
  obtain ⟨m, _, e⟩ := mod_at (b / 4) (nOf b k)
  rw [e]
  rfl
theorem atOf_odd {b k : Int} (h : ¬ b % 2 = 0) : atOf b k = nOf b k := by
  unfold atOf
  rw [if_neg h]
theorem rowF_cut {b k : Int} (h : ¬ b % 9 = 4) : cutS ⟨(tailOf b k).toArray⟩ none (some (atOf b k : Int)) ++ ⟨#[kq k]⟩ ++ cutS ⟨(tailOf b k).toArray⟩ (some (atOf b k : Int)) none = rowF b k := by
  rw [cut_lo, cut_hi]
  unfold rowF
  rw [if_neg h]
  show (⟨_ ++ _ ++ _⟩ : Str) = _
  simp [rowL]
theorem rowF_row (b k : Int) : isRowS (rowF b k) = true := by
  unfold rowF
  split
  · exact (word4_at k).2
  · have h1 := nOf_lt b k
    have h2 := atOf_le b k
    have h3 := tail_len b k
    refine row_of (by unfold rowL; simp; omega) (by unfold rowL; simp; omega) fun d hd => ?_
    unfold rowL at hd
    have lt : ∀ d ∈ tailOf b k, isLet d = true := fun d hd => by
      obtain ⟨j, _, rfl⟩ := List.mem_map.mp hd
      exact let_letF _ j
    rcases List.mem_append.mp hd with hd | hd
    · rcases List.mem_append.mp hd with hd | hd
      · exact lt d (List.mem_of_mem_take hd)
      · rw [List.mem_singleton.mp hd]
        exact (kq_at k).2
    · exact lt d (List.mem_of_mem_drop hd)
theorem rowF_ok (b k : Int) : Ok (rowF b k) := row_ok (rowF_row b k)
theorem toArr_ne {l m : List Nat} (h : l ≠ m) : (⟨l.toArray⟩ : Str) ≠ ⟨m.toArray⟩ := fun e => by
  have e2 : l.toArray = m.toArray := congrArg Str.cps e
  exact h (by simpa using congrArg Array.toList e2)
theorem kq_ne {j k : Int} (h : j % 4 ≠ k % 4) : kq j ≠ kq k := by
  have hj : j % 4 = 0 ∨ j % 4 = 1 ∨ j % 4 = 2 ∨ j % 4 = 3 := by omega
  have hk : k % 4 = 0 ∨ k % 4 = 1 ∨ k % 4 = 2 ∨ k % 4 = 3 := by omega
  unfold kq
  rcases hj with hj | hj | hj | hj <;> rcases hk with hk | hk | hk | hk <;> rw [hj, hk] at h ⊢
  all_goals first | (exact absurd rfl h) | decide
theorem word4_ne {j k : Int} (h : j % 4 ≠ k % 4) : word4 j ≠ word4 k := by
  have hj : j % 4 = 0 ∨ j % 4 = 1 ∨ j % 4 = 2 ∨ j % 4 = 3 := by omega
  have hk : k % 4 = 0 ∨ k % 4 = 1 ∨ k % 4 = 2 ∨ k % 4 = 3 := by omega
  unfold word4
  rcases hj with hj | hj | hj | hj <;> rcases hk with hk | hk | hk | hk <;> rw [hj, hk] at h ⊢
  all_goals first | (exact absurd rfl h) | decide +kernel
/-- rows of unlike letters differ -/
theorem rowF_ne {b j k : Int} (h : j % 4 ≠ k % 4) : rowF b j ≠ rowF b k := by
  unfold rowF
  by_cases c : b % 9 = 4
  · rw [if_pos c, if_pos c]
    exact word4_ne h
  · rw [if_neg c, if_neg c]
    refine toArr_ne fun e => kq_ne h ?_
    by_cases c2 : b % 2 = 0
    · have t : tOf b j = tOf b k := by unfold tOf; rw [c2]; omega
      have n : nOf b j = nOf b k := by unfold nOf; rw [t]
      have tl : tailOf b j = tailOf b k := by unfold tailOf; rw [t, n]
      have at_ : atOf b j = atOf b k := by unfold atOf; rw [n]
      unfold rowL at e
      rw [tl, at_, List.append_assoc, List.append_assoc] at e
      have e := List.append_cancel_left e
      simp only [List.singleton_append, List.cons.injEq] at e
      exact e.1
    · have l : ∀ m : Int, (rowL b m).getLast? = some (kq m) := fun m => by
        unfold rowL
        have a : atOf b m = nOf b m := by unfold atOf; rw [if_neg c2]
        rw [a, List.drop_of_length_le (by rw [tail_len]; exact Nat.le_refl _), List.append_nil]
        simp
      have := congrArg List.getLast? e
      rw [l, l] at this
      injection this
/-! ### data -/
mutual
theorem dp_up {H H' : Hp} (e : Same H H') : ∀ {d : PyData} {x : V}, Dp K H x d → Dp K H' x d
  | _, _, .non => .non
  | _, _, .bl b => .bl b
  | _, _, .int i => .int i
  | _, _, .str x => .str x
  | _, _, .lst h r => .lst (Same.seq e h) (dpA_up e r)
  | _, _, .tup h r => .tup (LH.Same.seqT e h) (dpA_up e r)
theorem dpA_up {H H' : Hp} (e : Same H H') : ∀ {ds : List PyData} {xs : List V}, DpAll K H xs ds → DpAll K H' xs ds
  | _, _, .nil => .nil
  | _, _, .cons h r => .cons (dp_up e h) (dpA_up e r)
end
/-- data that may be compared: d levels deep at the most -/
structure Lay (n : Nat) (d : PyData) : Prop where
  lay : PyData.canLay0 d = true
  dep : PyData.depth d ≤ n
theorem Lay.mono {n m : Nat} {d : PyData} (h : n ≤ m) (l : Lay n d) : Lay m d := ⟨l.lay, Nat.le_trans l.dep h⟩
theorem lay_int {n : Nat} (i : Int) (h : 1 ≤ n := by omega) : Lay n (.int i) := ⟨rfl, by simp [PyData.depth]; try omega⟩
theorem lay_non {n : Nat} (h : 1 ≤ n := by omega) : Lay n .none := ⟨rfl, by simp [PyData.depth]; try omega⟩
theorem lay_str {n : Nat} {z : Str} (o : Ok z) (h : 1 ≤ n := by omega) : Lay n (.str z) := ⟨o.2, by simp [PyData.depth]; try omega⟩
theorem lay_all {n : Nat} : ∀ {ds : List PyData}, (∀ d ∈ ds, Lay n d) → PyData.canLayAll0 ds = true ∧ PyData.depthAll ds ≤ n
  | [], _ => ⟨rfl, by simp [PyData.depthAll]⟩
  | d :: ds, h => by
    have ⟨h1, h2⟩ := h d List.mem_cons_self
    obtain ⟨g1, g2⟩ := lay_all fun e m => h e (List.mem_cons_of_mem _ m)
    exact ⟨by show (PyData.canLay0 d && PyData.canLayAll0 ds) = true; rw [h1, g1]; rfl, by simp only [PyData.depthAll]; omega⟩
theorem lay_list {n : Nat} {ds : List PyData} (h : ∀ d ∈ ds, Lay n d) : Lay (n + 1) (.list ds) := by
  obtain ⟨h1, h2⟩ := lay_all h
  exact ⟨h1, by simp only [PyData.depth]; omega⟩
theorem lay_tup {n : Nat} {ds : List PyData} (h : ∀ d ∈ ds, Lay n d) : Lay (n + 1) (.tuple ds) := by
  obtain ⟨h1, h2⟩ := lay_all h
  exact ⟨h1, by simp only [PyData.depth]; omega⟩
theorem Lay.shaped {n : Nat} {d : PyData} (l : Lay n d) (h : n ≤ 30 := by omega) : SeqAt.shaped d = true := by
  unfold SeqAt.shaped
  rw [Bool.and_eq_true]
  refine ⟨l.lay, decide_eq_true ?_⟩
  have := l.dep
  omega
theorem Lay.refl {n : Nat} {d : PyData} (l : Lay n d) : PyData.eqv d d = true := SeqAt.eqv_refl _ l.lay
end LM
namespace LM
open PySem L2
/-! ### words -/
structure Wrd where
  k : Str
  n : Int
  r : Str
  h : Int
deriving DecidableEq
def Wrd.vs (w : Wrd) : List V := wd w.k w.n w.r w.h
/-- what it has in common with an unlike one -/
def Wrd.pl (w : Wrd) : List Key := [.inr w.k, .inl w.n, .inl w.h]
def Wrd.dat (w : Wrd) : PyData := .tuple [.str w.k, .int w.n, .str w.r, .int w.h]
def unl (w u : Wrd) : Bool := decide (u.pl = w.pl) && decide (u.r ≠ w.r)
theorem pl_eq {w u : Wrd} : u.pl = w.pl ↔ u.k = w.k ∧ u.n = w.n ∧ u.h = w.h := by
  unfold Wrd.pl
  constructor
  · intro e
    injection e with e1 e
    injection e with e2 e
    injection e with e3 e
    exact ⟨Sum.inr.inj e1, Sum.inl.inj e2, Sum.inl.inj e3⟩
  · rintro ⟨h1, h2, h3⟩
    rw [h1, h2, h3]
theorem pl_vs (w : Wrd) : w.pl.map kV = [.str w.k, .int w.n, .int w.h] := rfl
/-- a word's texts are texts -/
def Wrd.Ok (w : Wrd) : Prop := LM.Ok w.k ∧ LM.Ok w.r
theorem Wrd.lay {w : Wrd} (o : w.Ok) : Lay 2 w.dat := lay_tup fun d hd => by
  simp only [List.mem_cons, List.not_mem_nil, or_false] at hd
  rcases hd with rfl | rfl | rfl | rfl
  · exact lay_str o.1
  · exact lay_int _
  · exact lay_str o.2
  · exact lay_int _
section
variable {K : PySem.W.Frag}
def WV (K : PySem.W.Frag) (H : Hp) (x : V) (w : Wrd) : Prop := ∃ p, x = .ref p ∧ SqT K H p w.vs
theorem WV.up {H H' : Hp} {x : V} {w : Wrd} (e : Same H H') (h : WV K H x w) : WV K H' x w := let ⟨p, e1, h1⟩ := h; ⟨p, e1, LH.Same.seqT e h1⟩
theorem WV.dp {H : Hp} {x : V} {w : Wrd} (h : WV K H x w) : Dp K H x w.dat := by
  obtain ⟨p, rfl, h⟩ := h
  exact .tup h (.cons (.str _) (.cons (.int _) (.cons (.str _) (.cons (.int _) .nil))))
/-- pairs of a value and its word -/
def WP (K : PySem.W.Frag) (H : Hp) (l : List (V × Wrd)) : Prop := ∀ p ∈ l, WV K H p.1 p.2
theorem WP.up {H H' : Hp} {l : List (V × Wrd)} (e : Same H H') (h : WP K H l) : WP K H' l := fun p hp => (h p hp).up e
theorem WP.dpA {H : Hp} : ∀ {l : List (V × Wrd)}, WP K H l → DpAll K H (l.map (·.1)) (l.map fun p => p.2.dat)
  | [], _ => .nil
  | p :: l, h => .cons (h p List.mem_cons_self).dp (WP.dpA fun q hq => h q (List.mem_cons_of_mem _ hq))
end
end LM
namespace LM
open PySem L2
/-! ### who is to blame -/
abbrev VW := V × Wrd
/-- of those at a place, in order -/
def atPl (l : List VW) (k : List Key) : List VW := l.filter fun p => decide (p.2.pl = k)
/-- the first of l1 by house h that has an unlike one in l2, with the first such -/
def firstP (l1 l2 : List VW) (h : Int) : Option (VW × VW) := l1.findSome? fun p => if p.2.h = h then (l2.find? fun q => unl p.2 q.2).map fun q => (p, q) else none
theorem firstP_snoc (l1 l2 : List VW) (p : VW) (h : Int) : firstP (l1 ++ [p]) l2 h = (firstP l1 l2 h).or (if p.2.h = h then (l2.find? fun q => unl p.2 q.2).map fun q => (p, q) else none) := by
  unfold firstP
  rw [List.findSome?_append]
  simp
theorem firstP_some {l1 l2 : List VW} {h : Int} {p q : VW} (e : firstP l1 l2 h = some (p, q)) : p ∈ l1 ∧ q ∈ l2 ∧ p.2.h = h ∧ unl p.2 q.2 = true := by
  unfold firstP at e
  obtain ⟨x, hx, e⟩ := List.exists_of_findSome?_eq_some e
  by_cases c : x.2.h = h
  · rw [if_pos c] at e
    obtain ⟨y, hy, e⟩ := Option.map_eq_some_iff.mp e
    injection e with e1 e2
    subst e1 e2
    exact ⟨hx, List.mem_of_find?_eq_some hy, c, by simpa using List.find?_some hy⟩
  · rw [if_neg c] at e
    cases e
/-- those houses of 0 .. c - 1, rising -/
def blamedL (l1 l2 : List VW) (c : Nat) : List (Int × VW × VW) := (List.range c).filterMap fun (h : Nat) => (firstP l1 l2 h).map fun x => ((h : Int), x)
def bdat (x : Int × VW × VW) : PyData := .tuple [.int x.1, x.2.1.2.dat, x.2.2.2.dat]
/-- rising lists without repeats of the same members are one -/
theorem rise_eq : ∀ {l m : List Int}, l.Pairwise (· ≤ ·) → m.Pairwise (· ≤ ·) → l.Nodup → m.Nodup → (∀ x, x ∈ l ↔ x ∈ m) → l = m := by
  intro l m h1 h2 h3 h4 h5
  have p : l.Perm m := (List.perm_ext_iff_of_nodup h3 h4).mpr h5
  exact List.Perm.eq_of_pairwise (fun a b _ _ hab hba => Int.le_antisymm hab hba) h1 h2 p
end LM
namespace LM
open PySem L2
theorem unl_filter (w : Wrd) : ∀ l2 : List VW, ((atPl l2 w.pl).map fun u => if decide (u.2.r = w.r) = false then some u.1 else none).filterMap id = (l2.filter fun u => unl w u.2).map (·.1)
  | [] => rfl
  | u :: l2 => by
    have ih := unl_filter w l2
    unfold atPl at ih ⊢
    by_cases c : u.2.pl = w.pl
    · rw [List.filter_cons_of_pos (by simpa using c), List.map_cons]
      by_cases d : u.2.r = w.r
      · have e : unl w u.2 = false := by unfold unl; simp [d]
        rw [List.filter_cons_of_neg (by rw [e]; exact Bool.false_ne_true), ← ih]
        simp [d]
      · have e : unl w u.2 = true := by unfold unl; simp [c, d]
        rw [List.filter_cons_of_pos (p := fun u : VW => unl w u.2) e, List.map_cons, ← ih]
        simp [d]
    · have e : unl w u.2 = false := by unfold unl; simp [c]
      rw [List.filter_cons_of_neg (by simpa using c), List.filter_cons_of_neg (by rw [e]; exact Bool.false_ne_true), ih]
theorem find_filter {α : Type} (p : α → Bool) (l : List α) : l.find? p = (l.filter p).head? := by
  rw [List.head?_filter]
theorem paired_blamed {l1 l2 : List VW} {F : Int × VW × VW → V → Prop} (g : Int → V) : ∀ R : List Nat, (∀ h ∈ R, ∀ x, firstP l1 l2 (h : Int) = some x → F ((h : Int), x) (g h)) →
    Paired F (R.filterMap fun (h : Nat) => (firstP l1 l2 h).map fun x => ((h : Int), x)) ((R.filter fun (h : Nat) => (firstP l1 l2 h).isSome).map fun (h : Nat) => g h)
  | [], _ => .nil
  | h :: R, H => by
    have ih := paired_blamed g R fun j hj => H j (List.mem_cons_of_mem _ hj)
    cases e : firstP l1 l2 (h : Int) with
    | none => simpa [e] using ih
    | some x =>
      have := H h List.mem_cons_self x e
      simpa [e] using Paired.cons this ih
theorem nodup_le : ∀ (c : Nat) (l : List Int), l.Nodup → (∀ x ∈ l, 0 ≤ x ∧ x < c) → l.length ≤ c := by
  intro c l nd h
  have s : l ⊆ (List.range c).map fun (i : Nat) => (i : Int) := fun x hx => by
    obtain ⟨h1, h2⟩ := h x hx
    exact List.mem_map.mpr ⟨x.toNat, List.mem_range.mpr (by omega), by omega⟩
  have := nd.length_le_of_subset s
  rw [List.length_map, List.length_range] at this
  exact this
end LM
namespace LM
def en (c : Int) : Int := (c + (c - 1) / 3) / 2 + 1
end LM
namespace LM
open PySem L2
/-- how a blame is told -/
def Bt (H : Hp) (x : Int × VW × VW) (y : V) : Prop := ∃ t, y = .ref t ∧ H t = some (.tup [.int x.1, x.2.1.1, x.2.2.1])
theorem Bt.up {H H' : Hp} {x : Int × VW × VW} {y : V} (e : Same H H') (h : Bt H x y) : Bt H' x y := let ⟨t, h1, h2⟩ := h; ⟨t, h1, e _ _ h2⟩
theorem Bt.kp {H H' : Hp} {a : Addr} {xs : List V} {x : Int × VW × VW} {y : V} (g : H a = some (.lst xs)) (k : LH.Kp a H H') (h : Bt H x y) : Bt H' x y := by
  obtain ⟨t, h1, h2⟩ := h
  exact ⟨t, h1, k _ _ h2 fun e => by rw [e, g] at h2; cases h2⟩
def opt1 {α β : Type} (f : α → β) : Option α → List β
  | none => []
  | some x => [f x]
theorem blamedL_succ (l1 l2 : List VW) (h : Nat) : blamedL l1 l2 (h + 1) = blamedL l1 l2 h ++ opt1 (fun x => ((h : Int), x)) (firstP l1 l2 h) := by
  unfold blamedL
  rw [List.range_succ, List.filterMap_append]
  congr 1
  cases e : firstP l1 l2 (h : Int) <;> simp [e, opt1]
theorem blamedL_lt {l1 l2 : List VW} {h : Nat} {x : Int × VW × VW} (m : x ∈ blamedL l1 l2 h) : 0 ≤ x.1 ∧ x.1 < h ∧ firstP l1 l2 x.1 = some x.2 := by
  unfold blamedL at m
  obtain ⟨j, hj, e⟩ := List.mem_filterMap.mp m
  obtain ⟨y, ey, e⟩ := Option.map_eq_some_iff.mp e
  have := List.mem_range.mp hj
  subst e
  exact ⟨by show (0 : Int) ≤ j; omega, by show (j : Int) < h; omega, ey⟩
end LM
namespace LM
open PySem L2
theorem some_ints : ∀ l : List Int, (l.map fun h => some (V.int h)).filterMap id = l.map V.int
  | [] => rfl
  | h :: l => congrArg (fun z => V.int h :: z) (some_ints l)
theorem ints_flat {xs : List Int} : (xs.map V.int).all flatV = true := by
  rw [List.all_map]
  exact List.all_eq_true.mpr fun _ _ => rfl
theorem inV_int {z : Int} : ∀ {xs : List Int}, inV (.int z) (xs.map V.int) = decide (z ∈ xs)
  | [] => rfl
  | x :: xs => by
    have ih := @inV_int z xs
    unfold inV at ih ⊢
    rw [List.map_cons, List.any_cons, ih]
    have e : eqV (.int x) (.int z) = decide (z = x) := by
      show (x == z) = _
      by_cases c : z = x
      · subst c; simp
      · rw [decide_eq_false c]
        exact beq_eq_false_iff_ne.mpr fun q => c q.symm
    rw [e]
    by_cases c : z = x <;> simp [c]
theorem paired_at {α β : Type} {F : α → β → Prop} : ∀ {xs : List α} {ys : List β}, Paired F xs ys → ∀ {i : Nat} {x : α} {y : β}, xs[i]? = some x → ys[i]? = some y → F x y
  | _, _, .nil, _, _, _, h, _ => by cases h
  | _, _, .cons a _, 0, _, _, h1, h2 => by injection h1 with h1; injection h2 with h2; subst h1 h2; exact a
  | _, _, .cons _ r, i + 1, _, _, h1, h2 => paired_at r (i := i) (by simpa using h1) (by simpa using h2)
end LM
namespace LM
open PySem L2
theorem in_ex {α : Type} (p q : α → Bool) : ∀ l : List α, (l.filter p).length + (l.filter q).length ≤ l.length + (l.filter fun x => p x && q x).length
  | [] => Nat.le_refl _
  | x :: l => by
    have ih := in_ex p q l
    cases hp : p x <;> cases hq : q x <;> simp [hp, hq] <;> omega
theorem sub_range {hs : List Int} {c : Nat} (nd : hs.Nodup) (rg : ∀ h ∈ hs, 0 ≤ h ∧ h < c) : hs.length ≤ ((List.range c).filter fun (h : Nat) => decide ((h : Int) ∈ hs)).length := by
  have s : hs ⊆ ((List.range c).filter fun (h : Nat) => decide ((h : Int) ∈ hs)).map fun (h : Nat) => (h : Int) := fun x hx => by
    obtain ⟨h1, h2⟩ := rg x hx
    have e : ((x.toNat : Nat) : Int) = x := by omega
    exact List.mem_map.mpr ⟨x.toNat, List.mem_filter.mpr ⟨List.mem_range.mpr (by omega), decide_eq_true (by rw [e]; exact hx)⟩, e⟩
  have := nd.length_le_of_subset s
  rwa [List.length_map] at this
/-- two sets of houses share some -/
theorem shared_le {h1 h2 : List Int} {c : Nat} (n1 : h1.Nodup) (n2 : h2.Nodup) (r1 : ∀ h ∈ h1, 0 ≤ h ∧ h < c) (r2 : ∀ h ∈ h2, 0 ≤ h ∧ h < c) :
    h1.length + h2.length ≤ c + ((List.range c).filter fun (h : Nat) => decide ((h : Int) ∈ h1) && decide ((h : Int) ∈ h2)).length := by
  have a := in_ex (fun (h : Nat) => decide ((h : Int) ∈ h1)) (fun (h : Nat) => decide ((h : Int) ∈ h2)) (List.range c)
  have b1 := sub_range n1 r1
  have b2 := sub_range n2 r2
  rw [List.length_range] at a
  omega
theorem filterMap_len {α β : Type} (f : α → Option β) : ∀ l : List α, (l.filterMap f).length = (l.filter fun x => (f x).isSome).length
  | [] => rfl
  | x :: l => by
    have ih := filterMap_len f l
    cases e : f x <;> simp [e, ih]
/-- lists of words by what is told of each -/
theorem words_of {P : V → Wrd → Prop} : ∀ {ys : List V}, (∀ y ∈ ys, ∃ u, P y u) → ∃ l : List VW, l.map (·.1) = ys ∧ ∀ p ∈ l, P p.1 p.2
  | [], _ => ⟨[], rfl, fun _ h => by cases h⟩
  | y :: ys, h => by
    obtain ⟨u, hu⟩ := h y List.mem_cons_self
    obtain ⟨l, e, hl⟩ := words_of fun z hz => h z (List.mem_cons_of_mem _ hz)
    refine ⟨(y, u) :: l, by rw [← e]; rfl, fun p hp => ?_⟩
    rcases List.mem_cons.mp hp with rfl | hp
    · exact hu
    · exact hl p hp
theorem paired_right {α β : Type} {F : α → β → Prop} : ∀ {xs : List α} {ys : List β}, Paired F xs ys → ∀ y ∈ ys, ∃ x ∈ xs, F x y
  | _, _, .nil, _, h => by cases h
  | _, _, .cons (a := a) f r, y, h => by
    rcases List.mem_cons.mp h with rfl | h
    · exact ⟨a, List.mem_cons_self, f⟩
    · obtain ⟨x, hx, e⟩ := paired_right r y h
      exact ⟨x, List.mem_cons_of_mem _ hx, e⟩
/-- the marks of a row at a number by some houses -/
def marks (n : Int) (r : Str) (vs : List V) (hs : List Int) : List VW := (vs.zip hs).map fun p => (p.1, ⟨"mark", n, r, p.2⟩)
theorem marks_find {n : Int} {r r' : Str} (ne : r ≠ r') {vs1 vs2 : List V} {h1 h2 : List Int} (l1 : vs1.length = h1.length) (l2 : vs2.length = h2.length) (h : Int) :
    (firstP (marks n r vs1 h1) (marks n r' vs2 h2) h).isSome = (decide (h ∈ h1) && decide (h ∈ h2)) := by
  have mem : ∀ {vs : List V} {hs : List Int} {r : Str}, vs.length = hs.length → ∀ p, p ∈ marks n r vs hs → p.2.h ∈ hs ∧ p.2.r = r ∧ p.2.k = "mark" ∧ p.2.n = n := fun {vs hs r} _ p hp => by
    obtain ⟨z, hz, rfl⟩ := List.mem_map.mp hp
    exact ⟨(List.of_mem_zip hz).2, rfl, rfl, rfl⟩
  have ex : ∀ {vs : List V} {hs : List Int} {r : Str}, vs.length = hs.length → ∀ x ∈ hs, ∃ p ∈ marks n r vs hs, p.2.h = x := fun {vs hs r} e x hx => by
    obtain ⟨i, hi, rfl⟩ := List.mem_iff_getElem.mp hx
    have hz : (vs.zip hs)[i]? = some (vs[i]'(by omega), hs[i]) := by
      rw [List.getElem?_zip_eq_some]
      exact ⟨List.getElem?_eq_getElem _, List.getElem?_eq_getElem _⟩
    exact ⟨_, List.mem_map.mpr ⟨_, List.mem_of_getElem? hz, rfl⟩, rfl⟩
  cases e : firstP (marks n r vs1 h1) (marks n r' vs2 h2) h with
  | some x =>
    obtain ⟨a, b, c, d⟩ := firstP_some (p := x.1) (q := x.2) e
    have m1 := mem l1 _ a
    have m2 := mem l2 _ b
    unfold unl at d
    rw [Bool.and_eq_true, decide_eq_true_eq] at d
    have := (pl_eq.mp d.1).2.2
    have q1 : h ∈ h1 := c ▸ m1.1
    have q2 : h ∈ h2 := by rw [← c, ← this]; exact m2.1
    rw [decide_eq_true q1, decide_eq_true q2]
    rfl
  | none =>
    cases c1 : decide (h ∈ h1) with
    | false => rfl
    | true =>
      cases c2 : decide (h ∈ h2) with
      | false => rfl
      | true =>
        exfalso
        obtain ⟨p, hp, ep⟩ := ex (r := r) l1 h (of_decide_eq_true c1)
        obtain ⟨u, hu, eu⟩ := ex (r := r') l2 h (of_decide_eq_true c2)
        unfold firstP at e
        have := List.findSome?_eq_none_iff.mp e p hp
        rw [if_pos ep] at this
        have := Option.map_eq_none_iff.mp this
        have := List.find?_eq_none.mp this u hu
        refine this ?_
        obtain ⟨_, r1, k1, n1⟩ := mem l1 _ hp
        obtain ⟨_, r2, k2, n2⟩ := mem l2 _ hu
        unfold unl
        have ne' : u.2.r ≠ p.2.r := by rw [r1, r2]; exact fun q => ne q.symm
        rw [decide_eq_true (pl_eq.mpr ⟨by rw [k1, k2], by rw [n1, n2], by rw [ep, eu]⟩), decide_eq_true ne']
        rfl
end LM
/-! readings by name: truth of a list, xs[::-1], sorted(d), a dict's keys as a list -/
namespace LH
open PySem L2
section
variable {K : PySem.W.Frag} {σ : L2.St} {H : Hp} {Q : VK} {te : TE} {x y z : V} {a : Addr}
def TruW (K : PySem.W.Frag) (x : V) (H : Hp) (Q : Bool → Hp → Prop) : Prop := ∃ k, TruV K x H k ∧ Q k H
def tTru (K : PySem.W.Frag) (te : TE) : TT := fun σ H Q => te σ H fun x H1 => TruW K x H1 Q
theorem pt_truthN {X : Cx} {e : Expr} {te : TE} (h : PE X e te) (he : ∀ whole, isTrue e X.env whole = (do let v ← whole; standAt e.pos; holding [v] (truthy v))) : PT X e (tTru X.K te) := pt_truth h he
theorem x_tru {Q : Bool → Hp → Prop} (h : te σ H fun x H1 => TruW K x H1 Q) : tTru K te σ H Q := h
theorem tru_l {Q : Bool → Hp → Prop} {xs : List V} (h : SqL K H a xs) (q : Q (!xs.isEmpty) H) : TruW K (.ref a) H Q := ⟨_, .inl ⟨xs, h, rfl⟩, q⟩
def RvV (K : PySem.W.Frag) (x : V) (H1 : Hp) (Q : VK) : Prop := ∃ a xs, x = .ref a ∧ SqL K H1 a xs ∧ ∀ p, H1 p = none → Q (.ref p) (upd H1 p (.lst xs.reverse))
theorem x_revL (h : te σ H fun x H1 => RvV K x H1 Q) : tRevL K te σ H Q := h
theorem rvv {xs : List V} (h : SqL K H a xs) (k : ∀ p H2, H p = none → L2.Same H H2 → H2 p = some (.lst xs.reverse) → Q (.ref p) H2) : RvV K (.ref a) H Q := ⟨a, xs, rfl, h, fun p hp => k p _ hp (LH.Same.new hp) upd_same⟩
/-- sorted(d), the keys ints -/
def rSrtD : List V → Hp → VK → Prop := fun xs H Q => ∃ (a : Addr) (kvs : List (Key × V)) (ks : List Int), xs = [.ref a] ∧ Rd H a (.dK kvs) ∧ kvs.map (·.1) = ks.map Sum.inl ∧ ks.length < 64 ∧
  ∀ (ys : List Int) (p : Addr), ys.Perm ks → ys.Pairwise (· ≤ ·) → H p = none → Q (.ref p) (upd H p (.lst (ys.map V.int)))
theorem call_srtD {X : Cx} (hc : X.calm = true) : CallR X (.builtin "sorted") rSrtD := call_sortedDI hc
theorem x_srtD {kvs : List (Key × V)} {ks : List Int} (h : H a = some (.dK kvs)) (e : kvs.map (·.1) = ks.map Sum.inl) (l : ks.length < 64)
    (k : ∀ (ys : List Int) p H2, ys.Perm ks → ys.Pairwise (· ≤ ·) → H p = none → L2.Same H H2 → H2 p = some (.lst (ys.map V.int)) → Q (.ref p) H2) : rSrtD [.ref a] H Q :=
  ⟨a, kvs, ks, rfl, .inl h, e, l, fun ys p h1 h2 hp => k ys p _ h1 h2 hp (LH.Same.new hp) upd_same⟩
/-- list(d), the keys tuples -/
def rKeysT : List V → Hp → VK → Prop := fun xs H Q => ∃ d kvs, xs = [V.ref d] ∧ Rd H d (.dT kvs) ∧ ∀ p bs, H p = none → IsKeys H kvs bs → Q (.ref p) (upd H p (.lst (bs.map V.ref)))
theorem call_keysT {X : Cx} (hc : X.calm = true) : CallR X (.type "list") rKeysT := call_list_dT hc
theorem x_keysT {kvs : List (List Key × V)} (h : H a = some (.dT kvs)) (k : ∀ p H2 bs, H p = none → L2.Same H H2 → H2 p = some (.lst (bs.map V.ref)) → Paired (fun (e : List Key × V) (b : Addr) => H b = some (.tup (e.1.map kV))) kvs bs → Q (.ref p) H2) : rKeysT [.ref a] H Q :=
  ⟨a, kvs, rfl, .inl h, fun p bs hp hb => k p _ bs hp (LH.Same.new hp) upd_same hb⟩
end
end LH
namespace K5
open PySem L2 LM
def top (i : Nat) : Stmt := PySem.Challenge.pw_latehouse_k05_blamed.main.body.getD i (.Pass ⟨0, 0, 0, 0⟩)
abbrev s_place : Stmt := top 1
abbrev N_place : List Str := ["word", "kind", "number", "row", "house"]
theorem sc_place : FnScope N_place ["word"] (defScope s_place) := ⟨rfl, rfl, rfl, by decide +kernel, rfl, by decide +kernel, by decide +kernel⟩
abbrev s_words_by_place : Stmt := top 3
abbrev N_words_by_place : List Str := ["words", "found", "word"]
theorem sc_words_by_place : FnScope N_words_by_place ["words"] (defScope s_words_by_place) := ⟨rfl, rfl, rfl, by decide +kernel, rfl, by decide +kernel, by decide +kernel⟩
abbrev s_blamed : Stmt := top 4
abbrev N_blamed : List Str := ["ones", "others", "against", "blames", "one", "house", "unlike", "other"]
theorem sc_blamed : FnScope N_blamed ["ones", "others"] (defScope s_blamed) := ⟨rfl, rfl, rfl, by decide +kernel, rfl, by decide +kernel, by decide +kernel⟩
abbrev s__law_at : Stmt := top 6
abbrev N__law_at : List Str := ["_law_script", "_law_k"]
theorem sc__law_at : FnScope N__law_at ["_law_script", "_law_k"] (defScope s__law_at) := ⟨rfl, rfl, rfl, by decide +kernel, rfl, by decide +kernel, by decide +kernel⟩
abbrev s__law_whole : Stmt := top 7
abbrev N__law_whole : List Str := ["_law_thing"]
theorem sc__law_whole : FnScope N__law_whole ["_law_thing"] (defScope s__law_whole) := ⟨rfl, rfl, rfl, by decide +kernel, rfl, by decide +kernel, by decide +kernel⟩
abbrev s__law_row : Stmt := top 8
abbrev N__law_row : List Str := ["_law_base", "_law_k", "_law_letters", "_law_turned", "_law_size", "_law_tail", "_law_j", "_law_at_here"]
theorem sc__law_row : FnScope N__law_row ["_law_base", "_law_k"] (defScope s__law_row) := ⟨rfl, rfl, rfl, by decide +kernel, rfl, by decide +kernel, by decide +kernel⟩
abbrev s__law_enough : Stmt := top 9
abbrev N__law_enough : List Str := ["_law_count", "_law_wanted"]
theorem sc__law_enough : FnScope N__law_enough ["_law_count"] (defScope s__law_enough) := ⟨rfl, rfl, rfl, by decide +kernel, rfl, by decide +kernel, by decide +kernel⟩
abbrev s__law_word : Stmt := top 10
abbrev N__law_word : List Str := ["_law_cell", "_law_count", "_law_base", "_law_number", "_law_row_here"]
theorem sc__law_word : FnScope N__law_word ["_law_cell", "_law_count", "_law_base"] (defScope s__law_word) := ⟨rfl, rfl, rfl, by decide +kernel, rfl, by decide +kernel, by decide +kernel⟩
abbrev s__law_unlike : Stmt := top 11
abbrev N__law_unlike : List Str := ["_law_one", "_law_other"]
theorem sc__law_unlike : FnScope N__law_unlike ["_law_one", "_law_other"] (defScope s__law_unlike) := ⟨rfl, rfl, rfl, by decide +kernel, rfl, by decide +kernel, by decide +kernel⟩
abbrev s__law_due : Stmt := top 12
abbrev N__law_due : List Str := ["_law_ones", "_law_others", "_law_count", "_law_due_here", "_law_house", "_law_one", "_law_other", "_law_row_here"]
theorem sc__law_due : FnScope N__law_due ["_law_ones", "_law_others", "_law_count"] (defScope s__law_due) := ⟨rfl, rfl, rfl, by decide +kernel, rfl, by decide +kernel, by decide +kernel⟩
abbrev s__law_houses : Stmt := top 13
abbrev N__law_houses : List Str := ["_law_cell", "_law_count", "_law_many", "_law_left", "_law_found"]
theorem sc__law_houses : FnScope N__law_houses ["_law_cell", "_law_count", "_law_many"] (defScope s__law_houses) := ⟨rfl, rfl, rfl, by decide +kernel, rfl, by decide +kernel, by decide +kernel⟩
abbrev s__law_alike : Stmt := top 14
abbrev N__law_alike : List Str := ["_law_found", "_law_due_here", "_law_row_here"]
theorem sc__law_alike : FnScope N__law_alike ["_law_found", "_law_due_here"] (defScope s__law_alike) := ⟨rfl, rfl, rfl, by decide +kernel, rfl, by decide +kernel, by decide +kernel⟩
abbrev s_law : Stmt := top 15
abbrev N_law : List Str := ["_law_script", "_law_count", "_law_base", "_law_cells", "_law_ones", "_law_cell", "_law_others", "_law_handed", "_law_wanted", "_law_first", "_law_second", "_law_one", "_law_house", "_law_other", "_law_found"]
theorem sc_law : FnScope N_law ["_law_script"] (defScope s_law) := ⟨rfl, rfl, rfl, by decide +kernel, rfl, by decide +kernel, by decide +kernel⟩
structure Ad where
  (place words_by_place blamed _law_at _law_whole _law_row _law_enough _law_word _law_unlike _law_due _law_houses _law_alike law : Addr)
  (d_place d_words_by_place d_blamed d__law_at d__law_whole d__law_row d__law_enough d__law_word d__law_unlike d__law_due d__law_houses d__law_alike d_law : FuncData)
abbrev VEs : List Value := [.type "ValueError", .type "Exception", .type "BaseException", .type "object"]
structure Txt (K : PySem.W.Frag) (mg : Str → Option Value) (a : Ad) : Prop where
  F_place : Fun K "place" "place" s_place a.place a.d_place
  g_place : mg "place" = some (.ref a.place)
  b_place : Binds K a.d_place ["word"] []
  F_words_by_place : Fun K "words_by_place" "words_by_place" s_words_by_place a.words_by_place a.d_words_by_place
  g_words_by_place : mg "words_by_place" = some (.ref a.words_by_place)
  b_words_by_place : Binds K a.d_words_by_place ["words"] []
  F_blamed : Fun K "blamed" "blamed" s_blamed a.blamed a.d_blamed
  g_blamed : mg "blamed" = some (.ref a.blamed)
  b_blamed : Binds K a.d_blamed ["ones", "others"] []
  F__law_at : Fun K "_law_at" "_law_at" s__law_at a._law_at a.d__law_at
  g__law_at : mg "_law_at" = some (.ref a._law_at)
  b__law_at : Binds K a.d__law_at ["_law_script", "_law_k"] []
  F__law_whole : Fun K "_law_whole" "_law_whole" s__law_whole a._law_whole a.d__law_whole
  g__law_whole : mg "_law_whole" = some (.ref a._law_whole)
  b__law_whole : Binds K a.d__law_whole ["_law_thing"] []
  F__law_row : Fun K "_law_row" "_law_row" s__law_row a._law_row a.d__law_row
  g__law_row : mg "_law_row" = some (.ref a._law_row)
  b__law_row : Binds K a.d__law_row ["_law_base", "_law_k"] []
  F__law_enough : Fun K "_law_enough" "_law_enough" s__law_enough a._law_enough a.d__law_enough
  g__law_enough : mg "_law_enough" = some (.ref a._law_enough)
  b__law_enough : Binds K a.d__law_enough ["_law_count"] []
  F__law_word : Fun K "_law_word" "_law_word" s__law_word a._law_word a.d__law_word
  g__law_word : mg "_law_word" = some (.ref a._law_word)
  b__law_word : Binds K a.d__law_word ["_law_cell", "_law_count", "_law_base"] []
  F__law_unlike : Fun K "_law_unlike" "_law_unlike" s__law_unlike a._law_unlike a.d__law_unlike
  g__law_unlike : mg "_law_unlike" = some (.ref a._law_unlike)
  b__law_unlike : Binds K a.d__law_unlike ["_law_one", "_law_other"] []
  F__law_due : Fun K "_law_due" "_law_due" s__law_due a._law_due a.d__law_due
  g__law_due : mg "_law_due" = some (.ref a._law_due)
  b__law_due : Binds K a.d__law_due ["_law_ones", "_law_others", "_law_count"] []
  F__law_houses : Fun K "_law_houses" "_law_houses" s__law_houses a._law_houses a.d__law_houses
  g__law_houses : mg "_law_houses" = some (.ref a._law_houses)
  b__law_houses : Binds K a.d__law_houses ["_law_cell", "_law_count", "_law_many"] []
  F__law_alike : Fun K "_law_alike" "_law_alike" s__law_alike a._law_alike a.d__law_alike
  g__law_alike : mg "_law_alike" = some (.ref a._law_alike)
  b__law_alike : Binds K a.d__law_alike ["_law_found", "_law_due_here"] []
  F_law : Fun K "law" "law" s_law a.law a.d_law
  n_bool : mg "bool" = none
  n_int : mg "int" = none
  n_isinstance : mg "isinstance" = none
  n_len : mg "len" = none
  n_list : mg "list" = none
  n_range : mg "range" = none
  n_sorted : mg "sorted" = none
  n_tuple : mg "tuple" = none

local macro_rules | `(tactic| walk_at "rd1") => `(tactic| first
  | with_reducible refine LH.x_seq ?_
  | with_reducible refine LH.x_asg ?_
  | with_reducible refine LH.x_cons ?_
  | with_reducible refine LH.x_var (by with_unfolding_all exact rfl) ?_
  | with_reducible refine LH.x_c ?_
  | with_reducible refine LH.x_op ?_
  | with_reducible refine LH.x_gname ?_
  | with_reducible refine LH.x_nil ?_
  | with_reducible refine LH.x_I0 ?_
  | ((with_reducible refine LH.x_I ?k1 ?_); (case k1 => first | exact (by decide) | exact ⟨by decide, by decide⟩ | exact ⟨by decide, by decide, by decide⟩ | exact .inl ⟨by decide, by decide⟩ | exact .inr ⟨by decide, by decide⟩ | exact .inr ⟨by omega, by omega⟩ | exact .inl ⟨by omega, by omega⟩ | exact (by omega)))
  | with_reducible refine LH.x_ifS ?_
  | with_reducible refine LH.x_test ?_
  | with_reducible refine LH.x_tB ?_
  | with_reducible refine LH.bx ?_
  | with_reducible refine LH.x_and ?_
  | with_reducible refine LH.x_or ?_
  | with_reducible refine LH.x_not ?_
  | with_reducible refine LH.x_ret ?_
  | with_reducible refine LH.x_call ?_
  | with_reducible refine LH.x_cb ?_
  | with_reducible refine LH.x_lst ?_
  | with_reducible refine LH.x_tup ?_
  | with_reducible refine LH.x_bm ?_
  | with_reducible refine LH.x_drop ?_
  | with_reducible refine LH.x_next ?_
  | with_reducible refine LH.x_cont ?_
  | with_reducible refine LH.x_un ?_
  | with_reducible refine LH.x_U ?_
  | with_reducible refine LH.x_eq (by with_unfolding_all exact rfl) ?_
  | with_reducible refine LH.x_ne (by with_unfolding_all exact rfl) ?_
  | with_reducible refine LH.x_andV ?_
  | with_reducible refine LH.x_orV ?_
  | with_reducible refine LH.x_notV ?_
  | with_reducible refine LH.band ?_
  | with_reducible refine LH.bor ?_
  | with_reducible refine LH.x_if ?_
  | with_reducible refine LH.x_chain ?_
  | with_reducible refine LH.chk ?_
  | with_reducible refine LH.x_callS ?_
  | with_reducible refine LH.x_callE ?_
  | with_reducible refine LH.x_callV ?_
  | with_reducible refine LH.x_lrg ?_
  | with_reducible refine LH.x_lcS ?_
  | with_reducible refine LH.x_lcR1 ?_
  | with_reducible refine LH.x_forR1 ?_
  | with_reducible refine LH.x_forR3 ?_
  | with_reducible refine LH.strv ?_
  | with_reducible refine LH.x_yes ?_
  | with_reducible refine LH.x_sl ?_
  | with_reducible refine LH.x_noPart ?_
  | with_reducible refine LH.x_part ?_
  | with_reducible refine LH.pav ?_
  | with_reducible refine LH.x_jnv ?_
  | with_reducible refine LH.x_join ?_
  | with_reducible refine LH.x_inS ?_
  | with_reducible refine LH.x_niS ?_
  | with_reducible refine LH.x_isB ?_
  | with_reducible refine LH.x_isnB ?_
  | with_reducible refine LH.x_gcons ?_
  | with_reducible refine LH.x_gnil ?_
  | with_reducible refine LH.x_intB ?_
  | with_reducible refine LH.x_orT ?_
  | with_reducible refine LH.x_isTy ?_
  | with_reducible refine LH.x_niTy ?_
  | with_reducible refine LH.x_split ?_
  | with_reducible refine LH.x_spv ?_
  | with_reducible refine LH.x_gsub ?_
  | with_reducible refine LH.x_fmt ?_
  | with_reducible refine LH.x_js0 ?_
  | with_reducible refine LH.x_js ?_
  | with_reducible refine LH.x_rg1 ?_
  | with_reducible refine LH.x_forL ?_
  | with_reducible refine LH.x_abs ?_
  | with_reducible refine LH.x_rg2 ?_
  | with_reducible refine LH.rg1v ?_
  | with_reducible refine LH.rg2v ?_
  | with_reducible refine LH.x_forR2 ?_
  | with_reducible refine LH.x_lenSetG ?_
  | with_reducible refine LH.x_lc ?_
  | with_reducible refine LH.x_fld ?_
  | with_reducible refine LH.x_sfld ?_
  | with_reducible refine LH.x_afld ?_
  | with_reducible refine LH.x_meth ?_
  | with_reducible refine LH.x_make ?_
  | with_reducible refine LH.x_methSl ?_
  | with_reducible refine LH.x_makeSl ?_
  | with_reducible refine LH.x_din ?_
  | with_reducible refine LH.x_dni ?_
  | with_reducible refine LH.x_dget ?_
  | with_reducible refine LH.x_dput ?_
  | with_reducible refine LH.x_dget2 ?_
  | with_reducible refine LH.x_dpop1 ?_
  | with_reducible refine LH.x_litems ?_
  | with_reducible refine LH.x_tru ?_
  | with_reducible refine LH.x_revL ?_
  | with_reducible refine LH.x_dsetT ?_
  | with_reducible refine LH.x_lvals ?_
  | with_reducible refine LH.br_nt ?_
  | with_reducible refine LH.br_nf ?_
  | with_reducible refine LH.br_t ?_
  | with_reducible refine LH.br_f ?_)
local macro_rules | `(tactic| walk_at "rd") => `(tactic| repeat (walk_at "rd1"))
local macro_rules | `(tactic| walk_at "rs1") => `(tactic| first
  | with_reducible refine LH.x_seq ?_
  | with_reducible refine LH.x_cons ?_
  | with_reducible refine LH.x_var (by with_unfolding_all exact rfl) ?_
  | with_reducible refine LH.x_c ?_
  | with_reducible refine LH.x_op ?_
  | with_reducible refine LH.x_gname ?_
  | with_reducible refine LH.x_nil ?_
  | with_reducible refine LH.x_I0 ?_
  | ((with_reducible refine LH.x_I ?k1 ?_); (case k1 => first | exact (by decide) | exact ⟨by decide, by decide⟩ | exact ⟨by decide, by decide, by decide⟩ | exact .inl ⟨by decide, by decide⟩ | exact .inr ⟨by decide, by decide⟩ | exact .inr ⟨by omega, by omega⟩ | exact .inl ⟨by omega, by omega⟩ | exact (by omega)))
  | with_reducible refine LH.x_test ?_
  | with_reducible refine LH.x_tB ?_
  | with_reducible refine LH.bx ?_
  | with_reducible refine LH.x_and ?_
  | with_reducible refine LH.x_or ?_
  | with_reducible refine LH.x_not ?_
  | with_reducible refine LH.x_call ?_
  | with_reducible refine LH.x_cb ?_
  | with_reducible refine LH.x_lst ?_
  | with_reducible refine LH.x_tup ?_
  | with_reducible refine LH.x_bm ?_
  | with_reducible refine LH.x_drop ?_
  | with_reducible refine LH.x_next ?_
  | with_reducible refine LH.x_cont ?_
  | with_reducible refine LH.x_un ?_
  | with_reducible refine LH.x_U ?_
  | with_reducible refine LH.x_eq (by with_unfolding_all exact rfl) ?_
  | with_reducible refine LH.x_ne (by with_unfolding_all exact rfl) ?_
  | with_reducible refine LH.x_andV ?_
  | with_reducible refine LH.x_orV ?_
  | with_reducible refine LH.x_notV ?_
  | with_reducible refine LH.band ?_
  | with_reducible refine LH.bor ?_
  | with_reducible refine LH.x_if ?_
  | with_reducible refine LH.x_chain ?_
  | with_reducible refine LH.chk ?_
  | with_reducible refine LH.x_callS ?_
  | with_reducible refine LH.x_callE ?_
  | with_reducible refine LH.x_callV ?_
  | with_reducible refine LH.x_lrg ?_
  | with_reducible refine LH.x_lcS ?_
  | with_reducible refine LH.x_lcR1 ?_
  | with_reducible refine LH.strv ?_
  | with_reducible refine LH.x_yes ?_
  | with_reducible refine LH.x_sl ?_
  | with_reducible refine LH.x_noPart ?_
  | with_reducible refine LH.x_part ?_
  | with_reducible refine LH.pav ?_
  | with_reducible refine LH.x_jnv ?_
  | with_reducible refine LH.x_join ?_
  | with_reducible refine LH.x_inS ?_
  | with_reducible refine LH.x_niS ?_
  | with_reducible refine LH.x_isB ?_
  | with_reducible refine LH.x_isnB ?_
  | with_reducible refine LH.x_gcons ?_
  | with_reducible refine LH.x_gnil ?_
  | with_reducible refine LH.x_intB ?_
  | with_reducible refine LH.x_orT ?_
  | with_reducible refine LH.x_isTy ?_
  | with_reducible refine LH.x_niTy ?_
  | with_reducible refine LH.x_split ?_
  | with_reducible refine LH.x_spv ?_
  | with_reducible refine LH.x_gsub ?_
  | with_reducible refine LH.x_fmt ?_
  | with_reducible refine LH.x_js0 ?_
  | with_reducible refine LH.x_js ?_
  | with_reducible refine LH.x_rg1 ?_
  | with_reducible refine LH.x_abs ?_
  | with_reducible refine LH.x_rg2 ?_
  | with_reducible refine LH.rg1v ?_
  | with_reducible refine LH.rg2v ?_
  | with_reducible refine LH.x_lenSetG ?_
  | with_reducible refine LH.x_lc ?_
  | with_reducible refine LH.x_fld ?_
  | with_reducible refine LH.x_sfld ?_
  | with_reducible refine LH.x_afld ?_
  | with_reducible refine LH.x_meth ?_
  | with_reducible refine LH.x_make ?_
  | with_reducible refine LH.x_methSl ?_
  | with_reducible refine LH.x_makeSl ?_
  | with_reducible refine LH.x_din ?_
  | with_reducible refine LH.x_dni ?_
  | with_reducible refine LH.x_dget ?_
  | with_reducible refine LH.x_dput ?_
  | with_reducible refine LH.x_dget2 ?_
  | with_reducible refine LH.x_dpop1 ?_
  | with_reducible refine LH.x_litems ?_
  | with_reducible refine LH.x_tru ?_
  | with_reducible refine LH.x_revL ?_
  | with_reducible refine LH.x_dsetT ?_
  | with_reducible refine LH.x_lvals ?_
  | with_reducible refine LH.br_nt ?_
  | with_reducible refine LH.br_nf ?_
  | with_reducible refine LH.br_t ?_
  | with_reducible refine LH.br_f ?_)
local macro_rules | `(tactic| walk_at "rs") => `(tactic| repeat (walk_at "rs1"))

section
variable {P : Program} {w : World} {K : PySem.W.Frag} {mg : Str → Option Value} {base : Heap} {a : Ad}
def spPlace (K : PySem.W.Frag) : Sp := fun vs H Q _ => ∃ p k n r h, vs = [.ref p] ∧ SqT K H p (wd k n r h) ∧ ∀ q H', Same H H' → H' q = some (.tup [.str k, .int n, .int h]) → Q (.ref q) H'
theorem ok_place (T : Txt K mg a) : FnOk P w K mg base CX0 1 a.place a.d_place ["word"] (spPlace K) := by
  refine T.F_place.ok sc_place (fun vs H Q E h => ?_) (fun cdv A outer s H vs Q E hr h => ?_)
  · obtain ⟨p, k, n, r, h, rfl, _⟩ := h
    rfl
  · obtain ⟨p, kd, n, r, h, rfl, hp, k⟩ := h
    refine ⟨_, (pss_cons (ps_asg (pv 0) (pg_tup rfl (pgs_cons (pg_name (i := 1) sc_place.nd rfl (Or.inl rfl)) (pgs_cons (pg_name (i := 2) sc_place.nd rfl (Or.inl rfl)) (pgs_cons (pg_name (i := 3) sc_place.nd rfl (Or.inl rfl)) (pgs_cons (pg_name (i := 4) sc_place.nd rfl (Or.inl rfl)) pgs_nil))))))
  (pss_one (ps_ret (pe_tup (pa_cons (pv 1) (pa_cons (pv 2) (pa_cons (pv 4) pa_nil))))))), ?_⟩
    walk_at "rd"
    refine LH.x_gtup hp rfl ?_
    walk_at "rd"
    refine LH.newt (LH.small rfl) fun q H1 f1 e1 g1 => ?_
    exact k q H1 e1 g1
def spAt (K : PySem.W.Frag) : Sp := fun vs H Q _ => ∃ (p : Addr) (ns : List Int) (k : Int), vs = [.ref p, .int k] ∧ SqL K H p (ns.map V.int) ∧ 0 ≤ k ∧ ∀ z, Q (.int z) H
theorem ok__law_at (T : Txt K mg a) : FnOk P w K mg base CX0 1 a._law_at a.d__law_at ["_law_script", "_law_k"] (spAt K) := by
  refine T.F__law_at.ok sc__law_at (fun vs H Q E h => ?_) (fun cdv A outer s H vs Q E hr h => ?_)
  · obtain ⟨p, ns, k, rfl, _⟩ := h
    rfl
  · obtain ⟨p, ns, i, rfl, hp, h0, k⟩ := h
    refine ⟨_, (pss_cons (ps_if (pt_cmpR op_lt (pv 1) (pe_callB (r := LH.rLen K) LH.call_len rfl T.n_len (by decide +kernel) (pa_cons (pv 0) pa_nil)) (nomark _))
    (pss_one (ps_ret (pe_ix (r := rIxL K) ix_list (pv 0) (pv 1) (fun _ _ => rfl))))
    pss_nil)
  (pss_one (ps_ret pe_int))), ?_⟩
    walk_at "rd"
    refine LH.x_lenL hp ?_
    walk_at "rd"
    refine LH.br_d (fun c => ?_) (fun c => ?_)
    · walk_at "rd"
      obtain ⟨j, rfl⟩ : ∃ j : Nat, i = (j : Int) := ⟨i.toNat, by omega⟩
      have hj : j < (ns.map V.int).length := by omega
      refine LH.x_ixL hp (atI_nat (List.getElem?_eq_getElem hj)) ?_
      walk_at "rd"
      rw [List.getElem_map]
      exact k _
    · walk_at "rd"
      exact k _
def spLRow : Sp := fun vs H Q _ => ∃ b k : Int, vs = [.int b, .int k] ∧ ∀ H', Same H H' → Q (.str (rowF b k)) H'
theorem ok__law_row (T : Txt K mg a) : FnOk P w K mg base CX0 1 a._law_row a.d__law_row ["_law_base", "_law_k"] spLRow := by
  refine T.F__law_row.ok sc__law_row (fun vs H Q E h => ?_) (fun cdv A outer s H vs Q E hr h => ?_)
  · obtain ⟨i, j, rfl, _⟩ := h
    rfl
  · obtain ⟨b, i, rfl, k⟩ := h
    refine ⟨_, (pss_cons (ps_set (i := 2) sc__law_row.nd rfl (Or.inr rfl) pe_str)
  (pss_cons (ps_set (i := 3) sc__law_row.nd rfl (Or.inr rfl) (pe_op op_add (pv 0) (pe_op op_mul (pe_op op_mul pe_int (pv 1)) (pe_op op_mod (pv 0) pe_int))))
  (pss_cons (ps_set (i := 4) sc__law_row.nd rfl (Or.inl rfl) (pe_op op_mod (pe_op op_fdiv (pv 3) pe_int) pe_int))
  (pss_cons (ps_set (i := 5) sc__law_row.nd rfl (Or.inl rfl) (LH.pe_joinN pe_str (pe_lc (own := [("_law_j", 6)]) (g := gName 6) (tt := tYes) rfl sc__law_row.nd (pi_range1 rfl T.n_range (pa_cons (pv 4) pa_nil)) (blkOk_by (N := N__law_row) (sc := defScope s__law_row) (by decide +kernel)) (fun _ _ _ _ _ => pg_name (i := 6) sc__law_row.nd rfl (Or.inl rfl)) (fun _ _ _ _ _ => pts_nil) (fun _ _ _ _ _ => (pe_ix ix_str (pv 2) (pe_op op_mod (pe_op op_add (pv 3) (pe_op op_mul (pe_op op_mul pe_int (pv 6)) (pe_op op_add pe_int (pe_op op_mod (pv 3) pe_int)))) pe_int) (fun _ _ => rfl))))))
  (pss_cons (ps_set (i := 7) sc__law_row.nd rfl (Or.inl rfl) (pv 4))
  (pss_cons (ps_if (pt_cmpR op_eq (pe_op op_mod (pv 0) pe_int) pe_int (nomark _))
    (pss_one (ps_set (i := 7) sc__law_row.nd rfl (Or.inl rfl) (pe_op op_modN (pe_op op_fdiv (pv 0) pe_int) (pe_op op_add (pv 4) pe_int))))
    pss_nil)
  (pss_cons (ps_if (pt_cmpR op_eq (pe_op op_mod (pv 0) pe_int) pe_int (nomark _))
    (pss_one (ps_ret (pe_ix (r := rIxL K) ix_list (pe_lst (pa_cons pe_str (pa_cons pe_str (pa_cons pe_str (pa_cons pe_str pa_nil))))) (pe_op op_mod (pv 1) pe_int) (fun _ _ => rfl))))
    pss_nil)
  (pss_one (ps_ret (pe_op LH.op_addS (pe_op LH.op_addS (pe_slice sl_str (pv 5) po_none (po_some (pv 7))) (pe_ix ix_str pe_str (pe_op op_mod (pv 1) pe_int) (fun _ _ => rfl))) (pe_slice sl_str (pv 5) (po_some (pv 7)) po_none))))))))))), ?_⟩
    walk_at "rd"
    have ht : b + 31 * i * (b % 2) = tOf b i := rfl
    rw [ht, nOf_eq]
    have n8 := nOf_lt b i
    refine LH.rn1v (by omega) (by omega) ?_
    refine LH.lc_R (by omega) (fun _ => true) (letV (tOf b i)) (fun _ => rfl) ?_ ?_ fun p1 H1 f1 e1 g1 => ?_
    · intro x hx H3 e3 Q3 q3
      walk_at "rd"
      exact q3 _ (Same.refl _)
    · intro x hx _ H3 e3 Q3 q3
      obtain ⟨j, _, rfl⟩ := List.mem_map.mp hx
      walk_at "rd"
      obtain ⟨c, h1, _, h2⟩ := let_at (tOf b i + 5 * (0 + (j : Int)) * (1 + tOf b i % 3))
      refine LH.x_ixS (by decide +kernel) h1 ?_
      have q4 := q3 H3 (Same.refl _)
      have e4 : letV (tOf b i) (V.int (0 + (j : Int))) = V.str ⟨#[c]⟩ := by rw [h2]; rfl
      rw [e4] at q4
      exact q4
    walk_at "rd"
    have hI : ((nOf b i : Nat) : Int).toNat = nOf b i := Int.toNat_natCast _
    rw [hI, lets] at g1
    have el : (List.range (nOf b i)).map (letF (tOf b i)) = tailOf b i := rfl
    have e0 : (Str.ofString "").length = 0 := rfl
    refine LH.x_jnw (SqL.of g1) (by rw [lens1, List.length_range, e0, Nat.mul_zero]; omega) ?_
    rw [join_signs, el]
    have tl := tail_len b i
    have al := atOf_le b i
    have sz : ((tailOf b i).toArray : Array Nat).size ≤ 100000 := by rw [List.size_toArray]; omega
    walk_at "rs"
    refine LH.x_asg ?_
    walk_at "rs"
    refine LH.cutS (fun σ' H' => σ' = [some (.int b), some (.int i), some (.str "abcdefghijklmnopqrstuvwxyz"), some (.int (tOf b i)), some (.int (nOf b i)), some (.str ⟨(tailOf b i).toArray⟩), none, some (.int (atOf b i))] ∧ H' = H1) (fun N hN => ?_) ?_
    · walk_at "rd"
      refine LH.br_d (fun c => ?_) (fun c => ?_)
      · walk_at "rd"
        have c : b % 2 = 0 := by injection c
        rw [atOf_even c]
        exact hN _ _ ⟨rfl, rfl⟩
      · walk_at "rd"
        have c : ¬ b % 2 = 0 := fun e => c (congrArg V.int e)
        exact hN _ _ ⟨by rw [atOf_odd c]; rfl, rfl⟩
    rintro σ' H' ⟨rfl, rfl⟩
    walk_at "rd"
    refine LH.br_d (fun c => ?_) (fun c => ?_)
    · walk_at "rd"
      refine LH.newl (LH.small rfl) fun p2 H2 f2 e2 g2 => ?_
      walk_at "rd"
      refine LH.x_ixL (SqL.of g2) (word4_at i).1 ?_
      have e : word4 i = rowF b i := by
        unfold rowF
        rw [if_pos (by injection c)]
      rw [e]
      exact k _ (e1.trans e2)
    · have c : ¬ b % 9 = 4 := fun e => c (congrArg V.int e)
      walk_at "rd"
      refine LH.x_slS sz ?_
      walk_at "rd"
      refine LH.x_ixS (by decide +kernel) (kq_at i).1 ?_
      refine LH.x_addS (by rw [cut_lo]; simp [Str.length]; omega) ?_
      walk_at "rd"
      refine LH.x_slS sz ?_
      refine LH.x_addS (by rw [cut_lo, cut_hi]; show (_ ++ _ : Array Nat).size + _ ≤ 100000; simp [Str.length]; omega) ?_
      rw [rowF_cut c]
      exact k _ e1
def isI : V → Bool
  | .int _ => true
  | _ => false
def spLWhole (K : PySem.W.Frag) : Sp := fun vs H Q _ => ∃ x T, vs = [x] ∧ TyB K H x T ∧ Q (.bl (isI x)) H
theorem ok__law_whole (T : Txt K mg a) : FnOk P w K mg base CX0 1 a._law_whole a.d__law_whole ["_law_thing"] (spLWhole K) := by
  refine T.F__law_whole.ok sc__law_whole (fun vs H Q E h => ?_) (fun cdv A outer s H vs Q E hr h => ?_)
  · obtain ⟨x, t, rfl, _⟩ := h
    rfl
  · obtain ⟨x, t, rfl, ht, k⟩ := h
    refine ⟨_, (pss_one (ps_ret (pe_and (pe_callB (r := rIsi K) call_isi rfl T.n_isinstance (by decide +kernel) (pa_cons (pv 0) (pa_cons (pe_bltn (v := .ty "int") rfl T.n_int (by decide +kernel) rfl) pa_nil))) (pe_one (pe_not (pe_callB (r := rIsi K) call_isi rfl T.n_isinstance (by decide +kernel) (pa_cons (pv 0) (pa_cons (pe_bltn (v := .ty "bool") rfl T.n_bool (by decide +kernel) rfl) pa_nil)))))))), ?_⟩
    walk_at "rd"
    have ht' := ht
    cases ht with
    | int i =>
      refine LH.x_isiT (b := true) ht' (by decide +kernel) ?_
      walk_at "rd"
      refine LH.x_isiT (b := false) ht' (by decide +kernel) ?_
      walk_at "rd"
      exact k
    | bl i =>
      refine LH.x_isiT (b := true) ht' (by decide +kernel) ?_
      walk_at "rd"
      refine LH.x_isiT (b := true) ht' (by decide +kernel) ?_
      walk_at "rd"
      exact k
    | _ =>
      refine LH.x_isiT (b := false) ht' (by decide +kernel) ?_
      walk_at "rd"
      exact k
end
end K5
namespace K5
open PySem L2 LM
local macro_rules | `(tactic| walk_at "rd1") => `(tactic| first
  | with_reducible refine LH.x_seq ?_
  | with_reducible refine LH.x_asg ?_
  | with_reducible refine LH.x_cons ?_
  | with_reducible refine LH.x_var (by with_unfolding_all exact rfl) ?_
  | with_reducible refine LH.x_c ?_
  | with_reducible refine LH.x_op ?_
  | with_reducible refine LH.x_gname ?_
  | with_reducible refine LH.x_nil ?_
  | with_reducible refine LH.x_I0 ?_
  | ((with_reducible refine LH.x_I ?k1 ?_); (case k1 => first | exact (by decide) | exact ⟨by decide, by decide⟩ | exact ⟨by decide, by decide, by decide⟩ | exact .inl ⟨by decide, by decide⟩ | exact .inr ⟨by decide, by decide⟩ | exact .inr ⟨by omega, by omega⟩ | exact .inl ⟨by omega, by omega⟩ | exact (by omega)))
  | with_reducible refine LH.x_ifS ?_
  | with_reducible refine LH.x_test ?_
  | with_reducible refine LH.x_tB ?_
  | with_reducible refine LH.bx ?_
  | with_reducible refine LH.x_and ?_
  | with_reducible refine LH.x_or ?_
  | with_reducible refine LH.x_not ?_
  | with_reducible refine LH.x_ret ?_
  | with_reducible refine LH.x_call ?_
  | with_reducible refine LH.x_cb ?_
  | with_reducible refine LH.x_lst ?_
  | with_reducible refine LH.x_tup ?_
  | with_reducible refine LH.x_bm ?_
  | with_reducible refine LH.x_drop ?_
  | with_reducible refine LH.x_next ?_
  | with_reducible refine LH.x_cont ?_
  | with_reducible refine LH.x_un ?_
  | with_reducible refine LH.x_U ?_
  | with_reducible refine LH.x_eq (by with_unfolding_all exact rfl) ?_
  | with_reducible refine LH.x_ne (by with_unfolding_all exact rfl) ?_
  | with_reducible refine LH.x_andV ?_
  | with_reducible refine LH.x_orV ?_
  | with_reducible refine LH.x_notV ?_
  | with_reducible refine LH.band ?_
  | with_reducible refine LH.bor ?_
  | with_reducible refine LH.x_if ?_
  | with_reducible refine LH.x_chain ?_
  | with_reducible refine LH.chk ?_
  | with_reducible refine LH.x_callS ?_
  | with_reducible refine LH.x_callE ?_
  | with_reducible refine LH.x_callV ?_
  | with_reducible refine LH.x_lrg ?_
  | with_reducible refine LH.x_lcS ?_
  | with_reducible refine LH.x_lcR1 ?_
  | with_reducible refine LH.x_forR1 ?_
  | with_reducible refine LH.x_forR3 ?_
  | with_reducible refine LH.strv ?_
  | with_reducible refine LH.x_yes ?_
  | with_reducible refine LH.x_sl ?_
  | with_reducible refine LH.x_noPart ?_
  | with_reducible refine LH.x_part ?_
  | with_reducible refine LH.pav ?_
  | with_reducible refine LH.x_jnv ?_
  | with_reducible refine LH.x_join ?_
  | with_reducible refine LH.x_inS ?_
  | with_reducible refine LH.x_niS ?_
  | with_reducible refine LH.x_isB ?_
  | with_reducible refine LH.x_isnB ?_
  | with_reducible refine LH.x_gcons ?_
  | with_reducible refine LH.x_gnil ?_
  | with_reducible refine LH.x_intB ?_
  | with_reducible refine LH.x_orT ?_
  | with_reducible refine LH.x_isTy ?_
  | with_reducible refine LH.x_niTy ?_
  | with_reducible refine LH.x_split ?_
  | with_reducible refine LH.x_spv ?_
  | with_reducible refine LH.x_gsub ?_
  | with_reducible refine LH.x_fmt ?_
  | with_reducible refine LH.x_js0 ?_
  | with_reducible refine LH.x_js ?_
  | with_reducible refine LH.x_rg1 ?_
  | with_reducible refine LH.x_forL ?_
  | with_reducible refine LH.x_abs ?_
  | with_reducible refine LH.x_rg2 ?_
  | with_reducible refine LH.rg1v ?_
  | with_reducible refine LH.rg2v ?_
  | with_reducible refine LH.x_forR2 ?_
  | with_reducible refine LH.x_lenSetG ?_
  | with_reducible refine LH.x_lc ?_
  | with_reducible refine LH.x_fld ?_
  | with_reducible refine LH.x_sfld ?_
  | with_reducible refine LH.x_afld ?_
  | with_reducible refine LH.x_meth ?_
  | with_reducible refine LH.x_make ?_
  | with_reducible refine LH.x_methSl ?_
  | with_reducible refine LH.x_makeSl ?_
  | with_reducible refine LH.x_din ?_
  | with_reducible refine LH.x_dni ?_
  | with_reducible refine LH.x_dget ?_
  | with_reducible refine LH.x_dput ?_
  | with_reducible refine LH.x_dget2 ?_
  | with_reducible refine LH.x_dpop1 ?_
  | with_reducible refine LH.x_litems ?_
  | with_reducible refine LH.x_tru ?_
  | with_reducible refine LH.x_revL ?_
  | with_reducible refine LH.x_dsetT ?_
  | with_reducible refine LH.x_lvals ?_
  | with_reducible refine LH.br_nt ?_
  | with_reducible refine LH.br_nf ?_
  | with_reducible refine LH.br_t ?_
  | with_reducible refine LH.br_f ?_)
local macro_rules | `(tactic| walk_at "rd") => `(tactic| repeat (walk_at "rd1"))
local macro_rules | `(tactic| walk_at "rs1") => `(tactic| first
  | with_reducible refine LH.x_seq ?_
  | with_reducible refine LH.x_cons ?_
  | with_reducible refine LH.x_var (by with_unfolding_all exact rfl) ?_
  | with_reducible refine LH.x_c ?_
  | with_reducible refine LH.x_op ?_
  | with_reducible refine LH.x_gname ?_
  | with_reducible refine LH.x_nil ?_
  | with_reducible refine LH.x_I0 ?_
  | ((with_reducible refine LH.x_I ?k1 ?_); (case k1 => first | exact (by decide) | exact ⟨by decide, by decide⟩ | exact ⟨by decide, by decide, by decide⟩ | exact .inl ⟨by decide, by decide⟩ | exact .inr ⟨by decide, by decide⟩ | exact .inr ⟨by omega, by omega⟩ | exact .inl ⟨by omega, by omega⟩ | exact (by omega)))
  | with_reducible refine LH.x_test ?_
  | with_reducible refine LH.x_tB ?_
  | with_reducible refine LH.bx ?_
  | with_reducible refine LH.x_and ?_
  | with_reducible refine LH.x_or ?_
  | with_reducible refine LH.x_not ?_
  | with_reducible refine LH.x_call ?_
  | with_reducible refine LH.x_cb ?_
  | with_reducible refine LH.x_lst ?_
  | with_reducible refine LH.x_tup ?_
  | with_reducible refine LH.x_bm ?_
  | with_reducible refine LH.x_drop ?_
  | with_reducible refine LH.x_next ?_
  | with_reducible refine LH.x_cont ?_
  | with_reducible refine LH.x_un ?_
  | with_reducible refine LH.x_U ?_
  | with_reducible refine LH.x_eq (by with_unfolding_all exact rfl) ?_
  | with_reducible refine LH.x_ne (by with_unfolding_all exact rfl) ?_
  | with_reducible refine LH.x_andV ?_
  | with_reducible refine LH.x_orV ?_
  | with_reducible refine LH.x_notV ?_
  | with_reducible refine LH.band ?_
  | with_reducible refine LH.bor ?_
  | with_reducible refine LH.x_if ?_
  | with_reducible refine LH.x_chain ?_
  | with_reducible refine LH.chk ?_
  | with_reducible refine LH.x_callS ?_
  | with_reducible refine LH.x_callE ?_
  | with_reducible refine LH.x_callV ?_
  | with_reducible refine LH.x_lrg ?_
  | with_reducible refine LH.x_lcS ?_
  | with_reducible refine LH.x_lcR1 ?_
  | with_reducible refine LH.strv ?_
  | with_reducible refine LH.x_yes ?_
  | with_reducible refine LH.x_sl ?_
  | with_reducible refine LH.x_noPart ?_
  | with_reducible refine LH.x_part ?_
  | with_reducible refine LH.pav ?_
  | with_reducible refine LH.x_jnv ?_
  | with_reducible refine LH.x_join ?_
  | with_reducible refine LH.x_inS ?_
  | with_reducible refine LH.x_niS ?_
  | with_reducible refine LH.x_isB ?_
  | with_reducible refine LH.x_isnB ?_
  | with_reducible refine LH.x_gcons ?_
  | with_reducible refine LH.x_gnil ?_
  | with_reducible refine LH.x_intB ?_
  | with_reducible refine LH.x_orT ?_
  | with_reducible refine LH.x_isTy ?_
  | with_reducible refine LH.x_niTy ?_
  | with_reducible refine LH.x_split ?_
  | with_reducible refine LH.x_spv ?_
  | with_reducible refine LH.x_gsub ?_
  | with_reducible refine LH.x_fmt ?_
  | with_reducible refine LH.x_js0 ?_
  | with_reducible refine LH.x_js ?_
  | with_reducible refine LH.x_rg1 ?_
  | with_reducible refine LH.x_abs ?_
  | with_reducible refine LH.x_rg2 ?_
  | with_reducible refine LH.rg1v ?_
  | with_reducible refine LH.rg2v ?_
  | with_reducible refine LH.x_lenSetG ?_
  | with_reducible refine LH.x_lc ?_
  | with_reducible refine LH.x_fld ?_
  | with_reducible refine LH.x_sfld ?_
  | with_reducible refine LH.x_afld ?_
  | with_reducible refine LH.x_meth ?_
  | with_reducible refine LH.x_make ?_
  | with_reducible refine LH.x_methSl ?_
  | with_reducible refine LH.x_makeSl ?_
  | with_reducible refine LH.x_din ?_
  | with_reducible refine LH.x_dni ?_
  | with_reducible refine LH.x_dget ?_
  | with_reducible refine LH.x_dput ?_
  | with_reducible refine LH.x_dget2 ?_
  | with_reducible refine LH.x_dpop1 ?_
  | with_reducible refine LH.x_litems ?_
  | with_reducible refine LH.x_tru ?_
  | with_reducible refine LH.x_revL ?_
  | with_reducible refine LH.x_dsetT ?_
  | with_reducible refine LH.x_lvals ?_
  | with_reducible refine LH.br_nt ?_
  | with_reducible refine LH.br_nf ?_
  | with_reducible refine LH.br_t ?_
  | with_reducible refine LH.br_f ?_)
local macro_rules | `(tactic| walk_at "rs") => `(tactic| repeat (walk_at "rs1"))

section
variable {P : Program} {w : World} {K : PySem.W.Frag} {mg : Str → Option Value} {base : Heap} {a : Ad}
def spByPlace (K : PySem.W.Frag) : Sp := fun vs H Q _ => ∃ (q : Addr) (l : List VW), vs = [.ref q] ∧ SqL K H q (l.map (·.1)) ∧ WP K H l ∧ l.length ≤ 10000 ∧
  ∀ f H' kvs, Same H H' → H f = none → H' f = some (.dT kvs) → (∀ k, (atPl l k = [] → valV kvs k = none) ∧ (atPl l k ≠ [] → ∃ a, valV kvs k = some (.ref a) ∧ H' a = some (.lst ((atPl l k).map (·.1))))) → Q (.ref f) H'
theorem ok_words_by_place (T : Txt K mg a) : FnOk P w K mg base CX0 2 a.words_by_place a.d_words_by_place ["words"] (spByPlace K) := by
  have G_place := ok_place (P := P) (w := w) (base := base) T
  refine T.F_words_by_place.ok sc_words_by_place (fun vs H Q E h => ?_) (fun cdv A outer s H vs Q E hr h => ?_)
  · obtain ⟨q, l, rfl, _⟩ := h
    rfl
  · obtain ⟨q, l, rfl, hq, hw, hl, k⟩ := h
    have HR_place : Room 1 _ := hr.mono (by decide)
    refine ⟨_, (pss_cons (ps_set (i := 1) sc_words_by_place.nd rfl (Or.inl rfl) pe_dnewT)
  (pss_cons (ps_for PassesOwn.never rfl (pi_list (pv 0)) (pg_name (i := 2) sc_words_by_place.nd rfl (Or.inl rfl))
    (pss_one (ps_expr (pe_bm PySem.F.plainAttrs_list PySem.F.slot_list_append PySem.F.type_list_append mt_append (LH.pe_dsetdT (hu_of hr) (pv 1) (pe_call G_place HR_place rfl T.g_place T.F_place.kp T.b_place .nil pass0 (pa_cons (pv 2) pa_nil)) (pe_lst pa_nil) ⟨rfl, rfl, rfl, rfl⟩) (pa_cons (pv 2) pa_nil)))))
  (pss_one (ps_ret (pv 1))))), ?_⟩
    walk_at "rd"
    refine LH.x_dnewT fun f H1 f1 e1 g1 => ?_
    walk_at "rd"
    refine LH.for_L (Same.seq e1 hq) (fun i σ H' => (∃ v, σ = [some (.ref q), some (.ref f), v]) ∧ Same H H' ∧ ∃ kvs, H' f = some (.dT kvs) ∧ kvs.length ≤ i ∧
        (∀ k, (atPl (l.take i) k = [] → valV kvs k = none) ∧ (atPl (l.take i) k ≠ [] → ∃ a, valV kvs k = some (.ref a) ∧ H a = none ∧ H' a = some (.lst ((atPl (l.take i) k).map (·.1))))) ∧
        (∀ k1 k2 a, valV kvs k1 = some (.ref a) → valV kvs k2 = some (.ref a) → k1 = k2))
      ⟨⟨_, rfl⟩, e1, [], g1, Nat.le_refl _, fun k => ⟨fun _ => rfl, fun h => absurd rfl h⟩, fun _ _ _ h => by cases h⟩ (fun i σ H' _ p => Same.seq p.2.1 hq) ?_ ?_
    · rintro i x σ H2 hx ⟨⟨v, rfl⟩, e2, kvs, g2, lk, hk, inj⟩
      rw [List.getElem?_map] at hx
      obtain ⟨p, hp, rfl⟩ := Option.map_eq_some_iff.mp hx
      have hi : i < l.length := (List.getElem?_eq_some_iff.mp hp).1
      obtain ⟨b, eb, gb⟩ := (hw p (List.mem_of_getElem? hp)).up e2
      have at_succ : ∀ k, atPl (l.take (i + 1)) k = atPl (l.take i) k ++ if p.2.pl = k then [p] else [] := fun k => by
        unfold atPl
        rw [LH.take_more hp, List.filter_append]
        congr 1
        by_cases c : p.2.pl = k
        · simp [List.filter, c]
        · simp [List.filter, c]
      walk_at "rd"
      refine LH.sdv (LH.isdT g2) ?_
      walk_at "rd"
      rw [eb]
      refine ⟨b, _, _, _, _, rfl, gb, fun t H3 e3 g3 => ?_⟩
      walk_at "rd"
      refine LH.newl (LH.small rfl) fun n H4 f4 e4 g4 => ?_
      have e24 := e3.trans e4
      have fn : H n = none := LH.Same.none (e2.trans e3) f4
      refine LH.sdw (k := p.2.pl) (e24 _ _ g2) (e4 _ _ (by rw [pl_vs]; exact g3)) (by omega) (fun v hv => ?_) (fun hv H5 k5 g5 => ?_)
      · -- there already
        have ne : atPl (l.take i) p.2.pl ≠ [] := fun c => by rw [(hk _).1 c] at hv; cases hv
        obtain ⟨a0, ea, fa, ga⟩ := (hk p.2.pl).2 ne
        rw [hv] at ea
        injection ea with ea
        subst ea
        refine LH.bm_l (SqL.of (e24 _ _ ga)) ?_
        walk_at "rd"
        have small : ((atPl (l.take i) p.2.pl).map (·.1)).length ≤ 10000 := by
          rw [List.length_map]
          have h1 := List.length_filter_le (fun x : VW => decide (x.2.pl = p.2.pl)) (l.take i)
          unfold atPl
          rw [List.length_take] at h1
          omega
        refine LH.x_appK (e24 _ _ ga) (by omega) fun H5 k5 g5 => ?_
        walk_at "rd"
        have af : a0 ≠ f := fun e => by
          rw [e, g2] at ga
          cases ga
        have kp : ∀ b o, H b = some o → b ≠ a0 := fun b o hb e => by rw [e, fa] at hb; cases hb
        refine ⟨⟨_, rfl⟩, fun b o hb => k5 _ _ (e24 _ _ (e2 _ _ hb)) (kp b o hb), kvs, k5 _ _ (e24 _ _ g2) af.symm, by omega, fun k => ?_, inj⟩
        rw [at_succ]
        by_cases c : p.2.pl = k
        · subst c
          rw [if_pos rfl]
          refine ⟨fun h => absurd h (by simp), fun _ => ⟨a0, hv, fa, ?_⟩⟩
          rw [List.map_append, g5]
          simp [eb]
        · rw [if_neg c, List.append_nil]
          refine ⟨(hk k).1, fun h => ?_⟩
          obtain ⟨a1, h1, h2, h3⟩ := (hk k).2 h
          refine ⟨a1, h1, h2, k5 _ _ (e24 _ _ h3) fun e => c (inj _ _ a0 hv (by rw [← e]; exact h1))⟩
      · -- a new place
        have nf : f ≠ n := ne_of_none (e3 _ _ g2) f4
        have empty : atPl (l.take i) p.2.pl = [] := by
          cases c : atPl (l.take i) p.2.pl with
          | nil => rfl
          | cons u us =>
            obtain ⟨a1, h1, _⟩ := (hk p.2.pl).2 (by rw [c]; exact List.cons_ne_nil _ _)
            rw [hv] at h1
            cases h1
        have g5n : H5 n = some (.lst []) := k5 _ _ g4 nf.symm
        refine LH.bm_l (SqL.of g5n) ?_
        walk_at "rd"
        refine LH.x_appK g5n (by decide) fun H6 k6 g6 => ?_
        walk_at "rd"
        have e06 : Same H H6 := fun b0 o hb => k6 _ _ (k5 _ _ (e24 _ _ (e2 _ _ hb)) (fun e => by rw [e, f1] at hb; cases hb)) (fun e => by rw [e, fn] at hb; cases hb)
        have olds : ∀ {k0 : List Key} {a1 : Addr}, valV kvs k0 = some (.ref a1) → H a1 = none → ∀ {xs : List V}, H2 a1 = some (.lst xs) → a1 ≠ n ∧ H6 a1 = some (.lst xs) := fun {k0 a1} _ _ {xs} h3 => by
          have n1 : a1 ≠ n := ne_of_none (e3 _ _ h3) f4
          have n2 : a1 ≠ f := fun e => by rw [e, g2] at h3; cases h3
          exact ⟨n1, k6 _ _ (k5 _ _ (e24 _ _ h3) n2) n1⟩
        refine ⟨⟨_, rfl⟩, e06, putK kvs p.2.pl (.ref n), k6 _ _ g5 nf, by have := length_putK kvs p.2.pl (V.ref n); omega, fun k0 => ?_, fun k1 k2 a1 h1 h2 => ?_⟩
        · rw [at_succ]
          by_cases c : p.2.pl = k0
          · subst c
            rw [if_pos rfl]
            refine ⟨fun h => absurd h (by simp), fun _ => ⟨n, by rw [valV_put, if_pos rfl], fn, ?_⟩⟩
            rw [empty, g6]
            simp [eb]
          · rw [if_neg c, List.append_nil, valV_put, if_neg (fun e => c e.symm)]
            refine ⟨(hk k0).1, fun h => ?_⟩
            obtain ⟨a1, h1, h2, h3⟩ := (hk k0).2 h
            exact ⟨a1, h1, h2, (olds h1 h2 h3).2⟩
        · rw [valV_put] at h1 h2
          have not_n : ∀ k0, valV kvs k0 ≠ some (.ref n) := fun k0 e => by
            have ne : atPl (l.take i) k0 ≠ [] := fun c => by rw [(hk _).1 c] at e; cases e
            obtain ⟨a2, ea, h4, h5⟩ := (hk k0).2 ne
            rw [e] at ea
            injection ea with ea
            injection ea with ea
            exact (olds (k0 := k0) (by rw [e, ea]) h4 h5).1 ea.symm
          by_cases c1 : k1 = p.2.pl
          · rw [if_pos c1] at h1
            injection h1 with h1
            injection h1 with h1
            by_cases c2 : k2 = p.2.pl
            · rw [c1, c2]
            · rw [if_neg c2, ← h1] at h2
              exact absurd h2 (not_n k2)
          · rw [if_neg c1] at h1
            by_cases c2 : k2 = p.2.pl
            · rw [if_pos c2] at h2
              injection h2 with h2
              injection h2 with h2
              rw [← h2] at h1
              exact absurd h1 (not_n k1)
            · rw [if_neg c2] at h2
              exact inj k1 k2 a1 h1 h2
    · rintro σ H2 ⟨⟨v, rfl⟩, e2, kvs, g2, lk, hk, inj⟩
      walk_at "rd"
      have tl : l.take (l.map (·.1)).length = l := by rw [List.length_map, List.take_length]
      rw [tl] at hk
      refine k f H2 kvs e2 f1 g2 fun k => ⟨(hk k).1, fun h => ?_⟩
      obtain ⟨a1, h1, _, h3⟩ := (hk k).2 h
      exact ⟨a1, h1, h3⟩
def spBlamed (K : PySem.W.Frag) : Sp := fun vs H Q _ => ∃ (q1 q2 : Addr) (l1 l2 : List VW) (c : Nat), vs = [.ref q1, .ref q2] ∧ SqL K H q1 (l1.map (·.1)) ∧ SqL K H q2 (l2.map (·.1)) ∧ WP K H l1 ∧ WP K H l2 ∧ l1.length ≤ 1000 ∧ l2.length ≤ 1000 ∧ c ≤ 50 ∧ (∀ p ∈ l1, 0 ≤ p.2.h ∧ p.2.h < c) ∧
  ∀ r H' ys, Same H H' → H r = none → H' r = some (.lst ys) → Paired (Bt H') (blamedL l1 l2 c) ys → Q (.ref r) H'
theorem ok_blamed (T : Txt K mg a) : FnOk P w K mg base CX0 3 a.blamed a.d_blamed ["ones", "others"] (spBlamed K) := by
  have G_place := ok_place (P := P) (w := w) (base := base) T
  have G_words_by_place := ok_words_by_place (P := P) (w := w) (base := base) T
  refine T.F_blamed.ok sc_blamed (fun vs H Q E h => ?_) (fun cdv A outer s H vs Q E hr h => ?_)
  · obtain ⟨q1, q2, l1, l2, c, rfl, _⟩ := h
    rfl
  · obtain ⟨q1, q2, l1, l2, c, rfl, hq1, hq2, hw1, hw2, hl1, hl2, hc, hh, k⟩ := h
    have HR_place : Room 1 _ := hr.mono (by decide)
    have HR_words_by_place : Room 2 _ := hr.mono (by decide)
    refine ⟨_, (pss_cons (ps_set (i := 2) sc_blamed.nd rfl (Or.inl rfl) (pe_call G_words_by_place HR_words_by_place rfl T.g_words_by_place T.F_words_by_place.kp T.b_words_by_place .nil pass0 (pa_cons (pv 1) pa_nil)))
  (pss_cons (ps_set (i := 3) sc_blamed.nd rfl (Or.inr rfl) pe_dnewK)
  (pss_cons (ps_for PassesOwn.never rfl (pi_list (pv 0)) (pg_name (i := 4) sc_blamed.nd rfl (Or.inr rfl))
    (pss_cons (ps_set (i := 5) sc_blamed.nd rfl (Or.inl rfl) (pe_ix (r := rIxT K) ix_tup (pv 4) pe_int (fun _ _ => rfl)))
    (pss_cons (ps_setLc (i := 6) (own := [("other", 7)]) (g := gName 7) rfl sc_blamed.nd rfl rfl rfl (pi_list (pe_dget2 (hu_of hr) (pv 2) (pe_call G_place HR_place rfl T.g_place T.F_place.kp T.b_place .nil pass0 (pa_cons (pv 4) pa_nil)) (pe_lst pa_nil) ⟨rfl, rfl, rfl, rfl⟩)) (blkOk_by (N := N_blamed) (sc := defScope s_blamed) (by decide +kernel)) (fun _ _ _ _ _ => pg_name (i := 7) sc_blamed.nd rfl (Or.inl rfl)) (fun _ _ _ _ _ => (pts_one (pt_cmpR op_ne (pe_ix (r := rIxT K) ix_tup (pv 7) pe_int (fun _ _ => rfl)) (pe_ix (r := rIxT K) ix_tup (pv 4) pe_int (fun _ _ => rfl)) (nomark _)))) (fun _ _ _ _ _ => (pv 7)))
    (pss_one (ps_if (PW.pt (pw_and (LH.pt_truthN (pv 6) (by intro _; rfl)) (pw_and1 (pt_cmp (pc_dnotin (hu_of hr) (pv 5) (pv 3))))))
      (pss_one (ps_dput (hu_of hr) (pv 3) (pv 5) (pe_tup (pa_cons (pv 5) (pa_cons (pv 4) (pa_cons (pe_ix (r := rIxL K) ix_list (pv 6) pe_int (fun _ _ => rfl)) pa_nil)))) rfl))
      pss_nil)))))
  (pss_one (ps_ret (pe_lc (own := [("house", 5)]) (g := gName 5) (tt := tYes) rfl sc_blamed.nd (pi_list (pe_callB (LH.call_srtD rfl) rfl T.n_sorted (by decide +kernel) (pa_cons (pv 3) pa_nil))) (blkOk_by (N := N_blamed) (sc := defScope s_blamed) (by decide +kernel)) (fun _ _ _ _ _ => pg_name (i := 5) sc_blamed.nd rfl (Or.inl rfl)) (fun _ _ _ _ _ => pts_nil) (fun _ _ _ _ _ => (pe_dget (hu_of hr) (pv 3) (pv 5) (fun _ _ => rfl))))))))), ?_⟩
    walk_at "rd"
    refine ⟨q2, l2, rfl, hq2, hw2, by omega, fun f H1 kv2 e1 f1 g1 hk => ?_⟩
    walk_at "rd"
    refine LH.x_dnew fun d H2 f2 e2 g2 => ?_
    walk_at "rd"
    have e02 := e1.trans e2
    have fd : H d = none := LH.Same.none e1 f2
    refine LH.for_L (Same.seq e02 hq1) (fun i σ H' => (∃ v4 v5 v6 v7, σ = [some (.ref q1), some (.ref q2), some (.ref f), some (.ref d), v4, v5, v6, v7]) ∧ Same H1 H' ∧ ∃ kvs ks, H' d = some (.dK kvs) ∧ kvs.map (·.1) = (ks : List Int).map Sum.inl ∧ ks.Nodup ∧ (∀ h ∈ ks, 0 ≤ h ∧ h < c) ∧
        (∀ h : Int, h ∈ ks ↔ (firstP (l1.take i) l2 h).isSome = true) ∧
        (∀ (h : Int), (firstP (l1.take i) l2 h = none → valV kvs (Sum.inl h) = none) ∧ ∀ x, firstP (l1.take i) l2 h = some x → ∃ t, valV kvs (Sum.inl h) = some (.ref t) ∧ H' t = some (.tup [.int h, x.1.1, x.2.1])))
      ⟨⟨_, _, _, _, rfl⟩, e2, [], [], g2, rfl, List.nodup_nil, (fun _ h => by cases h), (fun h => ⟨fun m => (by cases m), fun m => (by cases m)⟩), fun h => ⟨fun _ => rfl, fun x e => (by cases e)⟩⟩ (fun i σ H' _ p => Same.seq (e1.trans p.2.1) hq1) ?_ ?_
    · rintro i x σ H3 hx ⟨⟨v4, v5, v6, v7, rfl⟩, e3, kvs, ks, g3, ek, nd, rg, mk, hv⟩
      rw [List.getElem?_map] at hx
      obtain ⟨p, hp, rfl⟩ := Option.map_eq_some_iff.mp hx
      have hmem := List.mem_of_getElem? hp
      obtain ⟨b, eb, gb⟩ := (hw1 p hmem).up (e1.trans e3)
      have hw23 := hw2.up (e1.trans e3)
      have at_succ : ∀ h, firstP (l1.take (i + 1)) l2 h = (firstP (l1.take i) l2 h).or (if p.2.h = h then (l2.find? fun q => unl p.2 q.2).map fun q => (p, q) else none) := fun h => by
        rw [LH.take_more hp, firstP_snoc]
      rw [eb]
      walk_at "rd"
      refine LH.x_ixT (v := .int p.2.h) gb rfl ?_
      walk_at "rd"
      have gf := e3 _ _ g1
      refine LH.get2v (LH.isdT gf) ?_
      walk_at "rd"
      refine ⟨b, _, _, _, _, rfl, gb, fun t H4 e4 g4 => ?_⟩
      walk_at "rd"
      refine LH.newl (LH.small rfl) fun n H5 f5 e5 g5 => ?_
      walk_at "rd"
      have e35 := e4.trans e5
      refine LH.get2w (LH.getT (k := p.2.pl) (e35 _ _ gf) (e5 _ _ (by rw [pl_vs]; exact g4))) ?_
      obtain ⟨A1, eA, gA⟩ : ∃ A1, (valV kv2 p.2.pl).getD (.ref n) = .ref A1 ∧ H5 A1 = some (.lst ((atPl l2 p.2.pl).map (·.1))) := by
        by_cases c0 : atPl l2 p.2.pl = []
        · refine ⟨n, by rw [(hk _).1 c0]; rfl, ?_⟩
          rw [c0]
          exact g5
        · obtain ⟨a1, h1, h2⟩ := (hk _).2 c0
          exact ⟨a1, by rw [h1]; rfl, e35 _ _ (e3 _ _ h2)⟩
      rw [eA]
      have la : ((atPl l2 p.2.pl).map (·.1)).length ≤ 100000 := by
        rw [List.length_map]
        have := List.length_filter_le (fun u : VW => decide (u.2.pl = p.2.pl)) l2
        unfold atPl
        omega
      refine LH.lc_Li (SqL.of gA) la ((atPl l2 p.2.pl).map fun u => if decide (u.2.r = p.2.r) = false then some u.1 else none) (by rw [List.length_map, List.length_map]) (fun _ => rfl) ?_ ?_ fun D H6 f6 e6 g6 => ?_
      · intro j x o hx ho H6 e6 Q3 q3
        rw [List.getElem?_map] at hx ho
        obtain ⟨u, hu, rfl⟩ := Option.map_eq_some_iff.mp hx
        rw [hu] at ho
        injection ho with ho
        subst ho
        have mu : u ∈ l2 := (List.mem_filter.mp (List.mem_of_getElem? hu)).1
        obtain ⟨bu, eu, gu⟩ := (hw23 u mu).up (e35.trans e6)
        rw [eu]
        walk_at "rd"
        refine LH.x_ixT (v := .str u.2.r) gu rfl ?_
        walk_at "rd"
        refine LH.x_ixT (v := .str p.2.r) (LH.Same.seqT (e35.trans e6) gb) rfl ?_
        walk_at "rd"
        rw [dstr]
        have e : (if decide (u.2.r = p.2.r) = false then some (V.ref bu) else none).isSome = !decide (u.2.r = p.2.r) := by
          cases decide (u.2.r = p.2.r) <;> rfl
        have q3' : Q3 (if decide (u.2.r = p.2.r) = false then some u.1 else none).isSome H6 := q3 _ (Same.refl H6)
        rw [eu, e] at q3'
        exact q3'
      · intro j x y hx ho H6 e6 Q3 q3
        rw [List.getElem?_map] at hx ho
        obtain ⟨u, hu, rfl⟩ := Option.map_eq_some_iff.mp hx
        rw [hu] at ho
        injection ho with ho
        have ho : (if decide (u.2.r = p.2.r) = false then some u.1 else none) = some y := ho
        walk_at "rd"
        have : y = u.1 := by
          by_cases c1 : decide (u.2.r = p.2.r) = false
          · rw [if_pos c1] at ho
            injection ho with ho
            exact ho.symm
          · rw [if_neg c1] at ho
            cases ho
        rw [← this]
        exact q3 _ (Same.refl _)
      rw [unl_filter] at g6
      walk_at "rd"
      have e36 := e35.trans e6
      have ef := find_filter (fun u : VW => unl p.2 u.2) l2
      have dh : ∀ {h : Int}, (l2.find? fun q => unl p.2 q.2) = none → firstP (l1.take (i + 1)) l2 h = firstP (l1.take i) l2 h := fun {h} e => by
        rw [at_succ, e]
        cases firstP (l1.take i) l2 h <;> simp
      have stay : ∀ (σ' : L2.St), (∃ v4 v5 v6 v7, σ' = [some (.ref q1), some (.ref q2), some (.ref f), some (.ref d), v4, v5, v6, v7]) → ∀ H7, Same H3 H7 → (∀ h, firstP (l1.take (i + 1)) l2 h = firstP (l1.take i) l2 h) →
          ((∃ v4 v5 v6 v7, σ' = [some (.ref q1), some (.ref q2), some (.ref f), some (.ref d), v4, v5, v6, v7]) ∧ Same H1 H7 ∧ ∃ kvs ks, H7 d = some (.dK kvs) ∧ kvs.map (·.1) = (ks : List Int).map Sum.inl ∧ ks.Nodup ∧ (∀ h ∈ ks, 0 ≤ h ∧ h < c) ∧
            (∀ h : Int, h ∈ ks ↔ (firstP (l1.take (i + 1)) l2 h).isSome = true) ∧
            (∀ (h : Int), (firstP (l1.take (i + 1)) l2 h = none → valV kvs (Sum.inl h) = none) ∧ ∀ x, firstP (l1.take (i + 1)) l2 h = some x → ∃ t, valV kvs (Sum.inl h) = some (.ref t) ∧ H7 t = some (.tup [.int h, x.1.1, x.2.1]))) := fun σ' hσ H7 e7 same => by
        refine ⟨hσ, e3.trans e7, kvs, ks, e7 _ _ g3, ek, nd, rg, fun h => by rw [same]; exact mk h, fun h => ⟨fun e => (hv h).1 (by rw [← same]; exact e), fun x e => ?_⟩⟩
        obtain ⟨t, h1, h2⟩ := (hv h).2 x (by rw [← same]; exact e)
        exact ⟨t, h1, e7 _ _ h2⟩
      refine LH.tru_l (SqL.of g6) ?_
      cases eU : l2.filter (fun u => unl p.2 u.2) with
      | nil =>
        rw [eU] at ef
        refine LH.br_f ?_
        walk_at "rd"
        exact stay _ ⟨_, _, _, _, rfl⟩ _ e36 fun h => dh ef
      | cons u us =>
        rw [eU] at ef g6
        refine LH.br_t ?_
        walk_at "rd"
        refine LH.niv (LH.getI (e36 _ _ g3)) ?_
        walk_at "rd"
        cases ev : valV kvs (Sum.inl p.2.h) with
        | some v0 =>
          refine LH.br_f ?_
          walk_at "rd"
          refine stay _ ⟨_, _, _, _, rfl⟩ _ e36 fun h => ?_
          rw [at_succ]
          by_cases ch : p.2.h = h
          · subst ch
            cases e : firstP (l1.take i) l2 p.2.h with
            | none => rw [(hv _).1 e] at ev; cases ev
            | some x => rfl
          · rw [if_neg ch]
            cases firstP (l1.take i) l2 h <;> rfl
        | none =>
          refine LH.br_t ?_
          walk_at "rd"
          refine LH.x_ixL (v := u.1) (SqL.of g6) (by exact atI_nat (j := 0) rfl) ?_
          walk_at "rd"
          refine LH.newt (LH.small rfl) fun t7 H7 f7 e7 g7 => ?_
          walk_at "rd"
          have e37 := e36.trans e7
          have lk : kvs.length ≤ 50 := by
            have h1 := congrArg List.length ek
            rw [List.length_map, List.length_map] at h1
            have := nodup_le c ks nd rg
            omega
          refine LH.putvI (e37 _ _ g3) (by omega) fun H8 k8 g8 => ?_
          walk_at "rd"
          have old : firstP (l1.take i) l2 p.2.h = none := by
            cases e : firstP (l1.take i) l2 p.2.h with
            | none => rfl
            | some x =>
              obtain ⟨t, h1, _⟩ := (hv _).2 x e
              rw [h1] at ev
              cases ev
          have td : t7 ≠ d := (ne_of_none (e36 _ _ g3) f7).symm
          have s18 : Same H1 H8 := fun b0 o hb => k8 _ _ (e37 _ _ (e3 _ _ hb)) (fun e => by rw [e, f2] at hb; cases hb)
          refine ⟨⟨_, _, _, _, rfl⟩, s18, putK kvs (Sum.inl p.2.h) (.ref t7), ks ++ [p.2.h], g8, ?_, ?_, ?_, fun h => ?_, fun h => ?_⟩
          · rw [putK_new _ ev, List.map_append, ek, List.map_append]
            rfl
          · rw [List.nodup_append]
            refine ⟨nd, by simp, fun y hy z hz e => ?_⟩
            rw [List.mem_singleton.mp hz] at e
            have := (mk y).mp hy
            rw [e, old] at this
            cases this
          · intro h hm
            rcases List.mem_append.mp hm with hm | hm
            · exact rg h hm
            · rw [List.mem_singleton.mp hm]
              exact hh p hmem
          · rw [at_succ, List.mem_append, List.mem_singleton, mk h, ef]
            by_cases ch : p.2.h = h
            · subst ch
              rw [if_pos rfl, old]
              simp
            · rw [if_neg ch, Option.or_none]
              exact ⟨fun q => q.elim id fun e => absurd e.symm ch, .inl⟩
          · rw [at_succ, ef, valV_put]
            by_cases ch : p.2.h = h
            · subst ch
              rw [if_pos rfl, old, if_pos rfl]
              refine ⟨fun e => (by cases e), fun x e => ⟨t7, rfl, ?_⟩⟩
              injection e with e
              subst e
              rw [eb]
              exact k8 _ _ g7 td
            · rw [if_neg ch, Option.or_none, if_neg (fun e => ch (Sum.inl.inj e).symm)]
              refine ⟨(hv h).1, fun x e => ?_⟩
              obtain ⟨t, h1, h2⟩ := (hv h).2 x e
              have : t ≠ d := fun q => by rw [q, g3] at h2; cases h2
              exact ⟨t, h1, k8 _ _ (e37 _ _ h2) this⟩
    · rintro σ H3 ⟨⟨v4, v5, v6, v7, rfl⟩, e3, kvs, ks, g3, ek, nd, rg, mk, hv⟩
      have tl : l1.take (l1.map (·.1)).length = l1 := by rw [List.length_map, List.take_length]
      rw [tl] at mk hv
      walk_at "rd"
      have lk := nodup_le c ks nd rg
      refine LH.x_srtD g3 ek (by omega) fun ys p1 H4 perm rise f4 e4 g4 => ?_
      let val : V → V := fun x => match x with
        | .int h => (valV kvs (Sum.inl h)).getD .non
        | _ => .non
      have have_ : ∀ h ∈ ys, ∃ t x, firstP l1 l2 h = some x ∧ valV kvs (Sum.inl h) = some (.ref t) ∧ H3 t = some (.tup [.int h, x.1.1, x.2.1]) := fun h hm => by
        have := (mk h).mp (perm.mem_iff.mp hm)
        obtain ⟨x, ex⟩ := Option.isSome_iff_exists.mp this
        obtain ⟨t, h1, h2⟩ := (hv h).2 x ex
        exact ⟨t, x, ex, h1, h2⟩
      refine LH.lc_L (SqL.of g4) (by rw [List.length_map, perm.length_eq]; omega) (fun _ => true) val (fun _ => rfl) ?_ ?_ fun r H5 f5 e5 g5 => ?_
      · intro x hx H5 e5 Q3 q3
        walk_at "rd"
        exact q3 _ (Same.refl _)
      · intro x hx _ H5 e5 Q3 q3
        obtain ⟨h, hm, rfl⟩ := List.mem_map.mp hx
        obtain ⟨t, x, _, h1, _⟩ := have_ h hm
        walk_at "rd"
        refine LH.getv (LH.getI ((e4.trans e5) _ _ g3)) h1 ?_
        have q4 := q3 _ (Same.refl H5)
        have : val (.int h) = .ref t := by
          show (valV kvs (Sum.inl h)).getD .non = _
          rw [h1]
          rfl
        rw [this] at q4
        exact q4
      walk_at "rd"
      have e05 : Same H H5 := ((e1.trans e3).trans e4).trans e5
      have eys : ys = ((List.range c).filter fun (h : Nat) => (firstP l1 l2 h).isSome).map fun (h : Nat) => (h : Int) := by
        refine rise_eq rise ?_ (perm.nodup_iff.mpr nd) ?_ fun x => ?_
        · rw [List.pairwise_map]
          refine List.Pairwise.imp (R := fun a b : Nat => a < b) (fun {a b} h => by omega) ?_
          exact List.Pairwise.filter _ List.pairwise_lt_range
        · refine List.Pairwise.map _ (fun a b (h : a ≠ b) => ?_) (List.Pairwise.filter _ List.nodup_range)
          show (a : Int) ≠ (b : Int)
          omega
        · rw [perm.mem_iff, mk x]
          constructor
          · intro h
            obtain ⟨h1, h2⟩ := rg x ((mk x).mpr h)
            refine List.mem_map.mpr ⟨x.toNat, List.mem_filter.mpr ⟨List.mem_range.mpr (by omega), ?_⟩, by omega⟩
            have : ((x.toNat : Nat) : Int) = x := by omega
            rw [this]
            exact h
          · intro h
            obtain ⟨j, hj, e⟩ := List.mem_map.mp h
            rw [← e]
            exact (List.mem_filter.mp hj).2
      refine k r H5 _ e05 (LH.Same.none ((e1.trans e3).trans e4) f5) g5 ?_
      have el : ((List.map V.int ys).filter fun _ => true).map val = ((List.range c).filter fun (h : Nat) => (firstP l1 l2 h).isSome).map fun (h : Nat) => val (.int (h : Int)) := by
        rw [List.filter_eq_self.mpr (fun _ _ => rfl), eys, List.map_map, List.map_map]
        rfl
      rw [el]
      refine paired_blamed (fun h => val (.int h)) (List.range c) fun h hm x ex => ?_
      obtain ⟨t, h1, h2⟩ := (hv h).2 x ex
      refine ⟨t, ?_, (e4.trans e5) _ _ h2⟩
      show (valV kvs (Sum.inl (h : Int))).getD .non = _
      rw [h1]
      rfl
end
end K5
namespace K5
open PySem L2 LM
local macro_rules | `(tactic| walk_at "rd1") => `(tactic| first
  | with_reducible refine LH.x_seq ?_
  | with_reducible refine LH.x_asg ?_
  | with_reducible refine LH.x_cons ?_
  | with_reducible refine LH.x_var (by with_unfolding_all exact rfl) ?_
  | with_reducible refine LH.x_c ?_
  | with_reducible refine LH.x_op ?_
  | with_reducible refine LH.x_gname ?_
  | with_reducible refine LH.x_nil ?_
  | with_reducible refine LH.x_I0 ?_
  | ((with_reducible refine LH.x_I ?k1 ?_); (case k1 => first | exact (by decide) | exact ⟨by decide, by decide⟩ | exact ⟨by decide, by decide, by decide⟩ | exact .inl ⟨by decide, by decide⟩ | exact .inr ⟨by decide, by decide⟩ | exact .inr ⟨by omega, by omega⟩ | exact .inl ⟨by omega, by omega⟩ | exact (by omega)))
  | with_reducible refine LH.x_ifS ?_
  | with_reducible refine LH.x_test ?_
  | with_reducible refine LH.x_tB ?_
  | with_reducible refine LH.bx ?_
  | with_reducible refine LH.x_and ?_
  | with_reducible refine LH.x_or ?_
  | with_reducible refine LH.x_not ?_
  | with_reducible refine LH.x_ret ?_
  | with_reducible refine LH.x_call ?_
  | with_reducible refine LH.x_cb ?_
  | with_reducible refine LH.x_lst ?_
  | with_reducible refine LH.x_tup ?_
  | with_reducible refine LH.x_bm ?_
  | with_reducible refine LH.x_drop ?_
  | with_reducible refine LH.x_next ?_
  | with_reducible refine LH.x_cont ?_
  | with_reducible refine LH.x_un ?_
  | with_reducible refine LH.x_U ?_
  | with_reducible refine LH.x_eq (by with_unfolding_all exact rfl) ?_
  | with_reducible refine LH.x_ne (by with_unfolding_all exact rfl) ?_
  | with_reducible refine LH.x_andV ?_
  | with_reducible refine LH.x_orV ?_
  | with_reducible refine LH.x_notV ?_
  | with_reducible refine LH.band ?_
  | with_reducible refine LH.bor ?_
  | with_reducible refine LH.x_if ?_
  | with_reducible refine LH.x_chain ?_
  | with_reducible refine LH.chk ?_
  | with_reducible refine LH.x_callS ?_
  | with_reducible refine LH.x_callE ?_
  | with_reducible refine LH.x_callV ?_
  | with_reducible refine LH.x_lrg ?_
  | with_reducible refine LH.x_lcS ?_
  | with_reducible refine LH.x_lcR1 ?_
  | with_reducible refine LH.x_forR1 ?_
  | with_reducible refine LH.x_forR3 ?_
  | with_reducible refine LH.strv ?_
  | with_reducible refine LH.x_yes ?_
  | with_reducible refine LH.x_sl ?_
  | with_reducible refine LH.x_noPart ?_
  | with_reducible refine LH.x_part ?_
  | with_reducible refine LH.pav ?_
  | with_reducible refine LH.x_jnv ?_
  | with_reducible refine LH.x_join ?_
  | with_reducible refine LH.x_inS ?_
  | with_reducible refine LH.x_niS ?_
  | with_reducible refine LH.x_isB ?_
  | with_reducible refine LH.x_isnB ?_
  | with_reducible refine LH.x_gcons ?_
  | with_reducible refine LH.x_gnil ?_
  | with_reducible refine LH.x_intB ?_
  | with_reducible refine LH.x_orT ?_
  | with_reducible refine LH.x_isTy ?_
  | with_reducible refine LH.x_niTy ?_
  | with_reducible refine LH.x_split ?_
  | with_reducible refine LH.x_spv ?_
  | with_reducible refine LH.x_gsub ?_
  | with_reducible refine LH.x_fmt ?_
  | with_reducible refine LH.x_js0 ?_
  | with_reducible refine LH.x_js ?_
  | with_reducible refine LH.x_rg1 ?_
  | with_reducible refine LH.x_forL ?_
  | with_reducible refine LH.x_abs ?_
  | with_reducible refine LH.x_rg2 ?_
  | with_reducible refine LH.rg1v ?_
  | with_reducible refine LH.rg2v ?_
  | with_reducible refine LH.x_forR2 ?_
  | with_reducible refine LH.x_lenSetG ?_
  | with_reducible refine LH.x_lc ?_
  | with_reducible refine LH.x_fld ?_
  | with_reducible refine LH.x_sfld ?_
  | with_reducible refine LH.x_afld ?_
  | with_reducible refine LH.x_meth ?_
  | with_reducible refine LH.x_make ?_
  | with_reducible refine LH.x_methSl ?_
  | with_reducible refine LH.x_makeSl ?_
  | with_reducible refine LH.x_din ?_
  | with_reducible refine LH.x_dni ?_
  | with_reducible refine LH.x_dget ?_
  | with_reducible refine LH.x_dput ?_
  | with_reducible refine LH.x_dget2 ?_
  | with_reducible refine LH.x_dpop1 ?_
  | with_reducible refine LH.x_litems ?_
  | with_reducible refine LH.x_tru ?_
  | with_reducible refine LH.x_revL ?_
  | with_reducible refine LH.x_dsetT ?_
  | with_reducible refine LH.x_lvals ?_
  | with_reducible refine LH.br_nt ?_
  | with_reducible refine LH.br_nf ?_
  | with_reducible refine LH.br_t ?_
  | with_reducible refine LH.br_f ?_)
local macro_rules | `(tactic| walk_at "rd") => `(tactic| repeat (walk_at "rd1"))
local macro_rules | `(tactic| walk_at "rs1") => `(tactic| first
  | with_reducible refine LH.x_seq ?_
  | with_reducible refine LH.x_cons ?_
  | with_reducible refine LH.x_var (by with_unfolding_all exact rfl) ?_
  | with_reducible refine LH.x_c ?_
  | with_reducible refine LH.x_op ?_
  | with_reducible refine LH.x_gname ?_
  | with_reducible refine LH.x_nil ?_
  | with_reducible refine LH.x_I0 ?_
  | ((with_reducible refine LH.x_I ?k1 ?_); (case k1 => first | exact (by decide) | exact ⟨by decide, by decide⟩ | exact ⟨by decide, by decide, by decide⟩ | exact .inl ⟨by decide, by decide⟩ | exact .inr ⟨by decide, by decide⟩ | exact .inr ⟨by omega, by omega⟩ | exact .inl ⟨by omega, by omega⟩ | exact (by omega)))
  | with_reducible refine LH.x_test ?_
  | with_reducible refine LH.x_tB ?_
  | with_reducible refine LH.bx ?_
  | with_reducible refine LH.x_and ?_
  | with_reducible refine LH.x_or ?_
  | with_reducible refine LH.x_not ?_
  | with_reducible refine LH.x_call ?_
  | with_reducible refine LH.x_cb ?_
  | with_reducible refine LH.x_lst ?_
  | with_reducible refine LH.x_tup ?_
  | with_reducible refine LH.x_bm ?_
  | with_reducible refine LH.x_drop ?_
  | with_reducible refine LH.x_next ?_
  | with_reducible refine LH.x_cont ?_
  | with_reducible refine LH.x_un ?_
  | with_reducible refine LH.x_U ?_
  | with_reducible refine LH.x_eq (by with_unfolding_all exact rfl) ?_
  | with_reducible refine LH.x_ne (by with_unfolding_all exact rfl) ?_
  | with_reducible refine LH.x_andV ?_
  | with_reducible refine LH.x_orV ?_
  | with_reducible refine LH.x_notV ?_
  | with_reducible refine LH.band ?_
  | with_reducible refine LH.bor ?_
  | with_reducible refine LH.x_if ?_
  | with_reducible refine LH.x_chain ?_
  | with_reducible refine LH.chk ?_
  | with_reducible refine LH.x_callS ?_
  | with_reducible refine LH.x_callE ?_
  | with_reducible refine LH.x_callV ?_
  | with_reducible refine LH.x_lrg ?_
  | with_reducible refine LH.x_lcS ?_
  | with_reducible refine LH.x_lcR1 ?_
  | with_reducible refine LH.strv ?_
  | with_reducible refine LH.x_yes ?_
  | with_reducible refine LH.x_sl ?_
  | with_reducible refine LH.x_noPart ?_
  | with_reducible refine LH.x_part ?_
  | with_reducible refine LH.pav ?_
  | with_reducible refine LH.x_jnv ?_
  | with_reducible refine LH.x_join ?_
  | with_reducible refine LH.x_inS ?_
  | with_reducible refine LH.x_niS ?_
  | with_reducible refine LH.x_isB ?_
  | with_reducible refine LH.x_isnB ?_
  | with_reducible refine LH.x_gcons ?_
  | with_reducible refine LH.x_gnil ?_
  | with_reducible refine LH.x_intB ?_
  | with_reducible refine LH.x_orT ?_
  | with_reducible refine LH.x_isTy ?_
  | with_reducible refine LH.x_niTy ?_
  | with_reducible refine LH.x_split ?_
  | with_reducible refine LH.x_spv ?_
  | with_reducible refine LH.x_gsub ?_
  | with_reducible refine LH.x_fmt ?_
  | with_reducible refine LH.x_js0 ?_
  | with_reducible refine LH.x_js ?_
  | with_reducible refine LH.x_rg1 ?_
  | with_reducible refine LH.x_abs ?_
  | with_reducible refine LH.x_rg2 ?_
  | with_reducible refine LH.rg1v ?_
  | with_reducible refine LH.rg2v ?_
  | with_reducible refine LH.x_lenSetG ?_
  | with_reducible refine LH.x_lc ?_
  | with_reducible refine LH.x_fld ?_
  | with_reducible refine LH.x_sfld ?_
  | with_reducible refine LH.x_afld ?_
  | with_reducible refine LH.x_meth ?_
  | with_reducible refine LH.x_make ?_
  | with_reducible refine LH.x_methSl ?_
  | with_reducible refine LH.x_makeSl ?_
  | with_reducible refine LH.x_din ?_
  | with_reducible refine LH.x_dni ?_
  | with_reducible refine LH.x_dget ?_
  | with_reducible refine LH.x_dput ?_
  | with_reducible refine LH.x_dget2 ?_
  | with_reducible refine LH.x_dpop1 ?_
  | with_reducible refine LH.x_litems ?_
  | with_reducible refine LH.x_tru ?_
  | with_reducible refine LH.x_revL ?_
  | with_reducible refine LH.x_dsetT ?_
  | with_reducible refine LH.x_lvals ?_
  | with_reducible refine LH.br_nt ?_
  | with_reducible refine LH.br_nf ?_
  | with_reducible refine LH.br_t ?_
  | with_reducible refine LH.br_f ?_)
local macro_rules | `(tactic| walk_at "rs") => `(tactic| repeat (walk_at "rs1"))

section
variable {P : Program} {w : World} {K : PySem.W.Frag} {mg : Str → Option Value} {base : Heap} {a : Ad}
def spEn : Sp := fun vs H Q _ => ∃ c : Int, vs = [.int c] ∧ 1 ≤ c ∧ c ≤ 12 ∧ Q (.int (en c)) H
theorem ok__law_enough (T : Txt K mg a) : FnOk P w K mg base CX0 1 a._law_enough a.d__law_enough ["_law_count"] spEn := by
  refine T.F__law_enough.ok sc__law_enough (fun vs H Q E h => ?_) (fun cdv A outer s H vs Q E hr h => ?_)
  · obtain ⟨c, rfl, _⟩ := h
    rfl
  · obtain ⟨c, rfl, c1, c2, k⟩ := h
    refine ⟨_, (pss_cons (ps_for PassesOwn.never rfl (pi_range2 rfl T.n_range (pa_cons pe_int (pa_cons (pe_op op_add (pv 0) pe_int) pa_nil))) (pg_name (i := 1) sc__law_enough.nd rfl (Or.inl rfl))
    (pss_one (ps_if (PW.pt (pw_and (pt_cmpR op_gt (pe_op op_mul pe_int (pe_op op_sub (pe_op op_mul pe_int (pv 1)) (pv 0))) pe_int (nomark _)) (pw_and1 (pt_cmpR op_gt (pe_op op_sub (pe_op op_mul pe_int (pv 1)) (pv 0)) (pe_op op_fdiv (pe_op op_sub (pv 0) pe_int) pe_int) (nomark _)))))
      (pss_one (ps_ret (pv 1)))
      pss_nil)))
  (pss_one (ps_ret (pv 0)))), ?_⟩
    walk_at "rd"
    refine LH.rn2v ⟨by omega, by omega⟩ ⟨by omega, by omega⟩ ?_
    refine LH.for_R1 (fun i σ H' => (∃ o, σ = [some (.int c), o]) ∧ H' = H ∧ (i : Int) < en c) ⟨⟨_, rfl⟩, rfl, by unfold en; omega⟩ ?_ ?_
    · rintro i σ H0 hi ⟨⟨o, rfl⟩, rfl, hlt⟩
      unfold en at hlt k
      walk_at "rd"
      refine LH.br_d (fun h1 => ?_) (fun h1 => ?_)
      · walk_at "rd"
        refine LH.br_d (fun h2 => ?_) (fun h2 => ?_)
        · walk_at "rd"
          have e : 1 + (i : Int) = (c + (c - 1) / 3) / 2 + 1 := by omega
          rw [e]
          exact k
        · walk_at "rd"
          exact ⟨⟨_, rfl⟩, rfl, by unfold en; omega⟩
      · walk_at "rd"
        exact ⟨⟨_, rfl⟩, rfl, by unfold en; omega⟩
    · rintro σ H0 ⟨⟨o, rfl⟩, rfl, hlt⟩
      exfalso
      unfold en at hlt
      omega
theorem rg0 {c : Int} (h : 0 ≤ c) : rgV 0 c = ((List.range c.toNat).map fun i : Nat => (i : Int)).map V.int := by
  unfold rgV
  rw [List.map_map]
  simp
def spHs (K : PySem.W.Frag) : Sp := fun vs H Q _ => ∃ x c m : Int, vs = [.int x, .int c, .int m] ∧ 1 ≤ c ∧ c ≤ 12 ∧ m ≤ c ∧
  ∀ p H' (hs : List Int), Same H H' → H' p = some (.lst (hs.map V.int)) → hs.Nodup → (∀ h ∈ hs, 0 ≤ h ∧ h < c) → (hs.length : Int) = max 0 (min m c) → Q (.ref p) H'
theorem ok__law_houses (T : Txt K mg a) : FnOk P w K mg base CX0 1 a._law_houses a.d__law_houses ["_law_cell", "_law_count", "_law_many"] (spHs K) := by
  refine T.F__law_houses.ok sc__law_houses (fun vs H Q E h => ?_) (fun cdv A outer s H vs Q E hr h => ?_)
  · obtain ⟨c, _, _, rfl, _⟩ := h
    rfl
  · obtain ⟨x, c, m, rfl, c1, c2, mc, k⟩ := h
    refine ⟨_, (pss_cons (ps_set (i := 3) sc__law_houses.nd rfl (Or.inl rfl) (pe_listRg rfl rfl T.n_list (prg_1 rfl T.n_range (pv 1))))
  (pss_cons (ps_set (i := 4) sc__law_houses.nd rfl (Or.inl rfl) (pe_lst pa_nil))
  (pss_cons (ps_while PassesOwn.never (pt_cmpR op_lt (pe_callB (r := LH.rLen K) LH.call_len rfl T.n_len (by decide +kernel) (pa_cons (pv 4) pa_nil)) (pv 2) (nomark _))
    (pss_cons (ps_expr (pe_bm PySem.F.plainAttrs_list PySem.F.slot_list_append PySem.F.type_list_append mt_append (pv 4) (pa_cons (pe_bm PySem.F.plainAttrs_list PySem.F.slot_list_pop PySem.F.type_list_pop mt_popAt (pv 3) (pa_cons (pe_op op_modN (pv 0) (pe_callB (r := LH.rLen K) LH.call_len rfl T.n_len (by decide +kernel) (pa_cons (pv 3) pa_nil))) pa_nil)) pa_nil)))
    (pss_one (ps_set (i := 0) sc__law_houses.nd rfl (Or.inl rfl) (pe_op op_add (pe_op op_fdiv (pv 0) pe_int) pe_int)))))
  (pss_one (ps_ret (pv 4)))))), ?_⟩
    walk_at "rd"
    refine LH.lrv ⟨by omega, by omega, by omega, by omega⟩ fun p1 H1 f1 e1 g1 => ?_
    walk_at "rd"
    refine LH.newl (LH.small rfl) fun p2 H2 f2 e2 g2 => ?_
    walk_at "rd"
    have ne : p1 ≠ p2 := fun q => by
      rw [q] at g1
      rw [f2] at g1
      cases g1
    have n2 : H p2 = none := LH.Same.none e1 f2
    have e2' : H2 p2 = some (.lst (([] : List Int).map V.int)) := g2
    refine LH.while_m (fun n σ H' => ∃ (cell : Int) (left found : List Int), σ = [some (.int cell), some (.int c), some (.int m), some (.ref p1), some (.ref p2)] ∧ H' p1 = some (.lst (left.map V.int)) ∧ H' p2 = some (.lst (found.map V.int)) ∧ Same H H' ∧ n = left.length ∧
      (found ++ left).Nodup ∧ (∀ h ∈ found ++ left, 0 ≤ h ∧ h < c) ∧ ((found ++ left).length : Int) = c ∧ (found.length : Int) ≤ max 0 (min m c)) c.toNat ?_ ?_
    · refine ⟨x, (List.range c.toNat).map fun i : Nat => (i : Int), [], rfl, ?_, e2' , e1.trans e2, by rw [List.length_map, List.length_range], ?_, ?_, ?_, by show (0 : Int) ≤ _; omega⟩
      · have := e2 _ _ g1
        rw [this, rg0]
        omega
      · rw [List.nil_append]
        exact (List.pairwise_map).mpr (List.Pairwise.imp (fun h q => h (by omega)) List.nodup_range)
      · intro h hm
        rw [List.nil_append] at hm
        obtain ⟨i, hi, rfl⟩ := List.mem_map.mp hm
        have := List.mem_range.mp hi
        omega
      · rw [List.nil_append, List.length_map, List.length_range]
        omega
    · rintro n σ H0 ⟨cell, left, found, rfl, gl, gf, e0, rfl, nd, rg, ln, le⟩
      rw [List.length_append] at ln
      walk_at "rd"
      refine LH.x_lenL (SqL.of gf) ?_
      walk_at "rd"
      refine LH.whb (fun c0 => ?_) (fun c0 => ?_)
      · have c0 := of_decide_eq_true c0
        rw [List.length_map] at c0
        have hpos : 0 < left.length := by omega
        walk_at "rd"
        refine LH.bm_l (SqL.of gf) ?_
        walk_at "rd"
        refine LH.bm_l (SqL.of gl) ?_
        walk_at "rd"
        refine LH.x_lenL (SqL.of gl) ?_
        refine LH.x_I (by rw [List.length_map]; omega) ?_
        walk_at "rd"
        obtain ⟨j, hj, ej⟩ : ∃ j : Nat, j < left.length ∧ cell.fmod (left.map V.int).length = (j : Int) := by
          rw [List.length_map, Int.fmod_eq_emod_of_nonneg _ (by omega)]
          have h1 := Int.emod_nonneg cell (show (left.length : Int) ≠ 0 by omega)
          have h2 := Int.emod_lt_of_pos cell (show (0 : Int) < left.length by omega)
          exact ⟨(cell % (left.length : Int)).toNat, by omega, by omega⟩
        rw [ej]
        refine LH.x_popAt gl (by omega) (by omega) (k := j) (y := .int left[j]) (by rw [seqIndex_of (by omega) (by rw [List.length_map]; omega)]; simp) (by rw [List.getElem?_map, List.getElem?_eq_getElem hj]; rfl) fun H3 k3 g3 => ?_
        walk_at "rd"
        refine LH.x_app (k3 _ _ gf ne.symm) (by rw [List.length_map]; omega) fun H4 k4 g4 => ?_
        walk_at "rd"
        have pm : (found ++ [left[j]] ++ left.eraseIdx j).Perm (found ++ left) := by
          rw [List.append_assoc]
          exact List.Perm.append_left found (LH.perm_erase left j hj)
        have lj : (left.eraseIdx j).length + 1 = left.length := by
          rw [List.length_eraseIdx_of_lt hj]
          omega
        refine ⟨_, ?_, _, left.eraseIdx j, found ++ [left[j]], rfl, ?_, ?_, ?_, rfl, ?_, ?_, ?_, ?_⟩
        · omega
        · rw [k4 _ _ g3 ne, LH.map_erase]
        · rw [g4, List.map_append]
          rfl
        · exact LH.Same.set (LH.Same.set e0 f1 k3) n2 k4
        · exact pm.nodup_iff.mpr nd
        · exact fun h hm => rg h (pm.mem_iff.mp hm)
        · rw [pm.length_eq, List.length_append]
          exact ln
        · rw [List.length_append, List.length_singleton]
          omega
      · have c0 := of_decide_eq_false c0
        rw [List.length_map] at c0
        walk_at "rd"
        refine k _ _ found e0 gf (List.nodup_append.mp nd).1 (fun h hm => rg h (List.mem_append.mpr (.inl hm))) ?_
        omega
/-! ### the law's words -/
def spWord (K : PySem.W.Frag) : Sp := fun vs H Q _ => ∃ x c b : Int, vs = [.int x, .int c, .int b] ∧ 1 ≤ c ∧
  ∀ p H' (u : Wrd), Same H H' → H p = none → H' p = some (.tup u.vs) → u.Ok → 0 ≤ u.h → u.h < c → Q (.ref p) H'
theorem ok_say : Ok "say" := ⟨by decide +kernel, by decide +kernel⟩
theorem ok_mark : Ok "mark" := ⟨by decide +kernel, by decide +kernel⟩
theorem ok__law_word (T : Txt K mg a) : FnOk P w K mg base CX0 2 a._law_word a.d__law_word ["_law_cell", "_law_count", "_law_base"] (spWord K) := by
  have G__law_row := ok__law_row (P := P) (w := w) (base := base) T
  refine T.F__law_word.ok sc__law_word (fun vs H Q E h => ?_) (fun cdv A outer s H vs Q E hr h => ?_)
  · obtain ⟨x, c, b, rfl, _⟩ := h
    rfl
  · obtain ⟨x, c, b, rfl, c1, k⟩ := h
    have HR__law_row : Room 1 _ := hr.mono (by decide)
    refine ⟨_, (pss_cons (ps_set (i := 3) sc__law_word.nd rfl (Or.inl rfl) (pe_op op_mod (pe_op op_fdiv (pv 0) pe_int) pe_int))
  (pss_cons (ps_set (i := 4) sc__law_word.nd rfl (Or.inl rfl) (pe_call G__law_row HR__law_row rfl T.g__law_row T.F__law_row.kp T.b__law_row .nil pass0 (pa_cons (pv 2) (pa_cons (pe_op op_mod (pe_op op_fdiv (pv 0) pe_int) pe_int) pa_nil))))
  (pss_cons (ps_if (pt_cmpR op_eq (pe_op op_mod (pv 0) pe_int) pe_int (nomark _))
    (pss_one (ps_ret (pe_tup (pa_cons pe_str (pa_cons (pv 3) (pa_cons (pv 4) (pa_cons (pe_op op_modN (pv 3) (pv 1)) pa_nil)))))))
    pss_nil)
  (pss_one (ps_ret (pe_tup (pa_cons pe_str (pa_cons (pv 3) (pa_cons (pv 4) (pa_cons (pe_op op_modN (pe_op op_fdiv (pv 0) pe_int) (pv 1)) pa_nil)))))))))), ?_⟩
    walk_at "rd"
    refine ⟨_, _, rfl, fun H1 e1 => ?_⟩
    walk_at "rd"
    have md : ∀ y : Int, 0 ≤ y.fmod c ∧ y.fmod c < c := fun y => by
      rw [fmod_pos c1]
      exact ⟨Int.emod_nonneg _ (by omega), Int.emod_lt_of_pos _ (by omega)⟩
    refine LH.br_d (fun c0 => ?_) (fun c0 => ?_)
    · walk_at "rd"
      refine LH.newt (LH.small rfl) fun p H2 f2 e2 g2 => ?_
      exact k p H2 ⟨"say", _, _, _⟩ (e1.trans e2) (LH.Same.none e1 f2) g2 ⟨ok_say, rowF_ok _ _⟩ (md _).1 (md _).2
    · walk_at "rd"
      refine LH.newt (LH.small rfl) fun p H2 f2 e2 g2 => ?_
      exact k p H2 ⟨"mark", _, _, _⟩ (e1.trans e2) (LH.Same.none e1 f2) g2 ⟨ok_mark, rowF_ok _ _⟩ (md _).1 (md _).2
def spUnl (K : PySem.W.Frag) : Sp := fun vs H Q _ => ∃ (x y : V) (u v : Wrd), vs = [x, y] ∧ WV K H x u ∧ WV K H y v ∧ Q (.bl (unl u v)) H
theorem ok__law_unlike (T : Txt K mg a) : FnOk P w K mg base CX0 1 a._law_unlike a.d__law_unlike ["_law_one", "_law_other"] (spUnl K) := by
  refine T.F__law_unlike.ok sc__law_unlike (fun vs H Q E h => ?_) (fun cdv A outer s H vs Q E hr h => ?_)
  · obtain ⟨x, y, u, v, rfl, _⟩ := h
    rfl
  · obtain ⟨x, y, u, v, rfl, ⟨p, rfl, hp⟩, ⟨q, rfl, hq⟩, k⟩ := h
    refine ⟨_, (pss_one (ps_ret (pe_and (pe_cmpR op_eq (pe_ix (r := rIxT K) ix_tup (pv 0) pe_int (fun _ _ => rfl)) (pe_ix (r := rIxT K) ix_tup (pv 1) pe_int (fun _ _ => rfl)) (nomark _)) (pe_and (pe_cmpR op_eq (pe_ix (r := rIxT K) ix_tup (pv 0) pe_int (fun _ _ => rfl)) (pe_ix (r := rIxT K) ix_tup (pv 1) pe_int (fun _ _ => rfl)) (nomark _)) (pe_and (pe_cmpR op_eq (pe_ix (r := rIxT K) ix_tup (pv 0) pe_int (fun _ _ => rfl)) (pe_ix (r := rIxT K) ix_tup (pv 1) pe_int (fun _ _ => rfl)) (nomark _)) (pe_one (pe_cmpR op_ne (pe_ix (r := rIxT K) ix_tup (pv 0) pe_int (fun _ _ => rfl)) (pe_ix (r := rIxT K) ix_tup (pv 1) pe_int (fun _ _ => rfl)) (nomark _)))))))), ?_⟩
    walk_at "rd"
    have no : ¬ v.pl = u.pl → unl u v = false := fun n => by unfold unl; simp [n]
    refine LH.x_ixT (v := .str u.k) hp rfl ?_
    walk_at "rd"
    refine LH.x_ixT (v := .str v.k) hq rfl ?_
    walk_at "rd"
    rw [dstr]
    refine LH.br_d (fun h1 => ?_) (fun h1 => ?_)
    · walk_at "rd"
      refine LH.x_ixT (v := .int u.n) hp rfl ?_
      walk_at "rd"
      refine LH.x_ixT (v := .int v.n) hq rfl ?_
      walk_at "rd"
      rw [dint]
      refine LH.br_d (fun h2 => ?_) (fun h2 => ?_)
      · walk_at "rd"
        refine LH.x_ixT (v := .int u.h) hp rfl ?_
        walk_at "rd"
        refine LH.x_ixT (v := .int v.h) hq rfl ?_
        walk_at "rd"
        rw [dint]
        refine LH.br_d (fun h3 => ?_) (fun h3 => ?_)
        · walk_at "rd"
          refine LH.x_ixT (v := .str u.r) hp rfl ?_
          walk_at "rd"
          refine LH.x_ixT (v := .str v.r) hq rfl ?_
          walk_at "rd"
          rw [dstr]
          have e : unl u v = !decide (u.r = v.r) := by
            unfold unl
            rw [decide_eq_true (pl_eq.mpr ⟨h1.symm, h2.symm, h3.symm⟩), Bool.true_and]
            rw [← decide_not]
            exact decide_eq_decide.mpr ⟨fun h q => h q.symm, fun h q => h q.symm⟩
          rw [e] at k
          exact k
        · walk_at "rd"
          rw [no fun e => h3 (pl_eq.mp e).2.2.symm] at k
          exact k
      · walk_at "rd"
        rw [no fun e => h2 (pl_eq.mp e).2.1.symm] at k
        exact k
    · walk_at "rd"
      rw [no fun e => h1 (pl_eq.mp e).1.symm] at k
      exact k
end
end K5
namespace K5
open PySem L2 LM
local macro_rules | `(tactic| walk_at "rd1") => `(tactic| first
  | with_reducible refine LH.x_seq ?_
  | with_reducible refine LH.x_asg ?_
  | with_reducible refine LH.x_cons ?_
  | with_reducible refine LH.x_var (by with_unfolding_all exact rfl) ?_
  | with_reducible refine LH.x_c ?_
  | with_reducible refine LH.x_op ?_
  | with_reducible refine LH.x_gname ?_
  | with_reducible refine LH.x_nil ?_
  | with_reducible refine LH.x_I0 ?_
  | ((with_reducible refine LH.x_I ?k1 ?_); (case k1 => first | exact (by decide) | exact ⟨by decide, by decide⟩ | exact ⟨by decide, by decide, by decide⟩ | exact .inl ⟨by decide, by decide⟩ | exact .inr ⟨by decide, by decide⟩ | exact .inr ⟨by omega, by omega⟩ | exact .inl ⟨by omega, by omega⟩ | exact (by omega)))
  | with_reducible refine LH.x_ifS ?_
  | with_reducible refine LH.x_test ?_
  | with_reducible refine LH.x_tB ?_
  | with_reducible refine LH.bx ?_
  | with_reducible refine LH.x_and ?_
  | with_reducible refine LH.x_or ?_
  | with_reducible refine LH.x_not ?_
  | with_reducible refine LH.x_ret ?_
  | with_reducible refine LH.x_call ?_
  | with_reducible refine LH.x_cb ?_
  | with_reducible refine LH.x_lst ?_
  | with_reducible refine LH.x_tup ?_
  | with_reducible refine LH.x_bm ?_
  | with_reducible refine LH.x_drop ?_
  | with_reducible refine LH.x_next ?_
  | with_reducible refine LH.x_cont ?_
  | with_reducible refine LH.x_un ?_
  | with_reducible refine LH.x_U ?_
  | with_reducible refine LH.x_eq (by with_unfolding_all exact rfl) ?_
  | with_reducible refine LH.x_ne (by with_unfolding_all exact rfl) ?_
  | with_reducible refine LH.x_andV ?_
  | with_reducible refine LH.x_orV ?_
  | with_reducible refine LH.x_notV ?_
  | with_reducible refine LH.band ?_
  | with_reducible refine LH.bor ?_
  | with_reducible refine LH.x_if ?_
  | with_reducible refine LH.x_chain ?_
  | with_reducible refine LH.chk ?_
  | with_reducible refine LH.x_callS ?_
  | with_reducible refine LH.x_callE ?_
  | with_reducible refine LH.x_callV ?_
  | with_reducible refine LH.x_lrg ?_
  | with_reducible refine LH.x_lcS ?_
  | with_reducible refine LH.x_lcR1 ?_
  | with_reducible refine LH.x_forR1 ?_
  | with_reducible refine LH.x_forR3 ?_
  | with_reducible refine LH.strv ?_
  | with_reducible refine LH.x_yes ?_
  | with_reducible refine LH.x_sl ?_
  | with_reducible refine LH.x_noPart ?_
  | with_reducible refine LH.x_part ?_
  | with_reducible refine LH.pav ?_
  | with_reducible refine LH.x_jnv ?_
  | with_reducible refine LH.x_join ?_
  | with_reducible refine LH.x_inS ?_
  | with_reducible refine LH.x_niS ?_
  | with_reducible refine LH.x_isB ?_
  | with_reducible refine LH.x_isnB ?_
  | with_reducible refine LH.x_gcons ?_
  | with_reducible refine LH.x_gnil ?_
  | with_reducible refine LH.x_intB ?_
  | with_reducible refine LH.x_orT ?_
  | with_reducible refine LH.x_isTy ?_
  | with_reducible refine LH.x_niTy ?_
  | with_reducible refine LH.x_split ?_
  | with_reducible refine LH.x_spv ?_
  | with_reducible refine LH.x_gsub ?_
  | with_reducible refine LH.x_fmt ?_
  | with_reducible refine LH.x_js0 ?_
  | with_reducible refine LH.x_js ?_
  | with_reducible refine LH.x_rg1 ?_
  | with_reducible refine LH.x_forL ?_
  | with_reducible refine LH.x_abs ?_
  | with_reducible refine LH.x_rg2 ?_
  | with_reducible refine LH.rg1v ?_
  | with_reducible refine LH.rg2v ?_
  | with_reducible refine LH.x_forR2 ?_
  | with_reducible refine LH.x_lenSetG ?_
  | with_reducible refine LH.x_lc ?_
  | with_reducible refine LH.x_fld ?_
  | with_reducible refine LH.x_sfld ?_
  | with_reducible refine LH.x_afld ?_
  | with_reducible refine LH.x_meth ?_
  | with_reducible refine LH.x_make ?_
  | with_reducible refine LH.x_methSl ?_
  | with_reducible refine LH.x_makeSl ?_
  | with_reducible refine LH.x_din ?_
  | with_reducible refine LH.x_dni ?_
  | with_reducible refine LH.x_dget ?_
  | with_reducible refine LH.x_dput ?_
  | with_reducible refine LH.x_dget2 ?_
  | with_reducible refine LH.x_dpop1 ?_
  | with_reducible refine LH.x_litems ?_
  | with_reducible refine LH.x_tru ?_
  | with_reducible refine LH.x_revL ?_
  | with_reducible refine LH.x_dsetT ?_
  | with_reducible refine LH.x_lvals ?_
  | with_reducible refine LH.br_nt ?_
  | with_reducible refine LH.br_nf ?_
  | with_reducible refine LH.br_t ?_
  | with_reducible refine LH.br_f ?_)
local macro_rules | `(tactic| walk_at "rd") => `(tactic| repeat (walk_at "rd1"))
local macro_rules | `(tactic| walk_at "rs1") => `(tactic| first
  | with_reducible refine LH.x_seq ?_
  | with_reducible refine LH.x_cons ?_
  | with_reducible refine LH.x_var (by with_unfolding_all exact rfl) ?_
  | with_reducible refine LH.x_c ?_
  | with_reducible refine LH.x_op ?_
  | with_reducible refine LH.x_gname ?_
  | with_reducible refine LH.x_nil ?_
  | with_reducible refine LH.x_I0 ?_
  | ((with_reducible refine LH.x_I ?k1 ?_); (case k1 => first | exact (by decide) | exact ⟨by decide, by decide⟩ | exact ⟨by decide, by decide, by decide⟩ | exact .inl ⟨by decide, by decide⟩ | exact .inr ⟨by decide, by decide⟩ | exact .inr ⟨by omega, by omega⟩ | exact .inl ⟨by omega, by omega⟩ | exact (by omega)))
  | with_reducible refine LH.x_test ?_
  | with_reducible refine LH.x_tB ?_
  | with_reducible refine LH.bx ?_
  | with_reducible refine LH.x_and ?_
  | with_reducible refine LH.x_or ?_
  | with_reducible refine LH.x_not ?_
  | with_reducible refine LH.x_call ?_
  | with_reducible refine LH.x_cb ?_
  | with_reducible refine LH.x_lst ?_
  | with_reducible refine LH.x_tup ?_
  | with_reducible refine LH.x_bm ?_
  | with_reducible refine LH.x_drop ?_
  | with_reducible refine LH.x_next ?_
  | with_reducible refine LH.x_cont ?_
  | with_reducible refine LH.x_un ?_
  | with_reducible refine LH.x_U ?_
  | with_reducible refine LH.x_eq (by with_unfolding_all exact rfl) ?_
  | with_reducible refine LH.x_ne (by with_unfolding_all exact rfl) ?_
  | with_reducible refine LH.x_andV ?_
  | with_reducible refine LH.x_orV ?_
  | with_reducible refine LH.x_notV ?_
  | with_reducible refine LH.band ?_
  | with_reducible refine LH.bor ?_
  | with_reducible refine LH.x_if ?_
  | with_reducible refine LH.x_chain ?_
  | with_reducible refine LH.chk ?_
  | with_reducible refine LH.x_callS ?_
  | with_reducible refine LH.x_callE ?_
  | with_reducible refine LH.x_callV ?_
  | with_reducible refine LH.x_lrg ?_
  | with_reducible refine LH.x_lcS ?_
  | with_reducible refine LH.x_lcR1 ?_
  | with_reducible refine LH.strv ?_
  | with_reducible refine LH.x_yes ?_
  | with_reducible refine LH.x_sl ?_
  | with_reducible refine LH.x_noPart ?_
  | with_reducible refine LH.x_part ?_
  | with_reducible refine LH.pav ?_
  | with_reducible refine LH.x_jnv ?_
  | with_reducible refine LH.x_join ?_
  | with_reducible refine LH.x_inS ?_
  | with_reducible refine LH.x_niS ?_
  | with_reducible refine LH.x_isB ?_
  | with_reducible refine LH.x_isnB ?_
  | with_reducible refine LH.x_gcons ?_
  | with_reducible refine LH.x_gnil ?_
  | with_reducible refine LH.x_intB ?_
  | with_reducible refine LH.x_orT ?_
  | with_reducible refine LH.x_isTy ?_
  | with_reducible refine LH.x_niTy ?_
  | with_reducible refine LH.x_split ?_
  | with_reducible refine LH.x_spv ?_
  | with_reducible refine LH.x_gsub ?_
  | with_reducible refine LH.x_fmt ?_
  | with_reducible refine LH.x_js0 ?_
  | with_reducible refine LH.x_js ?_
  | with_reducible refine LH.x_rg1 ?_
  | with_reducible refine LH.x_abs ?_
  | with_reducible refine LH.x_rg2 ?_
  | with_reducible refine LH.rg1v ?_
  | with_reducible refine LH.rg2v ?_
  | with_reducible refine LH.x_lenSetG ?_
  | with_reducible refine LH.x_lc ?_
  | with_reducible refine LH.x_fld ?_
  | with_reducible refine LH.x_sfld ?_
  | with_reducible refine LH.x_afld ?_
  | with_reducible refine LH.x_meth ?_
  | with_reducible refine LH.x_make ?_
  | with_reducible refine LH.x_methSl ?_
  | with_reducible refine LH.x_makeSl ?_
  | with_reducible refine LH.x_din ?_
  | with_reducible refine LH.x_dni ?_
  | with_reducible refine LH.x_dget ?_
  | with_reducible refine LH.x_dput ?_
  | with_reducible refine LH.x_dget2 ?_
  | with_reducible refine LH.x_dpop1 ?_
  | with_reducible refine LH.x_litems ?_
  | with_reducible refine LH.x_tru ?_
  | with_reducible refine LH.x_revL ?_
  | with_reducible refine LH.x_dsetT ?_
  | with_reducible refine LH.x_lvals ?_
  | with_reducible refine LH.br_nt ?_
  | with_reducible refine LH.br_nf ?_
  | with_reducible refine LH.br_t ?_
  | with_reducible refine LH.br_f ?_)
local macro_rules | `(tactic| walk_at "rs") => `(tactic| repeat (walk_at "rs1"))

section
variable {P : Program} {w : World} {K : PySem.W.Frag} {mg : Str → Option Value} {base : Heap} {a : Ad}
def spDue (K : PySem.W.Frag) : Sp := fun vs H Q _ => ∃ (q1 q2 : Addr) (l1 l2 : List VW) (c : Nat), vs = [.ref q1, .ref q2, .int c] ∧ SqL K H q1 (l1.map (·.1)) ∧ SqL K H q2 (l2.map (·.1)) ∧ WP K H l1 ∧ WP K H l2 ∧ c ≤ 50 ∧
  ∀ r H' ys, Same H H' → H r = none → H' r = some (.lst ys) → Paired (Bt H') (blamedL l1 l2 c) ys → Q (.ref r) H'
theorem firsts {H : Hp} : ∀ {L : List (Int × VW × VW)} {ys : List V}, Paired (Bt H) L ys → ∃ is : List Int, is = L.map (·.1) ∧ Paired (fun i y => ∃ t v1 v2, y = .ref t ∧ H t = some (.tup [.int i, v1, v2])) is ys
  | _, _, .nil => ⟨[], rfl, .nil⟩
  | _, _, .cons (a := x) ⟨t, e, g⟩ r => let ⟨is, e2, p⟩ := firsts r; ⟨x.1 :: is, by rw [e2]; rfl, .cons ⟨t, _, _, e, g⟩ p⟩
def cur (l1 l2 : List VW) (h : Nat) (o : Option (VW × VW)) : List (Int × VW × VW) := blamedL l1 l2 h ++ opt1 (fun x => ((h : Int), x)) o
theorem ok__law_due (T : Txt K mg a) : FnOk P w K mg base CX0 2 a._law_due a.d__law_due ["_law_ones", "_law_others", "_law_count"] (spDue K) := by
  have G__law_unlike := ok__law_unlike (P := P) (w := w) (base := base) T
  refine T.F__law_due.ok sc__law_due (fun vs H Q E h => ?_) (fun cdv A outer s H vs Q E hr h => ?_)
  · obtain ⟨q1, q2, l1, l2, c, rfl, _⟩ := h
    rfl
  · obtain ⟨q1, q2, l1, l2, c, rfl, hq1, hq2, hw1, hw2, hc, k⟩ := h
    have HR__law_unlike : Room 1 _ := hr.mono (by decide)
    refine ⟨_, (pss_cons (ps_set (i := 3) sc__law_due.nd rfl (Or.inl rfl) (pe_lst pa_nil))
  (pss_cons (ps_for PassesOwn.never rfl (pi_range1 rfl T.n_range (pa_cons (pv 2) pa_nil)) (pg_name (i := 4) sc__law_due.nd rfl (Or.inl rfl))
    (pss_one (ps_for PassesOwn.never rfl (pi_list (pv 0)) (pg_name (i := 5) sc__law_due.nd rfl (Or.inl rfl))
      (pss_one (ps_for PassesOwn.never rfl (pi_list (pv 1)) (pg_name (i := 6) sc__law_due.nd rfl (Or.inl rfl))
        (pss_one (ps_if (PW.pt (pw_and (pt_cmpR op_eq (pe_ix (r := rIxT K) ix_tup (pv 5) pe_int (fun _ _ => rfl)) (pv 4) (nomark _)) (pw_and (pt_val (pe_call G__law_unlike HR__law_unlike rfl T.g__law_unlike T.F__law_unlike.kp T.b__law_unlike .nil pass0 (pa_cons (pv 5) (pa_cons (pv 6) pa_nil)))) (pw_and1 (pt_cmpR (r := rIn K true) op_notIn_seq (pv 4) (pe_lc (own := [("_law_row_here", 7)]) (g := gName 7) (tt := tYes) rfl sc__law_due.nd (pi_list (pv 3)) (blkOk_by (N := N__law_due) (sc := defScope s__law_due) (by decide +kernel)) (fun _ _ _ _ _ => pg_name (i := 7) sc__law_due.nd rfl (Or.inl rfl)) (fun _ _ _ _ _ => pts_nil) (fun _ _ _ _ _ => (pe_ix (r := rIxT K) ix_tup (pv 7) pe_int (fun _ _ => rfl)))) (by rfl))))))
          (pss_one (ps_expr (pe_bm PySem.F.plainAttrs_list PySem.F.slot_list_append PySem.F.type_list_append mt_append (pv 3) (pa_cons (pe_tup (pa_cons (pv 4) (pa_cons (pv 5) (pa_cons (pv 6) pa_nil)))) pa_nil))))
          pss_nil)))))))
  (pss_one (ps_ret (pv 3))))), ?_⟩
    walk_at "rd"
    refine LH.newl (LH.small rfl) fun r H1 f1 e1 g1 => ?_
    walk_at "rd"
    refine LH.rn1v (by omega) (by omega) ?_
    refine LH.for_R1 (fun h σ H' => (∃ v4 v5 v6 v7, σ = [some (.ref q1), some (.ref q2), some (.int c), some (.ref r), v4, v5, v6, v7]) ∧ Same H H' ∧ ∃ ys, H' r = some (.lst ys) ∧ Paired (Bt H') (blamedL l1 l2 h) ys)
      ⟨⟨_, _, _, _, rfl⟩, e1, [], g1, .nil⟩ ?_ ?_
    · rintro h σ H2 hh ⟨⟨v4, v5, v6, v7, rfl⟩, e2, ys, g2, pr⟩
      have hh : h < c := by omega
      rw [Int.zero_add]
      walk_at "rd"
      refine LH.for_L (Same.seq e2 hq1) (fun i σ H' => (∃ v5 v6 v7, σ = [some (.ref q1), some (.ref q2), some (.int c), some (.ref r), some (.int h), v5, v6, v7]) ∧ Same H H' ∧ ∃ ys, H' r = some (.lst ys) ∧ Paired (Bt H') (cur l1 l2 h (firstP (l1.take i) l2 h)) ys)
        ⟨⟨_, _, _, rfl⟩, e2, ys, g2, by unfold cur; rw [List.take_zero]; simpa [firstP, opt1] using pr⟩ (fun i σ H' _ p => Same.seq p.2.1 hq1) ?_ ?_
      · rintro i x σ H3 hx ⟨⟨v5', v6', v7', rfl⟩, e3, ys3, g3, pr3⟩
        rw [List.getElem?_map] at hx
        obtain ⟨p, hp, rfl⟩ := Option.map_eq_some_iff.mp hx
        have hpm := List.mem_of_getElem? hp
        walk_at "rd"
        let inn : Nat → Option (VW × VW) := fun j => if p.2.h = h then ((l2.take j).find? fun q => unl p.2 q.2).map fun q => (p, q) else none
        refine LH.for_L (Same.seq e3 hq2) (fun j σ H' => (∃ v6 v7, σ = [some (.ref q1), some (.ref q2), some (.int c), some (.ref r), some (.int h), some p.1, v6, v7]) ∧ Same H H' ∧ ∃ ys, H' r = some (.lst ys) ∧ Paired (Bt H') (cur l1 l2 h ((firstP (l1.take i) l2 h).or (inn j))) ys)
          ⟨⟨_, _, rfl⟩, e3, ys3, g3, by
            have : inn 0 = none := by show (if _ then _ else _) = _; split <;> rfl
            rw [this, Option.or_none]
            exact pr3⟩ (fun j σ H' _ p => Same.seq p.2.1 hq2) ?_ ?_
        · rintro j y σ H4 hy ⟨⟨v6'', v7'', rfl⟩, e4, ys4, g4, pr4⟩
          rw [List.getElem?_map] at hy
          obtain ⟨u, hu, rfl⟩ := Option.map_eq_some_iff.mp hy
          have hum := List.mem_of_getElem? hu
          have wp := (hw1 p hpm).up e4
          have wu := (hw2 u hum).up e4
          obtain ⟨bp, ebp, gbp⟩ := id wp
          have inn_succ : inn (j + 1) = (inn j).or (if p.2.h = h ∧ unl p.2 u.2 = true then some (p, u) else none) := by
            show (if p.2.h = h then _ else _) = (if p.2.h = h then _ else _ : Option (VW × VW)).or _
            by_cases c1 : p.2.h = h
            · rw [if_pos c1, if_pos c1, LH.take_more hu, List.find?_append]
              cases e : (l2.take j).find? fun q => unl p.2 q.2 with
              | some z => rfl
              | none =>
                by_cases c2 : unl p.2 u.2 = true
                · rw [if_pos ⟨c1, c2⟩]
                  simp [c2]
                · rw [if_neg fun q => c2 q.2]
                  simp [c2]
            · rw [if_neg c1, if_neg c1, if_neg fun q => c1 q.1]
              rfl
          have stay : ∀ H5, Same H4 H5 → (∀ o : Option (VW × VW), o = (firstP (l1.take i) l2 h).or (inn (j + 1)) → o = (firstP (l1.take i) l2 h).or (inn j)) → Same H H5 ∧ ∃ ys, H5 r = some (.lst ys) ∧ Paired (Bt H5) (cur l1 l2 h ((firstP (l1.take i) l2 h).or (inn (j + 1)))) ys := fun H5 e5 same => by
            refine ⟨e4.trans e5, ys4, e5 _ _ g4, ?_⟩
            rw [same _ rfl]
            exact LH.Paired.imp (fun _ _ q => q.up e5) pr4
          rw [ebp]
          walk_at "rd"
          refine LH.x_ixT (v := .int p.2.h) gbp rfl ?_
          walk_at "rd"
          rw [dint]
          refine LH.br_d (fun c1 => ?_) (fun c1 => ?_)
          · walk_at "rd"
            refine ⟨_, _, p.2, u.2, rfl, ⟨bp, rfl, gbp⟩, wu, ?_⟩
            walk_at "rd"
            cases c2 : unl p.2 u.2 with
            | true =>
              walk_at "rd"
              -- whom it names
              obtain ⟨is_, ei, hi⟩ := firsts pr4
              have l4 : ys4.length ≤ 60 := by
                have h1 := LH.Paired.len pr4
                have h2 : (cur l1 l2 h ((firstP (l1.take i) l2 h).or (inn j))).length ≤ h + 1 := by
                  unfold cur blamedL
                  rw [List.length_append]
                  have := List.length_filterMap_le (fun (h : Nat) => (firstP l1 l2 h).map fun x => ((h : Int), x)) (List.range h)
                  rw [List.length_range] at this
                  cases (firstP (l1.take i) l2 h).or (inn j) <;> simp [opt1] <;> omega
                omega
              refine LH.lc_Li (SqL.of g4) (by omega) (is_.map fun i => some (V.int i)) (by rw [List.length_map]; exact LH.Paired.len hi) (fun _ => rfl) ?_ ?_ fun D H5 f5 e5 g5 => ?_
              · intro m x o hx ho H5 e5 Q3 q3
                rw [List.getElem?_map] at ho
                obtain ⟨z, _, rfl⟩ := Option.map_eq_some_iff.mp ho
                walk_at "rd"
                exact q3 _ (Same.refl _)
              · intro m x y hx ho H5 e5 Q3 q3
                rw [List.getElem?_map] at ho
                obtain ⟨z, hz, ez⟩ := Option.map_eq_some_iff.mp ho
                injection ez with ez
                subst ez
                obtain ⟨t, v1, v2, rfl, gt⟩ := paired_at hi hz hx
                walk_at "rd"
                refine LH.x_ixT (v := .int z) (SqT.of (e5 _ _ gt)) rfl ?_
                exact q3 _ (Same.refl _)
              rw [some_ints] at g5
              refine LH.x_in (neg := true) (SqL.of g5) rfl ints_flat ?_
              rw [inV_int]
              have mem : (h : Int) ∈ is_ ↔ ((firstP (l1.take i) l2 h).or (inn j)).isSome = true := by
                rw [ei]
                unfold cur
                rw [List.map_append, List.mem_append]
                have no : ¬ (h : Int) ∈ (blamedL l1 l2 h).map (·.1) := fun m => by
                  obtain ⟨x, hx, e⟩ := List.mem_map.mp m
                  have := (blamedL_lt hx).2.1
                  omega
                cases (firstP (l1.take i) l2 h).or (inn j) with
                | none => simp [opt1]; simpa using no
                | some z => simp [opt1]
              walk_at "rd"
              by_cases cm : (h : Int) ∈ is_
              · rw [decide_eq_true cm]
                refine LH.br_f ?_
                walk_at "rd"
                refine ⟨⟨_, _, rfl⟩, stay _ e5 fun o e => ?_⟩
                have sm := mem.mp cm
                rw [e, inn_succ]
                cases e1 : firstP (l1.take i) l2 h with
                | some z => rfl
                | none =>
                  rw [e1] at sm
                  cases e2 : inn j with
                  | some z => rfl
                  | none => rw [e2] at sm; cases sm
              · rw [decide_eq_false cm]
                refine LH.br_t ?_
                walk_at "rd"
                refine LH.bm_l (SqL.of (e5 _ _ g4)) ?_
                walk_at "rd"
                refine LH.newt (LH.small rfl) fun t H6 f6 e6 g6 => ?_
                walk_at "rd"
                have e46 := e5.trans e6
                refine LH.x_appK (e46 _ _ g4) (by omega) fun H7 k7 g7 => ?_
                walk_at "rd"
                have nr : t ≠ r := (ne_of_none (e5 _ _ g4) f6).symm
                have none_ : (firstP (l1.take i) l2 h).or (inn j) = none := by
                  cases e1 : (firstP (l1.take i) l2 h).or (inn j) with
                  | none => rfl
                  | some z => exact absurd (mem.mpr (by rw [e1]; rfl)) cm
                have next : (firstP (l1.take i) l2 h).or (inn (j + 1)) = some (p, u) := by
                  rw [inn_succ, if_pos ⟨c1, c2⟩]
                  cases e1 : firstP (l1.take i) l2 h with
                  | some z => rw [e1] at none_; cases none_
                  | none =>
                    rw [e1] at none_
                    cases e2 : inn j with
                    | some z => rw [e2] at none_; cases none_
                    | none => rfl
                refine ⟨⟨_, _, rfl⟩, fun b0 o hb => k7 _ _ (e46 _ _ (e4 _ _ hb)) (fun e => by rw [e, f1] at hb; cases hb), _, g7, ?_⟩
                rw [next]
                unfold cur
                rw [none_] at pr4
                unfold cur opt1 at pr4
                rw [List.append_nil] at pr4
                refine LH.Paired.snoc (LH.Paired.imp (fun _ _ q => (q.up e46).kp (e46 _ _ g4) k7) pr4) ⟨t, rfl, ?_⟩
                have := k7 _ _ g6 nr
                rw [this, ← ebp]
            | false =>
              walk_at "rd"
              refine ⟨⟨_, _, rfl⟩, stay _ (Same.refl _) fun o e => ?_⟩
              rw [e, inn_succ, if_neg (fun q => by have := q.2; rw [c2] at this; cases this), Option.or_none]
          · walk_at "rd"
            refine ⟨⟨_, _, rfl⟩, stay _ (Same.refl _) fun o e => ?_⟩
            rw [e, inn_succ, if_neg fun q => c1 q.1, Option.or_none]
        · rintro σ H4 ⟨⟨v6'', v7'', rfl⟩, e4, ys4, g4, pr4⟩
          refine ⟨⟨_, _, _, rfl⟩, e4, ys4, g4, ?_⟩
          have tl : l2.take (l2.map (·.1)).length = l2 := by rw [List.length_map, List.take_length]
          rw [LH.take_more hp, firstP_snoc]
          have : inn (l2.map (·.1)).length = if p.2.h = h then (l2.find? fun q => unl p.2 q.2).map fun q => (p, q) else none := by
            show (if p.2.h = h then ((l2.take _).find? _).map _ else none) = _
            rw [tl]
          rw [← this]
          exact pr4
      · rintro σ H3 ⟨⟨v5', v6', v7', rfl⟩, e3, ys3, g3, pr3⟩
        have tl : l1.take (l1.map (·.1)).length = l1 := by rw [List.length_map, List.take_length]
        rw [tl] at pr3
        refine ⟨⟨_, _, _, _, rfl⟩, e3, ys3, g3, ?_⟩
        rw [blamedL_succ]
        exact pr3
    · rintro σ H2 ⟨⟨v4, v5, v6, v7, rfl⟩, e2, ys, g2, pr⟩
      walk_at "rd"
      have : (c : Int).toNat = c := Int.toNat_natCast c
      rw [this] at pr
      exact k r H2 ys e2 f1 g2 pr
end
end K5
namespace K5
open PySem L2 LM
local macro_rules | `(tactic| walk_at "rd1") => `(tactic| first
  | with_reducible refine LH.x_seq ?_
  | with_reducible refine LH.x_asg ?_
  | with_reducible refine LH.x_cons ?_
  | with_reducible refine LH.x_var (by with_unfolding_all exact rfl) ?_
  | with_reducible refine LH.x_c ?_
  | with_reducible refine LH.x_op ?_
  | with_reducible refine LH.x_gname ?_
  | with_reducible refine LH.x_nil ?_
  | with_reducible refine LH.x_I0 ?_
  | ((with_reducible refine LH.x_I ?k1 ?_); (case k1 => first | exact (by decide) | exact ⟨by decide, by decide⟩ | exact ⟨by decide, by decide, by decide⟩ | exact .inl ⟨by decide, by decide⟩ | exact .inr ⟨by decide, by decide⟩ | exact .inr ⟨by omega, by omega⟩ | exact .inl ⟨by omega, by omega⟩ | exact (by omega)))
  | with_reducible refine LH.x_ifS ?_
  | with_reducible refine LH.x_test ?_
  | with_reducible refine LH.x_tB ?_
  | with_reducible refine LH.bx ?_
  | with_reducible refine LH.x_and ?_
  | with_reducible refine LH.x_or ?_
  | with_reducible refine LH.x_not ?_
  | with_reducible refine LH.x_ret ?_
  | with_reducible refine LH.x_call ?_
  | with_reducible refine LH.x_cb ?_
  | with_reducible refine LH.x_lst ?_
  | with_reducible refine LH.x_tup ?_
  | with_reducible refine LH.x_bm ?_
  | with_reducible refine LH.x_drop ?_
  | with_reducible refine LH.x_next ?_
  | with_reducible refine LH.x_cont ?_
  | with_reducible refine LH.x_un ?_
  | with_reducible refine LH.x_U ?_
  | with_reducible refine LH.x_eq (by with_unfolding_all exact rfl) ?_
  | with_reducible refine LH.x_ne (by with_unfolding_all exact rfl) ?_
  | with_reducible refine LH.x_andV ?_
  | with_reducible refine LH.x_orV ?_
  | with_reducible refine LH.x_notV ?_
  | with_reducible refine LH.band ?_
  | with_reducible refine LH.bor ?_
  | with_reducible refine LH.x_if ?_
  | with_reducible refine LH.x_chain ?_
  | with_reducible refine LH.chk ?_
  | with_reducible refine LH.x_callS ?_
  | with_reducible refine LH.x_callE ?_
  | with_reducible refine LH.x_callV ?_
  | with_reducible refine LH.x_lrg ?_
  | with_reducible refine LH.x_lcS ?_
  | with_reducible refine LH.x_lcR1 ?_
  | with_reducible refine LH.x_forR1 ?_
  | with_reducible refine LH.x_forR3 ?_
  | with_reducible refine LH.strv ?_
  | with_reducible refine LH.x_yes ?_
  | with_reducible refine LH.x_sl ?_
  | with_reducible refine LH.x_noPart ?_
  | with_reducible refine LH.x_part ?_
  | with_reducible refine LH.pav ?_
  | with_reducible refine LH.x_jnv ?_
  | with_reducible refine LH.x_join ?_
  | with_reducible refine LH.x_inS ?_
  | with_reducible refine LH.x_niS ?_
  | with_reducible refine LH.x_isB ?_
  | with_reducible refine LH.x_isnB ?_
  | with_reducible refine LH.x_gcons ?_
  | with_reducible refine LH.x_gnil ?_
  | with_reducible refine LH.x_intB ?_
  | with_reducible refine LH.x_orT ?_
  | with_reducible refine LH.x_isTy ?_
  | with_reducible refine LH.x_niTy ?_
  | with_reducible refine LH.x_split ?_
  | with_reducible refine LH.x_spv ?_
  | with_reducible refine LH.x_gsub ?_
  | with_reducible refine LH.x_fmt ?_
  | with_reducible refine LH.x_js0 ?_
  | with_reducible refine LH.x_js ?_
  | with_reducible refine LH.x_rg1 ?_
  | with_reducible refine LH.x_forL ?_
  | with_reducible refine LH.x_abs ?_
  | with_reducible refine LH.x_rg2 ?_
  | with_reducible refine LH.rg1v ?_
  | with_reducible refine LH.rg2v ?_
  | with_reducible refine LH.x_forR2 ?_
  | with_reducible refine LH.x_lenSetG ?_
  | with_reducible refine LH.x_lc ?_
  | with_reducible refine LH.x_fld ?_
  | with_reducible refine LH.x_sfld ?_
  | with_reducible refine LH.x_afld ?_
  | with_reducible refine LH.x_meth ?_
  | with_reducible refine LH.x_make ?_
  | with_reducible refine LH.x_methSl ?_
  | with_reducible refine LH.x_makeSl ?_
  | with_reducible refine LH.x_din ?_
  | with_reducible refine LH.x_dni ?_
  | with_reducible refine LH.x_dget ?_
  | with_reducible refine LH.x_dput ?_
  | with_reducible refine LH.x_dget2 ?_
  | with_reducible refine LH.x_dpop1 ?_
  | with_reducible refine LH.x_litems ?_
  | with_reducible refine LH.x_tru ?_
  | with_reducible refine LH.x_revL ?_
  | with_reducible refine LH.x_dsetT ?_
  | with_reducible refine LH.x_lvals ?_
  | with_reducible refine LH.br_nt ?_
  | with_reducible refine LH.br_nf ?_
  | with_reducible refine LH.br_t ?_
  | with_reducible refine LH.br_f ?_)
local macro_rules | `(tactic| walk_at "rd") => `(tactic| repeat (walk_at "rd1"))
local macro_rules | `(tactic| walk_at "rs1") => `(tactic| first
  | with_reducible refine LH.x_seq ?_
  | with_reducible refine LH.x_cons ?_
  | with_reducible refine LH.x_var (by with_unfolding_all exact rfl) ?_
  | with_reducible refine LH.x_c ?_
  | with_reducible refine LH.x_op ?_
  | with_reducible refine LH.x_gname ?_
  | with_reducible refine LH.x_nil ?_
  | with_reducible refine LH.x_I0 ?_
  | ((with_reducible refine LH.x_I ?k1 ?_); (case k1 => first | exact (by decide) | exact ⟨by decide, by decide⟩ | exact ⟨by decide, by decide, by decide⟩ | exact .inl ⟨by decide, by decide⟩ | exact .inr ⟨by decide, by decide⟩ | exact .inr ⟨by omega, by omega⟩ | exact .inl ⟨by omega, by omega⟩ | exact (by omega)))
  | with_reducible refine LH.x_test ?_
  | with_reducible refine LH.x_tB ?_
  | with_reducible refine LH.bx ?_
  | with_reducible refine LH.x_and ?_
  | with_reducible refine LH.x_or ?_
  | with_reducible refine LH.x_not ?_
  | with_reducible refine LH.x_call ?_
  | with_reducible refine LH.x_cb ?_
  | with_reducible refine LH.x_lst ?_
  | with_reducible refine LH.x_tup ?_
  | with_reducible refine LH.x_bm ?_
  | with_reducible refine LH.x_drop ?_
  | with_reducible refine LH.x_next ?_
  | with_reducible refine LH.x_cont ?_
  | with_reducible refine LH.x_un ?_
  | with_reducible refine LH.x_U ?_
  | with_reducible refine LH.x_eq (by with_unfolding_all exact rfl) ?_
  | with_reducible refine LH.x_ne (by with_unfolding_all exact rfl) ?_
  | with_reducible refine LH.x_andV ?_
  | with_reducible refine LH.x_orV ?_
  | with_reducible refine LH.x_notV ?_
  | with_reducible refine LH.band ?_
  | with_reducible refine LH.bor ?_
  | with_reducible refine LH.x_if ?_
  | with_reducible refine LH.x_chain ?_
  | with_reducible refine LH.chk ?_
  | with_reducible refine LH.x_callS ?_
  | with_reducible refine LH.x_callE ?_
  | with_reducible refine LH.x_callV ?_
  | with_reducible refine LH.x_lrg ?_
  | with_reducible refine LH.x_lcS ?_
  | with_reducible refine LH.x_lcR1 ?_
  | with_reducible refine LH.strv ?_
  | with_reducible refine LH.x_yes ?_
  | with_reducible refine LH.x_sl ?_
  | with_reducible refine LH.x_noPart ?_
  | with_reducible refine LH.x_part ?_
  | with_reducible refine LH.pav ?_
  | with_reducible refine LH.x_jnv ?_
  | with_reducible refine LH.x_join ?_
  | with_reducible refine LH.x_inS ?_
  | with_reducible refine LH.x_niS ?_
  | with_reducible refine LH.x_isB ?_
  | with_reducible refine LH.x_isnB ?_
  | with_reducible refine LH.x_gcons ?_
  | with_reducible refine LH.x_gnil ?_
  | with_reducible refine LH.x_intB ?_
  | with_reducible refine LH.x_orT ?_
  | with_reducible refine LH.x_isTy ?_
  | with_reducible refine LH.x_niTy ?_
  | with_reducible refine LH.x_split ?_
  | with_reducible refine LH.x_spv ?_
  | with_reducible refine LH.x_gsub ?_
  | with_reducible refine LH.x_fmt ?_
  | with_reducible refine LH.x_js0 ?_
  | with_reducible refine LH.x_js ?_
  | with_reducible refine LH.x_rg1 ?_
  | with_reducible refine LH.x_abs ?_
  | with_reducible refine LH.x_rg2 ?_
  | with_reducible refine LH.rg1v ?_
  | with_reducible refine LH.rg2v ?_
  | with_reducible refine LH.x_lenSetG ?_
  | with_reducible refine LH.x_lc ?_
  | with_reducible refine LH.x_fld ?_
  | with_reducible refine LH.x_sfld ?_
  | with_reducible refine LH.x_afld ?_
  | with_reducible refine LH.x_meth ?_
  | with_reducible refine LH.x_make ?_
  | with_reducible refine LH.x_methSl ?_
  | with_reducible refine LH.x_makeSl ?_
  | with_reducible refine LH.x_din ?_
  | with_reducible refine LH.x_dni ?_
  | with_reducible refine LH.x_dget ?_
  | with_reducible refine LH.x_dput ?_
  | with_reducible refine LH.x_dget2 ?_
  | with_reducible refine LH.x_dpop1 ?_
  | with_reducible refine LH.x_litems ?_
  | with_reducible refine LH.x_tru ?_
  | with_reducible refine LH.x_revL ?_
  | with_reducible refine LH.x_dsetT ?_
  | with_reducible refine LH.x_lvals ?_
  | with_reducible refine LH.br_nt ?_
  | with_reducible refine LH.br_nf ?_
  | with_reducible refine LH.br_t ?_
  | with_reducible refine LH.br_f ?_)
local macro_rules | `(tactic| walk_at "rs") => `(tactic| repeat (walk_at "rs1"))

section
variable {P : Program} {w : World} {K : PySem.W.Frag} {mg : Str → Option Value} {base : Heap} {a : Ad}
/-- blames of words -/
def GoodB (K : PySem.W.Frag) (H : Hp) (L : List (Int × VW × VW)) : Prop := ∀ x ∈ L, WV K H x.2.1.1 x.2.1.2 ∧ WV K H x.2.2.1 x.2.2.2 ∧ x.2.1.2.Ok ∧ x.2.2.2.Ok
theorem b_data {H : Hp} : ∀ {L : List (Int × VW × VW)} {ys : List V}, GoodB K H L → Paired (Bt H) L ys → DpAll K H ys (L.map bdat)
  | [], _, _, .nil => .nil
  | x :: L, y :: ys, g, .cons ⟨t, e, gt⟩ r => by
    obtain ⟨h1, h2, _⟩ := g x List.mem_cons_self
    subst e
    exact .cons (.tup (SqT.of gt) (.cons (.int _) (.cons h1.dp (.cons h2.dp .nil)))) (b_data (fun y hy => g y (List.mem_cons_of_mem _ hy)) r)
theorem b_lay {H : Hp} {L : List (Int × VW × VW)} (g : GoodB K H L) : Lay 4 (.list (L.map bdat)) := lay_list fun d hd => by
  obtain ⟨x, hx, rfl⟩ := List.mem_map.mp hd
  obtain ⟨_, _, h3, h4⟩ := g x hx
  exact lay_tup fun e he => by
    simp only [List.mem_cons, List.not_mem_nil, or_false] at he
    rcases he with rfl | rfl | rfl
    · exact lay_int _
    · exact Wrd.lay h3
    · exact Wrd.lay h4
def spAlike (K : PySem.W.Frag) : Sp := fun vs H Q _ => ∃ (p q : Addr) (L : List (Int × VW × VW)) (ys zs : List V), vs = [.ref p, .ref q] ∧ H p = some (.lst ys) ∧ H q = some (.lst zs) ∧ Paired (Bt H) L ys ∧ Paired (Bt H) L zs ∧ GoodB K H L ∧ ∀ H', Same H H' → Q (.bl true) H'
theorem ok__law_alike (T : Txt K mg a) : FnOk P w K mg base CX0 2 a._law_alike a.d__law_alike ["_law_found", "_law_due_here"] (spAlike K) := by
  have G__law_whole := ok__law_whole (P := P) (w := w) (base := base) T
  refine T.F__law_alike.ok sc__law_alike (fun vs H Q E h => ?_) (fun cdv A outer s H vs Q E hr h => ?_)
  · obtain ⟨p, q, L, ys, zs, rfl, _⟩ := h
    rfl
  · obtain ⟨p, q, L, ys, zs, rfl, hp, hq, py, pz, g, k⟩ := h
    have HR__law_whole : Room 1 _ := hr.mono (by decide)
    refine ⟨_, (pss_cons (ps_if (PW.pt (pw_or (pt_not (pt_val (pe_callB (r := rIsi K) call_isi rfl T.n_isinstance (by decide +kernel) (pa_cons (pv 0) (pa_cons (pe_bltn (v := .ty "list") rfl T.n_list (by decide +kernel) rfl) pa_nil))))) (pw_or1 (pt_cmpR (r := rNeD K) (op_neD hr.units) (pv 0) (pv 1) (nomark _)))))
    (pss_one (ps_ret pe_bl))
    pss_nil)
  (pss_cons (ps_for PassesOwn.never rfl (pi_list (pv 0)) (pg_name (i := 2) sc__law_alike.nd rfl (Or.inl rfl))
    (pss_cons (ps_if (PW.pt (pw_or (pt_not (pt_val (pe_callB (r := rIsi K) call_isi rfl T.n_isinstance (by decide +kernel) (pa_cons (pv 2) (pa_cons (pe_bltn (v := .ty "tuple") rfl T.n_tuple (by decide +kernel) rfl) pa_nil))))) (pw_or (pt_cmpR op_ne (pe_callB (r := LH.rLen K) LH.call_len rfl T.n_len (by decide +kernel) (pa_cons (pv 2) pa_nil)) pe_int (nomark _)) (pw_or1 (pt_not (pt_val (pe_call G__law_whole HR__law_whole rfl T.g__law_whole T.F__law_whole.kp T.b__law_whole .nil pass0 (pa_cons (pe_ix (r := rIxT K) ix_tup (pv 2) pe_int (fun _ _ => rfl)) pa_nil))))))))
      (pss_one (ps_ret pe_bl))
      pss_nil)
    (pss_one (ps_if (PW.pt (pw_or (pt_not (pt_val (pe_callB (r := rIsi K) call_isi rfl T.n_isinstance (by decide +kernel) (pa_cons (pe_ix (r := rIxT K) ix_tup (pv 2) pe_int (fun _ _ => rfl)) (pa_cons (pe_bltn (v := .ty "tuple") rfl T.n_tuple (by decide +kernel) rfl) pa_nil))))) (pw_or1 (pt_not (pt_val (pe_callB (r := rIsi K) call_isi rfl T.n_isinstance (by decide +kernel) (pa_cons (pe_ix (r := rIxT K) ix_tup (pv 2) pe_int (fun _ _ => rfl)) (pa_cons (pe_bltn (v := .ty "tuple") rfl T.n_tuple (by decide +kernel) rfl) pa_nil))))))))
      (pss_one (ps_ret pe_bl))
      pss_nil))))
  (pss_one (ps_ret pe_bl)))), ?_⟩
    walk_at "rd"
    refine LH.x_isiT (b := true) (.lst (SqL.of hp)) (by decide +kernel) ?_
    walk_at "rd"
    refine LH.x_neD (.lst (SqL.of hp) (b_data g py)) (.lst (SqL.of hq) (b_data g pz)) (b_lay g).shaped (b_lay g).shaped ?_
    rw [(b_lay g).refl]
    walk_at "rd"
    refine LH.for_L (SqL.of hp) (fun i σ H' => (∃ v, σ = [some (.ref p), some (.ref q), v]) ∧ Same H H') ⟨⟨_, rfl⟩, Same.refl _⟩ (fun i σ H' _ p => SqL.of (p.2 _ _ hp)) ?_ ?_
    · rintro i x σ H1 hx ⟨⟨v, rfl⟩, e1⟩
      obtain ⟨z, hz⟩ : ∃ z, L[i]? = some z := by
        have : i < L.length := by rw [LH.Paired.len py]; exact (List.getElem?_eq_some_iff.mp hx).1
        exact ⟨_, List.getElem?_eq_getElem this⟩
      obtain ⟨t, rfl, gt⟩ := paired_at py hz hx
      obtain ⟨⟨p1, e2, h1⟩, ⟨p2, e3, h2⟩, _⟩ := g z (List.mem_of_getElem? hz)
      rw [e2, e3] at gt
      have gt1 := e1 _ _ gt
      walk_at "rd"
      refine LH.x_isiT (b := true) (.tup (SqT.of gt1)) (by decide +kernel) ?_
      walk_at "rd"
      refine LH.x_lenT (SqT.of gt1) ?_
      walk_at "rd"
      refine LH.br_eq (b' := false) rfl ?_
      walk_at "rd"
      refine LH.x_ixT (SqT.of gt1) rfl ?_
      walk_at "rd"
      refine ⟨_, _, rfl, .int _, ?_⟩
      walk_at "rd"
      refine LH.br_f ?_
      walk_at "rd"
      refine LH.x_ixT (SqT.of gt1) rfl ?_
      walk_at "rd"
      refine LH.x_isiT (b := true) (.tup (LH.Same.seqT e1 h1)) (by decide +kernel) ?_
      walk_at "rd"
      refine LH.x_ixT (SqT.of gt1) rfl ?_
      walk_at "rd"
      refine LH.x_isiT (b := true) (.tup (LH.Same.seqT e1 h2)) (by decide +kernel) ?_
      walk_at "rd"
      exact ⟨⟨_, rfl⟩, e1⟩
    · rintro σ H1 ⟨⟨v, rfl⟩, e1⟩
      walk_at "rd"
      exact k _ e1
end
end K5
namespace K5
open PySem L2 LM
local macro_rules | `(tactic| walk_at "rd1") => `(tactic| first
  | with_reducible refine LH.x_seq ?_
  | with_reducible refine LH.x_asg ?_
  | with_reducible refine LH.x_cons ?_
  | with_reducible refine LH.x_var (by with_unfolding_all exact rfl) ?_
  | with_reducible refine LH.x_c ?_
  | with_reducible refine LH.x_op ?_
  | with_reducible refine LH.x_gname ?_
  | with_reducible refine LH.x_nil ?_
  | with_reducible refine LH.x_I0 ?_
  | ((with_reducible refine LH.x_I ?k1 ?_); (case k1 => first | exact (by decide) | exact ⟨by decide, by decide⟩ | exact ⟨by decide, by decide, by decide⟩ | exact .inl ⟨by decide, by decide⟩ | exact .inr ⟨by decide, by decide⟩ | exact .inr ⟨by omega, by omega⟩ | exact .inl ⟨by omega, by omega⟩ | exact (by omega)))
  | with_reducible refine LH.x_ifS ?_
  | with_reducible refine LH.x_test ?_
  | with_reducible refine LH.x_tB ?_
  | with_reducible refine LH.bx ?_
  | with_reducible refine LH.x_and ?_
  | with_reducible refine LH.x_or ?_
  | with_reducible refine LH.x_not ?_
  | with_reducible refine LH.x_ret ?_
  | with_reducible refine LH.x_call ?_
  | with_reducible refine LH.x_cb ?_
  | with_reducible refine LH.x_lst ?_
  | with_reducible refine LH.x_tup ?_
  | with_reducible refine LH.x_bm ?_
  | with_reducible refine LH.x_drop ?_
  | with_reducible refine LH.x_next ?_
  | with_reducible refine LH.x_cont ?_
  | with_reducible refine LH.x_un ?_
  | with_reducible refine LH.x_U ?_
  | with_reducible refine LH.x_eq (by with_unfolding_all exact rfl) ?_
  | with_reducible refine LH.x_ne (by with_unfolding_all exact rfl) ?_
  | with_reducible refine LH.x_andV ?_
  | with_reducible refine LH.x_orV ?_
  | with_reducible refine LH.x_notV ?_
  | with_reducible refine LH.band ?_
  | with_reducible refine LH.bor ?_
  | with_reducible refine LH.x_if ?_
  | with_reducible refine LH.x_chain ?_
  | with_reducible refine LH.chk ?_
  | with_reducible refine LH.x_callS ?_
  | with_reducible refine LH.x_callE ?_
  | with_reducible refine LH.x_callV ?_
  | with_reducible refine LH.x_lrg ?_
  | with_reducible refine LH.x_lcS ?_
  | with_reducible refine LH.x_lcR1 ?_
  | with_reducible refine LH.x_forR1 ?_
  | with_reducible refine LH.x_forR3 ?_
  | with_reducible refine LH.strv ?_
  | with_reducible refine LH.x_yes ?_
  | with_reducible refine LH.x_sl ?_
  | with_reducible refine LH.x_noPart ?_
  | with_reducible refine LH.x_part ?_
  | with_reducible refine LH.pav ?_
  | with_reducible refine LH.x_jnv ?_
  | with_reducible refine LH.x_join ?_
  | with_reducible refine LH.x_inS ?_
  | with_reducible refine LH.x_niS ?_
  | with_reducible refine LH.x_isB ?_
  | with_reducible refine LH.x_isnB ?_
  | with_reducible refine LH.x_gcons ?_
  | with_reducible refine LH.x_gnil ?_
  | with_reducible refine LH.x_intB ?_
  | with_reducible refine LH.x_orT ?_
  | with_reducible refine LH.x_isTy ?_
  | with_reducible refine LH.x_niTy ?_
  | with_reducible refine LH.x_split ?_
  | with_reducible refine LH.x_spv ?_
  | with_reducible refine LH.x_gsub ?_
  | with_reducible refine LH.x_fmt ?_
  | with_reducible refine LH.x_js0 ?_
  | with_reducible refine LH.x_js ?_
  | with_reducible refine LH.x_rg1 ?_
  | with_reducible refine LH.x_forL ?_
  | with_reducible refine LH.x_abs ?_
  | with_reducible refine LH.x_rg2 ?_
  | with_reducible refine LH.rg1v ?_
  | with_reducible refine LH.rg2v ?_
  | with_reducible refine LH.x_forR2 ?_
  | with_reducible refine LH.x_lenSetG ?_
  | with_reducible refine LH.x_lc ?_
  | with_reducible refine LH.x_fld ?_
  | with_reducible refine LH.x_sfld ?_
  | with_reducible refine LH.x_afld ?_
  | with_reducible refine LH.x_meth ?_
  | with_reducible refine LH.x_make ?_
  | with_reducible refine LH.x_methSl ?_
  | with_reducible refine LH.x_makeSl ?_
  | with_reducible refine LH.x_din ?_
  | with_reducible refine LH.x_dni ?_
  | with_reducible refine LH.x_dget ?_
  | with_reducible refine LH.x_dput ?_
  | with_reducible refine LH.x_dget2 ?_
  | with_reducible refine LH.x_dpop1 ?_
  | with_reducible refine LH.x_litems ?_
  | with_reducible refine LH.x_tru ?_
  | with_reducible refine LH.x_revL ?_
  | with_reducible refine LH.x_dsetT ?_
  | with_reducible refine LH.x_lvals ?_
  | with_reducible refine LH.br_nt ?_
  | with_reducible refine LH.br_nf ?_
  | with_reducible refine LH.br_t ?_
  | with_reducible refine LH.br_f ?_)
local macro_rules | `(tactic| walk_at "rd") => `(tactic| repeat (walk_at "rd1"))
local macro_rules | `(tactic| walk_at "rs1") => `(tactic| first
  | with_reducible refine LH.x_seq ?_
  | with_reducible refine LH.x_cons ?_
  | with_reducible refine LH.x_var (by with_unfolding_all exact rfl) ?_
  | with_reducible refine LH.x_c ?_
  | with_reducible refine LH.x_op ?_
  | with_reducible refine LH.x_gname ?_
  | with_reducible refine LH.x_nil ?_
  | with_reducible refine LH.x_I0 ?_
  | ((with_reducible refine LH.x_I ?k1 ?_); (case k1 => first | exact (by decide) | exact ⟨by decide, by decide⟩ | exact ⟨by decide, by decide, by decide⟩ | exact .inl ⟨by decide, by decide⟩ | exact .inr ⟨by decide, by decide⟩ | exact .inr ⟨by omega, by omega⟩ | exact .inl ⟨by omega, by omega⟩ | exact (by omega)))
  | with_reducible refine LH.x_test ?_
  | with_reducible refine LH.x_tB ?_
  | with_reducible refine LH.bx ?_
  | with_reducible refine LH.x_and ?_
  | with_reducible refine LH.x_or ?_
  | with_reducible refine LH.x_not ?_
  | with_reducible refine LH.x_call ?_
  | with_reducible refine LH.x_cb ?_
  | with_reducible refine LH.x_lst ?_
  | with_reducible refine LH.x_tup ?_
  | with_reducible refine LH.x_bm ?_
  | with_reducible refine LH.x_drop ?_
  | with_reducible refine LH.x_next ?_
  | with_reducible refine LH.x_cont ?_
  | with_reducible refine LH.x_un ?_
  | with_reducible refine LH.x_U ?_
  | with_reducible refine LH.x_eq (by with_unfolding_all exact rfl) ?_
  | with_reducible refine LH.x_ne (by with_unfolding_all exact rfl) ?_
  | with_reducible refine LH.x_andV ?_
  | with_reducible refine LH.x_orV ?_
  | with_reducible refine LH.x_notV ?_
  | with_reducible refine LH.band ?_
  | with_reducible refine LH.bor ?_
  | with_reducible refine LH.x_if ?_
  | with_reducible refine LH.x_chain ?_
  | with_reducible refine LH.chk ?_
  | with_reducible refine LH.x_callS ?_
  | with_reducible refine LH.x_callE ?_
  | with_reducible refine LH.x_callV ?_
  | with_reducible refine LH.x_lrg ?_
  | with_reducible refine LH.x_lcS ?_
  | with_reducible refine LH.x_lcR1 ?_
  | with_reducible refine LH.strv ?_
  | with_reducible refine LH.x_yes ?_
  | with_reducible refine LH.x_sl ?_
  | with_reducible refine LH.x_noPart ?_
  | with_reducible refine LH.x_part ?_
  | with_reducible refine LH.pav ?_
  | with_reducible refine LH.x_jnv ?_
  | with_reducible refine LH.x_join ?_
  | with_reducible refine LH.x_inS ?_
  | with_reducible refine LH.x_niS ?_
  | with_reducible refine LH.x_isB ?_
  | with_reducible refine LH.x_isnB ?_
  | with_reducible refine LH.x_gcons ?_
  | with_reducible refine LH.x_gnil ?_
  | with_reducible refine LH.x_intB ?_
  | with_reducible refine LH.x_orT ?_
  | with_reducible refine LH.x_isTy ?_
  | with_reducible refine LH.x_niTy ?_
  | with_reducible refine LH.x_split ?_
  | with_reducible refine LH.x_spv ?_
  | with_reducible refine LH.x_gsub ?_
  | with_reducible refine LH.x_fmt ?_
  | with_reducible refine LH.x_js0 ?_
  | with_reducible refine LH.x_js ?_
  | with_reducible refine LH.x_rg1 ?_
  | with_reducible refine LH.x_abs ?_
  | with_reducible refine LH.x_rg2 ?_
  | with_reducible refine LH.rg1v ?_
  | with_reducible refine LH.rg2v ?_
  | with_reducible refine LH.x_lenSetG ?_
  | with_reducible refine LH.x_lc ?_
  | with_reducible refine LH.x_fld ?_
  | with_reducible refine LH.x_sfld ?_
  | with_reducible refine LH.x_afld ?_
  | with_reducible refine LH.x_meth ?_
  | with_reducible refine LH.x_make ?_
  | with_reducible refine LH.x_methSl ?_
  | with_reducible refine LH.x_makeSl ?_
  | with_reducible refine LH.x_din ?_
  | with_reducible refine LH.x_dni ?_
  | with_reducible refine LH.x_dget ?_
  | with_reducible refine LH.x_dput ?_
  | with_reducible refine LH.x_dget2 ?_
  | with_reducible refine LH.x_dpop1 ?_
  | with_reducible refine LH.x_litems ?_
  | with_reducible refine LH.x_tru ?_
  | with_reducible refine LH.x_revL ?_
  | with_reducible refine LH.x_dsetT ?_
  | with_reducible refine LH.x_lvals ?_
  | with_reducible refine LH.br_nt ?_
  | with_reducible refine LH.br_nf ?_
  | with_reducible refine LH.br_t ?_
  | with_reducible refine LH.br_f ?_)
local macro_rules | `(tactic| walk_at "rs") => `(tactic| repeat (walk_at "rs1"))

section
variable {P : Program} {w : World} {K : PySem.W.Frag} {mg : Str → Option Value} {base : Heap} {a : Ad}
def spLaw (K : PySem.W.Frag) : Sp := fun vs H Q _ => ∃ (q : Addr) (ns : List Int), vs = [.ref q] ∧ SqL K H q (ns.map V.int) ∧ ns.length ≤ 63 ∧ ∀ H', Q (.bl true) H'
theorem cut_int {xs : List V} (hx : ∀ x ∈ xs, ∃ i, x = .int i) {lo hi : Option Int} : ∀ x ∈ cutV xs lo hi, ∃ i, x = .int i := fun x h => by
  unfold cutV at h
  exact hx x (List.mem_of_mem_drop (List.mem_of_mem_take h))
theorem cut_len {xs : List V} {lo hi : Option Int} : (cutV xs lo hi).length ≤ xs.length := by
  unfold cutV
  rw [List.length_take, List.length_drop]
  omega
/-- a list of words of a town -/
def Ws (K : PySem.W.Frag) (H : Hp) (c : Nat) (p : Addr) (l : List VW) : Prop := H p = some (.lst (l.map (·.1))) ∧ WP K H l ∧ l.length ≤ 200 ∧ (∀ u ∈ l, u.2.Ok ∧ 0 ≤ u.2.h ∧ u.2.h < c)
theorem Ws.up {H H' : Hp} {c : Nat} {p : Addr} {l : List VW} (e : Same H H') (h : Ws K H c p l) : Ws K H' c p l := ⟨e _ _ h.1, h.2.1.up e, h.2.2⟩
theorem Ws.good {H : Hp} {c : Nat} {p q : Addr} {l m : List VW} (h1 : Ws K H c p l) (h2 : Ws K H c q m) (n : Nat) : GoodB K H (blamedL l m n) := fun x hx => by
  obtain ⟨a, b, _, _⟩ := firstP_some (p := x.2.1) (q := x.2.2) (blamedL_lt hx).2.2
  exact ⟨h1.2.1 _ a, h2.2.1 _ b, (h1.2.2.2 _ a).1, (h2.2.2.2 _ b).1⟩
theorem Ws.dp {H : Hp} {c : Nat} {p : Addr} {l : List VW} (h : Ws K H c p l) : Dp K H (.ref p) (.list (l.map fun u => u.2.dat)) := .lst (SqL.of h.1) h.2.1.dpA
theorem Ws.lay {H : Hp} {c : Nat} {p : Addr} {l : List VW} (h : Ws K H c p l) : Lay 3 (.list (l.map fun u => u.2.dat)) := lay_list fun d hd => by
  obtain ⟨u, hu, rfl⟩ := List.mem_map.mp hd
  exact Wrd.lay (h.2.2.2 u hu).1
theorem ok_law (T : Txt K mg a) : FnOk P w K mg base CX0 4 a.law a.d_law ["_law_script"] (spLaw K) := by
  have G__law_at := ok__law_at (P := P) (w := w) (base := base) T
  have G__law_row := ok__law_row (P := P) (w := w) (base := base) T
  have G__law_word := ok__law_word (P := P) (w := w) (base := base) T
  have G__law_enough := ok__law_enough (P := P) (w := w) (base := base) T
  have G__law_houses := ok__law_houses (P := P) (w := w) (base := base) T
  have G__law_due := ok__law_due (P := P) (w := w) (base := base) T
  have G__law_alike := ok__law_alike (P := P) (w := w) (base := base) T
  have G_blamed := ok_blamed (P := P) (w := w) (base := base) T
  refine T.F_law.ok sc_law (fun vs H Q E h => ?_) (fun cdv A outer s H vs Q E hr h => ?_)
  · obtain ⟨q, ns, rfl, _⟩ := h
    rfl
  · obtain ⟨q, ns, rfl, hq, hn, k⟩ := h
    have HR_blamed : Room 3 _ := hr.mono (by decide)
    have HR__law_at : Room 1 _ := hr.mono (by decide)
    have HR__law_row : Room 1 _ := hr.mono (by decide)
    have HR__law_enough : Room 1 _ := hr.mono (by decide)
    have HR__law_word : Room 2 _ := hr.mono (by decide)
    have HR__law_due : Room 2 _ := hr.mono (by decide)
    have HR__law_houses : Room 1 _ := hr.mono (by decide)
    have HR__law_alike : Room 2 _ := hr.mono (by decide)
    refine ⟨_, (pss_cons (ps_set (i := 1) sc_law.nd rfl (Or.inr rfl) (pe_op op_add pe_int (pe_op op_mod (pe_call G__law_at HR__law_at rfl T.g__law_at T.F__law_at.kp T.b__law_at .nil pass0 (pa_cons (pv 0) (pa_cons pe_int pa_nil))) pe_int)))
  (pss_cons (ps_set (i := 2) sc_law.nd rfl (Or.inr rfl) (pe_op op_mod (pe_op op_fdiv (pe_call G__law_at HR__law_at rfl T.g__law_at T.F__law_at.kp T.b__law_at .nil pass0 (pa_cons (pv 0) (pa_cons pe_int pa_nil))) pe_int) pe_int))
  (pss_cons (ps_set (i := 3) sc_law.nd rfl (Or.inl rfl) (pe_slice sl_list (pv 0) (po_some pe_int) (po_some pe_int)))
  (pss_cons (ps_setLc (i := 4) (own := [("_law_cell", 5)]) (g := gName 5) (tt := tYes) rfl sc_law.nd rfl rfl rfl (pi_list (pe_slice sl_list (pv 3) po_none (po_some (pe_op op_mod (pe_call G__law_at HR__law_at rfl T.g__law_at T.F__law_at.kp T.b__law_at .nil pass0 (pa_cons (pv 0) (pa_cons pe_int pa_nil))) pe_int)))) (blkOk_by (N := N_law) (sc := defScope s_law) (by decide +kernel)) (fun _ _ _ _ _ => pg_name (i := 5) sc_law.nd rfl (Or.inl rfl)) (fun _ _ _ _ _ => pts_nil) (fun _ _ _ _ _ => (pe_call G__law_word HR__law_word rfl T.g__law_word T.F__law_word.kp T.b__law_word .nil pass0 (pa_cons (pv 5) (pa_cons (pv 1) (pa_cons (pv 2) pa_nil))))))
  (pss_cons (ps_setLc (i := 6) (own := [("_law_cell", 5)]) (g := gName 5) (tt := tYes) rfl sc_law.nd rfl rfl rfl (pi_list (pe_slice sl_list (pv 3) (po_some pe_int) po_none)) (blkOk_by (N := N_law) (sc := defScope s_law) (by decide +kernel)) (fun _ _ _ _ _ => pg_name (i := 5) sc_law.nd rfl (Or.inl rfl)) (fun _ _ _ _ _ => pts_nil) (fun _ _ _ _ _ => (pe_call G__law_word HR__law_word rfl T.g__law_word T.F__law_word.kp T.b__law_word .nil pass0 (pa_cons (pe_op op_fdiv (pv 5) pe_int) (pa_cons (pv 1) (pa_cons (pv 2) pa_nil))))))
  (pss_cons (ps_if (pt_cmpR op_eq (pe_op op_mod (pe_op op_fdiv (pe_call G__law_at HR__law_at rfl T.g__law_at T.F__law_at.kp T.b__law_at .nil pass0 (pa_cons (pv 0) (pa_cons pe_int pa_nil))) pe_int) pe_int) pe_int (nomark _))
    (pss_one (ps_set (i := 6) sc_law.nd rfl (Or.inl rfl) (pe_op (r := LH.rCatS K) LH.op_catS (pv 6) (pe_revL (pv 4)))))
    pss_nil)
  (pss_cons (ps_set (i := 7) sc_law.nd rfl (Or.inl rfl) (pe_lst (pa_cons (pe_callTy (r := LH.rListOf K) LH.call_listOf rfl T.n_list (by decide +kernel) (pa_cons (pv 4) pa_nil)) (pa_cons (pe_callTy (r := LH.rListOf K) LH.call_listOf rfl T.n_list (by decide +kernel) (pa_cons (pv 6) pa_nil)) pa_nil))))
  (pss_cons (ps_if (PW.pt (pw_or (pt_not (pt_val (pe_call G__law_alike HR__law_alike rfl T.g__law_alike T.F__law_alike.kp T.b__law_alike .nil pass0 (pa_cons (pe_call G_blamed HR_blamed rfl T.g_blamed T.F_blamed.kp T.b_blamed .nil pass0 (pa_cons (pe_ix (r := rIxL K) ix_list (pv 7) pe_int (fun _ _ => rfl)) (pa_cons (pe_ix (r := rIxL K) ix_list (pv 7) pe_int (fun _ _ => rfl)) pa_nil))) (pa_cons (pe_call G__law_due HR__law_due rfl T.g__law_due T.F__law_due.kp T.b__law_due .nil pass0 (pa_cons (pv 4) (pa_cons (pv 6) (pa_cons (pv 1) pa_nil)))) pa_nil))))) (pw_or1 (pt_cmpR (r := rNeD K) (op_neD hr.units) (pv 7) (pe_lst (pa_cons (pv 4) (pa_cons (pv 6) pa_nil))) (nomark _)))))
    (pss_one (ps_ret pe_bl))
    pss_nil)
  (pss_cons (ps_set (i := 8) sc_law.nd rfl (Or.inl rfl) (pe_call G__law_enough HR__law_enough rfl T.g__law_enough T.F__law_enough.kp T.b__law_enough .nil pass0 (pa_cons (pv 1) pa_nil)))
  (pss_cons (ps_set (i := 9) sc_law.nd rfl (Or.inl rfl) (pe_call G__law_houses HR__law_houses rfl T.g__law_houses T.F__law_houses.kp T.b__law_houses .nil pass0 (pa_cons (pe_call G__law_at HR__law_at rfl T.g__law_at T.F__law_at.kp T.b__law_at .nil pass0 (pa_cons (pv 0) (pa_cons pe_int pa_nil))) (pa_cons (pv 1) (pa_cons (pv 8) pa_nil)))))
  (pss_cons (ps_set (i := 10) sc_law.nd rfl (Or.inl rfl) (pe_call G__law_houses HR__law_houses rfl T.g__law_houses T.F__law_houses.kp T.b__law_houses .nil pass0 (pa_cons (pe_call G__law_at HR__law_at rfl T.g__law_at T.F__law_at.kp T.b__law_at .nil pass0 (pa_cons (pv 0) (pa_cons pe_int pa_nil))) (pa_cons (pv 1) (pa_cons (pe_op op_add (pv 8) (pe_op op_mul (pe_callTy LH.call_intB rfl T.n_int (by decide +kernel) (pa_cons (pe_cmpR op_lt (pv 8) (pv 1) (nomark _)) pa_nil)) (pe_op op_mod (pe_call G__law_at HR__law_at rfl T.g__law_at T.F__law_at.kp T.b__law_at .nil pass0 (pa_cons (pv 0) (pa_cons pe_int pa_nil))) pe_int))) pa_nil)))))
  (pss_cons (ps_setLc (i := 11) (own := [("_law_house", 12)]) (g := gName 12) (tt := tYes) rfl sc_law.nd rfl rfl rfl (pi_list (pv 9)) (blkOk_by (N := N_law) (sc := defScope s_law) (by decide +kernel)) (fun _ _ _ _ _ => pg_name (i := 12) sc_law.nd rfl (Or.inl rfl)) (fun _ _ _ _ _ => pts_nil) (fun _ _ _ _ _ => (pe_tup (pa_cons pe_str (pa_cons pe_int (pa_cons (pe_call G__law_row HR__law_row rfl T.g__law_row T.F__law_row.kp T.b__law_row .nil pass0 (pa_cons (pv 2) (pa_cons pe_int pa_nil))) (pa_cons (pv 12) pa_nil)))))))
  (pss_cons (ps_setLc (i := 13) (own := [("_law_house", 12)]) (g := gName 12) (tt := tYes) rfl sc_law.nd rfl rfl rfl (pi_list (pv 10)) (blkOk_by (N := N_law) (sc := defScope s_law) (by decide +kernel)) (fun _ _ _ _ _ => pg_name (i := 12) sc_law.nd rfl (Or.inl rfl)) (fun _ _ _ _ _ => pts_nil) (fun _ _ _ _ _ => (pe_tup (pa_cons pe_str (pa_cons pe_int (pa_cons (pe_call G__law_row HR__law_row rfl T.g__law_row T.F__law_row.kp T.b__law_row .nil pass0 (pa_cons (pv 2) (pa_cons pe_int pa_nil))) (pa_cons (pv 12) pa_nil)))))))
  (pss_cons (ps_set (i := 14) sc_law.nd rfl (Or.inl rfl) (pe_call G_blamed HR_blamed rfl T.g_blamed T.F_blamed.kp T.b_blamed .nil pass0 (pa_cons (pe_callTy (r := LH.rListOf K) LH.call_listOf rfl T.n_list (by decide +kernel) (pa_cons (pv 11) pa_nil)) (pa_cons (pe_callTy (r := LH.rListOf K) LH.call_listOf rfl T.n_list (by decide +kernel) (pa_cons (pv 13) pa_nil)) pa_nil))))
  (pss_one (ps_ret (pe_and (pe_call G__law_alike HR__law_alike rfl T.g__law_alike T.F__law_alike.kp T.b__law_alike .nil pass0 (pa_cons (pv 14) (pa_cons (pe_call G__law_due HR__law_due rfl T.g__law_due T.F__law_due.kp T.b__law_due .nil pass0 (pa_cons (pv 11) (pa_cons (pv 13) (pa_cons (pv 1) pa_nil)))) pa_nil))) (pe_one (pe_cmpR op_ge (pe_callB (r := LH.rLen K) LH.call_len rfl T.n_len (by decide +kernel) (pa_cons (pv 14) pa_nil)) (pe_op op_sub (pe_op op_mul pe_int (pv 8)) (pv 1)) (nomark _)))))))))))))))))))), ?_⟩
    walk_at "rd"
    refine ⟨q, ns, _, rfl, hq, by omega, fun z0 => ?_⟩
    walk_at "rd"
    obtain ⟨c, hc⟩ : ∃ c : Nat, 1 + z0 % 12 = (c : Int) := ⟨(1 + z0 % 12).toNat, by omega⟩
    have c1 : (1 : Int) ≤ c := by omega
    have c2 : (c : Int) ≤ 12 := by omega
    rw [hc]
    refine ⟨q, ns, _, rfl, hq, by omega, fun z1 => ?_⟩
    walk_at "rd"
    generalize z1 / 12 % 100003 = b
    refine LH.x_slL hq fun pc H1 f1 e1 g1 => ?_
    have allInt : ∀ x ∈ cutV (ns.map V.int) (some 4) (some 28), ∃ i, x = .int i := cut_int fun x hx => by
      obtain ⟨i, _, e⟩ := List.mem_map.mp hx
      exact ⟨i, e.symm⟩
    have clen : (cutV (ns.map V.int) (some 4) (some 28)).length ≤ 63 := Nat.le_trans cut_len (by rw [List.length_map]; exact hn)
    walk_at "rd"
    refine ⟨q, ns, _, rfl, Same.seq e1 hq, by omega, fun z2 => ?_⟩
    walk_at "rd"
    refine LH.x_slL (SqL.of g1) fun pc1 H2 f2 e2 g2 => ?_
    refine LH.lc_LR (SqL.of g2) (Nat.le_trans cut_len (by omega)) (fun _ => true) (fun _ y F => ∃ u : Wrd, WV K F y u ∧ u.Ok ∧ 0 ≤ u.h ∧ u.h < c) (fun i y Ha Hb e ⟨u, h1, h2⟩ => ⟨u, h1.up e, h2⟩) (fun _ => rfl) ?_ ?_ fun p1 H3 ys1 f3 e3 g3 pr3 => ?_
    · intro i x hx Hx ex Q3 q3
      walk_at "rd"
      exact q3 _ (Same.refl _)
    · intro i x hx _ D Hx es ex lD Q3 q3
      obtain ⟨z, rfl⟩ := cut_int allInt x (List.mem_of_getElem? hx)
      walk_at "rd"
      refine ⟨_, _, _, rfl, c1, fun t Hy u ey fy gy uo u1 u2 => ?_⟩
      obtain ⟨l, lD⟩ := lD
      exact q3 _ _ ey ⟨u, ⟨t, rfl, SqT.of (LH.fr_of gy (by simpa using (ne_of_none lD fy).symm))⟩, uo, u1, u2⟩
    obtain ⟨l1, el1, hl1⟩ := words_of (P := fun y u => WV K H3 y u ∧ u.Ok ∧ 0 ≤ u.h ∧ u.h < c) fun y hy => by
      obtain ⟨i, _, u, h1, h2⟩ := paired_right pr3 y hy
      exact ⟨u, h1.up LH.fr_le, h2⟩
    have len1 : l1.length ≤ 63 := by
      have h1 := LH.Paired.len pr3
      have h2 := List.length_filter_le (fun _ : Nat => true) (List.range (cutV (cutV (ns.map V.int) (some 4) (some 28)) none (some (z2 % 13))).length)
      have h3 : (cutV (cutV (ns.map V.int) (some 4) (some 28)) none (some (z2 % 13))).length ≤ _ := cut_len
      rw [List.length_range] at h2
      rw [← List.length_map (f := (·.1)) (as := l1), el1]
      omega
    have W1 : Ws K H3 c p1 l1 := ⟨by rw [el1]; exact g3, fun u hu => (hl1 u hu).1, by omega, fun u hu => (hl1 u hu).2⟩
    walk_at "rd"
    refine LH.x_slL (SqL.of ((e2.trans e3) _ _ g1)) fun pc2 H4 f4 e4 g4 => ?_
    refine LH.lc_LR (SqL.of g4) (Nat.le_trans cut_len (by omega)) (fun _ => true) (fun _ y F => ∃ u : Wrd, WV K F y u ∧ u.Ok ∧ 0 ≤ u.h ∧ u.h < c) (fun i y Ha Hb e ⟨u, h1, h2⟩ => ⟨u, h1.up e, h2⟩) (fun _ => rfl) ?_ ?_ fun p2 H5 ys2 f5 e5 g5 pr5 => ?_
    · intro i x hx Hx ex Q3 q3
      walk_at "rd"
      exact q3 _ (Same.refl _)
    · intro i x hx _ D Hx es ex lD Q3 q3
      obtain ⟨z, rfl⟩ := cut_int allInt x (List.mem_of_getElem? hx)
      walk_at "rd"
      refine ⟨_, _, _, rfl, c1, fun t Hy u ey fy gy uo u1 u2 => ?_⟩
      obtain ⟨l, lD⟩ := lD
      exact q3 _ _ ey ⟨u, ⟨t, rfl, SqT.of (LH.fr_of gy (by simpa using (ne_of_none lD fy).symm))⟩, uo, u1, u2⟩
    obtain ⟨l2, el2, hl2⟩ := words_of (P := fun y u => WV K H5 y u ∧ u.Ok ∧ 0 ≤ u.h ∧ u.h < c) fun y hy => by
      obtain ⟨i, _, u, h1, h2⟩ := paired_right pr5 y hy
      exact ⟨u, h1.up LH.fr_le, h2⟩
    have len2 : l2.length ≤ 63 := by
      have h1 := LH.Paired.len pr5
      have h2 := List.length_filter_le (fun _ : Nat => true) (List.range (cutV (cutV (ns.map V.int) (some 4) (some 28)) (some 12) none).length)
      have h3 : (cutV (cutV (ns.map V.int) (some 4) (some 28)) (some 12) none).length ≤ _ := cut_len
      rw [List.length_range] at h2
      rw [← List.length_map (f := (·.1)) (as := l2), el2]
      omega
    have W2 : Ws K H5 c p2 l2 := ⟨by rw [el2]; exact g5, fun u hu => (hl2 u hu).1, by omega, fun u hu => (hl2 u hu).2⟩
    have e35 := e4.trans e5
    have W1' := W1.up e35
    walk_at "rs"
    refine LH.cutS (fun σ' H' => ∃ p3 l3, σ' = [some (.ref q), some (.int c), some (.int b), some (.ref pc), some (.ref p1), none, some (.ref p3), none, none, none, none, none, none, none, none] ∧ Same H5 H' ∧ Ws K H' c p3 l3) (fun N hN => ?_) ?_
    · walk_at "rd"
      refine ⟨q, ns, _, rfl, Same.seq ((e1.trans (e2.trans e3)).trans e35) hq, by omega, fun z3 => ?_⟩
      walk_at "rd"
      refine LH.br_d (fun _ => ?_) (fun _ => ?_)
      · walk_at "rd"
        refine LH.rvv (SqL.of W1'.1) fun p4 H6 f6 e6 g6 => ?_
        refine LH.x_catS (SqL.of (e6 _ _ W2.1)) (SqL.of g6) (by rw [List.length_reverse, List.length_map, List.length_map]; omega) fun p5 H7 f7 e7 g7 => ?_
        walk_at "rd"
        refine hN _ _ ⟨p5, l2 ++ l1.reverse, rfl, e6.trans e7, ?_, ?_, ?_, ?_⟩
        · rw [g7, List.map_append, List.map_reverse]
        · intro u hu
          rcases List.mem_append.mp hu with hu | hu
          · exact (W2.up (e6.trans e7)).2.1 u hu
          · exact (W1'.up (e6.trans e7)).2.1 u (List.mem_reverse.mp hu)
        · rw [List.length_append, List.length_reverse]
          omega
        · intro u hu
          rcases List.mem_append.mp hu with hu | hu
          · exact W2.2.2.2 u hu
          · exact W1.2.2.2 u (List.mem_reverse.mp hu)
      · walk_at "rd"
        exact hN _ _ ⟨p2, l2, rfl, Same.refl _, W2⟩
    rintro σ' H6 ⟨p3, l3, rfl, e6, W3⟩
    have W1 := W1'.up e6
    have hq6 := Same.seq (((e1.trans (e2.trans e3)).trans e35).trans e6) hq
    walk_at "rd"
    refine LH.x_listOf (.inl (SqL.of W1.1)) fun a1 H7 f7 e7 g7 => ?_
    walk_at "rd"
    refine LH.x_listOf (.inl (SqL.of (W3.up e7).1)) fun a2 H8 f8 e8 g8 => ?_
    walk_at "rd"
    refine LH.newl (LH.small rfl) fun ph H9 f9 e9 g9 => ?_
    walk_at "rd"
    have e69 := (e7.trans e8).trans e9
    have A1 : Ws K H9 c a1 l1 := ⟨(e8.trans e9) _ _ g7, (W1.up e69).2⟩
    have A2 : Ws K H9 c a2 l3 := ⟨e9 _ _ g8, (W3.up e69).2⟩
    have B1 := W1.up e69
    have B3 := W3.up e69
    refine LH.x_ixL (v := .ref a1) (SqL.of g9) rfl ?_
    walk_at "rd"
    refine LH.x_ixL (v := .ref a2) (SqL.of g9) rfl ?_
    walk_at "rd"
    refine ⟨a1, a2, l1, l3, c, rfl, SqL.of A1.1, SqL.of A2.1, A1.2.1, A2.2.1, by have := A1.2.2.1; omega, by have := A2.2.2.1; omega, by omega, fun u hu => (A1.2.2.2 u hu).2, fun r1 H10 y1 e10 f10 g10 pr1 => ?_⟩
    walk_at "rd"
    refine ⟨p1, p3, l1, l3, c, rfl, SqL.of (B1.up e10).1, SqL.of (B3.up e10).1, (B1.up e10).2.1, (B3.up e10).2.1, by omega, fun r2 H11 y2 e11 f11 g11 pr2 => ?_⟩
    walk_at "rd"
    have e911 := e10.trans e11
    refine ⟨r1, r2, _, _, _, rfl, e11 _ _ g10, g11, LH.Paired.imp (fun _ _ q => q.up e11) pr1, pr2, (B1.up e911).good (B3.up e911) c, fun H12 e12 => ?_⟩
    walk_at "rd"
    have e912 := e911.trans e12
    refine LH.newl (LH.small rfl) fun pe H13 f13 e13 g13 => ?_
    have e913 := e912.trans e13
    have lay2 : Lay 4 (.list [.list (l1.map fun u => u.2.dat), .list (l3.map fun u => u.2.dat)]) := lay_list fun d hd => by
      simp only [List.mem_cons, List.not_mem_nil, or_false] at hd
      rcases hd with rfl | rfl
      · exact A1.lay
      · exact A2.lay
    refine LH.x_neD (.lst (SqL.of (e913 _ _ g9)) (.cons (A1.up e913).dp (.cons (A2.up e913).dp .nil))) (.lst (SqL.of g13) (.cons (B1.up e913).dp (.cons (B3.up e913).dp .nil))) lay2.shaped lay2.shaped ?_
    rw [lay2.refl]
    walk_at "rd"
    have e613 := e69.trans e913
    -- two backings
    refine ⟨c, rfl, c1, c2, ?_⟩
    walk_at "rd"
    have enc : 1 ≤ en c ∧ en c ≤ c := by unfold en; omega
    refine ⟨q, ns, _, rfl, Same.seq e613 hq6, by omega, fun z4 => ?_⟩
    walk_at "rd"
    refine ⟨_, _, _, rfl, c1, c2, enc.2, fun s1 H14 hs1 e14 g14 nd1 rg1 ln1 => ?_⟩
    walk_at "rd"
    refine ⟨q, ns, _, rfl, Same.seq (e613.trans e14) hq6, by omega, fun z5 => ?_⟩
    walk_at "rd"
    have hb : ∀ t : Bool, 0 ≤ (if t = true then (1 : Int) else 0) ∧ (if t = true then (1 : Int) else 0) ≤ 1 := fun t => by cases t <;> decide
    refine ⟨q, ns, _, rfl, Same.seq (e613.trans e14) hq6, by omega, fun z6 => ?_⟩
    walk_at "rd"
    obtain ⟨m2, em2, hm2⟩ : ∃ m2 : Int, en (c : Int) + (if decide (en (c : Int) < c) = true then (1 : Int) else 0) * (z6 % 2) = m2 ∧ en (c : Int) ≤ m2 ∧ m2 ≤ c := by
      refine ⟨_, rfl, ?_⟩
      have h6 : z6 % 2 = 0 ∨ z6 % 2 = 1 := by omega
      by_cases h : en (c : Int) < c
      · rw [decide_eq_true h, if_pos rfl]
        rcases h6 with h6 | h6 <;> rw [h6] <;> omega
      · rw [decide_eq_false h, if_neg Bool.false_ne_true]
        rcases h6 with h6 | h6 <;> rw [h6] <;> omega
    rw [em2]
    refine ⟨_, _, _, rfl, c1, c2, hm2.2, fun s2 H15 hs2 e15 g15 nd2 rg2 ln2 => ?_⟩
    walk_at "rd"
    have l1' : (hs1.length : Int) = en c := by omega
    have l2' : (hs2.length : Int) = m2 := by omega
    -- the marks
    refine LH.lc_LR (SqL.of (e15 _ _ g14)) (by rw [List.length_map]; omega) (fun _ => true) (fun i y F => ∃ t, y = .ref t ∧ F t = some (.tup (wd "mark" 5 (rowF b 0) (hs1.getD i 0)))) (fun i y Ha Hb e ⟨t, h1, h2⟩ => ⟨t, h1, e _ _ h2⟩) (fun _ => rfl) ?_ ?_ fun p7 H16 ys7 f16 e16 g16 pr7 => ?_
    · intro i x hx Hx ex Q3 q3
      walk_at "rd"
      exact q3 _ (Same.refl _)
    · intro i x hx _ D Hx es ex lD Q3 q3
      rw [List.getElem?_map] at hx
      obtain ⟨h, hj, rfl⟩ := Option.map_eq_some_iff.mp hx
      walk_at "rd"
      refine ⟨_, _, rfl, fun Hy ey => ?_⟩
      walk_at "rd"
      refine LH.newt (LH.small rfl) fun t Hz fz ez gz => ?_
      obtain ⟨l, lD⟩ := lD
      refine q3 _ _ (ey.trans ez) ⟨t, rfl, LH.fr_of ?_ (by simpa using (ne_of_none (ey _ _ lD) fz).symm)⟩
      rw [gz, List.getD_eq_getElem?_getD, hj]
      rfl
    walk_at "rd"
    refine LH.lc_LR (SqL.of (e16 _ _ g15)) (by rw [List.length_map]; omega) (fun _ => true) (fun i y F => ∃ t, y = .ref t ∧ F t = some (.tup (wd "mark" 5 (rowF b 1) (hs2.getD i 0)))) (fun i y Ha Hb e ⟨t, h1, h2⟩ => ⟨t, h1, e _ _ h2⟩) (fun _ => rfl) ?_ ?_ fun p8 H17 ys8 f17 e17 g17 pr8 => ?_
    · intro i x hx Hx ex Q3 q3
      walk_at "rd"
      exact q3 _ (Same.refl _)
    · intro i x hx _ D Hx es ex lD Q3 q3
      rw [List.getElem?_map] at hx
      obtain ⟨h, hj, rfl⟩ := Option.map_eq_some_iff.mp hx
      walk_at "rd"
      refine ⟨_, _, rfl, fun Hy ey => ?_⟩
      walk_at "rd"
      refine LH.newt (LH.small rfl) fun t Hz fz ez gz => ?_
      obtain ⟨l, lD⟩ := lD
      refine q3 _ _ (ey.trans ez) ⟨t, rfl, LH.fr_of ?_ (by simpa using (ne_of_none (ey _ _ lD) fz).symm)⟩
      rw [gz, List.getD_eq_getElem?_getD, hj]
      rfl
    walk_at "rd"
    have Wm : ∀ {H0 : Hp} {D p : Addr} {r : Str} {hs : List Int} {ys : List V}, Ok r → H0 p = some (.lst ys) → (∀ h ∈ hs, 0 ≤ h ∧ h < (c : Int)) → hs.length ≤ 20 →
        Paired (fun i y => ∃ t, y = .ref t ∧ (LH.Fr [D] H0) t = some (.tup (wd "mark" 5 r (hs.getD i 0)))) ((List.range (hs.map V.int).length).filter fun _ => true) ys → ys.length = hs.length ∧ Ws K H0 c p (marks 5 r ys hs) := fun {H0 D p r hs ys} ok g rg ln pr => by
      have el : ys.length = hs.length := by
        rw [← LH.Paired.len pr, List.filter_eq_self.mpr (fun _ _ => rfl), List.length_range, List.length_map]
      have fst : (marks 5 r ys hs).map (·.1) = ys := by
        unfold marks
        rw [List.map_map]
        show (ys.zip hs).map Prod.fst = ys
        rw [List.map_fst_zip (by omega)]
      refine ⟨el, by rw [fst]; exact g, fun u hu => ?_, by unfold marks; rw [List.length_map, List.length_zip]; omega, fun u hu => ?_⟩
      · obtain ⟨z, hz, rfl⟩ := List.mem_map.mp hu
        obtain ⟨j, hj, e⟩ := List.mem_iff_getElem.mp hz
        have hz2 : (ys.zip hs)[j]? = some z := by rw [← e]; exact List.getElem?_eq_getElem hj
        rw [List.getElem?_zip_eq_some] at hz2
        have hj2 : j < hs.length := (List.getElem?_eq_some_iff.mp hz2.2).1
        have hr2 : ((List.range (hs.map V.int).length).filter fun _ => true)[j]? = some j := by
          rw [List.filter_eq_self.mpr (fun _ _ => rfl), List.getElem?_range (by rw [List.length_map]; exact hj2)]
        obtain ⟨t, h1, h2⟩ := paired_at pr hr2 hz2.1
        refine ⟨t, h1, SqT.of ?_⟩
        have := LH.fr_le _ _ h2
        rw [List.getD_eq_getElem?_getD, hz2.2] at this
        exact this
      · obtain ⟨z, hz, rfl⟩ := List.mem_map.mp hu
        exact ⟨⟨ok_mark, ok⟩, rg z.2 (List.of_mem_zip hz).2⟩
    obtain ⟨k7, W7⟩ := Wm (rowF_ok b 0) g16 rg1 (by omega) pr7
    obtain ⟨k8, W8⟩ := Wm (rowF_ok b 1) g17 rg2 (by omega) pr8
    have W7 := W7.up e17
    refine LH.x_listOf (.inl (SqL.of W7.1)) fun a7 H18 f18 e18 g18 => ?_
    walk_at "rd"
    refine LH.x_listOf (.inl (SqL.of (W8.up e18).1)) fun a8 H19 f19 e19 g19 => ?_
    walk_at "rd"
    have A7 : Ws K H19 c a7 (marks 5 (rowF b 0) ys7 hs1) := ⟨e19 _ _ g18, (W7.up (e18.trans e19)).2⟩
    have A8 : Ws K H19 c a8 (marks 5 (rowF b 1) ys8 hs2) := ⟨g19, (W8.up (e18.trans e19)).2⟩
    have B7 := W7.up (e18.trans e19)
    have B8 := W8.up (e18.trans e19)
    refine ⟨a7, a8, _, _, c, rfl, SqL.of A7.1, SqL.of A8.1, A7.2.1, A8.2.1, by have := A7.2.2.1; omega, by have := A8.2.2.1; omega, by omega, fun u hu => (A7.2.2.2 u hu).2, fun r3 H20 y3 e20 f20 g20 pr9 => ?_⟩
    walk_at "rd"
    refine ⟨p7, p8, _, _, c, rfl, SqL.of (B7.up e20).1, SqL.of (B8.up e20).1, (B7.up e20).2.1, (B8.up e20).2.1, by omega, fun r4 H21 y4 e21 f21 g21 pr10 => ?_⟩
    walk_at "rd"
    have e1921 := e20.trans e21
    refine ⟨r3, r4, _, _, _, rfl, e21 _ _ g20, g21, LH.Paired.imp (fun _ _ q => q.up e21) pr9, pr10, (B7.up e1921).good (B8.up e1921) c, fun H22 e22 => ?_⟩
    walk_at "rd"
    refine LH.x_lenL (SqL.of ((e21.trans e22) _ _ g20)) ?_
    walk_at "rd"
    have big : 2 * en (c : Int) - c ≤ (y3.length : Int) := by
      have h1 := LH.Paired.len pr9
      have h2 := shared_le nd1 nd2 rg1 rg2
      have h3 : (blamedL (marks 5 (rowF b 0) ys7 hs1) (marks 5 (rowF b 1) ys8 hs2) c).length = ((List.range c).filter fun (h : Nat) => decide ((h : Int) ∈ hs1) && decide ((h : Int) ∈ hs2)).length := by
        unfold blamedL
        rw [filterMap_len]
        congr 1
        refine List.filter_congr fun h _ => ?_
        rw [Option.isSome_map, marks_find (rowF_ne (by decide)) k7 k8]
      omega
    rw [decide_eq_true big]
    exact k _
end
end K5
namespace K5
open PySem L2
theorem all_mk {l : PySem.W.OpenLaw} {w : World} {K : PySem.W.Frag} {h : Heap} {mg : Str → Option Value} {fa f0 f1 f2 f3 f4 f5 f6 f7 f8 f9 f10 f11 f12 : Addr} (X : K.In h) (G : h.Ns mainGlobals mg) (hfa : mg "law" = some (.ref fa))
    {od0 an0 : Option Addr} {sl0 : Array (Option Value)} {oc0 kV0 dc0 pm0 cd0 ct0 : Value} {od1 an1 : Option Addr} {sl1 : Array (Option Value)} {oc1 kV1 dc1 pm1 cd1 ct1 : Value} {od2 an2 : Option Addr} {sl2 : Array (Option Value)} {oc2 kV2 dc2 pm2 cd2 ct2 : Value} {od3 an3 : Option Addr} {sl3 : Array (Option Value)} {oc3 kV3 dc3 pm3 cd3 ct3 : Value} {od4 an4 : Option Addr} {sl4 : Array (Option Value)} {oc4 kV4 dc4 pm4 cd4 ct4 : Value} {od5 an5 : Option Addr} {sl5 : Array (Option Value)} {oc5 kV5 dc5 pm5 cd5 ct5 : Value} {od6 an6 : Option Addr} {sl6 : Array (Option Value)} {oc6 kV6 dc6 pm6 cd6 ct6 : Value} {od7 an7 : Option Addr} {sl7 : Array (Option Value)} {oc7 kV7 dc7 pm7 cd7 ct7 : Value} {od8 an8 : Option Addr} {sl8 : Array (Option Value)} {oc8 kV8 dc8 pm8 cd8 ct8 : Value} {od9 an9 : Option Addr} {sl9 : Array (Option Value)} {oc9 kV9 dc9 pm9 cd9 ct9 : Value} {od10 an10 : Option Addr} {sl10 : Array (Option Value)} {oc10 kV10 dc10 pm10 cd10 ct10 : Value} {od11 an11 : Option Addr} {sl11 : Array (Option Value)} {oc11 kV11 dc11 pm11 cd11 ct11 : Value} {od12 an12 : Option Addr} {sl12 : Array (Option Value)} {oc12 kV12 dc12 pm12 cd12 ct12 : Value}
    (a0 : PySem.W.nsIn K mainGlobals "place" = some (some (.ref f0)))
    (l0 : K.lookup f0 = some ⟨oc0, od0, .func (PySem.W.fnOf "place" "place" (defArgs s_place) (defBody s_place) (defScope s_place) .none kV0 dc0 pm0 an0 cd0 ct0), sl0⟩)
    (c0c : PySem.W.codeIn K cd0 "place" = true)
    (k0 : PySem.W.keepIn K (.ref f0) = true)
    (a1 : PySem.W.nsIn K mainGlobals "words_by_place" = some (some (.ref f1)))
    (l1 : K.lookup f1 = some ⟨oc1, od1, .func (PySem.W.fnOf "words_by_place" "words_by_place" (defArgs s_words_by_place) (defBody s_words_by_place) (defScope s_words_by_place) .none kV1 dc1 pm1 an1 cd1 ct1), sl1⟩)
    (c1c : PySem.W.codeIn K cd1 "words_by_place" = true)
    (k1 : PySem.W.keepIn K (.ref f1) = true)
    (a2 : PySem.W.nsIn K mainGlobals "blamed" = some (some (.ref f2)))
    (l2 : K.lookup f2 = some ⟨oc2, od2, .func (PySem.W.fnOf "blamed" "blamed" (defArgs s_blamed) (defBody s_blamed) (defScope s_blamed) .none kV2 dc2 pm2 an2 cd2 ct2), sl2⟩)
    (c2c : PySem.W.codeIn K cd2 "blamed" = true)
    (k2 : PySem.W.keepIn K (.ref f2) = true)
    (a3 : PySem.W.nsIn K mainGlobals "_law_at" = some (some (.ref f3)))
    (l3 : K.lookup f3 = some ⟨oc3, od3, .func (PySem.W.fnOf "_law_at" "_law_at" (defArgs s__law_at) (defBody s__law_at) (defScope s__law_at) .none kV3 dc3 pm3 an3 cd3 ct3), sl3⟩)
    (c3c : PySem.W.codeIn K cd3 "_law_at" = true)
    (k3 : PySem.W.keepIn K (.ref f3) = true)
    (a4 : PySem.W.nsIn K mainGlobals "_law_whole" = some (some (.ref f4)))
    (l4 : K.lookup f4 = some ⟨oc4, od4, .func (PySem.W.fnOf "_law_whole" "_law_whole" (defArgs s__law_whole) (defBody s__law_whole) (defScope s__law_whole) .none kV4 dc4 pm4 an4 cd4 ct4), sl4⟩)
    (c4c : PySem.W.codeIn K cd4 "_law_whole" = true)
    (k4 : PySem.W.keepIn K (.ref f4) = true)
    (a5 : PySem.W.nsIn K mainGlobals "_law_row" = some (some (.ref f5)))
    (l5 : K.lookup f5 = some ⟨oc5, od5, .func (PySem.W.fnOf "_law_row" "_law_row" (defArgs s__law_row) (defBody s__law_row) (defScope s__law_row) .none kV5 dc5 pm5 an5 cd5 ct5), sl5⟩)
    (c5c : PySem.W.codeIn K cd5 "_law_row" = true)
    (k5 : PySem.W.keepIn K (.ref f5) = true)
    (a6 : PySem.W.nsIn K mainGlobals "_law_enough" = some (some (.ref f6)))
    (l6 : K.lookup f6 = some ⟨oc6, od6, .func (PySem.W.fnOf "_law_enough" "_law_enough" (defArgs s__law_enough) (defBody s__law_enough) (defScope s__law_enough) .none kV6 dc6 pm6 an6 cd6 ct6), sl6⟩)
    (c6c : PySem.W.codeIn K cd6 "_law_enough" = true)
    (k6 : PySem.W.keepIn K (.ref f6) = true)
    (a7 : PySem.W.nsIn K mainGlobals "_law_word" = some (some (.ref f7)))
    (l7 : K.lookup f7 = some ⟨oc7, od7, .func (PySem.W.fnOf "_law_word" "_law_word" (defArgs s__law_word) (defBody s__law_word) (defScope s__law_word) .none kV7 dc7 pm7 an7 cd7 ct7), sl7⟩)
    (c7c : PySem.W.codeIn K cd7 "_law_word" = true)
    (k7 : PySem.W.keepIn K (.ref f7) = true)
    (a8 : PySem.W.nsIn K mainGlobals "_law_unlike" = some (some (.ref f8)))
    (l8 : K.lookup f8 = some ⟨oc8, od8, .func (PySem.W.fnOf "_law_unlike" "_law_unlike" (defArgs s__law_unlike) (defBody s__law_unlike) (defScope s__law_unlike) .none kV8 dc8 pm8 an8 cd8 ct8), sl8⟩)
    (c8c : PySem.W.codeIn K cd8 "_law_unlike" = true)
    (k8 : PySem.W.keepIn K (.ref f8) = true)
    (a9 : PySem.W.nsIn K mainGlobals "_law_due" = some (some (.ref f9)))
    (l9 : K.lookup f9 = some ⟨oc9, od9, .func (PySem.W.fnOf "_law_due" "_law_due" (defArgs s__law_due) (defBody s__law_due) (defScope s__law_due) .none kV9 dc9 pm9 an9 cd9 ct9), sl9⟩)
    (c9c : PySem.W.codeIn K cd9 "_law_due" = true)
    (k9 : PySem.W.keepIn K (.ref f9) = true)
    (a10 : PySem.W.nsIn K mainGlobals "_law_houses" = some (some (.ref f10)))
    (l10 : K.lookup f10 = some ⟨oc10, od10, .func (PySem.W.fnOf "_law_houses" "_law_houses" (defArgs s__law_houses) (defBody s__law_houses) (defScope s__law_houses) .none kV10 dc10 pm10 an10 cd10 ct10), sl10⟩)
    (c10c : PySem.W.codeIn K cd10 "_law_houses" = true)
    (k10 : PySem.W.keepIn K (.ref f10) = true)
    (a11 : PySem.W.nsIn K mainGlobals "_law_alike" = some (some (.ref f11)))
    (l11 : K.lookup f11 = some ⟨oc11, od11, .func (PySem.W.fnOf "_law_alike" "_law_alike" (defArgs s__law_alike) (defBody s__law_alike) (defScope s__law_alike) .none kV11 dc11 pm11 an11 cd11 ct11), sl11⟩)
    (c11c : PySem.W.codeIn K cd11 "_law_alike" = true)
    (k11 : PySem.W.keepIn K (.ref f11) = true)
    (a12 : PySem.W.nsIn K mainGlobals "law" = some (some (.ref f12)))
    (l12 : K.lookup f12 = some ⟨oc12, od12, .func (PySem.W.fnOf "law" "law" (defArgs s_law) (defBody s_law) (defScope s_law) .none kV12 dc12 pm12 an12 cd12 ct12), sl12⟩)
    (c12c : PySem.W.codeIn K cd12 "law" = true)
    (k12 : PySem.W.keepIn K (.ref f12) = true)
    (n_bool : PySem.W.nsIn K mainGlobals "bool" = some none)
    (n_int : PySem.W.nsIn K mainGlobals "int" = some none)
    (n_isinstance : PySem.W.nsIn K mainGlobals "isinstance" = some none)
    (n_len : PySem.W.nsIn K mainGlobals "len" = some none)
    (n_list : PySem.W.nsIn K mainGlobals "list" = some none)
    (n_range : PySem.W.nsIn K mainGlobals "range" = some none)
    (n_sorted : PySem.W.nsIn K mainGlobals "sorted" = some none)
    (n_tuple : PySem.W.nsIn K mainGlobals "tuple" = some none) :
    ∃ fd : FuncData, (∀ (s : Shared) (v : Value), BindsTo s fd ⟨[v], []⟩ [("_law_script", v)]) ∧ ∀ base : Heap, K.In base → base.Ns mainGlobals mg → FnOk l.prog w K mg base CX0 4 fa fd ["_law_script"] (spLaw K) := by
  have e := hfa.symm.trans (PySem.W.mg_of X G a12)
  cases e
  have F0 := fun_mk (st := s_place) l0 c0c k0
  have b0 := F0.binds (ps := ["word"]) fun _ _ _ _ _ _ us hl => match us, hl with | [_], _ => rfl
  have F1 := fun_mk (st := s_words_by_place) l1 c1c k1
  have b1 := F1.binds (ps := ["words"]) fun _ _ _ _ _ _ us hl => match us, hl with | [_], _ => rfl
  have F2 := fun_mk (st := s_blamed) l2 c2c k2
  have b2 := F2.binds (ps := ["ones", "others"]) fun _ _ _ _ _ _ us hl => match us, hl with | [_, _], _ => rfl
  have F3 := fun_mk (st := s__law_at) l3 c3c k3
  have b3 := F3.binds (ps := ["_law_script", "_law_k"]) fun _ _ _ _ _ _ us hl => match us, hl with | [_, _], _ => rfl
  have F4 := fun_mk (st := s__law_whole) l4 c4c k4
  have b4 := F4.binds (ps := ["_law_thing"]) fun _ _ _ _ _ _ us hl => match us, hl with | [_], _ => rfl
  have F5 := fun_mk (st := s__law_row) l5 c5c k5
  have b5 := F5.binds (ps := ["_law_base", "_law_k"]) fun _ _ _ _ _ _ us hl => match us, hl with | [_, _], _ => rfl
  have F6 := fun_mk (st := s__law_enough) l6 c6c k6
  have b6 := F6.binds (ps := ["_law_count"]) fun _ _ _ _ _ _ us hl => match us, hl with | [_], _ => rfl
  have F7 := fun_mk (st := s__law_word) l7 c7c k7
  have b7 := F7.binds (ps := ["_law_cell", "_law_count", "_law_base"]) fun _ _ _ _ _ _ us hl => match us, hl with | [_, _, _], _ => rfl
  have F8 := fun_mk (st := s__law_unlike) l8 c8c k8
  have b8 := F8.binds (ps := ["_law_one", "_law_other"]) fun _ _ _ _ _ _ us hl => match us, hl with | [_, _], _ => rfl
  have F9 := fun_mk (st := s__law_due) l9 c9c k9
  have b9 := F9.binds (ps := ["_law_ones", "_law_others", "_law_count"]) fun _ _ _ _ _ _ us hl => match us, hl with | [_, _, _], _ => rfl
  have F10 := fun_mk (st := s__law_houses) l10 c10c k10
  have b10 := F10.binds (ps := ["_law_cell", "_law_count", "_law_many"]) fun _ _ _ _ _ _ us hl => match us, hl with | [_, _, _], _ => rfl
  have F11 := fun_mk (st := s__law_alike) l11 c11c k11
  have b11 := F11.binds (ps := ["_law_found", "_law_due_here"]) fun _ _ _ _ _ _ us hl => match us, hl with | [_, _], _ => rfl
  have F12 := fun_mk (st := s_law) l12 c12c k12
  let a : Ad := ⟨f0, f1, f2, f3, f4, f5, f6, f7, f8, f9, f10, f11, fa, PySem.W.fnOf "place" "place" (defArgs s_place) (defBody s_place) (defScope s_place) .none kV0 dc0 pm0 an0 cd0 ct0, PySem.W.fnOf "words_by_place" "words_by_place" (defArgs s_words_by_place) (defBody s_words_by_place) (defScope s_words_by_place) .none kV1 dc1 pm1 an1 cd1 ct1, PySem.W.fnOf "blamed" "blamed" (defArgs s_blamed) (defBody s_blamed) (defScope s_blamed) .none kV2 dc2 pm2 an2 cd2 ct2, PySem.W.fnOf "_law_at" "_law_at" (defArgs s__law_at) (defBody s__law_at) (defScope s__law_at) .none kV3 dc3 pm3 an3 cd3 ct3, PySem.W.fnOf "_law_whole" "_law_whole" (defArgs s__law_whole) (defBody s__law_whole) (defScope s__law_whole) .none kV4 dc4 pm4 an4 cd4 ct4, PySem.W.fnOf "_law_row" "_law_row" (defArgs s__law_row) (defBody s__law_row) (defScope s__law_row) .none kV5 dc5 pm5 an5 cd5 ct5, PySem.W.fnOf "_law_enough" "_law_enough" (defArgs s__law_enough) (defBody s__law_enough) (defScope s__law_enough) .none kV6 dc6 pm6 an6 cd6 ct6, PySem.W.fnOf "_law_word" "_law_word" (defArgs s__law_word) (defBody s__law_word) (defScope s__law_word) .none kV7 dc7 pm7 an7 cd7 ct7, PySem.W.fnOf "_law_unlike" "_law_unlike" (defArgs s__law_unlike) (defBody s__law_unlike) (defScope s__law_unlike) .none kV8 dc8 pm8 an8 cd8 ct8, PySem.W.fnOf "_law_due" "_law_due" (defArgs s__law_due) (defBody s__law_due) (defScope s__law_due) .none kV9 dc9 pm9 an9 cd9 ct9, PySem.W.fnOf "_law_houses" "_law_houses" (defArgs s__law_houses) (defBody s__law_houses) (defScope s__law_houses) .none kV10 dc10 pm10 an10 cd10 ct10, PySem.W.fnOf "_law_alike" "_law_alike" (defArgs s__law_alike) (defBody s__law_alike) (defScope s__law_alike) .none kV11 dc11 pm11 an11 cd11 ct11, PySem.W.fnOf "law" "law" (defArgs s_law) (defBody s_law) (defScope s_law) .none kV12 dc12 pm12 an12 cd12 ct12⟩
  have T : Txt K mg a := {
    F_place := F0,
    g_place := PySem.W.mg_of X G a0,
    b_place := b0,
    F_words_by_place := F1,
    g_words_by_place := PySem.W.mg_of X G a1,
    b_words_by_place := b1,
    F_blamed := F2,
    g_blamed := PySem.W.mg_of X G a2,
    b_blamed := b2,
    F__law_at := F3,
    g__law_at := PySem.W.mg_of X G a3,
    b__law_at := b3,
    F__law_whole := F4,
    g__law_whole := PySem.W.mg_of X G a4,
    b__law_whole := b4,
    F__law_row := F5,
    g__law_row := PySem.W.mg_of X G a5,
    b__law_row := b5,
    F__law_enough := F6,
    g__law_enough := PySem.W.mg_of X G a6,
    b__law_enough := b6,
    F__law_word := F7,
    g__law_word := PySem.W.mg_of X G a7,
    b__law_word := b7,
    F__law_unlike := F8,
    g__law_unlike := PySem.W.mg_of X G a8,
    b__law_unlike := b8,
    F__law_due := F9,
    g__law_due := PySem.W.mg_of X G a9,
    b__law_due := b9,
    F__law_houses := F10,
    g__law_houses := PySem.W.mg_of X G a10,
    b__law_houses := b10,
    F__law_alike := F11,
    g__law_alike := PySem.W.mg_of X G a11,
    b__law_alike := b11,
    F_law := F12,
    n_bool := PySem.W.mg_none_of X G n_bool,
    n_int := PySem.W.mg_none_of X G n_int,
    n_isinstance := PySem.W.mg_none_of X G n_isinstance,
    n_len := PySem.W.mg_none_of X G n_len,
    n_list := PySem.W.mg_none_of X G n_list,
    n_range := PySem.W.mg_none_of X G n_range,
    n_sorted := PySem.W.mg_none_of X G n_sorted,
    n_tuple := PySem.W.mg_none_of X G n_tuple }
  exact ⟨_, fun s v => .of_eq rfl, fun base _ _ => ok_law T⟩
end K5
open PySem PySem.W PyProof.Rows
set_option maxRecDepth 100000 in
set_option maxHeartbeats 0 in
theorem PySem.Challenge.cw_latehouse_k05_blamed_holds : PySem.Challenge.rw_latehouse_k05_blamed.Holds := by
  w_on; o_law; k_head; (case hw => w_witness2)
  k_fill
  refine L2.walk_of (l := PySem.Challenge.rw_latehouse_k05_blamed) (n := 63) (k := 4) (x := "_law_script") (CX := fun _ => L2.CX0) (sp := fun w => K5.spLaw _) rfl (by decide) rfl ⟨rfl, by decide, by decide⟩ (fun w h Y => PySem.W.kIn_of Y) ?F (fun _ _ a ns hl _ hS => ⟨a, ns, rfl, hS, hl, fun _ => rfl⟩) (fun _ _ _ _ _ h => h)
  case F =>
    intro w mg fa h KX G hmg
    refine' K5.all_mk KX G hmg ?zq_a0 ?zq_l0 ?zq_c0c ?zq_k0 ?zq_a1 ?zq_l1 ?zq_c1c ?zq_k1 ?zq_a2 ?zq_l2 ?zq_c2c ?zq_k2 ?zq_a3 ?zq_l3 ?zq_c3c ?zq_k3 ?zq_a4 ?zq_l4 ?zq_c4c ?zq_k4 ?zq_a5 ?zq_l5 ?zq_c5c ?zq_k5 ?zq_a6 ?zq_l6 ?zq_c6c ?zq_k6 ?zq_a7 ?zq_l7 ?zq_c7c ?zq_k7 ?zq_a8 ?zq_l8 ?zq_c8c ?zq_k8 ?zq_a9 ?zq_l9 ?zq_c9c ?zq_k9 ?zq_a10 ?zq_l10 ?zq_c10c ?zq_k10 ?zq_a11 ?zq_l11 ?zq_c11c ?zq_k11 ?zq_a12 ?zq_l12 ?zq_c12c ?zq_k12 ?zq_n_bool ?zq_n_int ?zq_n_isinstance ?zq_n_len ?zq_n_list ?zq_n_range ?zq_n_sorted ?zq_n_tuple
    (case zq_a0 => first | k_is | rfl)
    (case zq_l0 => first | k_is | rfl)
    (case zq_c0c => first | k_is | rfl)
    (case zq_k0 => first | k_is | rfl)
    (case zq_a1 => first | k_is | rfl)
    (case zq_l1 => first | k_is | rfl)
    (case zq_c1c => first | k_is | rfl)
    (case zq_k1 => first | k_is | rfl)
    (case zq_a2 => first | k_is | rfl)
    (case zq_l2 => first | k_is | rfl)
    (case zq_c2c => first | k_is | rfl)
    (case zq_k2 => first | k_is | rfl)
    (case zq_a3 => first | k_is | rfl)
    (case zq_l3 => first | k_is | rfl)
    (case zq_c3c => first | k_is | rfl)
    (case zq_k3 => first | k_is | rfl)
    (case zq_a4 => first | k_is | rfl)
    (case zq_l4 => first | k_is | rfl)
    (case zq_c4c => first | k_is | rfl)
    (case zq_k4 => first | k_is | rfl)
    (case zq_a5 => first | k_is | rfl)
    (case zq_l5 => first | k_is | rfl)
    (case zq_c5c => first | k_is | rfl)
    (case zq_k5 => first | k_is | rfl)
    (case zq_a6 => first | k_is | rfl)
    (case zq_l6 => first | k_is | rfl)
    (case zq_c6c => first | k_is | rfl)
    (case zq_k6 => first | k_is | rfl)
    (case zq_a7 => first | k_is | rfl)
    (case zq_l7 => first | k_is | rfl)
    (case zq_c7c => first | k_is | rfl)
    (case zq_k7 => first | k_is | rfl)
    (case zq_a8 => first | k_is | rfl)
    (case zq_l8 => first | k_is | rfl)
    (case zq_c8c => first | k_is | rfl)
    (case zq_k8 => first | k_is | rfl)
    (case zq_a9 => first | k_is | rfl)
    (case zq_l9 => first | k_is | rfl)
    (case zq_c9c => first | k_is | rfl)
    (case zq_k9 => first | k_is | rfl)
    (case zq_a10 => first | k_is | rfl)
    (case zq_l10 => first | k_is | rfl)
    (case zq_c10c => first | k_is | rfl)
    (case zq_k10 => first | k_is | rfl)
    (case zq_a11 => first | k_is | rfl)
    (case zq_l11 => first | k_is | rfl)
    (case zq_c11c => first | k_is | rfl)
    (case zq_k11 => first | k_is | rfl)
    (case zq_a12 => first | k_is | rfl)
    (case zq_l12 => first | k_is | rfl)
    (case zq_c12c => first | k_is | rfl)
    (case zq_k12 => first | k_is | rfl)
    (case zq_n_bool => first | k_is | rfl)
    (case zq_n_int => first | k_is | rfl)
    (case zq_n_isinstance => first | k_is | rfl)
    (case zq_n_len => first | k_is | rfl)
    (case zq_n_list => first | k_is | rfl)
    (case zq_n_range => first | k_is | rfl)
    (case zq_n_sorted => first | k_is | rfl)
    (case zq_n_tuple => first | k_is | rfl)
