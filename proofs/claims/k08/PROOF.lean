import PyProof.Rows.All
import Wide.All
import OpenK.AllK
import Wide.FinOn
import HandS.ForMost
import HandS.Exc
import HandS.TryOnly
import HandS.ExcOwn
import HandS.WordsExc
import HandS.IsInst
import HandS.ExcIs
import HandS.ExcCtx
import HandS.HotCalls
import HandS.SetFor
import HandS.More
import HandS.Conv
import HandS.FStr
import HandS.Walk
import HandS.Flow
import HandS.TupAny
import HandS.TupLe
import HandS.Steps
import HandS.Zip
import HandS.DictComp
import PyProof.Rows.SetFrom
import PyProof.SetRoads
import PyProof.P3Eq
import HandS.ListItems
import HandS.CallSlots
import PySem.Challenge.RW_latehouse_k08_a_post
set_option Elab.async false
set_option linter.all false
set_option maxRecDepth 100000
set_option maxHeartbeats 4000000
/-! own rules beside the layer's: a caught error handed to a def, its isinstance, count, value calls -/
namespace LH
open PySem PySem.Spec PyProof.Rows L2
abbrev St := L2.St

/-! ### isinstance of the error that a context bears -/
theorem call_isP {X : Cx} {a D : Addr} {oe : Obj} (C : ExcC X.K D) (hp : (a, oe) ∈ X.pn) (hz : Zc (.ref D) none oe)
    (hf : ∃ vs, oe.data = .fields vs) : CallR X (.builtin "isinstance") (rIsE X.K D a) := by
  intro pins s σ H xs us Q I r h
  obtain ⟨c, cv, b, rfl, hcv, e, q⟩ := h
  match us, r with
  | [_, _], .cons rx (.cons rt .nil) =>
    cases rx
    have ec := hcv _ rt
    subst ec
    have hget := (I.pin (a, oe) (List.mem_append_left _ hp)).1
    obtain ⟨vs, hv⟩ := hf
    have J : PySem.W.InstAt s.heap a oe D none := by
      refine ⟨hget, hz.1, ?_, ?_⟩
      · unfold PySem.W.notCls; rw [hv] <;> rfl
      · rw [hz.2]; trivial
    exact PySem.W.kia_one (PySem.W.handS_kitx_exc C.hg C.hk C.hs C.hd C.ha C.hn C.ht C.hm) I.kIn J e
      (fun z => nomatch z) fun tk => ⟨.bl b, H, I.kept (t' := tk) fun _ _ z => z, rfl, q⟩

/-! ### a def that is handed the error that is handled -/
/-- the error's address, its class, its dict, then as Sp -/
abbrev SpE := Addr → Value → Option Addr → List V → Hp → VK → Prop
structure FnE (P : Program) (w : World) (K : PySem.W.Frag) (mg : Str → Option Value) (base : Heap) (k : Nat) (f : Addr)
    (fd : FuncData) (ps : List Str) (sp : SpE) : Prop where
  len : ∀ e cls d vs H Q, sp e cls d vs H Q → vs.length = ps.length
  run : ∀ (A : Around) (outer : List Env) (s : Shared) (H : Hp) (us : List Value) (vs : List V) (Q : VK) (p : Addr × Obj) (cls : Value) (d : Option Addr),
    L2H.RoomH k A → L2H.Hot1 A p → L2N.Zn cls d p.2 → L2H.PinOk outer H s p → Env0 P w K mg base A outer s H → BindsTo s fd ⟨us, []⟩ (ps.zip us) →
    Vals vs us → sp p.1 cls d vs H Q → codeAny (model P w) A (.call (.ref f) ⟨us, []⟩) (CR CX0 outer P w H s Q E0) s

theorem fnE_of {P : Program} {w : World} {K : PySem.W.Frag} {mg : Str → Option Value} {base : Heap} {x qual : Str} {st : Stmt}
    {f : Addr} {fd : FuncData} {N ps : List Str} {k : Nat} {sp : SpE} (F : Fun K x qual st f fd) (S : FnScope N ps (defScope st))
    (len : ∀ e cls d vs H Q, sp e cls d vs H Q → vs.length = ps.length)
    (hbody : ∀ (cdv : Value) (A : Around) (outer : List Env) (s : Shared) (H : Hp) (vs : List V) (Q : VK) (p : Addr × Obj) (cls : Value) (d : Option Addr),
      L2H.Hot1 A p → L2N.Zn cls d p.2 → L2H.RoomH k (A.deeper (envOfC qual (defScope st) s.heap.objs.size f cdv)) → sp p.1 cls d vs H Q →
      ∃ t, PSs (L2H.cxH CX0 P w K mg base N qual (defScope st) f cdv A outer s H E0 p) (defBody st) t ∧
        t { nx := fun _ H' => Q .non H', rt := Q } (L2.start N vs) H) :
    FnE P w K mg base (k + 1) f fd ps sp := by
  obtain ⟨oc, od, kV, doc, pm, an, cdv, ct, osl, rfl, lk, hcd⟩ := F.ex
  refine ⟨len, ?_⟩
  intro A outer s H us vs Q p cls d hr hot hz hpin e0 hb r hsp
  have inS : K.In s.heap := e0.mod.kin.keeps fun b o e => (e0.bs b o e).1
  have lim : s.heap.NoLimit := e0.mod.nolimit.keeps fun b o e => (e0.bs b o e).1
  have hkd : ∀ y ∈ ps.zip us, (defScope st).names.lookup y.1 = some .local ∨ ((defScope st).names.lookup y.1 = some .cell ∧
      ((cellsFrom (s.heap.objs.size + 1) (defScope st).names []).lookup y.1).isSome = true) := by
    rintro ⟨n, v⟩ hy
    rcases S.par n (List.of_mem_zip hy).1 with q | q
    · exact Or.inl q
    · exact Or.inr ⟨q, PySem.W.cellsFrom_some _ _ _ (Or.inl q)⟩
  refine codeAny_call_function hr.depth (inS _ _ lk) rfl S.co S.gen rfl
    (PySem.W.codeRec_of inS hcd) (hb _ _ _ _ ?_)
  refine wpAny_newFunctionEnv_cells S.kind hkd ?_
  intro env he s1 x
  subst he
  refine ⟨lim.keeps x.toInCall.keep, codeAny_func ?_⟩
  obtain ⟨t, ht, hq⟩ := hbody cdv A outer s H vs Q p cls d hot hz (hr.deeper _) hsp
  have I := L2H.inv_startH (CX := CX0) (E := E0) S hpin e0 (len _ _ _ _ _ _ hsp) r x
  refine wpAny_mono (ht.run [] s1 (L2.start N vs) H _ I hq) ?_ (fun _ _ z => z)
  intro fl s' hs
  cases fl with
  | ret u =>
    obtain ⟨v, σ', H', J, rv, q⟩ := hs
    exact ⟨v, H', J.os, J.bare, J.base, J.hok, rv, q⟩
  | next =>
    obtain ⟨σ', H', J, q⟩ := hs
    exact ⟨V.non, H', J.os, J.bare, J.base, J.hok, rfl, q⟩
  | brk =>
    obtain ⟨_, _, _, q⟩ := hs
    exact False.elim q
  | cont =>
    obtain ⟨_, _, _, q⟩ := hs
    exact False.elim q

def tCallE (sp : SpE) (e : Addr) (cls : Value) (d : Option Addr) (t : TA) : TE := fun σ H Q => t σ H fun vs H1 => sp e cls d vs H1 Q
theorem pe_callE {X : Cx} {k : Nat} {f : Addr} {fd : FuncData} {ps : List Str} {sp : SpE} {x : Str} {q pos : Pos} {e : Expr}
    {es : List Expr} {t : TA} {p : Addr × Obj} {cls : Value} {d : Option Addr} (F : FnE X.prog X.w X.K X.mg X.base k f fd ps sp) (hr : L2H.RoomH k X.A)
    (hot : L2H.Hot1 X.A p) (hz : L2N.Zn cls d p.2) (hp : p ∈ X.pn) (hg : Gl X x) (hm : X.mg x = some (.ref f)) (hk : PySem.W.keepIn X.K (.ref f) = true)
    (hb : Binds X.K fd ps []) (ha : PA X (e :: es) t) (hdb : (x == ("__debug__" : Str)) = false := by decide)
    (he : starEach (e :: es) X.env = (false, eval e X.env) :: starEach es X.env := by rfl)
    (hpl : (backTo pos (starEach es X.env)).any (·.1) = false := by rfl) : PE X (.Call (.Name x q) (e :: es) [] pos) (tCallE sp p.1 cls d t) := by
  refine ⟨fun pins s σ H Q I h => ?_⟩
  refine wpAny_Call_Name_kw (ld_glob I hg hm ?_ hdb)
  refine PySem.W.callWith_K (h₀ := X.base) I.ok.mod.kin hk (thn (ha.run pos pins s σ H _ I h) ?_) he hpl
  rintro us s1 ⟨vs, H1, I1, r, h1⟩
  refine ⟨I1.kIn, ?_⟩
  have hl : us.length = ps.length := by rw [← r.length]; exact F.len _ _ _ _ _ _ h1
  have b := hb s1 us I1.kIn (by rw [List.append_nil]; exact hl)
  rw [List.append_nil] at b
  have P1 := I1.pin p (List.mem_append_left _ hp)
  have hpin : L2H.PinOk X.stack H1 s1 p :=
    ⟨P1.1, P1.2.1, fun hm => (List.mem_cons.mp (I1.stkSub p.1 hm)).elim P1.2.2.1 P1.2.2.2.1, P1.2.2.2.2⟩
  refine wpAny_call (codeAny_mono (F.run X.A X.stack s1 H1 us vs Q p cls d hr hot hz hpin I1.env0 b r h1) ?_)
  intro rr s' hq
  cases rr with
  | error e => exact False.elim hq
  | ok fl =>
    cases fl with
    | ret u => exact I1.after hq
    | next => exact False.elim hq
    | brk => exact False.elim hq
    | cont => exact False.elim hq

/-! ### xs.count(y), flat things -/
theorem cnt_eqU {x : V} {xs : List V} {us : List Value} (r : Vals xs us) (f : xs.all flatV = true) :
    us.countP (eqU x) = xs.countP fun y => eqV y x := by
  induction r with
  | nil => rfl
  | cons ry rt ih =>
    rw [List.all_cons, Bool.and_eq_true] at f
    rw [List.countP_cons, List.countP_cons, ih f.2, eqU_of ry f.1]
def rCntV (K : PySem.W.Frag) : V → List V → Hp → VK → Prop := fun x vs H Q => ∃ (a : Addr) (ys : List V) (y : V), x = .ref a ∧ vs = [y] ∧
  SqL K H a ys ∧ flatV y = true ∧ ys.all flatV = true ∧ Q (.int (ys.countP fun z => eqV z y : Nat)) H
theorem mt_cntV {X : Cx} : MtR X "list.count" (rCntV X.K) := by
  intro pins s σ H x xs v us Q I rx rxs h
  obtain ⟨p, ys, y, rfl, rfl, hs, fy, fys, q⟩ := h
  cases rx
  obtain ⟨u, rfl, ru⟩ := rxs.one
  obtain ⟨its, rv, ⟨⟨cls, dd, data, sl⟩, n, ho, hc, hdn, hd⟩, hlen⟩ := I.list hs
  simp only at hc hd
  subst hc hd
  refine call_meets PySem.F.slot_list_count ⟨_, ho, rfl⟩ PySem.F.entry_list_count (PySem.F.args_list_count_2 _ _)
    (SeqAt.list_countAt p its.toArray n dd sl u (eqU y)) ⟨ho, fun w hw => mem_eqAt ru fy rv fys w (by simpa using hw), ?_⟩
  have ec : its.toArray.toList.countP (eqU y) = ys.countP fun z => eqV z y := cnt_eqU rv fys
  refine ⟨.int (ys.countP fun z => eqV z y : Nat), H, I.tok _, ⟨s.toks, ?_⟩, q⟩
  show Value.int ((its.toArray.toList.countP (eqU y) : Nat) : Int) s.toks = _
  rw [ec]

/-! ### a list and a list, the left one perhaps the script -/
def rCatS (K : PySem.W.Frag) : R2 := fun x y H Q => ∃ l b xs zs, x = .ref l ∧ y = .ref b ∧ SqL K H l xs ∧ SqL K H b zs ∧
  xs.length + zs.length ≤ sizeLine ∧ ∀ p, H p = none → Q (.ref p) (upd H p (.lst (xs ++ zs)))
theorem op_catS {X : Cx} : OpR X (binaryOp .Add) (rCatS X.K) := by
  intro pins s σ H x y v u Q I rx ry h
  obtain ⟨l, b, xs, zs, rfl, rfl, hl, hb, hz, q⟩ := h
  cases rx
  cases ry
  obtain ⟨its, r, pl, _⟩ := I.list hl
  obtain ⟨its2, r2, pl2, _⟩ := I.list hb
  have n1 := r.length
  have n2 := r2.length
  obtain ⟨⟨c1, d1, da1, sl1⟩, m1, ho1, hc1, _, hd1⟩ := pl
  obtain ⟨⟨c2, d2, da2, sl2⟩, m2, ho2, hc2, _, hd2⟩ := pl2
  simp only at hc1 hd1 hc2 hd2
  subst hc1 hd1 hc2 hd2
  have ea : its.toArray ++ its2.toArray = (its ++ its2).toArray := by simp
  refine concat_meets ⟨_, ho1, rfl⟩ ⟨_, ho2, rfl⟩ noFill_list_add seq_list_add PySem.F.slot_list_add PySem.F.entry_list_add
    (PySem.F.args_list_add_2 _ _) (list_addW l b its.toArray its2.toArray m1 m2 d1 d2 sl1 sl2
      (by rw [List.size_toArray, List.size_toArray]; omega)) ⟨ho1, ho2, ?_⟩
  rw [ea]
  exact ⟨.ref _, _, I.lnew (t' := s.toks) (r.append r2) (by rw [List.length_append]; omega), rfl, q _ I.fresh⟩

/-! ### e(..), the value of e one of some defs of one promise -/
def tCallV (S : Addr → Prop) (sp : Sp) (E : St → XK) (te : TE) (t : TA) : TE := fun σ H Q => te σ H fun x H1 => ∃ f, x = .ref f ∧ S f ∧ t σ H1 fun vs H2 => sp vs H2 Q (E σ)
theorem pe_callV {X : Cx} {CX : CXT} {k : Nat} {S : Addr → Prop} {sp : Sp} {E : St → XK} {g e : Expr} {es : List Expr} {te : TE} {t : TA} {pos : Pos}
    (F : ∀ f, S f → ∃ (fd : FuncData) (ps : List Str), FnOk X.prog X.w X.K X.mg X.base CX k f fd ps sp ∧ PySem.W.keepIn X.K (.ref f) = true ∧ Binds X.K fd ps [])
    (hr : Room k X.A) (hx : ∀ σ, PassesAt CX X σ (E σ)) (hg : PE X g te) (ha : PA X (e :: es) t)
    (hev : eval (.Call g (e :: es) [] pos) X.env = (do callWith pos (← eval g X.env) [] (backTo pos (starEach (e :: es) X.env)) (backToKw pos (keywordEach [] X.env))) := by rfl)
    (he : starEach (e :: es) X.env = (false, eval e X.env) :: starEach es X.env := by rfl)
    (hpl : (backTo pos (starEach es X.env)).any (·.1) = false := by rfl) : PE X (.Call g (e :: es) [] pos) (tCallV S sp E te t) := by
  refine ⟨fun pins s σ H Q I h => ?_⟩
  refine PyProof.Rows.Call_ (thn (hg.run pins s σ H _ I h) ?_) hev
  rintro u s1 ⟨x, H1, I1, rx, f, rfl, hS, h1⟩
  obtain rfl : u = Value.ref f := rx
  obtain ⟨fd, ps, F1, hk, hb⟩ := F f hS
  refine PySem.W.callWith_K (h₀ := X.base) I.ok.mod.kin hk (thn (ha.run pos pins s1 σ H1 _ I1 h1) ?_) he hpl
  rintro us s2 ⟨vs, H2, I2, r, h2⟩
  exact ⟨I2.kIn, run_fnS F1 hr hb (hx σ) I2 r h2⟩

/-! ### a def that may raise, with the errors' context told -/
theorem okN {P : Program} {w : World} {K : PySem.W.Frag} {mg : Str → Option Value} {base : Heap} {x qual : Str} {st : Stmt} {f : Addr} {fd : FuncData}
    {N ps : List Str} {k : Nat} {sp : Sp} (F : Fun K x qual st f fd) (S : FnScope N ps (defScope st)) (len : ∀ vs H Q E, sp vs H Q E → vs.length = ps.length)
    (hbody : ∀ (cdv : Value) (A : Around) (outer : List Env) (s : Shared) (H : Hp) (vs : List V) (Q : VK) (E : XK), Room k (A.deeper (envOfC qual (defScope st) s.heap.objs.size f cdv)) →
      sp vs H Q E → ∃ t, PSs (cxOf (L2N.CX P w) P w K mg base N qual (defScope st) f cdv A outer s H E) (defBody st) t ∧
        t { nx := fun _ H' => Q .non H', rt := Q } (start N vs) H) : FnOk P w K mg base (L2N.CX P w) (k + 1) f fd ps sp := by
  obtain ⟨oc, od, kV, doc, pm, an, cdv, ct, osl, rfl, lk, hcd⟩ := F.ex
  exact fn_of lk hcd S len fun A outer s H vs Q E hr hsp => hbody cdv A outer s H vs Q E hr hsp
/-- X(e, ..), X an own error class without its own __init__; its context told -/
theorem pmkN {X : Cx} {C : Addr} {bmB : List Value} {B newId initId : String} {x : Str} {p pos : Pos} {e : Expr} {es : List Expr} {t : TA}
    (F : ExcBaseFacts B newId initId bmB) (q : PySem.W.excIn X.K C bmB newId = true) (gC : X.mg x = some (.ref C))
    (kC : PySem.W.keepIn X.K (.ref C) = true) (r : Raises X (.ref C)) (hg : Gl X x) (ha : PA X (e :: es) t)
    (hdb : (x == ("__debug__" : Str)) = false := by decide)
    (he : starEach (e :: es) X.env = (false, eval e X.env) :: starEach es X.env := by rfl)
    (hpl : (backTo pos (starEach es X.env)).any (·.1) = false := by rfl) :
    L2N.PMk X (.Call (.Name x p) (e :: es) [] pos) (fun σ H Q => t σ H fun vs H1 => vs.length ≤ sizeLine ∧ Q (.ref C) none H1) := by
  intro pins s σ H Q I h
  refine wpAny_Call_Name_kw (ld_glob I hg gC ?_ hdb)
  refine PySem.W.callWith_K (h₀ := X.base) I.ok.mod.kin kC (thn (ha.run pos pins s σ H _ I h) ?_) he hpl
  rintro us s1 ⟨vs, H1, I1, r1, hz, q1⟩
  refine ⟨I1.kIn, ?_⟩
  show wpAny _ _ (call (.ref C) us) _ _ _
  obtain ⟨bm, N, nm, qn, bs, hdct, sn, sub, ab, col, dd, k0, k1, k2, k3, k5, mN, hC, hN, hni, T⟩ := exc_obj I1.kIn q
  refine wpAny_call_exc_subT F T hC hN hni ?_ (by rw [← r1.length]; exact hz)
  intro h' e' hm
  exact L2N.mk_of I1 hm r q1 (I1.hok.gone hm.new)
theorem tkN {X : Cx} {E : XK} (hs : X.stack = X.env :: X.outer := by rfl) (hf : X.env.frame = some X.env.locals := by rfl) (hex : X.ex = [] := by rfl) {E₁ : Value → Shared → Prop}
    (hx : X.xe = fun e s' => wpAny (model X.prog X.w) X.A (leaving X.env e) (fun _ s'' => L2N.CX X.prog X.w X.outer X.H_0 X.s_0 E e s'') E₁ s' := by rfl) : L2N.Takes X (fun cls d _ H => E cls d H) := L2N.takes_of hs hf hex hx
/-- nothing is let out where the wish is none -/
theorem passN {X : Cx} : Passes (L2N.CX X.prog X.w) X E0 := by
  intro _ _ _ _ _ _ _ h
  obtain ⟨_, _, _, _, _, _, _, _, _, _, _, _, z⟩ := h
  exact z.elim
/-! ### heaps -/
theorem get_new {H : Hp} {p q : Addr} {o x : HO} (h : H p = none) (e : H q = some x) : upd H p o q = some x := by
  rw [upd_ne (ne_of_none e h)]
  exact e
theorem sq_new {K : PySem.W.Frag} {H : Hp} {p q : Addr} {o : HO} {xs : List V} (h : H p = none) (e : SqL K H q xs) : SqL K (upd H p o) q xs := by
  rcases e with (e | ⟨ob, e⟩) | e
  · exact .inl (.inl (get_new h e))
  · exact .inl (.inr ⟨ob, get_new h e⟩)
  · exact .inr e
theorem st_new {K : PySem.W.Frag} {H : Hp} {p q : Addr} {o : HO} {xs : List V} (h : H p = none) (e : SqT K H q xs) : SqT K (upd H p o) q xs := by
  rcases e with (e | ⟨ob, e⟩) | e
  · exact .inl (.inl (get_new h e))
  · exact .inl (.inr ⟨ob, get_new h e⟩)
  · exact .inr e
theorem same_new {H H' : Hp} {p : Addr} {o : HO} (h : H' p = none) (e : Same H H') : Same H (upd H' p o) := fun b x q => get_new h (e b x q)
theorem Same.new {H : Hp} {p : Addr} {o : HO} (h : H p = none) : Same H (upd H p o) := fun b x q => get_new h q
/-- a new object: from then on the heap is told by what it keeps and holds -/
theorem nw {H : Hp} {o : HO} {Q : VK} (k : ∀ (p : Addr) (H2 : Hp), H p = none → Same H H2 → H2 p = some o → Q (.ref p) H2) : ∀ p : Addr, H p = none → Q (.ref p) (upd H p o) :=
  fun p hp => k p _ hp (Same.new hp) upd_same
theorem takesN0 {X : Cx} : L2N.Takes X (fun _ _ _ _ => False) := by
  intro _ _ x
  obtain ⟨_, _, _, _, _, _, _, _, _, _, _, _, _, _, _, _, z⟩ := x
  exact z.elim
theorem ctx_of {cls : Value} {d : Option Addr} {oe : Obj} (hz : L2N.Zn cls d oe) (hf : ∃ vs, oe.data = .fields vs) : ∃ vs : Array Value, oe.data = .fields vs ∧ vs[2]? = some .none := by
  obtain ⟨vs, e⟩ := hf
  exact ⟨vs, e, hz.2.2 vs e⟩
theorem Same.seqT {K : PySem.W.Frag} {H H' : Hp} {a : Addr} {xs : List V} (e : Same H H') (h : SqT K H a xs) : SqT K H' a xs := by
  rcases h with (h | ⟨o, h⟩) | h
  · exact .inl (.inl (e _ _ h))
  · exact .inl (.inr ⟨o, e _ _ h⟩)
  · exact .inr h
theorem Same.ty {K : PySem.W.Frag} {H H' : Hp} {x : V} {T : String} (e : Same H H') (h : TyB K H x T) : TyB K H' x T := by
  cases h with
  | non => exact .non
  | bl b => exact .bl b
  | int i => exact .int i
  | str x => exact .str x
  | byt b => exact .byt b
  | lst h => exact .lst (Same.seq e h)
  | tup h => exact .tup (Same.seqT e h)
  | dK h => exact .dK (e _ _ h)
theorem small {n : Nat} (h : n.ble 100000 = true) : n ≤ 100000 := Nat.le_of_ble_eq_true h
end LH
/-! the reader: a reading, step by step, what follows kept as a letter -/
namespace LH
open PySem L2
variable {K : PySem.W.Frag} {σ : L2.St} {H : Hp} {Q : VK} {D : Ends} {ta tb te tc : TE} {t u : TS} {c c' : TT} {x y v : V} {r r' : R2} {tr : TA} {g : TG}
def Br (b : Bool) (A B : Prop) : Prop := if b = true then A else B
theorem br_t {A B : Prop} (h : A) : Br true A B := by unfold Br; rw [if_pos rfl]; exact h
theorem br_f {A B : Prop} (h : B) : Br false A B := by unfold Br; rw [if_neg Bool.false_ne_true]; exact h
theorem br {b : Bool} {A B : Prop} (h1 : b = true → A) (h2 : b = false → B) : Br b A B := by
  cases b
  · exact br_f (h2 rfl)
  · exact br_t (h1 rfl)
theorem br_p {p A B : Prop} [Decidable p] (h : p) (k : A) : Br (decide p) A B := by rw [decide_eq_true h]; exact br_t k
theorem br_n {p A B : Prop} [Decidable p] (h : ¬ p) (k : B) : Br (decide p) A B := by rw [decide_eq_false h]; exact br_f k
theorem br_d {p A B : Prop} [Decidable p] (h1 : p → A) (h2 : ¬ p → B) : Br (decide p) A B := br (fun e => h1 (of_decide_eq_true e)) (fun e => h2 (of_decide_eq_false e))
theorem br_nd {p A B : Prop} [Decidable p] (h1 : ¬ p → A) (h2 : p → B) : Br (!decide p) A B := br (fun e => h1 (by simpa using e)) (fun e => h2 (by simpa using e))
theorem br_nt {A B : Prop} (h : B) : Br (!true) A B := br_f h
theorem br_nf {A B : Prop} (h : A) : Br (!false) A B := br_t h
theorem br_eq {b b' : Bool} {A B : Prop} (e : b = b') (h : Br b' A B) : Br b A B := by rw [e]; exact h
def Bx (x : V) (H : Hp) (Q : Bool → Hp → Prop) : Prop := ∃ k, x = .bl k ∧ Q k H
theorem bx {k : Bool} {Q : Bool → Hp → Prop} (q : Q k H) : Bx (.bl k) H Q := ⟨k, rfl, q⟩
def BAnd (x : V) (H : Hp) (Q : VK) (R : Hp → VK → Prop) : Prop := ∃ c, x = .bl c ∧ if c = true then R H Q else Q (.bl false) H
def BOr (x : V) (H : Hp) (Q : VK) (R : Hp → VK → Prop) : Prop := ∃ c, x = .bl c ∧ if c = true then Q (.bl true) H else R H Q
theorem band {k : Bool} {R : Hp → VK → Prop} (q : Br k (R H Q) (Q (.bl false) H)) : BAnd (.bl k) H Q R := ⟨k, rfl, q⟩
theorem bor {k : Bool} {R : Hp → VK → Prop} (q : Br k (Q (.bl true) H) (R H Q)) : BOr (.bl k) H Q R := ⟨k, rfl, q⟩
def NewL (xs : List V) (H : Hp) (Q : VK) : Prop := xs.length ≤ sizeLine ∧ ∀ p, H p = none → Q (.ref p) (upd H p (.lst xs))
def NewT (xs : List V) (H : Hp) (Q : VK) : Prop := xs.length ≤ sizeLine ∧ ∀ p, H p = none → Q (.ref p) (upd H p (.tup xs))
theorem sz {n : Nat} (h : n ≤ 100000) : n ≤ sizeLine := Nat.le_trans h (by decide)
theorem sz' {n : Nat} (h : n ≤ 100000) : n < sizeLine := Nat.lt_of_le_of_lt h (by decide)
theorem newl {xs : List V} (hl : xs.length ≤ 100000) (k : ∀ p H2, H p = none → Same H H2 → H2 p = some (.lst xs) → Q (.ref p) H2) : NewL xs H Q :=
  ⟨sz hl, fun p hp => k p _ hp (Same.new hp) upd_same⟩
theorem newt {xs : List V} (hl : xs.length ≤ 100000) (k : ∀ p H2, H p = none → Same H H2 → H2 p = some (.tup xs) → Q (.ref p) H2) : NewT xs H Q :=
  ⟨sz hl, fun p hp => k p _ hp (Same.new hp) upd_same⟩
def NewO (o : HO) (H : Hp) (Q : VK) : Prop := ∀ p, H p = none → Q (.ref p) (upd H p o)
theorem newo {o : HO} (k : ∀ p H2, H p = none → Same H H2 → H2 p = some o → Q (.ref p) H2) : NewO o H Q := fun p hp => k p _ hp (Same.new hp) upd_same
/-! statements -/
theorem x_seq (h : t { D with nx := u D } σ H) : tSeq t u D σ H := h
theorem x_asg (h : te σ H fun x H1 => g x σ H1 D.nx) : tAsg te g D σ H := h
theorem x_gname {i : Nat} {Q : L2.St → Hp → Prop} (h : Q (σ.set i (some v)) H) : gName i v σ H Q := h
theorem x_ret (h : te σ H D.rt) : tRet te D σ H := h
theorem x_drop (h : te σ H fun _ H1 => D.nx σ H1) : tDrop te D σ H := h
theorem x_ifS (h : c σ H fun b H1 => Br b (t D σ H1) (u D σ H1)) : tIfS c t u D σ H := h
theorem x_next (h : D.nx σ H) : tNext D σ H := h
theorem x_cont (h : D.ct σ H) : tCont D σ H := h
/-! expressions -/
theorem x_var {i : Nat} (h : σ[i]? = some (some v)) (q : Q v H) : tVar i σ H Q := ⟨v, h, q⟩
theorem x_c (q : Q v H) : tC v σ H Q := q
theorem x_op (h : ta σ H fun x H1 => tb σ H1 fun y H2 => r x y H2 Q) : tOp r ta tb σ H Q := h
theorem x_un {r : V → Hp → VK → Prop} (h : ta σ H fun x H1 => r x H1 Q) : tUn r ta σ H Q := h
theorem x_U {f : Int → V} {i : Int} (q : Q (f i) H) : rU f (.int i) H Q := ⟨i, rfl, q⟩
theorem x_I0 {f : Int → Int → V} {i j : Int} (q : Q (f i j) H) : rI0 f (.int i) (.int j) H Q := ⟨i, j, rfl, rfl, q⟩
theorem x_I {C : Int → Int → Prop} {f : Int → Int → V} {i j : Int} (h : C i j) (q : Q (f i j) H) : rI C f (.int i) (.int j) H Q := ⟨i, j, rfl, rfl, h, q⟩
theorem x_eq (h : scal x y = true) (q : Q (.bl (decide (x = y))) H) : rEq x y H Q := ⟨h, q⟩
theorem x_ne (h : scal x y = true) (q : Q (.bl (!decide (x = y))) H) : rNe x y H Q := ⟨h, q⟩
theorem x_test {Q : Bool → Hp → Prop} (h : te σ H fun x H1 => Bx x H1 Q) : tTest te σ H Q := h
theorem x_tB {Q : Bool → Hp → Prop} (h : te σ H fun x H1 => Bx x H1 Q) : tB te σ H Q := h
theorem x_and {Q : Bool → Hp → Prop} (h : c σ H fun b H1 => Br b (c' σ H1 Q) (Q false H1)) : tAnd c c' σ H Q := h
theorem x_or {Q : Bool → Hp → Prop} (h : c σ H fun b H1 => Br b (Q true H1) (c' σ H1 Q)) : tOr c c' σ H Q := h
theorem x_not {Q : Bool → Hp → Prop} (h : c σ H fun b H1 => Q (!b) H1) : tNot c σ H Q := h
theorem x_andV (h : ta σ H fun x H1 => BAnd x H1 Q (tb σ)) : tAndV ta tb σ H Q := h
theorem x_orV (h : ta σ H fun x H1 => BOr x H1 Q (tb σ)) : tOrV ta tb σ H Q := h
theorem x_notV (h : ta σ H fun x H1 => Bx x H1 fun b H2 => Q (.bl (!b)) H2) : tNotV ta σ H Q := h
theorem x_if (h : c σ H fun b H1 => Br b (ta σ H1 Q) (tb σ H1 Q)) : tIf c ta tb σ H Q := h
def ChK (z : V) (σ : L2.St) (H : Hp) (Q : VK) (tc : TE) (r' : R2) (y : V) : Prop := ∃ k, z = .bl k ∧ if k = true then tc σ H fun w' H4 => r' y w' H4 Q else Q (.bl false) H
theorem x_chain (h : ta σ H fun x H1 => tb σ H1 fun y H2 => r x y H2 fun z H3 => ChK z σ H3 Q tc r' y) : tChain r r' ta tb tc σ H Q := h
theorem chk {k : Bool} (h : Br k (tc σ H fun w' H4 => r' y w' H4 Q) (Q (.bl false) H)) : ChK (.bl k) σ H Q tc r' y := ⟨k, rfl, h⟩
theorem x_nil {Q : List V → Hp → Prop} (q : Q [] H) : tNil σ H Q := q
theorem x_cons {Q : List V → Hp → Prop} (h : ta σ H fun x H1 => tr σ H1 fun xs H2 => Q (x :: xs) H2) : tCons ta tr σ H Q := h
theorem x_lst (h : tr σ H fun xs H1 => NewL xs H1 Q) : tLst tr σ H Q := h
theorem x_tup (h : tr σ H fun xs H1 => NewT xs H1 Q) : tTup tr σ H Q := h
theorem x_call {sp : Sp} {dvs : List V} {E : XK} (h : tr σ H fun vs H1 => sp (vs ++ dvs) H1 Q E) : tCall sp dvs E tr σ H Q := h
theorem x_callS {sp : Sp} {E : L2.St → XK} (h : tr σ H fun vs H1 => sp vs H1 Q (E σ)) : tCallS sp E tr σ H Q := h
theorem x_callE {sp : SpE} {e : Addr} {cls : Value} {d : Option Addr} (h : tr σ H fun vs H1 => sp e cls d vs H1 Q) : tCallE sp e cls d tr σ H Q := h
theorem x_cb {r : List V → Hp → VK → Prop} (h : tr σ H fun vs H1 => r vs H1 Q) : tCB r tr σ H Q := h
def BmV (K : PySem.W.Frag) (T : String) (r : V → List V → Hp → VK → Prop) (tr : TA) (σ : L2.St) (x : V) (H : Hp) (Q : VK) : Prop := tyV K T x H ∧ tr σ H fun xs H2 => r x xs H2 Q
theorem x_bm {T : String} {r : V → List V → Hp → VK → Prop} (h : te σ H fun x H1 => BmV K T r tr σ x H1 Q) : tBM K T r te tr σ H Q := h
theorem bm_l {r : V → List V → Hp → VK → Prop} {p : Addr} {xs : List V} (h : SqL K H p xs) (q : tr σ H fun ys H2 => r (.ref p) ys H2 Q) : BmV K "list" r tr σ (.ref p) H Q := ⟨.inl ⟨rfl, _, h⟩, q⟩
def CvV (S : Addr → Prop) (sp : Sp) (E : L2.St → XK) (tr : TA) (σ : L2.St) (x : V) (H : Hp) (Q : VK) : Prop := ∃ f, x = .ref f ∧ S f ∧ tr σ H fun vs H2 => sp vs H2 Q (E σ)
theorem x_callV {S : Addr → Prop} {sp : Sp} {E : L2.St → XK} (h : te σ H fun x H1 => CvV S sp E tr σ x H1 Q) : tCallV S sp E te tr σ H Q := h
theorem cvv {S : Addr → Prop} {sp : Sp} {E : L2.St → XK} {f : Addr} (h : S f) (q : tr σ H fun vs H2 => sp vs H2 Q (E σ)) : CvV S sp E tr σ (.ref f) H Q := ⟨f, rfl, h, q⟩
/-! values -/
theorem x_ixL {p : Addr} {xs : List V} {i : Int} (h : SqL K H p xs) (e : atI xs i = some v) (q : Q v H) : rIxL K (.ref p) (.int i) H Q := ⟨p, xs, i, v, rfl, rfl, h, e, q⟩
theorem x_ixT {p : Addr} {xs : List V} {i : Int} (h : SqT K H p xs) (e : atI xs i = some v) (q : Q v H) : rIxT K (.ref p) (.int i) H Q := ⟨p, xs, i, v, rfl, rfl, h, e, q⟩
theorem x_isi {t : Value} {n : Value} {b : Bool} {cv : V} (k : ClsV cv n) (ty : TyX K H x t) (e : PySem.W.kitOne K t n = some b) (q : Q (.bl b) H) : rIsi K [x, cv] H Q := ⟨x, cv, t, n, b, rfl, k, ty, e, q⟩
theorem x_isE {C a : Addr} {b : Bool} {cv : V} {n : Value} (hc : ∀ u, RelV cv u → u = n) (e : PySem.W.kitOne K (.ref C) n = some b) (q : Q (.bl b) H) : rIsE K C a [.ref a, cv] H Q := ⟨cv, n, b, rfl, hc, e, q⟩
theorem x_cntV {p : Addr} {ys : List V} (h : SqL K H p ys) (fy : flatV y = true) (fys : ys.all flatV = true) (q : Q (.int (ys.countP fun z => eqV z y : Nat)) H) : rCntV K (.ref p) [y] H Q := ⟨p, ys, y, rfl, rfl, h, fy, fys, q⟩
theorem x_index {p : Addr} {ys : List V} {j : Nat} {z : V} (h : SqL K H p ys) (fy : flatV y = true) (fys : ys.all flatV = true) (e : ys[j]? = some z) (ez : eqV z y = true)
    (hn : ∀ (m : Nat) (z' : V), m < j → ys[m]? = some z' → eqV z' y = false) (q : Q (.int (j : Nat)) H) : rIndex K (.ref p) [y] H Q := ⟨p, ys, y, j, z, rfl, rfl, h, fy, fys, e, ez, hn, q⟩
theorem x_catS {p q : Addr} {xs ys : List V} (h1 : SqL K H p xs) (h2 : SqL K H q ys) (hl : xs.length + ys.length ≤ 100000)
    (k : ∀ p H2, H p = none → Same H H2 → H2 p = some (.lst (xs ++ ys)) → Q (.ref p) H2) : rCatS K (.ref p) (.ref q) H Q :=
  ⟨p, q, xs, ys, rfl, rfl, h1, h2, sz hl, fun p hp => k p _ hp (Same.new hp) upd_same⟩
theorem x_in {neg : Bool} {p : Addr} {xs : List V} (h : SqL K H p xs) (hx : flatV x = true) (ha : xs.all flatV = true) (q : Q (.bl (if neg then !inV x xs else inV x xs)) H) : rIn K neg x (.ref p) H Q := ⟨p, xs, rfl, Or.inl h, hx, ha, q⟩
theorem x_typ {T : String} (h : TyB K H x T) (q : Q (.ty T) H) : rTyp K [x] H Q := ⟨x, T, rfl, h, q⟩
theorem x_neD {d e : PyData} (hx : Dp K H x d) (hy : Dp K H y e) (sd : SeqAt.shaped d = true) (se : SeqAt.shaped e = true) (q : Q (.bl (!PyData.eqv d e)) H) : rNeD K x y H Q := ⟨d, e, hx, hy, sd, se, q⟩
theorem x_eqD {d e : PyData} (hx : Dp K H x d) (hy : Dp K H y e) (sd : SeqAt.shaped d = true) (se : SeqAt.shaped e = true) (q : Q (.bl (PyData.eqv d e)) H) : rEqD K x y H Q := ⟨d, e, hx, hy, sd, se, q⟩
def LrV (a b : Int) (H : Hp) (Q : VK) : Prop := RgOk a b ∧ NewO (.lst (rgV a b)) H Q
theorem lrv {a b : Int} (h : RgOk a b) (k : ∀ p H2, H p = none → Same H H2 → H2 p = some (.lst (rgV a b)) → Q (.ref p) H2) : LrV a b H Q := ⟨h, newo k⟩
theorem x_lrg {te : L2.St → Hp → (Int → Int → Hp → Prop) → Prop} (h : te σ H fun a b H1 => LrV a b H1 Q) : tLstRg te σ H Q := h
end LH
namespace LH
open PySem L2
section
variable {K : PySem.W.Frag} {σ : L2.St} {H : Hp} {Q : VK} {te tl : TE} {t : TT} {g : TG}
/-! comprehensions over a list -/
def LcV (K : PySem.W.Frag) (g : TG) (t : TT) (te : TE) (vs : List Nat) (σ : L2.St) (x : V) (H1 : Hp) (Q : VK) : Prop :=
  ∃ a, x = .ref a ∧ (∃ xs, SqL K H1 a xs) ∧ ∀ D, H1 D = none → ∃ W : Nat → Nat → Hp → Prop, (∃ m, W 0 m (upd H1 D (.lst []))) ∧ ∀ i m H, W i m H →
  ((Itl K a).stop i H ∧ Q (.ref D) H) ∨ ((Itl K a).go i H ∧ ∃ Nx : Hp → Prop, (∀ H', Nx H' → ∃ m', m' < m ∧ W (i + 1) m' H') ∧ ∀ x H', (Itl K a).yld i H x H' → g x (wipe σ vs) H' fun σ2 H2 => wipe σ2 vs = wipe σ vs ∧ t σ2 H2 fun b H3 =>
    if b = true then te σ2 H3 fun y H4 => ∃ acc, H4 D = some (.lst acc) ∧ acc.length < sizeLine ∧ Nx (upd H4 D (.lst (acc ++ [y]))) else Nx H3)
theorem x_lc {vs : List Nat} (h : tl σ H fun x H1 => LcV K g t te vs σ x H1 Q) : tLc (iList K tl) g t te vs σ H Q := h
theorem take_more {α : Type} {l : List α} {i : Nat} {x : α} (h : l[i]? = some x) : l.take (i + 1) = l.take i ++ [x] := by
  rw [List.take_add_one, h]
  rfl
theorem Same.mut {H H' : Hp} {p : Addr} {o : HO} (e : Same H H') (h : H p = none) : Same H (upd H' p o) := fun a u ha => by
  rw [upd_ne (ne_of_none ha h)]
  exact e a u ha
/-- each item kept where f says so, and turned by v; tests and elements may make things of their own -/
theorem lc_L {a : Addr} {xs : List V} {j : Nat} {vs : List Nat} (hx : SqL K H a xs) (hz : xs.length ≤ 100000) (f : V → Bool) (v : V → V)
    (hw : ∀ x, wipe ((wipe σ vs).set j (some x)) vs = wipe σ vs)
    (ht : ∀ x, x ∈ xs → ∀ H1, Same H H1 → ∀ Q : Bool → Hp → Prop, (∀ H2, Same H1 H2 → Q (f x) H2) → t ((wipe σ vs).set j (some x)) H1 Q)
    (he : ∀ x, x ∈ xs → f x = true → ∀ H1, Same H H1 → ∀ Q : VK, (∀ H2, Same H1 H2 → Q (v x) H2) → te ((wipe σ vs).set j (some x)) H1 Q)
    (k : ∀ p H2, H p = none → Same H H2 → H2 p = some (.lst ((xs.filter f).map v)) → Q (.ref p) H2) : LcV K (gName j) t te vs σ (.ref a) H Q := by
  refine ⟨a, rfl, ⟨xs, hx⟩, fun D hD => ?_⟩
  refine lc_list (xs := xs) (fun i H' => Same H H' ∧ H' D = some (.lst (((xs.take i).filter f).map v))) ⟨Same.new hD, upd_same⟩ (fun i H' _ p => Same.seq p.1 hx) ?_ ?_
  · intro i x H' hi p
    have hm : x ∈ xs := List.mem_of_getElem? hi
    have hlt : i < xs.length := (List.getElem?_eq_some_iff.mp hi).1
    have et := take_more hi
    refine ⟨hw x, ht x hm H' p.1 _ fun H2 e2 => ?_⟩
    cases hf : f x with
    | true =>
      rw [if_pos rfl]
      refine he x hm hf H2 (p.1.trans e2) _ fun H3 e3 => ⟨_, e3 _ _ (e2 _ _ p.2), ?_, ?_, ?_⟩
      · have z1 := List.length_filter_le f (xs.take i)
        rw [List.length_map]
        rw [List.length_take] at z1
        exact sz' (by omega)
      · exact Same.mut ((p.1.trans e2).trans e3) hD
      · rw [et, List.filter_append, List.map_append, upd_same]
        simp [List.filter, hf]
    | false =>
      rw [if_neg Bool.false_ne_true]
      refine ⟨p.1.trans e2, ?_⟩
      rw [et, List.filter_append, List.map_append]
      simp [List.filter, hf]
      exact e2 _ _ p.2
  · intro H' p
    rw [List.take_length] at p
    exact k D H' hD p.1 p.2
/-- len(..) -/
def rLen (K : PySem.W.Frag) : List V → Hp → VK → Prop := fun xs H Q => ∃ p ys, xs = [.ref p] ∧ (SqL K H p ys ∨ SqT K H p ys) ∧ Q (.int ys.length) H
theorem call_len {X : Cx} : CallR X (.builtin "len") (rLen X.K) := call_len_seq
theorem x_lenL {p : Addr} {xs : List V} (h : SqL K H p xs) (q : Q (.int xs.length) H) : rLen K [.ref p] H Q := ⟨p, xs, rfl, .inl h, q⟩
theorem x_lenT {p : Addr} {xs : List V} (h : SqT K H p xs) (q : Q (.int xs.length) H) : rLen K [.ref p] H Q := ⟨p, xs, rfl, .inr h, q⟩
def rAbs : List V → Hp → VK → Prop := fun xs H Q => ∃ i, xs = [.int i] ∧ Q (.int (if i < 0 then -i else i)) H
theorem call_absI {X : Cx} : CallR X (.builtin "abs") rAbs := call_abs
theorem x_abs {i : Int} (q : Q (.int (if i < 0 then -i else i)) H) : rAbs [.int i] H Q := ⟨i, rfl, q⟩
def ForL (K : PySem.W.Frag) (g : TG) (tb : TS) (D : Ends) (σ : L2.St) (x : V) (H1 : Hp) : Prop := ∃ a, x = .ref a ∧ (∃ xs, SqL K H1 a xs) ∧ ∃ W : Nat → Nat → L2.St → Hp → Prop, (∃ m, W 0 m σ H1) ∧ ∀ i m σ H, W i m σ H →
  ((Itl K a).stop i H ∧ D.nx σ H) ∨ ((Itl K a).go i H ∧ ∃ N : L2.St → Hp → Prop, (∀ σ' H', N σ' H' → ∃ m', m' < m ∧ W (i + 1) m' σ' H') ∧ ∀ x H', (Itl K a).yld i H x H' → g x σ H' fun σ2 H2 => tb { D with nx := N, ct := N, bk := D.nx } σ2 H2)
theorem x_forL {tb : TS} {D : Ends} (h : tl σ H fun x H1 => ForL K g tb D σ x H1) : tFor (iList K tl) g tb D σ H := h
/-- a for over a list by what holds between two turns; the turn's item is x -/
theorem for_L {tb : TS} {D : Ends} {j : Nat} {a : Addr} {xs : List V} (hx : SqL K H a xs) (Pv : Nat → L2.St → Hp → Prop) (h0 : Pv 0 σ H) (hl : ∀ i σ H, i ≤ xs.length → Pv i σ H → SqL K H a xs)
    (hs : ∀ i x σ H, xs[i]? = some x → Pv i σ H → tb { nx := Pv (i + 1), rt := D.rt, ct := Pv (i + 1), bk := D.nx } (σ.set j (some x)) H) (hd : ∀ σ H, Pv xs.length σ H → D.nx σ H) : ForL K (gName j) tb D σ (.ref a) H :=
  ⟨a, rfl, ⟨xs, hx⟩, for_list (xs := xs) Pv h0 hl (fun i x σ H e p => hs i x σ H e p) hd⟩
def Rg1V (x : V) (H : Hp) (Q : Int → Int → Hp → Prop) : Prop := ∃ n, x = .int n ∧ Q 0 n H
def Rg2V (x y : V) (H : Hp) (Q : Int → Int → Hp → Prop) : Prop := ∃ i j, x = .int i ∧ y = .int j ∧ Q i j H
theorem x_rg1 {Q : Int → Int → Hp → Prop} (h : te σ H fun x H1 => Rg1V x H1 Q) : tRg1 te σ H Q := h
theorem x_rg2 {tb : TE} {Q : Int → Int → Hp → Prop} (h : te σ H fun x H1 => tb σ H1 fun y H2 => Rg2V x y H2 Q) : tRg2 te tb σ H Q := h
theorem rg1v {n : Int} {Q : Int → Int → Hp → Prop} (q : Q 0 n H) : Rg1V (.int n) H Q := ⟨n, rfl, q⟩
theorem rg2v {i j : Int} {Q : Int → Int → Hp → Prop} (q : Q i j H) : Rg2V (.int i) (.int j) H Q := ⟨i, j, rfl, rfl, q⟩
end
end LH
namespace LH
open PySem L2
section
variable {K : PySem.W.Frag} {σ : L2.St} {H : Hp} {Q : VK} {D : Ends} {te tl ta tb : TE} {tr : TA} {t : TT} {g : TG} {x y : V}
/-! walks of any kind -/
def LcJ (J : It) (g : TG) (t : TT) (te : TE) (vs : List Nat) (σ : L2.St) (H1 : Hp) (Q : VK) : Prop :=
  ∀ D, H1 D = none → ∃ W : Nat → Nat → Hp → Prop, (∃ m, W 0 m (upd H1 D (.lst []))) ∧ ∀ i m H, W i m H →
  (J.stop i H ∧ Q (.ref D) H) ∨ (J.go i H ∧ ∃ Nx : Hp → Prop, (∀ H', Nx H' → ∃ m', m' < m ∧ W (i + 1) m' H') ∧ ∀ x H', J.yld i H x H' → g x (wipe σ vs) H' fun σ2 H2 => wipe σ2 vs = wipe σ vs ∧ t σ2 H2 fun b H3 =>
    if b = true then te σ2 H3 fun y H4 => ∃ acc, H4 D = some (.lst acc) ∧ acc.length < sizeLine ∧ Nx (upd H4 D (.lst (acc ++ [y]))) else Nx H3)
def ForJ (J : It) (g : TG) (tb : TS) (D : Ends) (σ : L2.St) (H1 : Hp) : Prop := ∃ W : Nat → Nat → L2.St → Hp → Prop, (∃ m, W 0 m σ H1) ∧ ∀ i m σ H, W i m σ H →
  (J.stop i H ∧ D.nx σ H) ∨ (J.go i H ∧ ∃ N : L2.St → Hp → Prop, (∀ σ' H', N σ' H' → ∃ m', m' < m ∧ W (i + 1) m' σ' H') ∧ ∀ x H', J.yld i H x H' → g x σ H' fun σ2 H2 => tb { D with nx := N, ct := N, bk := D.nx } σ2 H2)
def StrV (v : V) (H : Hp) (R : It → Hp → Prop) : Prop := ∃ x, v = .str x ∧ R (Its x) H
theorem strv {z : Str} {R : It → Hp → Prop} (h : R (Its z) H) : StrV (.str z) H R := ⟨z, rfl, h⟩
def Rn1V (vs : List V) (H : Hp) (R : It → Hp → Prop) : Prop := ∃ j : Int, vs = [.int j] ∧ -(2 ^ 62) ≤ j ∧ j < 2 ^ 62 ∧ R (Itr 0 j.toNat) H
theorem rn1v {j : Int} {R : It → Hp → Prop} (h1 : -100000 ≤ j) (h2 : j ≤ 100000) (h : R (Itr 0 j.toNat) H) : Rn1V [.int j] H R := ⟨j, rfl, by omega, by omega, h⟩
def Rn3V (vs : List V) (H : Hp) (R : It → Hp → Prop) : Prop := ∃ (i j c : Int) (n : Nat), vs = [.int i, .int j, .int c] ∧ RgC i j c n ∧ R (Itc i c n) H
theorem rn3v {i j c : Int} {n : Nat} {R : It → Hp → Prop} (h1 : RgC i j c n) (h : R (Itc i c n) H) : Rn3V [.int i, .int j, .int c] H R := ⟨i, j, c, n, rfl, h1, h⟩
def TupV (K : PySem.W.Frag) (x : V) (H : Hp) (R : It → Hp → Prop) : Prop := ∃ a, x = .ref a ∧ (∃ xs, SqT K H a xs) ∧ R (Itt K a) H
theorem x_lcS {vs : List Nat} (h : tl σ H fun v H1 => StrV v H1 fun J H2 => LcJ J g t te vs σ H2 Q) : tLc (iStr tl) g t te vs σ H Q := h
theorem x_lcR1 {vs : List Nat} (h : tr σ H fun v H1 => Rn1V v H1 fun J H2 => LcJ J g t te vs σ H2 Q) : tLc (iRng1 tr) g t te vs σ H Q := h
theorem x_forR1 {tb : TS} (h : tr σ H fun v H1 => Rn1V v H1 fun J H2 => ForJ J g tb D σ H2) : tFor (iRng1 tr) g tb D σ H := h
theorem x_forR3 {tb : TS} (h : tr σ H fun v H1 => Rn3V v H1 fun J H2 => ForJ J g tb D σ H2) : tFor (iRng3 tr) g tb D σ H := h
theorem for_R3 {tb : TS} {lo c : Int} {n : Nat} {j : Nat} (Pv : Nat → L2.St → Hp → Prop) (h0 : Pv 0 σ H)
    (hs : ∀ i σ H, i < n → Pv i σ H → tb { nx := Pv (i + 1), rt := D.rt, ct := Pv (i + 1), bk := D.nx } (σ.set j (some (.int (lo + (i : Nat) * c)))) H) (hd : ∀ σ H, Pv n σ H → D.nx σ H) : ForJ (Itc lo c n) (gName j) tb D σ H :=
  for_rangeC Pv h0 (fun i σ H hi p => hs i σ H hi p) hd
theorem for_R1 {tb : TS} {lo : Int} {n : Nat} {j : Nat} (Pv : Nat → L2.St → Hp → Prop) (h0 : Pv 0 σ H)
    (hs : ∀ i σ H, i < n → Pv i σ H → tb { nx := Pv (i + 1), rt := D.rt, ct := Pv (i + 1), bk := D.nx } (σ.set j (some (.int (lo + (i : Nat))))) H) (hd : ∀ σ H, Pv n σ H → D.nx σ H) : ForJ (Itr lo n) (gName j) tb D σ H :=
  for_range Pv h0 (fun i σ H hi p => hs i σ H hi p) hd
/-- a comprehension whose walk gives the items xs, the heap as it was -/
theorem lc_J {J : It} {n : Nat} {Y : Nat → Hp → V → Hp → Prop} (w : Walk J n (fun _ => True) Y) {xs : List V} (hn : xs.length = n) (hY : ∀ i H x H', Y i H x H' → H' = H ∧ xs[i]? = some x) {j : Nat} {vs : List Nat} (hz : xs.length ≤ 100000)
    (f : V → Bool) (v : V → V) (hw : ∀ x, wipe ((wipe σ vs).set j (some x)) vs = wipe σ vs)
    (ht : ∀ x, x ∈ xs → ∀ H1, Same H H1 → ∀ Q : Bool → Hp → Prop, (∀ H2, Same H1 H2 → Q (f x) H2) → t ((wipe σ vs).set j (some x)) H1 Q)
    (he : ∀ x, x ∈ xs → f x = true → ∀ H1, Same H H1 → ∀ Q : VK, (∀ H2, Same H1 H2 → Q (v x) H2) → te ((wipe σ vs).set j (some x)) H1 Q)
    (k : ∀ p H2, H p = none → Same H H2 → H2 p = some (.lst ((xs.filter f).map v)) → Q (.ref p) H2) : LcJ J (gName j) t te vs σ H Q := by
  intro D hD
  refine lc_it w (fun i H' => Same H H' ∧ H' D = some (.lst (((xs.take i).filter f).map v))) ⟨Same.new hD, upd_same⟩ (fun _ _ _ _ => trivial) ?_ ?_
  · intro i x H' H'' hi p y
    obtain ⟨rfl, hx⟩ := hY _ _ _ _ y
    have hm : x ∈ xs := List.mem_of_getElem? hx
    have et := take_more hx
    refine ⟨hw x, ht x hm _ p.1 _ fun H2 e2 => ?_⟩
    cases hf : f x with
    | true =>
      rw [if_pos rfl]
      refine he x hm hf H2 (p.1.trans e2) _ fun H3 e3 => ⟨_, e3 _ _ (e2 _ _ p.2), ?_, ?_, ?_⟩
      · have z1 := List.length_filter_le f (xs.take i)
        rw [List.length_map]
        rw [List.length_take] at z1
        exact sz' (by omega)
      · exact Same.mut ((p.1.trans e2).trans e3) hD
      · rw [et, List.filter_append, List.map_append, upd_same]
        simp [List.filter, hf]
    | false =>
      rw [if_neg Bool.false_ne_true]
      refine ⟨p.1.trans e2, ?_⟩
      rw [et, List.filter_append, List.map_append]
      simp [List.filter, hf]
      exact e2 _ _ p.2
  · intro H' p
    rw [← hn, List.take_length] at p
    exact k D H' hD p.1 p.2
def signs (z : Str) : List V := z.cps.toList.map fun c => .str ⟨#[c]⟩
theorem signs_len (z : Str) : (signs z).length = z.cps.size := by unfold signs; rw [List.length_map, Array.length_toList]
/-- .. over a text's signs -/
theorem lc_S {z : Str} {j : Nat} {vs : List Nat} (hz : z.cps.size ≤ 100000) (f : V → Bool) (v : V → V) (hw : ∀ x, wipe ((wipe σ vs).set j (some x)) vs = wipe σ vs)
    (ht : ∀ x, x ∈ signs z → ∀ H1, Same H H1 → ∀ Q : Bool → Hp → Prop, (∀ H2, Same H1 H2 → Q (f x) H2) → t ((wipe σ vs).set j (some x)) H1 Q)
    (he : ∀ x, x ∈ signs z → f x = true → ∀ H1, Same H H1 → ∀ Q : VK, (∀ H2, Same H1 H2 → Q (v x) H2) → te ((wipe σ vs).set j (some x)) H1 Q)
    (k : ∀ p H2, H p = none → Same H H2 → H2 p = some (.lst (((signs z).filter f).map v)) → Q (.ref p) H2) : LcJ (Its z) (gName j) t te vs σ H Q :=
  lc_J walk_str (signs_len z) (fun i H x H' ⟨e, c, hc, hx⟩ => ⟨e, by unfold signs; rw [List.getElem?_map, Array.getElem?_toList, hc, hx]; rfl⟩) (by rw [signs_len]; exact hz) f v hw ht he k
theorem walk_rg {lo : Int} {n : Nat} : Walk (Itr lo n) n (fun _ => True) (fun i H x H' => H' = H ∧ x = .int (lo + (i : Nat)) ∧ i < n) :=
  ⟨fun _ _ h _ => h, fun _ _ => Nat.le_refl _, fun i H x H' h _ y => ⟨y.1, y.2, h⟩⟩
def intsV (lo : Int) (n : Nat) : List V := (List.range n).map fun i => V.int (lo + (i : Nat))
/-- .. over a range -/
theorem lc_R {lo : Int} {n : Nat} {j : Nat} {vs : List Nat} (hz : n ≤ 100000) (f : V → Bool) (v : V → V) (hw : ∀ x, wipe ((wipe σ vs).set j (some x)) vs = wipe σ vs)
    (ht : ∀ x, x ∈ intsV lo n → ∀ H1, Same H H1 → ∀ Q : Bool → Hp → Prop, (∀ H2, Same H1 H2 → Q (f x) H2) → t ((wipe σ vs).set j (some x)) H1 Q)
    (he : ∀ x, x ∈ intsV lo n → f x = true → ∀ H1, Same H H1 → ∀ Q : VK, (∀ H2, Same H1 H2 → Q (v x) H2) → te ((wipe σ vs).set j (some x)) H1 Q)
    (k : ∀ p H2, H p = none → Same H H2 → H2 p = some (.lst (((intsV lo n).filter f).map v)) → Q (.ref p) H2) : LcJ (Itr lo n) (gName j) t te vs σ H Q :=
  lc_J walk_rg (by unfold intsV; rw [List.length_map, List.length_range]) (fun i H x H' ⟨e, hx, hi⟩ => ⟨e, by unfold intsV; rw [List.getElem?_map, List.getElem?_range hi, hx]; rfl⟩) (by unfold intsV; rw [List.length_map, List.length_range]; exact hz) f v hw ht he k
theorem x_yes {Q : Bool → Hp → Prop} (q : Q true H) : tYes σ H Q := q
/-! texts -/
def rLenS : List V → Hp → VK → Prop := fun xs H Q => ∃ z, xs = [.str z] ∧ z.length ≤ sizeLine ∧ Q (.int z.length) H
theorem call_lenS {X : Cx} : CallR X (.builtin "len") rLenS := call_len_str
theorem x_lenS {z : Str} (h : z.length ≤ 100000) (q : Q (.int z.length) H) : rLenS [.str z] H Q := ⟨z, rfl, sz h, q⟩
def rAddS : R2 := fun x y H Q => ∃ i j, x = .str i ∧ y = .str j ∧ i.length + j.length ≤ sizeLine ∧ Q (.str (i ++ j)) H
theorem op_addS {X : Cx} : OpR X (binaryOp .Add) rAddS := op_add_str
theorem x_addS {a b : Str} (h : a.length + b.length ≤ 100000) (q : Q (.str (a ++ b)) H) : rAddS (.str a) (.str b) H Q := ⟨a, b, rfl, rfl, sz h, q⟩
def rInS (neg : Bool) : R2 := fun x y H Q => ∃ (c : Nat) (z : Str), x = .str ⟨#[c]⟩ ∧ y = .str z ∧ Q (.bl (if neg then !decide (c ∈ z.cps.toList) else decide (c ∈ z.cps.toList))) H
theorem op_inS {X : Cx} : OpR X (compareOp .In) (rInS false) := op_in_sign
theorem op_niS {X : Cx} : OpR X (compareOp .NotIn) (rInS true) := op_notIn_sign
theorem x_inS {c : Nat} {z : Str} (q : Q (.bl (decide (c ∈ z.cps.toList))) H) : rInS false (.str ⟨#[c]⟩) (.str z) H Q := ⟨c, z, rfl, rfl, q⟩
theorem x_niS {c : Nat} {z : Str} (q : Q (.bl (!decide (c ∈ z.cps.toList))) H) : rInS true (.str ⟨#[c]⟩) (.str z) H Q := ⟨c, z, rfl, rfl, q⟩
theorem x_ixS {z : Str} {i : Int} {c : Nat} (h : z.length ≤ 100000) (e : atI z.cps.toList i = some c) (q : Q (.str ⟨#[c]⟩) H) : rIxS (.str z) (.int i) H Q := ⟨z, i, c, rfl, rfl, sz h, e, q⟩
theorem x_sl {r : V → Option Int → Option Int → Hp → VK → Prop} {lo hi : TO} (h : te σ H fun x H1 => lo σ H1 fun l H2 => hi σ H2 fun u H3 => r x l u H3 Q) : tSl r te lo hi σ H Q := h
theorem x_noPart {Q : Option Int → Hp → Prop} (q : Q none H) : tNoPart σ H Q := q
def PaV (x : V) (H : Hp) (Q : Option Int → Hp → Prop) : Prop := ∃ i, x = .int i ∧ Q (some i) H
theorem pav {i : Int} {Q : Option Int → Hp → Prop} (q : Q (some i) H) : PaV (.int i) H Q := ⟨i, rfl, q⟩
theorem x_part {Q : Option Int → Hp → Prop} (h : te σ H fun x H1 => PaV x H1 Q) : tPart te σ H Q := h
theorem x_slS {z : Str} {lo hi : Option Int} (h : z.length ≤ 100000) (q : Q (.str (cutS z lo hi)) H) : rSlS (.str z) lo hi H Q := ⟨z, rfl, sz h, q⟩
def JnV (K : PySem.W.Frag) (te : TE) (σ : L2.St) (x : V) (H : Hp) (Q : VK) : Prop := (∃ a, x = .str a) ∧ te σ H fun y H2 => ∃ a p, ∃ ys : List Str, x = .str a ∧ [y] = [.ref p] ∧ (SqL K H2 p (ys.map V.str) ∨ SqT K H2 p (ys.map V.str)) ∧
  (ys.map (·.length)).sum + ys.length * a.length ≤ 16777216 ∧ Q (.str (Txt.join a ys)) H2
def JnW (K : PySem.W.Frag) (a : Str) (y : V) (H2 : Hp) (Q : VK) : Prop := ∃ a' p, ∃ ys : List Str, V.str a = .str a' ∧ [y] = [.ref p] ∧ (SqL K H2 p (ys.map V.str) ∨ SqT K H2 p (ys.map V.str)) ∧
  (ys.map (·.length)).sum + ys.length * a'.length ≤ 16777216 ∧ Q (.str (Txt.join a' ys)) H2
theorem x_jnv {a : Str} (h : te σ H fun y H2 => JnW K a y H2 Q) : JnV K te σ (.str a) H Q := ⟨⟨a, rfl⟩, h⟩
theorem x_jnw {a : Str} {p : Addr} {ys : List Str} (h : SqL K H p (ys.map V.str)) (hz : (ys.map (·.length)).sum + ys.length * a.length ≤ 100000) (q : Q (.str (Txt.join a ys)) H) : JnW K a (.ref p) H Q := ⟨a, p, ys, rfl, rfl, .inl h, Nat.le_trans hz (by decide), q⟩
def tJoin (K : PySem.W.Frag) (to te : TE) : TE := fun σ H Q => to σ H fun x H1 => JnV K te σ x H1 Q
theorem x_join {to : TE} (h : to σ H fun x H1 => JnV K te σ x H1 Q) : tJoin K to te σ H Q := h
theorem pe_joinN {X : Cx} {o e : Expr} {to te : TE} {apos pos : Pos} (ho : PE X o to) (he : PE X e te) (hs : starEach [e] X.env = [(false, eval e X.env)] := by rfl) (hbase : attributeBase o "join" X.env (eval o X.env) = eval o X.env := by rfl) (hline : (apos.endLine == pos.line) = true := by rfl) :
    PE X (.Call (.Attribute o "join" apos) [e] [] pos) (tJoin X.K to te) := pe_join ho he hs hbase hline
/-! tuples, bools, lists of, unpacking -/
theorem x_slA {p : Addr} {xs : List V} {lo hi : Option Int} (h : SqT K H p xs) (k : ∀ p' H2, Same H H2 → SqT K H2 p' (cutV xs lo hi) → Q (.ref p') H2) : rSlA K (.ref p) lo hi H Q := by
  refine ⟨p, xs, rfl, h, fun hw => ?_, fun hw q hq => k q _ (Same.new hq) (SqT.of upd_same)⟩
  have e : cutV xs lo hi = xs := by
    unfold cutV
    rw [hw.1, hw.2, List.drop_zero, Nat.sub_zero, List.take_length]
  exact k p H (Same.refl H) (by rw [e]; exact h)
theorem x_catA {p q : Addr} {xs ys : List V} (h1 : SqT K H p xs) (h2 : SqT K H q ys) (hl : xs.length + ys.length ≤ 100000) (k : ∀ p' H2, Same H H2 → SqT K H2 p' (xs ++ ys) → Q (.ref p') H2) : rCatA K (.ref p) (.ref q) H Q := by
  refine ⟨p, q, xs, ys, rfl, rfl, h1, h2, sz hl, fun e => ?_, fun _ e => ?_, fun _ _ r hr => k r _ (Same.new hr) (SqT.of upd_same)⟩
  · exact k q H (Same.refl H) (by rw [e]; exact h2)
  · exact k p H (Same.refl H) (by rw [e, List.append_nil]; exact h1)
def rIsB (neg : Bool) : R2 := fun x y H Q => ∃ a b, x = .bl a ∧ y = .bl b ∧ Q (.bl (if neg then !decide (a = b) else decide (a = b))) H
theorem op_isB {X : Cx} : OpR X (compareOp .Is) (rIsB false) := op_is_bl
theorem op_isnB {X : Cx} : OpR X (compareOp .IsNot) (rIsB true) := op_isnot_bl
theorem x_isB {b c : Bool} (q : Q (.bl (decide (b = c))) H) : rIsB false (.bl b) (.bl c) H Q := ⟨b, c, rfl, rfl, q⟩
theorem x_isnB {b c : Bool} (q : Q (.bl (!decide (b = c))) H) : rIsB true (.bl b) (.bl c) H Q := ⟨b, c, rfl, rfl, q⟩
theorem x_gtup {n : Nat} {tg : TGs} {a : Addr} {xs : List V} {Q : L2.St → Hp → Prop} (h : SqT K H a xs) (e : xs.length = n) (q : tg xs σ H Q) : gTup K n tg (.ref a) σ H Q := ⟨a, xs, rfl, h, e, q⟩
theorem x_gcons {tg : TGs} {v : V} {r : List V} {Q : L2.St → Hp → Prop} (q : g v σ H fun σ' H' => tg r σ' H' Q) : gCons g tg (v :: r) σ H Q := ⟨v, r, rfl, q⟩
theorem x_gnil {Q : L2.St → Hp → Prop} (q : Q σ H) : gNil [] σ H Q := ⟨rfl, q⟩
def rInt1 : List V → Hp → VK → Prop := fun xs H Q => (∃ i, xs = [.int i] ∧ Q (.int i) H) ∨ ∃ k, xs = [.bl k] ∧ Q (.int (if k then 1 else 0)) H
theorem call_intB {X : Cx} : CallR X (.type "int") rInt1 := call_int1
theorem x_intB {b : Bool} (q : Q (.int (if b then 1 else 0)) H) : rInt1 [.bl b] H Q := .inr ⟨b, rfl, q⟩
theorem x_dnew (k : ∀ p H2, H p = none → Same H H2 → H2 p = some (.dK []) → Q (.ref p) H2) : tDNewK σ H Q := fun p hp => k p _ hp (Same.new hp) upd_same
def rListOf (K : PySem.W.Frag) : List V → Hp → VK → Prop := fun xs H Q => ∃ p ys, xs = [.ref p] ∧ (SqL K H p ys ∨ SqT K H p ys) ∧ ∀ l, H l = none → Q (.ref l) (upd H l (.lst ys))
theorem call_listOf {X : Cx} : CallR X (.type "list") (rListOf X.K) := call_list_of
theorem x_listOf {p : Addr} {ys : List V} (h : SqL K H p ys ∨ SqT K H p ys) (k : ∀ l H2, H l = none → Same H H2 → H2 l = some (.lst ys) → Q (.ref l) H2) : rListOf K [.ref p] H Q := ⟨p, ys, rfl, h, fun l hl => k l _ hl (Same.new hl) upd_same⟩
theorem x_all {p : Addr} {bs : List Bool} (h : SqL K H p (bs.map V.bl)) (q : Q (.bl (bs.all id)) H) : rAll K [.ref p] H Q := ⟨p, bs, rfl, h, q⟩
theorem x_any {p : Addr} {bs : List Bool} (h : SqL K H p (bs.map V.bl)) (q : Q (.bl (bs.any id)) H) : rAny K [.ref p] H Q := ⟨p, bs, rfl, h, q⟩
theorem x_ixQ {p : Addr} {xs : List V} {i : Int} {v : V} (h : SqT K H p xs) (e : atI xs i = some v) (q : Q v H) : rIx K (.ref p) (.int i) H Q := .inr (.inl ⟨p, xs, i, v, rfl, rfl, h, e, q⟩)
def OrV (K : PySem.W.Frag) (x : V) (H : Hp) (Q : VK) (R : Hp → VK → Prop) : Prop := ∃ k, TruV K x H k ∧ if k = true then Q x H else R H Q
theorem x_orT (h : ta σ H fun x H1 => OrV K x H1 Q (tb σ)) : tOrT K ta tb σ H Q := h
theorem orv {k : Bool} {R : Hp → VK → Prop} (h : TruV K x H k) (q : Br k (Q x H) (R H Q)) : OrV K x H Q R := ⟨k, h, q⟩
def rIsTy : R2 := fun x y H Q => ∃ a b, x = .ty a ∧ y = .ty b ∧ Q (.bl (decide (a = b))) H
theorem op_isTy {X : Cx} : OpR X (compareOp .Is) rIsTy := op_isTyB
theorem x_isTy {a b : String} (q : Q (.bl (decide (a = b))) H) : rIsTy (.ty a) (.ty b) H Q := ⟨a, b, rfl, rfl, q⟩
theorem x_niTy {a b : String} (q : Q (.bl (!decide (a = b))) H) : rNT (.ty a) (.ty b) H Q := ⟨a, b, rfl, rfl, q⟩
def rIntS : List V → Hp → VK → Prop := fun xs H Q => ∃ a n, xs = [.str a] ∧ PySem.intText? a = some n ∧ a.length ≤ 640 ∧ Q (.int n) H
theorem call_intS {X : Cx} : CallR X (.type "int") rIntS := call_int_str
theorem x_intS {z : Str} {n : Int} (e : PySem.intText? z = some n) (h : z.length ≤ 640) (q : Q (.int n) H) : rIntS [.str z] H Q := ⟨z, n, rfl, e, h, q⟩
def rStrI : List V → Hp → VK → Prop := fun xs H Q => ∃ i, xs = [.int i] ∧ i.natAbs.log2 < 1920 ∧ Q (.str (toString i)) H
theorem call_strI {X : Cx} : CallR X (.type "str") rStrI := call_str_int
theorem x_strI {i : Int} (h : i.natAbs.log2 < 1920) (q : Q (.str (toString i)) H) : rStrI [.int i] H Q := ⟨i, rfl, h, q⟩
theorem x_glst {n : Nat} {tg : TGs} {a : Addr} {xs : List V} {Q : L2.St → Hp → Prop} (h : SqL K H a xs) (e : xs.length = n) (q : tg xs σ H Q) : gLst K n tg (.ref a) σ H Q := ⟨a, xs, rfl, h, e, q⟩
def SpV (te : TE) (σ : L2.St) (x : V) (H : Hp) (Q : VK) : Prop := (∃ a, x = .str a) ∧ te σ H fun y H2 => ∃ a b, x = .str a ∧ [y] = [.str b] ∧ (b.length == 0) = false ∧ a.length + 2 ≤ sizeLine ∧ rNewStrs (Txt.split a b) H2 Q
def SpW (a : Str) (y : V) (H2 : Hp) (Q : VK) : Prop := ∃ a' b, V.str a = .str a' ∧ [y] = [.str b] ∧ (b.length == 0) = false ∧ a'.length + 2 ≤ sizeLine ∧ rNewStrs (Txt.split a' b) H2 Q
def tSplit (to te : TE) : TE := fun σ H Q => to σ H fun x H1 => SpV te σ x H1 Q
theorem x_split {to : TE} (h : to σ H fun x H1 => SpV te σ x H1 Q) : tSplit to te σ H Q := h
theorem x_spv {a : Str} (h : te σ H fun y H2 => SpW a y H2 Q) : SpV te σ (.str a) H Q := ⟨⟨a, rfl⟩, h⟩
theorem x_spw {a b : Str} (hb : (b.length == 0) = false) (hz : a.length ≤ 100000) (k : ∀ p H2, H p = none → Same H H2 → H2 p = some (.lst ((Txt.split a b).map V.str)) → Q (.ref p) H2) : SpW a (.str b) H Q :=
  ⟨a, b, rfl, rfl, hb, Nat.le_trans (Nat.add_le_add_right hz 2) (by decide), fun p hp => k p _ hp (Same.new hp) upd_same⟩
theorem pe_splitN {X : Cx} {o e : Expr} {to te : TE} {apos pos : Pos} (ho : PE X o to) (he : PE X e te) (hs : starEach [e] X.env = [(false, eval e X.env)] := by rfl) (hbase : attributeBase o "split" X.env (eval o X.env) = eval o X.env := by rfl) (hline : (apos.endLine == pos.line) = true := by rfl) :
    PE X (.Call (.Attribute o "split" apos) [e] [] pos) (tSplit to te) := pe_split ho he hs hbase hline
def SetLV (v o i : V) (H : Hp) (Q : Hp → Prop) : Prop := rSetL o i v H Q
theorem x_gsub {to ti : TE} {v : V} {Q : L2.St → Hp → Prop} (h : to σ H fun o H1 => ti σ H1 fun i H2 => SetLV v o i H2 fun H3 => Q σ H3) : gSub to ti rSetL v σ H Q := h
/-- xs[j] = v of a list of one's own: nothing else changes -/
theorem setLV {p : Addr} {xs : List V} {i : Int} {j : Nat} {v : V} {Q : Hp → Prop} (h : H p = some (.lst xs)) (e : ixN xs.length i = some j) (k : ∀ H', (∀ b o, H b = some o → b ≠ p → H' b = some o) → H' p = some (.lst (xs.set j v)) → Q H') : SetLV v (.ref p) (.int i) H Q :=
  ⟨p, xs, i, j, rfl, rfl, h, e, k _ (fun b o q hb => by rw [upd_ne hb]; exact q) upd_same⟩
def tFmt2 (te : TE) : TE := fun σ H Q => te σ H fun x H1 => (∃ y : Str, x = .str y ∧ y.length ≤ sizeLine ∧ Q (.str y) H1) ∨ ∃ i : Int, x = .int i ∧ i.natAbs.log2 < 1920 ∧ Q (.str (toString i)) H1
def FmV (x : V) (H1 : Hp) (Q : VK) : Prop := (∃ y : Str, x = .str y ∧ y.length ≤ sizeLine ∧ Q (.str y) H1) ∨ ∃ i : Int, x = .int i ∧ i.natAbs.log2 < 1920 ∧ Q (.str (toString i)) H1
theorem x_fmt (h : te σ H fun x H1 => FmV x H1 Q) : tFmt te σ H Q := h
theorem fm_s {y : Str} (h : y.length ≤ 100000) (q : Q (.str y) H) : FmV (.str y) H Q := .inl ⟨y, rfl, sz h, q⟩
theorem fm_i {i : Int} (h : i.natAbs.log2 < 1920) (q : Q (.str (toString i)) H) : FmV (.int i) H Q := .inr ⟨i, rfl, h, q⟩
def JsV (ts : List TE) (acc : Str) (σ : L2.St) (x : V) (H1 : Hp) (Q : Str → Hp → Prop) : Prop := ∃ y : Str, x = .str y ∧ (acc ++ y).length ≤ sizeLine ∧ tJs ts (acc ++ y) σ H1 Q
theorem x_js0 {acc : Str} {Q : Str → Hp → Prop} (q : Q acc H) : tJs [] acc σ H Q := q
theorem x_js {ts : List TE} {acc : Str} {Q : Str → Hp → Prop} (h : te σ H fun x H1 => JsV ts acc σ x H1 Q) : tJs (te :: ts) acc σ H Q := h
theorem jsv {ts : List TE} {acc y : Str} {Q : Str → Hp → Prop} (h : (acc ++ y).length ≤ 100000) (q : tJs ts (acc ++ y) σ H Q) : JsV ts acc σ (.str y) H Q := ⟨y, rfl, sz h, q⟩
/-- a for over a list whose target is any -/
theorem for_Lg {tb : TS} {D : Ends} {a : Addr} {xs : List V} (hx : SqL K H a xs) (Pv : Nat → L2.St → Hp → Prop) (h0 : Pv 0 σ H) (hl : ∀ i σ H, i ≤ xs.length → Pv i σ H → SqL K H a xs)
    (hs : ∀ i x σ H, xs[i]? = some x → Pv i σ H → g x σ H fun σ2 H2 => tb { nx := Pv (i + 1), rt := D.rt, ct := Pv (i + 1), bk := D.nx } σ2 H2) (hd : ∀ σ H, Pv xs.length σ H → D.nx σ H) : ForL K g tb D σ (.ref a) H :=
  ⟨a, rfl, ⟨xs, hx⟩, for_list (xs := xs) Pv h0 hl (fun i x σ H e p => hs i x σ H e p) hd⟩
/-- a value's type by isinstance -/
theorem ty_x {T : String} (h : TyB K H x T) : TyX K H x (.type T) := by
  cases h with
  | non => exact .base .non
  | bl b => exact .base (.bl b)
  | int i => exact .base (.int i)
  | str z => exact .base (.str z)
  | byt b => exact .byt b
  | lst h =>
    rcases h with (h | ⟨o, h⟩) | ⟨o, its, n, hk, hc, _⟩
    · exact .base (.lst h)
    · exact .base (.frz h)
    · exact .kList hk hc
  | tup h =>
    rcases h with (h | ⟨o, h⟩) | ⟨o, its, n, hk, hc, _⟩
    · exact .base (.tup h)
    · exact .fTuple h
    · exact .kTuple hk hc
  | dK h => exact .base (.dK h)
theorem x_isiT {T n : String} {b : Bool} (h : TyB K H x T) (e : kitB T n = some b) (q : Q (.bl b) H) : rIsi K [x, .ty n] H Q := x_isi (.ty n) (ty_x h) (kit_ty e) q
end
end LH
/-! more readings: while, range(a, b), min, pop at a place, how many different ints -/
namespace LH
open PySem L2
section
variable {K : PySem.W.Frag} {σ : L2.St} {H : Hp} {Q : VK} {D : Ends} {te tl ta tb : TE} {tr : TA} {c : TT} {t : TS} {g : TG} {x y : V}
/-! range(a, b) -/
def Rn2V (vs : List V) (H : Hp) (R : It → Hp → Prop) : Prop := ∃ i j : Int, vs = [.int i, .int j] ∧ (-(2 ^ 62) ≤ i ∧ i < 2 ^ 62 ∧ -(2 ^ 62) ≤ j ∧ j < 2 ^ 62) ∧ R (Itr i (j - i).toNat) H
theorem rn2v {i j : Int} {R : It → Hp → Prop} (h1 : -100000 ≤ i ∧ i ≤ 100000) (h2 : -100000 ≤ j ∧ j ≤ 100000) (h : R (Itr i (j - i).toNat) H) : Rn2V [.int i, .int j] H R := ⟨i, j, rfl, ⟨by omega, by omega, by omega, by omega⟩, h⟩
theorem x_forR2 (h : tr σ H fun v H1 => Rn2V v H1 fun J H2 => ForJ J g t D σ H2) : tFor (iRng2 tr) g t D σ H := h
/-! while -/
def WhB (W : Nat → L2.St → Hp → Prop) (m : Nat) (t : TS) (D : Ends) (σ : L2.St) (b : Bool) (H1 : Hp) : Prop :=
  if b = true then ∃ N : L2.St → Hp → Prop, (∀ σ' H', N σ' H' → ∃ m', m' < m ∧ W m' σ' H') ∧ t { D with nx := N, ct := N, bk := D.nx } σ H1 else D.nx σ H1
theorem while_m (W : Nat → L2.St → Hp → Prop) (m0 : Nat) (h0 : W m0 σ H) (hs : ∀ m σ H, W m σ H → c σ H (WhB W m t D σ)) : tWhile c t D σ H := ⟨W, ⟨m0, h0⟩, hs⟩
theorem whb {W : Nat → L2.St → Hp → Prop} {m : Nat} {b : Bool} (h1 : b = true → t { D with nx := fun σ' H' => ∃ m', m' < m ∧ W m' σ' H', ct := fun σ' H' => ∃ m', m' < m ∧ W m' σ' H', bk := D.nx } σ H) (h2 : b = false → D.nx σ H) : WhB W m t D σ b H := by
  unfold WhB
  cases b with
  | false => rw [if_neg Bool.false_ne_true]; exact h2 rfl
  | true => rw [if_pos rfl]; exact ⟨_, fun _ _ q => q, h1 rfl⟩
/-! min, max of two ints -/
def rMinI : List V → Hp → VK → Prop := fun xs H Q => ∃ i j, xs = [.int i, .int j] ∧ Q (.int (if j < i then j else i)) H
theorem call_minI {X : Cx} (hc : X.calm = true) : CallR X (.builtin "min") rMinI := call_min2 hc
theorem x_minI {i j : Int} (q : Q (.int (min i j)) H) : rMinI [.int i, .int j] H Q := ⟨i, j, rfl, by
  have e : (if j < i then j else i) = min i j := by
    split <;> omega
  rw [e]; exact q⟩
/-! xs.pop(i) of a list of one's own -/
theorem x_popAt {p : Addr} {xs : List V} {i : Int} {k : Nat} {y : V} (h : H p = some (.lst xs)) (h1 : -100000 ≤ i) (h2 : i ≤ 100000) (hk : seqIndex? i xs.length = some k) (hy : xs[k]? = some y)
    (q : ∀ H', (∀ b o, H b = some o → b ≠ p → H' b = some o) → H' p = some (.lst (xs.eraseIdx k)) → Q y H') : rPopAt (.ref p) [.int i] H Q :=
  ⟨p, xs, i, k, y, rfl, rfl, h, by omega, by omega, hk, hy, q _ (fun b o e hb => by rw [upd_ne hb]; exact e) upd_same⟩
/-- xs.append(y) to a list of one's own -/
theorem x_app {p : Addr} {xs : List V} {y : V} (h : H p = some (.lst xs)) (hl : xs.length ≤ 100000)
    (q : ∀ H', (∀ b o, H b = some o → b ≠ p → H' b = some o) → H' p = some (.lst (xs ++ [y])) → Q .non H') : rAppend (.ref p) [y] H Q :=
  ⟨p, xs, y, rfl, rfl, h, sz' hl, q _ (fun b o e hb => by rw [upd_ne hb]; exact e) upd_same⟩
theorem Same.set {H0 H H' : Hp} {p : Addr} (e : L2.Same H0 H) (f : H0 p = none) (k : ∀ b o, H b = some o → b ≠ p → H' b = some o) : L2.Same H0 H' := fun b o h => k b o (e b o h) fun q => by
  rw [q, f] at h
  cases h
theorem Same.none {H H' : Hp} {p : Addr} (e : L2.Same H H') (h : H' p = none) : H p = none := by
  cases hq : H p with
  | none => rfl
  | some o => rw [e _ _ hq] at h; cases h
theorem perm_erase {α : Type} : ∀ (l : List α) (j : Nat) (h : j < l.length), (l[j] :: l.eraseIdx j).Perm l
  | [], j, h => absurd h (Nat.not_lt_zero _)
  | a :: l, 0, _ => List.Perm.refl _
  | a :: l, j + 1, h => (List.Perm.swap a (l[j]'(Nat.lt_of_succ_lt_succ h)) (l.eraseIdx j)).trans ((perm_erase l j (Nat.lt_of_succ_lt_succ h)).cons a)
theorem map_erase {α β : Type} (f : α → β) : ∀ (l : List α) (j : Nat), (l.map f).eraseIdx j = (l.eraseIdx j).map f
  | [], _ => rfl
  | _ :: _, 0 => rfl
  | a :: l, j + 1 => congrArg (fun z => f a :: z) (map_erase f l j)
/-- a comprehension over a list, by what becomes of each item: nothing, or a value -/
theorem lc_Li {a : Addr} {xs : List V} {j : Nat} {vs : List Nat} {t : TT} (hx : SqL K H a xs) (hz : xs.length ≤ 100000) (out : List (Option V)) (hn : out.length = xs.length)
    (hw : ∀ x, wipe ((wipe σ vs).set j (some x)) vs = wipe σ vs)
    (ht : ∀ (i : Nat) x o, xs[i]? = some x → out[i]? = some o → ∀ H1, L2.Same H H1 → ∀ Q : Bool → Hp → Prop, (∀ H2, L2.Same H1 H2 → Q o.isSome H2) → t ((wipe σ vs).set j (some x)) H1 Q)
    (he : ∀ (i : Nat) x y, xs[i]? = some x → out[i]? = some (some y) → ∀ H1, L2.Same H H1 → ∀ Q : VK, (∀ H2, L2.Same H1 H2 → Q y H2) → te ((wipe σ vs).set j (some x)) H1 Q)
    (k : ∀ p H2, H p = none → L2.Same H H2 → H2 p = some (.lst (out.filterMap id)) → Q (.ref p) H2) : LcV K (gName j) t te vs σ (.ref a) H Q := by
  refine ⟨a, rfl, ⟨xs, hx⟩, fun D hD => ?_⟩
  refine lc_list (xs := xs) (fun i H' => L2.Same H H' ∧ H' D = some (.lst ((out.take i).filterMap id))) ⟨LH.Same.new hD, upd_same⟩ (fun i H' _ p => Same.seq p.1 hx) ?_ ?_
  · intro i x H' hi p
    have hlt : i < xs.length := (List.getElem?_eq_some_iff.mp hi).1
    have ho : out[i]? = some (out[i]'(by omega)) := List.getElem?_eq_getElem (by omega)
    generalize out[i]'(by omega) = o at ho
    have et := take_more ho
    have small : ((out.take i).filterMap id).length ≤ 100000 := by
      have z1 := List.length_filterMap_le id (out.take i)
      rw [List.length_take] at z1
      omega
    refine ⟨hw x, ht i x o hi ho H' p.1 _ fun H2 e2 => ?_⟩
    cases o with
    | some y =>
      show (if true = true then _ else _)
      rw [if_pos rfl]
      refine he i x y hi ho H2 (p.1.trans e2) _ fun H3 e3 => ⟨_, e3 _ _ (e2 _ _ p.2), sz' small, ?_, ?_⟩
      · exact Same.mut ((p.1.trans e2).trans e3) hD
      · rw [et, List.filterMap_append, upd_same]
        rfl
    | none =>
      show (if false = true then _ else _)
      rw [if_neg Bool.false_ne_true]
      refine ⟨p.1.trans e2, ?_⟩
      rw [et, List.filterMap_append]
      have := e2 _ _ p.2
      simpa using this
  · intro H' p
    rw [← hn, List.take_length] at p
    exact k D H' hD p.1 p.2
/-- a comprehension whose items are objects of their own: the i-th holds ob i, which is no list -/
theorem lc_N {a : Addr} {xs : List V} {j : Nat} {vs : List Nat} {t : TT} (hx : SqL K H a xs) (hz : xs.length ≤ 100000) (ob : Nat → HO) (no : ∀ i l, ob i ≠ .lst l)
    (hw : ∀ x, wipe ((wipe σ vs).set j (some x)) vs = wipe σ vs)
    (ht : ∀ x, x ∈ xs → ∀ H1, L2.Same H H1 → ∀ Q : Bool → Hp → Prop, (∀ H2, L2.Same H1 H2 → Q true H2) → t ((wipe σ vs).set j (some x)) H1 Q)
    (he : ∀ (i : Nat) x, xs[i]? = some x → ∀ H1, L2.Same H H1 → ∀ Q : VK, (∀ p H2, L2.Same H1 H2 → H2 p = some (ob i) → Q (.ref p) H2) → te ((wipe σ vs).set j (some x)) H1 Q)
    (k : ∀ p H2 ys, H p = none → L2.Same H H2 → H2 p = some (.lst ys) → ys.length = xs.length → (∀ i y, ys[i]? = some y → ∃ p, y = .ref p ∧ H2 p = some (ob i)) → Q (.ref p) H2) : LcV K (gName j) t te vs σ (.ref a) H Q := by
  refine ⟨a, rfl, ⟨xs, hx⟩, fun D hD => ?_⟩
  refine lc_list (xs := xs) (fun i H' => L2.Same H H' ∧ ∃ ys : List V, H' D = some (.lst ys) ∧ ys.length = i ∧ ∀ i y, ys[i]? = some y → ∃ p, y = .ref p ∧ H' p = some (ob i)) ⟨LH.Same.new hD, [], upd_same, rfl, fun i y h => nomatch h⟩ (fun i H' _ p => Same.seq p.1 hx) ?_ ?_
  · rintro i x H' hi ⟨e0, ys, gD, ly, hy⟩
    have hlt : i < xs.length := (List.getElem?_eq_some_iff.mp hi).1
    refine ⟨hw x, ht x (List.mem_of_getElem? hi) H' e0 _ fun H2 e2 => ?_⟩
    show (if true = true then _ else _)
    rw [if_pos rfl]
    refine he i x hi H2 (e0.trans e2) _ fun p H3 e3 g3 => ⟨ys, e3 _ _ (e2 _ _ gD), sz' (by omega), ?_, ys ++ [.ref p], upd_same, by rw [List.length_append, ly]; rfl, fun m y hm => ?_⟩
    · exact Same.mut ((e0.trans e2).trans e3) hD
    · have other : ∀ b o, H3 b = some o → (∀ l, o ≠ .lst l) → upd H3 D (.lst (ys ++ [.ref p])) b = some o := fun b o hb hl => by
        rw [upd_ne (fun q => by
          rw [q, e3 _ _ (e2 _ _ gD)] at hb
          injection hb with hb
          exact hl _ hb.symm)]
        exact hb
      by_cases h : m < ys.length
      · rw [List.getElem?_append_left h] at hm
        obtain ⟨p1, e1, g1⟩ := hy m y hm
        exact ⟨p1, e1, other _ _ (e3 _ _ (e2 _ _ g1)) (no m)⟩
      · rw [List.getElem?_append_right (by omega)] at hm
        have hm0 : m - ys.length = 0 := by
          cases hq : m - ys.length with
          | zero => rfl
          | succ z => rw [hq] at hm; cases hm
        rw [hm0] at hm
        injection hm with hm
        have : m = i := by omega
        subst this
        exact ⟨p, hm.symm, other _ _ g3 (no m)⟩
  · rintro H' ⟨e0, ys, gD, ly, hy⟩
    exact k D H' ys hD e0 gD ly hy
/-- two ways that meet again: what follows, R, is proved once -/
theorem join {α : Type} {A : Prop} {R : α → Hp → Prop} (X : α → Hp → Prop) (hA : (∀ y H', X y H' → R y H') → A) (h : ∀ y H', X y H' → R y H') : A := hA h
/-! tuple(xs) of a list; != of plain data or of two dicts -/
def rTupL (K : PySem.W.Frag) : List V → Hp → VK → Prop := fun xs H Q => ∃ p ys, xs = [.ref p] ∧ ((SqL K H p ys ∧ ∀ l, H l = none → Q (.ref l) (upd H l (.tup ys))) ∨ (SqT K H p ys ∧ Q (.ref p) H))
theorem call_tupL {X : Cx} : CallR X (.type "tuple") (rTupL X.K) := call_tuple_of
theorem x_tupL {p : Addr} {ys : List V} (h : SqL K H p ys) (k : ∀ l H2, H l = none → L2.Same H H2 → H2 l = some (.tup ys) → Q (.ref l) H2) : rTupL K [.ref p] H Q := ⟨p, ys, rfl, .inl ⟨h, fun l hl => k l _ hl (LH.Same.new hl) upd_same⟩⟩
def rNeX (K : PySem.W.Frag) : R2 := fun x y H Q => rNeD K x y H Q ∨ rNeDA x y H Q
theorem op_neX {X : Cx} (hu : X.A.units + 64 < cLine) : OpR X (compareOp .NotEq) (rNeX X.K) := (op_neD hu).or (op_ne_dictA (by omega))
theorem x_neX {d : PyData} (hx : Dp K H x d) (sd : SeqAt.shaped d = true) (hy : Dp K H y d) (q : Q (.bl false) H) : rNeX K x y H Q := .inl ⟨d, d, hx, hy, sd, sd, by
  have e : PyData.eqv d d = true := by
    unfold SeqAt.shaped at sd
    rw [Bool.and_eq_true] at sd
    exact SeqAt.eqv_refl _ sd.1
  rw [e]
  exact q⟩
theorem x_neX0 {p : Addr} (h : H p = some (.dK [])) (q : Q (.bl false) H) : rNeX K (.ref p) (.ref p) H Q := .inr ⟨p, p, [], [], rfl, rfl, h, h, rfl, (fun _ m => nomatch m), q⟩
/-! how many different ones -/
def dist (ns : List Int) : List Int := PyProof.Rows.firstMet (fun i => ns.getD i 0) ns.length
def LsV (K : PySem.W.Frag) (x : V) (H : Hp) (Q : VK) : Prop := ∃ (l : Addr) (ns : List Int), x = V.ref l ∧ SqL K H l (ns.map V.int) ∧ ns.length < 60 ∧ Q (.int (dist ns).length) H
def tLenSetG (K : PySem.W.Frag) (ta : TE) : TE := fun σ H Q => ta σ H fun x H1 => LsV K x H1 Q
theorem x_lenSetG (h : ta σ H fun x H1 => LsV K x H1 Q) : tLenSetG K ta σ H Q := h
theorem lsv {p : Addr} {ns : List Int} (h : SqL K H p (ns.map V.int)) (hl : ns.length < 60) (q : Q (.int (dist ns).length) H) : LsV K (.ref p) H Q := ⟨p, ns, rfl, h, hl, q⟩
theorem fold_dist : ∀ (l acc : List Int), (l.foldl PyProof.Rows.step_dedup acc).length ≤ acc.length + l.length ∧ ((l.foldl PyProof.Rows.step_dedup acc).length = acc.length + l.length → l.Nodup ∧ ∀ k ∈ l, k ∉ acc)
  | [], acc => ⟨Nat.le_refl _, fun _ => ⟨List.nodup_nil, fun k h => nomatch h⟩⟩
  | k :: l, acc => by
    have ih := fold_dist l (PyProof.Rows.step_dedup acc k)
    rw [List.foldl_cons]
    by_cases hk : acc.any (· == k) = true
    · have e : PyProof.Rows.step_dedup acc k = acc := by unfold PyProof.Rows.step_dedup; rw [if_pos hk]
      rw [e] at ih ⊢
      refine ⟨by rw [List.length_cons]; omega, fun h => ?_⟩
      rw [List.length_cons] at h
      omega
    · have e : PyProof.Rows.step_dedup acc k = acc ++ [k] := by unfold PyProof.Rows.step_dedup; rw [if_neg hk]
      rw [e] at ih ⊢
      rw [List.length_append, List.length_singleton] at ih
      refine ⟨by rw [List.length_cons]; omega, fun h => ?_⟩
      rw [List.length_cons] at h
      obtain ⟨h1, h2⟩ := ih.2 (by omega)
      have nk : k ∉ acc := fun hm => hk (List.any_eq_true.mpr ⟨k, hm, beq_self_eq_true k⟩)
      refine ⟨List.nodup_cons.mpr ⟨fun hm => h2 k hm (List.mem_append.mpr (.inr (List.mem_singleton.mpr rfl))), h1⟩, fun j hj => ?_⟩
      rcases List.mem_cons.mp hj with rfl | hj
      · exact nk
      · exact fun hm => h2 j hj (List.mem_append.mpr (.inl hm))
theorem dist_eq (ns : List Int) : (dist ns).length = ns.length ↔ ns.Nodup := by
  constructor
  · intro h
    have e : (List.range ns.length).map (fun i => ns.getD i 0) = ns := by
      refine List.ext_getElem (by simp) fun i h1 h2 => ?_
      simp at h1 ⊢
      rw [List.getElem?_eq_getElem h1]
      rfl
    have h2 : (ns.foldl PyProof.Rows.step_dedup []).length = ([] : List Int).length + ns.length := by
      unfold dist PyProof.Rows.firstMet at h
      rw [e] at h
      simpa using h
    exact ((fold_dist ns []).2 h2).1
  · intro h
    unfold dist
    rw [RZ.firstMet_nodup h ns.length (Nat.le_refl _), List.take_length]
end
section
open PySem.Spec PyProof.Rows
variable {X : Cx}
/-- len(set(a)): how many different ints -/
theorem pe_lenSetG {a : Expr} {ta : TE} {p p2 q pos : Pos} (calm : X.calm = true) (g1 : Gl X "len") (m1 : X.mg "len" = none) (g2 : Gl X "set") (m2 : X.mg "set" = none) (ea : PE X a ta)
    (sp : starEach [a] X.env = (false, eval a X.env) :: starEach [] X.env := by rfl) :
    PE X (.Call (.Name "len" p) [.Call (.Name "set" p2) [a] [] q] [] pos) (tLenSetG X.K ta) := by
  constructor
  intro pins s σ H Q inv need
  refine Call_ ?_
  apply ld_blt inv g1 m1 boot_len
  apply PyProof.Rows.callWith_builtin1
  · apply PyProof.Rows.args_cons
    · refine Call_ ?_
      apply ld_blt inv g2 m2 boot_set
      apply PyProof.Rows.callWith_type1
      · apply PyProof.Rows.args_cons
        · apply thn (ea.run pins s σ H _ inv need)
          rintro v s1 ⟨x, H1, inv1, rel, l, ns, rfl, sq, hl, go⟩
          apply PyProof.Rows.args_nil
          cases rel
          obtain ⟨its, vals, plain, _⟩ := inv1.list sq
          have size : its.toArray.size = ns.length := by
            rw [List.size_toArray, ← vals.length, List.length_map]
          refine call_set_list (inv1.ok.hd calm) plain.isList (ns := ns) (by simpa using vals.ints) (by unfold scanBound; omega) ?_
          intro h' tk made kept
          rw [size] at made
          obtain ⟨o, es, ep, tb, at_, exact_, data, _, _, _, fits, count⟩ := made
          apply PyProof.Rows.args_nil
          have inv2 : Inv X pins σ H1 { s1 with heap := h', toks := tk } := inv1.kept fun b u e => kept b u (Heap.lt_size e) e
          have few := PyProof.Rows.firstMet_length_le (fun i => ns.getD i 0) ns.length
          refine call_len_set at_ exact_ data fits (by rw [count]; omega) ⟨.int (dist ns).length, H1, inv2.tok _, ⟨_, by rw [count]; rfl⟩, go⟩
        · exact sp
      · exact sp
      · rfl
    · rfl
  · rfl
  · rfl
end
end LH
/-! readings for classes and dicts; the part of a heap that stands still -/
namespace LH
open PySem L2
/-! ### what stands still -/
/-- the heap without the places M that may change -/
def Fr (M : List Addr) (H : Hp) : Hp := fun b => if b ∈ M then none else H b
/-- all but the place a stays -/
def Kp (a : Addr) (H H' : Hp) : Prop := ∀ b o, H b = some o → b ≠ a → H' b = some o
/-- all but the places M stay -/
def Ks (M : List Addr) (H H' : Hp) : Prop := ∀ b o, H b = some o → b ∉ M → H' b = some o
theorem Kp.ks {a : Addr} {M : List Addr} {H H' : Hp} (k : Kp a H H') (m : a ∈ M) : Ks M H H' := fun b o h n => k b o h fun e => n (e ▸ m)
theorem Ks.of {M : List Addr} {H H' : Hp} (e : L2.Same H H') : Ks M H H' := fun b o h _ => e b o h
theorem Ks.trans {M : List Addr} {H H1 H2 : Hp} (a : Ks M H H1) (b : Ks M H1 H2) : Ks M H H2 := fun c o h n => b c o (a c o h n) n
theorem Ks.sub {M N : List Addr} {H H1 : Hp} (a : Ks M H H1) (s : ∀ b ∈ M, b ∈ N) : Ks N H H1 := fun c o h n => a c o h fun m => n (s c m)
theorem Kp.up {a : Addr} {H H' : Hp} : Kp a H (upd H a o) := fun b o h n => by rw [upd_ne n]; exact h
theorem Kp.upd {a : Addr} {H : Hp} {o : HO} : Kp a H (L2.upd H a o) := fun b u h n => by rw [upd_ne n]; exact h
theorem fr_of {M : List Addr} {H : Hp} {b : Addr} {o : HO} (h : H b = some o) (n : b ∉ M) : Fr M H b = some o := by
  unfold Fr
  rw [if_neg n]
  exact h
theorem fr_in {M : List Addr} {H : Hp} {b : Addr} (m : b ∈ M) : Fr M H b = none := by
  unfold Fr
  rw [if_pos m]
theorem fr_some {M : List Addr} {H : Hp} {b : Addr} {o : HO} (h : Fr M H b = some o) : H b = some o ∧ b ∉ M := by
  unfold Fr at h
  by_cases m : b ∈ M
  · rw [if_pos m] at h
    cases h
  · rw [if_neg m] at h
    exact ⟨h, m⟩
theorem fr_le {M : List Addr} {H : Hp} : L2.Same (Fr M H) H := fun _ _ h => (fr_some h).1
theorem Ks.fr {M : List Addr} {H H' : Hp} (k : Ks M H H') : L2.Same (Fr M H) (Fr M H') := fun b o h => let ⟨h1, n⟩ := fr_some h; fr_of (k b o h1 n) n
theorem Ks.frS {M N : List Addr} {H H' : Hp} (k : Ks M H H') (s : ∀ b ∈ M, b ∈ N) : L2.Same (Fr N H) (Fr N H') := (k.sub s).fr
theorem same_fr {M : List Addr} {H H' : Hp} (e : L2.Same H H') : L2.Same (Fr M H) (Fr M H') := (Ks.of e).fr
/-- a new place that may change from now on -/
theorem fr_new {M : List Addr} {H H' : Hp} {p : Addr} (f : H p = none) (e : L2.Same H H') : L2.Same (Fr M H) (Fr (p :: M) H') := fun b o h => by
  obtain ⟨h1, n⟩ := fr_some h
  exact fr_of (e _ _ h1) fun m => by
    rcases List.mem_cons.mp m with rfl | m
    · rw [f] at h1
      cases h1
    · exact n m
theorem not_in {M : List Addr} {H : Hp} {p : Addr} (f : H p = none) (l : ∀ b ∈ M, ∃ o, H b = some o) : p ∉ M := fun m => by
  obtain ⟨o, h⟩ := l p m
  rw [f] at h
  cases h
section
variable {K : PySem.W.Frag} {σ : L2.St} {H : Hp} {Q : VK} {D : Ends} {te tl ta tb td ty tv tx : TE} {tr : TA} {t : TS} {g : TG} {x y z v : V} {f m : Str} {C dx a : Addr} {fs : List (Str × V)} {sp : Sp} {dvs : List V} {E : XK}
/-! ### fields -/
def FldV (K : PySem.W.Frag) (f : Str) (x : V) (H1 : Hp) (Q : VK) : Prop := ∃ a C dx fs v, x = .ref a ∧ H1 a = some (.ins C dx fs) ∧ Cls K C ∧ NoAttr K C f ∧ fs.lookup f = some v ∧ Q v H1
theorem x_fld (h : ta σ H fun x H1 => FldV K f x H1 Q) : tFld K ta f σ H Q := h
theorem fldv (h : H a = some (.ins C dx fs)) (c : Cls K C) (n : NoAttr K C f) (e : fs.lookup f = some v) (q : Q v H) : FldV K f (.ref a) H Q := ⟨a, C, dx, fs, v, rfl, h, c, n, e, q⟩
def SFldV (K : PySem.W.Frag) (f : Str) (y : V) (D : Ends) (σ : L2.St) (x : V) (H2 : Hp) : Prop := ∃ a C dx fs, x = .ref a ∧ H2 a = some (.ins C dx fs) ∧ Cls K C ∧ NoAttr K C f ∧ fs.length < 1000 ∧ D.nx σ (upd H2 a (.ins C dx (putF f y fs)))
theorem x_sfld (h : tv σ H fun y H1 => ta σ H1 fun x H2 => SFldV K f y D σ x H2) : sFld K ta tv f D σ H := h
theorem sfldv (h : H a = some (.ins C dx fs)) (c : Cls K C) (n : NoAttr K C f) (l : fs.length < 1000) (k : ∀ H', Kp a H H' → H' a = some (.ins C dx (putF f y fs)) → D.nx σ H') : SFldV K f y D σ (.ref a) H :=
  ⟨a, C, dx, fs, rfl, h, c, n, l, k _ Kp.upd upd_same⟩
def AFldV (K : PySem.W.Frag) (f : Str) (tv : TE) (rd : V → V → Hp → VK → Prop) (D : Ends) (σ : L2.St) (x : V) (H1 : Hp) : Prop := ∃ a C dx fs v, x = .ref a ∧ H1 a = some (.ins C dx fs) ∧ Cls K C ∧ NoAttr K C f ∧ fs.lookup f = some v ∧
  tv σ H1 fun y H2 => rd v y H2 fun z H3 => ∃ dx' fs', H3 a = some (.ins C dx' fs') ∧ fs'.length < 1000 ∧ D.nx σ (upd H3 a (.ins C dx' (putF f z fs')))
theorem x_afld {rd : V → V → Hp → VK → Prop} (h : ta σ H fun x H1 => AFldV K f tv rd D σ x H1) : sFldAug K ta tv rd f D σ H := h
/-- e.f += i, ints -/
theorem afldI {i j : Int} {rd : V → V → Hp → VK → Prop} (h : H a = some (.ins C dx fs)) (c : Cls K C) (n : NoAttr K C f) (e : fs.lookup f = some (.int i)) (l : fs.length < 1000)
    (hr : ∀ Q : VK, Q (.int (i + j)) H → rd (.int i) (.int j) H Q) (hv : ∀ Q : VK, Q (.int j) H → tv σ H Q)
    (k : ∀ H', Kp a H H' → H' a = some (.ins C dx (putF f (.int (i + j)) fs)) → D.nx σ H') : AFldV K f tv rd D σ (.ref a) H :=
  ⟨a, C, dx, fs, _, rfl, h, c, n, e, hv _ (hr _ ⟨dx, fs, h, l, k _ Kp.upd upd_same⟩)⟩
/-! ### methods, new instances -/
def MethV (C : Addr) (m : Str) (sp : Sp) (dvs : List V) (E : XK) (tr : TA) (σ : L2.St) (x : V) (H1 : Hp) (Q : VK) : Prop := ∃ a dx fs, x = .ref a ∧ H1 a = some (.ins C dx fs) ∧ fs.lookup m = none ∧ tr σ H1 fun vs H2 => sp (x :: (vs ++ dvs)) H2 Q E
theorem x_meth (h : ta σ H fun x H1 => MethV C m sp dvs E tr σ x H1 Q) : tMeth C m sp dvs E ta tr σ H Q := h
theorem methv (h : H a = some (.ins C dx fs)) (l : fs.lookup m = none) (k : tr σ H fun vs H2 => sp (.ref a :: (vs ++ dvs)) H2 Q E) : MethV C m sp dvs E tr σ (.ref a) H Q := ⟨a, dx, fs, rfl, h, l, k⟩
def MakeV (C : Addr) (sp : Sp) (dvs : List V) (E : XK) (vs : List V) (H1 : Hp) (Q : VK) : Prop := ∀ x dx, H1 x = none → H1 dx = none → dx ≠ x → sp (.ref x :: (vs ++ dvs)) (upd (upd H1 dx (.own x)) x (.ins C dx [])) (fun v H2 => v = .non ∧ Q (.ref x) H2) E
theorem x_make (h : tr σ H fun vs H1 => MakeV C sp dvs E vs H1 Q) : tMake C sp dvs E tr σ H Q := h
theorem makev {vs : List V} (k : ∀ x dx H2, H x = none → H dx = none → dx ≠ x → L2.Same H H2 → H2 x = some (.ins C dx []) → sp (.ref x :: (vs ++ dvs)) H2 (fun v H3 => v = .non ∧ Q (.ref x) H3) E) : MakeV C sp dvs E vs H Q := fun x dx f1 f2 n => by
  refine k x dx _ f1 f2 n (fun b o h => ?_) upd_same
  rw [upd_ne (ne_of_none h f1), upd_ne (ne_of_none h f2)]
  exact h
/-! ### dicts -/
def InV (y x : V) (H2 : Hp) (Q : VK) : Prop := ∃ a o, x = .ref a ∧ DGet H2 a y o ∧ Q (.bl o.isSome) H2
def NiV (y x : V) (H2 : Hp) (Q : VK) : Prop := ∃ a o, x = .ref a ∧ DGet H2 a y o ∧ Q (.bl (!o.isSome)) H2
theorem x_din (h : ty σ H fun y H1 => td σ H1 fun x H2 => InV y x H2 Q) : tDIn ty td σ H Q := h
theorem x_dni (h : ty σ H fun y H1 => td σ H1 fun x H2 => NiV y x H2 Q) : tDNotIn ty td σ H Q := h
theorem getI {kvs : List (Key × V)} {i : Int} (h : H a = some (.dK kvs)) : DGet H a (.int i) (valV kvs (Sum.inl i)) := DGet.k (k := Sum.inl i) h
theorem getS {kvs : List (Key × V)} {s : Str} (h : H a = some (.dK kvs)) : DGet H a (.str s) (valV kvs (Sum.inr s)) := DGet.k (k := Sum.inr s) h
theorem getT {kvs : List (List Key × V)} {k : List Key} {b : Addr} (h : H a = some (.dT kvs)) (e : H b = some (.tup (k.map kV))) : DGet H a (.ref b) (valV kvs k) := DGet.t h e
theorem inv {o : Option V} (h : DGet H a y o) (q : Q (.bl o.isSome) H) : InV y (.ref a) H Q := ⟨a, o, rfl, h, q⟩
theorem niv {o : Option V} (h : DGet H a y o) (q : Q (.bl (!o.isSome)) H) : NiV y (.ref a) H Q := ⟨a, o, rfl, h, q⟩
def GetV (x y : V) (H2 : Hp) (Q : VK) : Prop := ∃ a v, x = .ref a ∧ DGet H2 a y (some v) ∧ Q v H2
theorem x_dget (h : td σ H fun x H1 => ty σ H1 fun y H2 => GetV x y H2 Q) : tDGet td ty σ H Q := h
theorem getv {o : Option V} (h : DGet H a y o) (e : o = some v) (q : Q v H) : GetV (.ref a) y H Q := ⟨a, v, rfl, e ▸ h, q⟩
def DpV (v x y : V) (D : Ends) (σ : L2.St) (H3 : Hp) : Prop := ∃ a H4, x = .ref a ∧ DPut H3 a y v H4 ∧ D.nx σ H4
theorem x_dput (h : tv σ H fun v H1 => td σ H1 fun x H2 => ty σ H2 fun y H3 => DpV v x y D σ H3) : sDPut td ty tv D σ H := h
theorem putvI {kvs : List (Key × V)} {i : Int} (h : H a = some (.dK kvs)) (l : kvs.length ≤ 100000) (k : ∀ H', Kp a H H' → H' a = some (.dK (putK kvs (Sum.inl i) v)) → D.nx σ H') : DpV v (.ref a) (.int i) D σ H :=
  ⟨a, _, rfl, DPut.k (k := Sum.inl i) h (sz' l), k _ Kp.upd upd_same⟩
theorem putvS {kvs : List (Key × V)} {s : Str} (h : H a = some (.dK kvs)) (l : kvs.length ≤ 100000) (k : ∀ H', Kp a H H' → H' a = some (.dK (putK kvs (Sum.inr s) v)) → D.nx σ H') : DpV v (.ref a) (.str s) D σ H :=
  ⟨a, _, rfl, DPut.k (k := Sum.inr s) h (sz' l), k _ Kp.upd upd_same⟩
theorem putvT {kvs : List (List Key × V)} {ks : List Key} {b : Addr} (h : H a = some (.dT kvs)) (e : H b = some (.tup (ks.map kV))) (l : kvs.length ≤ 100000) (k : ∀ H', Kp a H H' → H' a = some (.dT (putK kvs ks v)) → D.nx σ H') : DpV v (.ref a) (.ref b) D σ H :=
  ⟨a, _, rfl, DPut.t h e (sz' l), k _ Kp.upd upd_same⟩
def Get2V (ty tx : TE) (σ : L2.St) (x : V) (H1 : Hp) (Q : VK) : Prop := ∃ a, x = .ref a ∧ IsD H1 a ∧ ty σ H1 fun y H2 => tx σ H2 fun z H3 => ∃ o, DGet H3 a y o ∧ Q (o.getD z) H3
def Get2W (a : Addr) (y z : V) (H3 : Hp) (Q : VK) : Prop := ∃ o, DGet H3 a y o ∧ Q (o.getD z) H3
theorem x_dget2 (h : td σ H fun x H1 => Get2V ty tx σ x H1 Q) : tDGet2 td ty tx σ H Q := h
theorem get2v (h : IsD H a) (k : ty σ H fun y H2 => tx σ H2 fun z H3 => Get2W a y z H3 Q) : Get2V ty tx σ (.ref a) H Q := ⟨a, rfl, h, k⟩
theorem get2w {o : Option V} (h : DGet H a y o) (q : Q (o.getD z) H) : Get2W a y z H Q := ⟨o, h, q⟩
theorem isdK {kvs : List (Key × V)} (h : H a = some (.dK kvs)) : IsD H a := .inl ⟨kvs, .inl h⟩
theorem isdT {kvs : List (List Key × V)} (h : H a = some (.dT kvs)) : IsD H a := .inr ⟨kvs, .inl h⟩
def PopV (ty : TE) (σ : L2.St) (x : V) (H1 : Hp) (Q : VK) : Prop := ∃ a, x = .ref a ∧ IsD H1 a ∧ ty σ H1 fun y H2 => ∃ kvs k v, H2 a = some (.dK kvs) ∧ y = kV k ∧ valV kvs k = some v ∧ Q v (upd H2 a (.dK (dropK kvs k)))
def PopW (a : Addr) (y : V) (H2 : Hp) (Q : VK) : Prop := ∃ kvs k v, H2 a = some (.dK kvs) ∧ y = kV k ∧ valV kvs k = some v ∧ Q v (upd H2 a (.dK (dropK kvs k)))
theorem x_dpop1 (h : td σ H fun x H1 => PopV ty σ x H1 Q) : tDPop1 td ty σ H Q := h
theorem popv (h : IsD H a) (k : ty σ H fun y H2 => PopW a y H2 Q) : PopV ty σ (.ref a) H Q := ⟨a, rfl, h, k⟩
theorem popwI {kvs : List (Key × V)} {i : Int} (h : H a = some (.dK kvs)) (e : valV kvs (Sum.inl i) = some v) (k : ∀ H', Kp a H H' → H' a = some (.dK (dropK kvs (Sum.inl i))) → Q v H') : PopW a (.int i) H Q :=
  ⟨kvs, Sum.inl i, v, h, rfl, e, k _ Kp.upd upd_same⟩
def LiV (x : V) (H1 : Hp) (Q : VK) : Prop := LiI.rItemsL x H1 Q
theorem x_litems (h : te σ H fun x H1 => LiV x H1 Q) : LiI.tListItems te σ H Q := h
theorem liv {kvs : List (Key × V)} (h : H a = some (.dK kvs))
    (k : ∀ p H' (ts : List Addr), L2.Same H H' → H p = none → (∀ t ∈ ts, H t = none) → H' p = some (.lst (ts.map V.ref)) → Paired (fun (t : Addr) (q : Key × V) => H' t = some (.tup [kV q.1, q.2])) ts kvs → Q (.ref p) H') : LiV (.ref a) H Q :=
  ⟨a, kvs, rfl, h, fun H' p ts e f ft _ g pr => k p H' ts e f ft g pr⟩
/-! ### displays, lists -/
theorem x_dnewT (k : ∀ p H2, H p = none → L2.Same H H2 → H2 p = some (.dT []) → Q (.ref p) H2) : tDNewT σ H Q := fun p hp => k p _ hp (LH.Same.new hp) upd_same
theorem x_clear {p : Addr} {xs : List V} (h : H p = some (.lst xs)) (q : ∀ H', Kp p H H' → H' p = some (.lst []) → Q .non H') : rClear (.ref p) [] H Q :=
  ⟨p, xs, rfl, rfl, h, q _ Kp.upd upd_same⟩
theorem x_appK {p : Addr} {xs : List V} (h : H p = some (.lst xs)) (hl : xs.length ≤ 100000) (q : ∀ H', Kp p H H' → H' p = some (.lst (xs ++ [y])) → Q .non H') : rAppend (.ref p) [y] H Q :=
  ⟨p, xs, y, rfl, rfl, h, sz' hl, q _ Kp.upd upd_same⟩
def SlLV (K : PySem.W.Frag) (x : V) (lo hi : Option Int) (H : Hp) (Q : VK) : Prop := rSlL K x lo hi H Q
end
end LH
namespace LH
open PySem L2 PySem.Spec PyProof.Rows
/-! ### methods and new instances within a try: what is raised is wished for at the slots -/
section
variable {X : Cx} {CX : CXT} {k : Nat} {f C : Addr} {fd : FuncData} {ps : List Str} {sp : Sp} {E : L2.St → XK} {x m : Str} {p pos apos : Pos} {e o : Expr} {es : List Expr} {to : TE} {tr : TA}
def tMethSl (C : Addr) (m : Str) (sp : Sp) (E : L2.St → XK) (to : TE) (tr : TA) : TE := fun σ H Q => to σ H fun x H1 => MethV C m sp [] (E σ) tr σ x H1 Q
theorem x_methSl {σ : L2.St} {H : Hp} {Q : VK} (h : to σ H fun x H1 => MethV C m sp [] (E σ) tr σ x H1 Q) : tMethSl C m sp E to tr σ H Q := h
theorem pe_methSl {pl : Sem Bool} (ho : PE X o to) (c : Cls X.K C) (hm : Meth X.K C m f) (G : FnOk X.prog X.w X.K X.mg X.base CX k f fd ps sp) (room : Room k X.A) (hb : Binds X.K fd ps []) (hx : ∀ σ, PassesAt CX X σ (E σ)) (ha : PA X (e :: es) tr)
    (h1 : starEach (e :: es) X.env = (false, eval e X.env) :: starEach es X.env := by rfl) (h2 : (backTo pos (starEach es X.env)).any (·.1) = false := by rfl)
    (h3 : eval (.Call (.Attribute o m apos) (e :: es) [] pos) X.env = (do
      let obj ← eval o X.env
      standAt apos.atName
      let (fn, lead) ← holding [obj] (getMethod obj m pl)
      callWith pos fn lead (backTo pos (starEach (e :: es) X.env)) (backToKw pos (keywordEach [] X.env))) := by rfl) :
    PE X (.Call (.Attribute o m apos) (e :: es) [] pos) (tMethSl C m sp E to tr) := by
  constructor
  intro pins s σ H Q I need
  apply PySem.W.methodCall_KW (pl := pl) _ h3
  apply thn (ho.run pins s σ H _ I need)
  rintro u s1 ⟨x, H1, I1, rx, a, dx, fs, rfl, ea, l, q⟩
  have eu : u = Value.ref a := rx
  rw [eu]
  apply getmeth_ok I1 ea c hm l
  refine PySem.W.callWith_K (first := [.ref a]) (h₀ := X.base) I.ok.mod.kin hm.kp (thn (ha.run pos pins s1 σ H1 _ I1 q) ?_) h1 h2
  rintro us s2 ⟨vs, H2, I2, r, q2⟩
  rw [List.append_nil] at q2
  exact ⟨I2.kIn, run_fnS G room hb (hx σ) I2 (.cons (show L2.RelV (V.ref a) (Value.ref a) from rfl) r) q2⟩
def tMakeSl (C : Addr) (sp : Sp) (E : L2.St → XK) (tr : TA) : TE := fun σ H Q => tr σ H fun vs H1 => MakeV C sp [] (E σ) vs H1 Q
theorem x_makeSl {σ : L2.St} {H : Hp} {Q : VK} (h : tr σ H fun vs H1 => MakeV C sp [] (E σ) vs H1 Q) : tMakeSl C sp E tr σ H Q := h
theorem run_makeSl {pins : List (Addr × Obj)} {σ : L2.St} {H : Hp} {s : Shared} {Q : VK} {us : List Value} {vs : List V} (M : Mk X.K C f) (G : FnOk X.prog X.w X.K X.mg X.base CX k f fd ps sp) (room : Room (k + 1) X.A) (hb : Binds X.K fd ps [])
    (hx : PassesAt CX X σ (E σ)) (I : Inv X pins σ H s) (r : Vals vs us) (need : MakeV C sp [] (E σ) vs H Q) : wpAny (model X.prog X.w) X.A (call (.ref C) us) (EP X pins σ Q) X.xe s := by
  have wish := need (s.heap.objs.size + 1) s.heap.objs.size (I.hok.fresh (Nat.le_succ _)) (I.hok.fresh (Nat.le_refl _)) (Nat.ne_of_lt (Nat.lt_succ_self _))
  rw [List.append_nil] at wish
  have made := Inv.made (C := C) I
  have all : Vals (V.ref (s.heap.objs.size + 1) :: vs) (Value.ref (s.heap.objs.size + 1) :: us) := .cons rfl r
  have same : (Value.ref (s.heap.objs.size + 1) :: us).length = ps.length := by
    rw [← all.length]
    exact G.len _ _ _ _ wish
  have b := hb _ (Value.ref (s.heap.objs.size + 1) :: us) made.kIn (by rw [List.append_nil]; exact same)
  rw [List.append_nil] at b
  apply wpAny_call
  apply make_map (f := f) I.kIn M.makes M.init (beq_iff_eq.mp M.fn)
  apply codeAny_mono (G.run _ X.stack _ _ ⟨Value.ref (s.heap.objs.size + 1) :: us, []⟩ (Value.ref (s.heap.objs.size + 1) :: us) _ _ (E σ) (room.make C us []) (made.env0.make C us []) b all wish)
  intro fl s' got
  cases fl with
  | error e => exact hx pins _ _ e s' made got
  | ok fl =>
    cases fl with
    | ret u =>
      obtain ⟨v, H', I3, rv, rfl, q3⟩ := made.after got
      exact ⟨rv, V.ref (s.heap.objs.size + 1), H', I3, rfl, q3⟩
    | next => exact False.elim got
    | brk => exact False.elim got
    | cont => exact False.elim got
theorem pe_makeSl (M : Mk X.K C f) (G : FnOk X.prog X.w X.K X.mg X.base CX k f fd ps sp) (room : Room (k + 1) X.A) (hg : Gl X x) (hm : X.mg x = some (.ref C)) (hb : Binds X.K fd ps []) (hx : ∀ σ, PassesAt CX X σ (E σ))
    (ha : PA X (e :: es) tr) (h0 : (x == ("__debug__" : Str)) = false := by decide) (h1 : starEach (e :: es) X.env = (false, eval e X.env) :: starEach es X.env := by rfl) (h2 : (backTo pos (starEach es X.env)).any (·.1) = false := by rfl) :
    PE X (.Call (.Name x p) (e :: es) [] pos) (tMakeSl C sp E tr) := by
  constructor
  intro pins s σ H Q I need
  apply wpAny_Call_Name_kw (ld_glob I hg hm _ h0)
  refine PySem.W.callWith_K (h₀ := X.base) I.ok.mod.kin M.kp (thn (ha.run pos pins s σ H _ I need) ?_) h1 h2
  rintro us s1 ⟨vs, H1, I1, r, q⟩
  exact ⟨I1.kIn, run_makeSl M G room hb (hx σ) I1 r q⟩
end
end LH
namespace LH
open PySem L2
section
variable {K : PySem.W.Frag} {σ : L2.St} {H : Hp} {Q : VK} {te : TE} {t : TT}
theorem x_slL {p : Addr} {xs : List V} {lo hi : Option Int} (h : SqL K H p xs) (k : ∀ p' H2, H p' = none → L2.Same H H2 → H2 p' = some (.lst (cutV xs lo hi)) → Q (.ref p') H2) : rSlL K (.ref p) lo hi H Q :=
  ⟨p, xs, rfl, h, fun q hq => k q _ hq (LH.Same.new hq) upd_same⟩
theorem Paired.imp {α β : Type} {F G : α → β → Prop} (h : ∀ a b, F a b → G a b) : ∀ {xs : List α} {ys : List β}, Paired F xs ys → Paired G xs ys
  | _, _, .nil => .nil
  | _, _, .cons a r => .cons (h _ _ a) (Paired.imp h r)
theorem Paired.snoc {α β : Type} {F : α → β → Prop} {a : α} {b : β} : ∀ {xs : List α} {ys : List β}, Paired F xs ys → F a b → Paired F (xs ++ [a]) (ys ++ [b])
  | _, _, .nil, h => .cons h .nil
  | _, _, .cons c r, h => .cons c (Paired.snoc r h)
theorem Paired.len {α β : Type} {F : α → β → Prop} : ∀ {xs : List α} {ys : List β}, Paired F xs ys → xs.length = ys.length
  | _, _, .nil => rfl
  | _, _, .cons _ r => congrArg (· + 1) (Paired.len r)
theorem range_filter_succ (f : Nat → Bool) (i : Nat) : (List.range (i + 1)).filter f = if f i = true then (List.range i).filter f ++ [i] else (List.range i).filter f := by
  rw [List.range_succ, List.filter_append]
  cases h : f i <;> simp [List.filter, h]
theorem fr_same {M : List Addr} {H H' : Hp} {p : Addr} (f : H p = none) (e : L2.Same H H') : L2.Same H (Fr [p] H') := fun b o h => fr_of (e _ _ h) fun m => by
  rw [List.mem_singleton.mp m, f] at h
  cases h
theorem same_mut {H H1 H' : Hp} {D : Addr} (e : L2.Same H (Fr [D] H1)) (k : Kp D H1 H') : L2.Same H (Fr [D] H') := e.trans (k.ks (List.mem_singleton.mpr rfl)).fr
/-- a comprehension over a walk, each item told by R, which speaks of what stands still beside the new list -/
theorem lc_JR {J : It} {n : Nat} {Y : Nat → Hp → V → Hp → Prop} (w : Walk J n (fun _ => True) Y) {xs : List V} (hn : xs.length = n) (hY : ∀ i H x H', Y i H x H' → H' = H ∧ xs[i]? = some x) {j : Nat} {vs : List Nat} (hz : n ≤ 100000)
    (f : Nat → Bool) (R : Nat → V → Hp → Prop) (st : ∀ i y H1 H2, L2.Same H1 H2 → R i y H1 → R i y H2) (hw : ∀ x, wipe ((wipe σ vs).set j (some x)) vs = wipe σ vs)
    (ht : ∀ i x, xs[i]? = some x → ∀ H1, L2.Same H H1 → ∀ Q : Bool → Hp → Prop, (∀ H2, L2.Same H1 H2 → Q (f i) H2) → t ((wipe σ vs).set j (some x)) H1 Q)
    (he : ∀ i x, xs[i]? = some x → f i = true → ∀ D H1, L2.Same H (Fr [D] H1) → L2.Same H H1 → (∃ l, H1 D = some (.lst l)) → ∀ Q : VK, (∀ y H2, L2.Same H1 H2 → R i y (Fr [D] H2) → Q y H2) → te ((wipe σ vs).set j (some x)) H1 Q)
    (k : ∀ D H2 ys, H D = none → L2.Same H H2 → H2 D = some (.lst ys) → Paired (fun i y => R i y (Fr [D] H2)) ((List.range n).filter f) ys → Q (.ref D) H2) : LcJ J (gName j) t te vs σ H Q := by
  intro D hD
  refine lc_it w (fun i H' => L2.Same H (Fr [D] H') ∧ ∃ ys, H' D = some (.lst ys) ∧ ys.length ≤ i ∧ Paired (fun i y => R i y (Fr [D] H')) ((List.range i).filter f) ys)
    ⟨fr_same (M := []) hD (LH.Same.new hD), [], upd_same, Nat.le_refl _, .nil⟩ (fun _ _ _ _ => trivial) ?_ ?_
  · rintro i x H' H'' hi ⟨e0, ys, gD, ly, hy⟩ y
    obtain ⟨rfl, hx⟩ := hY _ _ _ _ y
    have e1 : L2.Same H H'' := e0.trans fr_le
    refine ⟨hw x, ht i x hx _ e1 _ fun H2 e2 => ?_⟩
    cases hf : f i with
    | true =>
      rw [if_pos rfl]
      refine he i x hx hf D H2 (e0.trans (same_fr e2)) (e1.trans e2) ⟨_, e2 _ _ gD⟩ _ fun y H3 e3 r3 => ⟨ys, e3 _ _ (e2 _ _ gD), sz' (by omega), ?_, ys ++ [y], upd_same, by rw [List.length_append]; exact Nat.add_le_add_right ly 1, ?_⟩
      · exact same_mut (e0.trans (same_fr (e2.trans e3))) Kp.upd
      · rw [range_filter_succ, if_pos hf]
        have s3 : L2.Same (Fr [D] H3) (Fr [D] (upd H3 D (.lst (ys ++ [y])))) := (Kp.ks (a := D) Kp.upd (List.mem_singleton.mpr rfl)).fr
        exact Paired.snoc (Paired.imp (fun a b h => st a b _ _ ((same_fr (e2.trans e3)).trans s3) h) hy) (st _ _ _ _ s3 r3)
    | false =>
      rw [if_neg Bool.false_ne_true]
      refine ⟨e0.trans (same_fr e2), ys, e2 _ _ gD, Nat.le_succ_of_le ly, ?_⟩
      rw [range_filter_succ, if_neg (by rw [hf]; exact Bool.false_ne_true)]
      exact Paired.imp (fun a b h => st a b _ _ (same_fr e2) h) hy
  · rintro H' ⟨e0, ys, gD, ly, hy⟩
    exact k D H' ys hD (e0.trans fr_le) gD hy
/-- the same over a range -/
theorem lc_RR {lo : Int} {n : Nat} {j : Nat} {vs : List Nat} (hz : n ≤ 100000)
    (f : Nat → Bool) (R : Nat → V → Hp → Prop) (st : ∀ i y H1 H2, L2.Same H1 H2 → R i y H1 → R i y H2) (hw : ∀ x, wipe ((wipe σ vs).set j (some x)) vs = wipe σ vs)
    (ht : ∀ i, i < n → ∀ H1, L2.Same H H1 → ∀ Q : Bool → Hp → Prop, (∀ H2, L2.Same H1 H2 → Q (f i) H2) → t ((wipe σ vs).set j (some (.int (lo + (i : Nat))))) H1 Q)
    (he : ∀ i, i < n → f i = true → ∀ D H1, L2.Same H (Fr [D] H1) → L2.Same H H1 → (∃ l, H1 D = some (.lst l)) → ∀ Q : VK, (∀ y H2, L2.Same H1 H2 → R i y (Fr [D] H2) → Q y H2) → te ((wipe σ vs).set j (some (.int (lo + (i : Nat))))) H1 Q)
    (k : ∀ D H2 ys, H D = none → L2.Same H H2 → H2 D = some (.lst ys) → Paired (fun i y => R i y (Fr [D] H2)) ((List.range n).filter f) ys → Q (.ref D) H2) : LcJ (Itr lo n) (gName j) t te vs σ H Q := by
  have hx : ∀ i x, (intsV lo n)[i]? = some x → i < n ∧ x = .int (lo + (i : Nat)) := fun i x h => by
    unfold intsV at h
    rw [List.getElem?_map] at h
    by_cases hi : i < n
    · rw [List.getElem?_range hi] at h
      injection h with h
      exact ⟨hi, h.symm⟩
    · rw [List.getElem?_eq_none (by rw [List.length_range]; omega)] at h
      cases h
  refine lc_JR (xs := intsV lo n) walk_rg (by unfold intsV; rw [List.length_map, List.length_range]) (fun i H x H' ⟨e, hx, hi⟩ => ⟨e, by unfold intsV; rw [List.getElem?_map, List.getElem?_range hi, hx]; rfl⟩) hz f R st hw ?_ ?_ k
  · intro i x h
    obtain ⟨hi, rfl⟩ := hx i x h
    exact ht i hi
  · intro i x h
    obtain ⟨hi, rfl⟩ := hx i x h
    exact he i hi
/-- the same over a list -/
theorem lc_LR {a : Addr} {xs : List V} {j : Nat} {vs : List Nat} (hx : SqL K H a xs) (hz : xs.length ≤ 100000)
    (f : Nat → Bool) (R : Nat → V → Hp → Prop) (st : ∀ i y H1 H2, L2.Same H1 H2 → R i y H1 → R i y H2) (hw : ∀ x, wipe ((wipe σ vs).set j (some x)) vs = wipe σ vs)
    (ht : ∀ i x, xs[i]? = some x → ∀ H1, L2.Same H H1 → ∀ Q : Bool → Hp → Prop, (∀ H2, L2.Same H1 H2 → Q (f i) H2) → t ((wipe σ vs).set j (some x)) H1 Q)
    (he : ∀ i x, xs[i]? = some x → f i = true → ∀ D H1, L2.Same H (Fr [D] H1) → L2.Same H H1 → (∃ l, H1 D = some (.lst l)) → ∀ Q : VK, (∀ y H2, L2.Same H1 H2 → R i y (Fr [D] H2) → Q y H2) → te ((wipe σ vs).set j (some x)) H1 Q)
    (k : ∀ D H2 ys, H D = none → L2.Same H H2 → H2 D = some (.lst ys) → Paired (fun i y => R i y (Fr [D] H2)) ((List.range xs.length).filter f) ys → Q (.ref D) H2) : LcV K (gName j) t te vs σ (.ref a) H Q := by
  refine ⟨a, rfl, ⟨xs, hx⟩, fun D hD => ?_⟩
  refine lc_list (xs := xs) (fun i H' => L2.Same H (Fr [D] H') ∧ ∃ ys, H' D = some (.lst ys) ∧ ys.length ≤ i ∧ Paired (fun i y => R i y (Fr [D] H')) ((List.range i).filter f) ys)
    ⟨fr_same (M := []) hD (LH.Same.new hD), [], upd_same, Nat.le_refl _, .nil⟩ (fun i H' _ p => L2.Same.seq (p.1.trans fr_le) hx) ?_ ?_
  · rintro i x H' hi ⟨e0, ys, gD, ly, hy⟩
    have hlt : i < xs.length := (List.getElem?_eq_some_iff.mp hi).1
    have e1 : L2.Same H H' := e0.trans fr_le
    refine ⟨hw x, ht i x hi _ e1 _ fun H2 e2 => ?_⟩
    cases hf : f i with
    | true =>
      rw [if_pos rfl]
      refine he i x hi hf D H2 (e0.trans (same_fr e2)) (e1.trans e2) ⟨_, e2 _ _ gD⟩ _ fun y H3 e3 r3 => ⟨ys, e3 _ _ (e2 _ _ gD), sz' (by omega), ?_, ys ++ [y], upd_same, by rw [List.length_append]; exact Nat.add_le_add_right ly 1, ?_⟩
      · exact same_mut (e0.trans (same_fr (e2.trans e3))) Kp.upd
      · rw [range_filter_succ, if_pos hf]
        have s3 : L2.Same (Fr [D] H3) (Fr [D] (upd H3 D (.lst (ys ++ [y])))) := (Kp.ks (a := D) Kp.upd (List.mem_singleton.mpr rfl)).fr
        exact Paired.snoc (Paired.imp (fun a b h => st a b _ _ ((same_fr (e2.trans e3)).trans s3) h) hy) (st _ _ _ _ s3 r3)
    | false =>
      rw [if_neg Bool.false_ne_true]
      refine ⟨e0.trans (same_fr e2), ys, e2 _ _ gD, Nat.le_succ_of_le ly, ?_⟩
      rw [range_filter_succ, if_neg (by rw [hf]; exact Bool.false_ne_true)]
      exact Paired.imp (fun a b h => st a b _ _ (same_fr e2) h) hy
  · rintro H' ⟨e0, ys, gD, ly, hy⟩
    exact k D H' ys hD (e0.trans fr_le) gD hy
end
end LH
namespace LH
open PySem L2
/-- ways that meet again behind an expression -/
theorem cut {te : TE} {σ : L2.St} {H : Hp} {Q0 : VK} (X : V → Hp → Prop) (h : ∀ Q : VK, (∀ y H', X y H' → Q y H') → te σ H Q) (k : ∀ y H', X y H' → Q0 y H') : te σ H Q0 := h Q0 k
/-- .. behind a statement -/
theorem cutS {t : TS} {D : Ends} {σ : L2.St} {H : Hp} (X : L2.St → Hp → Prop) (h : ∀ N : L2.St → Hp → Prop, (∀ σ' H', X σ' H' → N σ' H') → t { D with nx := N } σ H) (k : ∀ σ' H', X σ' H' → D.nx σ' H') : t D σ H := h D.nx k
/-- .. behind a test -/
theorem cutT {t : TT} {σ : L2.St} {H : Hp} {Q0 : Bool → Hp → Prop} (X : Bool → Hp → Prop) (h : ∀ Q : Bool → Hp → Prop, (∀ y H', X y H' → Q y H') → t σ H Q) (k : ∀ y H', X y H' → Q0 y H') : t σ H Q0 := h Q0 k
end LH
namespace K8
open PySem L2
def top (i : Nat) : Stmt := PySem.Challenge.pw_latehouse_k08_a_post.main.body.getD i (.Pass ⟨0, 0, 0, 0⟩)
abbrev s_Post___init__ : Stmt := inClass (top 11) 0
abbrev N_Post___init__ : List Str := ["self"]
theorem sc_Post___init__ : FnScope N_Post___init__ ["self"] (defScope s_Post___init__) := ⟨rfl, rfl, rfl, by decide +kernel, rfl, by decide +kernel, by decide +kernel⟩
abbrev s_Post_send : Stmt := inClass (top 11) 1
abbrev N_Post_send : List Str := ["self", "letter", "number"]
theorem sc_Post_send : FnScope N_Post_send ["self", "letter"] (defScope s_Post_send) := ⟨rfl, rfl, rfl, by decide +kernel, rfl, by decide +kernel, by decide +kernel⟩
abbrev s_Post_bring : Stmt := inClass (top 11) 2
abbrev N_Post_bring : List Str := ["self", "number"]
theorem sc_Post_bring : FnScope N_Post_bring ["self", "number"] (defScope s_Post_bring) := ⟨rfl, rfl, rfl, by decide +kernel, rfl, by decide +kernel, by decide +kernel⟩
abbrev s_Post_waiting : Stmt := inClass (top 11) 3
abbrev N_Post_waiting : List Str := ["self"]
theorem sc_Post_waiting : FnScope N_Post_waiting ["self"] (defScope s_Post_waiting) := ⟨rfl, rfl, rfl, by decide +kernel, rfl, by decide +kernel, by decide +kernel⟩
abbrev s__law_whole : Stmt := top 14
abbrev N__law_whole : List Str := ["_law_thing"]
theorem sc__law_whole : FnScope N__law_whole ["_law_thing"] (defScope s__law_whole) := ⟨rfl, rfl, rfl, by decide +kernel, rfl, by decide +kernel, by decide +kernel⟩
abbrev s__law_kind : Stmt := top 15
abbrev N__law_kind : List Str := ["_law_error", "_law_words", "_law_found"]
theorem sc__law_kind : FnScope N__law_kind ["_law_error"] (defScope s__law_kind) := ⟨rfl, rfl, rfl, by decide +kernel, rfl, by decide +kernel, by decide +kernel⟩
abbrev s__law_brought : Stmt := top 16
abbrev N__law_brought : List Str := ["_law_post", "_law_number", "_law_error"]
theorem sc__law_brought : FnScope N__law_brought ["_law_post", "_law_number"] (defScope s__law_brought) := ⟨rfl, rfl, rfl, by decide +kernel, rfl, by decide +kernel, by decide +kernel⟩
abbrev s__law_deed : Stmt := top 17
abbrev N__law_deed : List Str := ["_law_post", "_law_rows", "_law_cell", "_law_letter", "_law_found", "_law_number", "_law_good", "_law_due"]
theorem sc__law_deed : FnScope N__law_deed ["_law_post", "_law_rows", "_law_cell"] (defScope s__law_deed) := ⟨rfl, rfl, rfl, by decide +kernel, rfl, by decide +kernel, by decide +kernel⟩
abbrev s__law_waits : Stmt := top 18
abbrev N__law_waits : List Str := ["_law_post", "_law_rows", "_law_held", "_law_found", "_law_due", "_law_number", "_law_one"]
theorem sc__law_waits : FnScope N__law_waits ["_law_post", "_law_rows", "_law_held"] (defScope s__law_waits) := ⟨rfl, rfl, rfl, by decide +kernel, rfl, by decide +kernel, by decide +kernel⟩
abbrev s_law : Stmt := top 19
abbrev N_law : List Str := ["_law_script", "_law_posts", "_law_rows", "_law_held", "_law_cell", "_law_at_here", "_law_k", "_law_number", "_law_letter", "_law_pair"]
theorem sc_law : FnScope N_law ["_law_script"] (defScope s_law) := ⟨rfl, rfl, rfl, by decide +kernel, rfl, by decide +kernel, by decide +kernel⟩
structure Ad where
  (Post___init__ Post_send Post_bring Post_waiting _law_whole _law_kind _law_brought _law_deed _law_waits law : Addr)
  (d_Post___init__ d_Post_send d_Post_bring d_Post_waiting d__law_whole d__law_kind d__law_brought d__law_deed d__law_waits d_law : FuncData)
  (HouseError BadCount BadHouse BadRow BadWord Forged NoLetter NotWritten NoText Post : Addr)
abbrev VEs : List Value := [.type "ValueError", .type "Exception", .type "BaseException", .type "object"]
structure Txt (K : PySem.W.Frag) (mg : Str → Option Value) (a : Ad) : Prop where
  F_Post___init__ : Fun K "__init__" "Post.__init__" s_Post___init__ a.Post___init__ a.d_Post___init__
  me_Post___init__ : Meth K a.Post "__init__" a.Post___init__
  b_Post___init__ : Binds K a.d_Post___init__ ["self"] []
  F_Post_send : Fun K "send" "Post.send" s_Post_send a.Post_send a.d_Post_send
  me_Post_send : Meth K a.Post "send" a.Post_send
  b_Post_send : Binds K a.d_Post_send ["self", "letter"] []
  F_Post_bring : Fun K "bring" "Post.bring" s_Post_bring a.Post_bring a.d_Post_bring
  me_Post_bring : Meth K a.Post "bring" a.Post_bring
  b_Post_bring : Binds K a.d_Post_bring ["self", "number"] []
  F_Post_waiting : Fun K "waiting" "Post.waiting" s_Post_waiting a.Post_waiting a.d_Post_waiting
  me_Post_waiting : Meth K a.Post "waiting" a.Post_waiting
  b_Post_waiting : Binds K a.d_Post_waiting ["self"] []
  F__law_whole : Fun K "_law_whole" "_law_whole" s__law_whole a._law_whole a.d__law_whole
  g__law_whole : mg "_law_whole" = some (.ref a._law_whole)
  b__law_whole : Binds K a.d__law_whole ["_law_thing"] []
  F__law_kind : Fun K "_law_kind" "_law_kind" s__law_kind a._law_kind a.d__law_kind
  g__law_kind : mg "_law_kind" = some (.ref a._law_kind)
  b__law_kind : Binds K a.d__law_kind ["_law_error"] []
  F__law_brought : Fun K "_law_brought" "_law_brought" s__law_brought a._law_brought a.d__law_brought
  g__law_brought : mg "_law_brought" = some (.ref a._law_brought)
  b__law_brought : Binds K a.d__law_brought ["_law_post", "_law_number"] []
  F__law_deed : Fun K "_law_deed" "_law_deed" s__law_deed a._law_deed a.d__law_deed
  g__law_deed : mg "_law_deed" = some (.ref a._law_deed)
  b__law_deed : Binds K a.d__law_deed ["_law_post", "_law_rows", "_law_cell"] []
  F__law_waits : Fun K "_law_waits" "_law_waits" s__law_waits a._law_waits a.d__law_waits
  g__law_waits : mg "_law_waits" = some (.ref a._law_waits)
  b__law_waits : Binds K a.d__law_waits ["_law_post", "_law_rows", "_law_held"] []
  F_law : Fun K "law" "law" s_law a.law a.d_law
  g_HouseError : mg "HouseError" = some (.ref a.HouseError)
  g_BadCount : mg "BadCount" = some (.ref a.BadCount)
  g_BadHouse : mg "BadHouse" = some (.ref a.BadHouse)
  g_BadRow : mg "BadRow" = some (.ref a.BadRow)
  g_BadWord : mg "BadWord" = some (.ref a.BadWord)
  g_Forged : mg "Forged" = some (.ref a.Forged)
  g_NoLetter : mg "NoLetter" = some (.ref a.NoLetter)
  g_NotWritten : mg "NotWritten" = some (.ref a.NotWritten)
  g_NoText : mg "NoText" = some (.ref a.NoText)
  g_Post : mg "Post" = some (.ref a.Post)
  cl_Post : Cls K a.Post
  mk_Post : Mk K a.Post a.Post___init__
  na_Post__due : NoAttr K a.Post "_due"
  na_Post__letters : NoAttr K a.Post "_letters"
  x_NoLetter : PySem.W.excIn K a.NoLetter VEs "ValueError.__new__" = true
  k_NoLetter : PySem.W.keepIn K (.ref a.NoLetter) = true
  bx_NoLetter : PySem.W.subIn K (.ref a.NoLetter) (.type "BaseException") = some true
  t_NoLetter : PySem.W.typeIn K (.ref a.NoLetter) = some (.type "type")
  e_NoLetter : PySem.W.exmOne K (.ref a.NoLetter) (.ref a.HouseError) = some true
  c_NoLetter : ExcC K a.NoLetter
  i_BadCount : PySem.W.kitOne K (.ref a.NoLetter) (.ref a.BadCount) = some false
  i_BadHouse : PySem.W.kitOne K (.ref a.NoLetter) (.ref a.BadHouse) = some false
  i_BadRow : PySem.W.kitOne K (.ref a.NoLetter) (.ref a.BadRow) = some false
  i_BadWord : PySem.W.kitOne K (.ref a.NoLetter) (.ref a.BadWord) = some false
  i_Forged : PySem.W.kitOne K (.ref a.NoLetter) (.ref a.Forged) = some false
  i_NoLetter : PySem.W.kitOne K (.ref a.NoLetter) (.ref a.NoLetter) = some true
  i_NotWritten : PySem.W.kitOne K (.ref a.NoLetter) (.ref a.NotWritten) = some false
  i_NoText : PySem.W.kitOne K (.ref a.NoLetter) (.ref a.NoText) = some false
  i_ValueError : PySem.W.kitOne K (.ref a.NoLetter) (.type "ValueError") = some true
  n_ValueError : mg "ValueError" = none
  n_abs : mg "abs" = none
  n_bool : mg "bool" = none
  n_int : mg "int" = none
  n_isinstance : mg "isinstance" = none
  n_len : mg "len" = none
  n_list : mg "list" = none
  n_range : mg "range" = none
  n_tuple : mg "tuple" = none
  n_type : mg "type" = none

local macro_rules | `(tactic| walk_at "rd1") => `(tactic| first
  | with_reducible refine LH.x_seq ?_
  | with_reducible refine LH.x_asg ?_
  | with_reducible refine LH.x_cons ?_
  | with_reducible refine LH.x_var (by with_unfolding_all exact rfl) ?_
  | with_reducible refine LH.x_c ?_
  | with_reducible refine LH.x_op ?_
  | with_reducible refine LH.x_gname ?_
  | with_reducible refine LH.x_nil ?_
  | with_reducible refine LH.x_I0 ?_
  | ((with_reducible refine LH.x_I ?k1 ?_); (case k1 => first | exact (by decide) | exact ⟨by decide, by decide⟩ | exact ⟨by decide, by decide, by decide⟩ | exact .inl ⟨by decide, by decide⟩ | exact .inr ⟨by decide, by decide⟩ | exact .inr ⟨by omega, by omega⟩ | exact .inl ⟨by omega, by omega⟩ | exact (by omega)))
  | with_reducible refine LH.x_ifS ?_
  | with_reducible refine LH.x_test ?_
  | with_reducible refine LH.x_tB ?_
  | with_reducible refine LH.bx ?_
  | with_reducible refine LH.x_and ?_
  | with_reducible refine LH.x_or ?_
  | with_reducible refine LH.x_not ?_
  | with_reducible refine LH.x_ret ?_
  | with_reducible refine LH.x_call ?_
  | with_reducible refine LH.x_cb ?_
  | with_reducible refine LH.x_lst ?_
  | with_reducible refine LH.x_tup ?_
  | with_reducible refine LH.x_bm ?_
  | with_reducible refine LH.x_drop ?_
  | with_reducible refine LH.x_next ?_
  | with_reducible refine LH.x_cont ?_
  | with_reducible refine LH.x_un ?_
  | with_reducible refine LH.x_U ?_
  | with_reducible refine LH.x_eq (by with_unfolding_all exact rfl) ?_
  | with_reducible refine LH.x_ne (by with_unfolding_all exact rfl) ?_
  | with_reducible refine LH.x_andV ?_
  | with_reducible refine LH.x_orV ?_
  | with_reducible refine LH.x_notV ?_
  | with_reducible refine LH.band ?_
  | with_reducible refine LH.bor ?_
  | with_reducible refine LH.x_if ?_
  | with_reducible refine LH.x_chain ?_
  | with_reducible refine LH.chk ?_
  | with_reducible refine LH.x_callS ?_
  | with_reducible refine LH.x_callE ?_
  | with_reducible refine LH.x_callV ?_
  | with_reducible refine LH.x_lrg ?_
  | with_reducible refine LH.x_lcS ?_
  | with_reducible refine LH.x_lcR1 ?_
  | with_reducible refine LH.x_forR1 ?_
  | with_reducible refine LH.x_forR3 ?_
  | with_reducible refine LH.strv ?_
  | with_reducible refine LH.x_yes ?_
  | with_reducible refine LH.x_sl ?_
  | with_reducible refine LH.x_noPart ?_
  | with_reducible refine LH.x_part ?_
  | with_reducible refine LH.pav ?_
  | with_reducible refine LH.x_jnv ?_
  | with_reducible refine LH.x_join ?_
  | with_reducible refine LH.x_inS ?_
  | with_reducible refine LH.x_niS ?_
  | with_reducible refine LH.x_isB ?_
  | with_reducible refine LH.x_isnB ?_
  | with_reducible refine LH.x_gcons ?_
  | with_reducible refine LH.x_gnil ?_
  | with_reducible refine LH.x_intB ?_
  | with_reducible refine LH.x_orT ?_
  | with_reducible refine LH.x_isTy ?_
  | with_reducible refine LH.x_niTy ?_
  | with_reducible refine LH.x_split ?_
  | with_reducible refine LH.x_spv ?_
  | with_reducible refine LH.x_gsub ?_
  | with_reducible refine LH.x_fmt ?_
  | with_reducible refine LH.x_js0 ?_
  | with_reducible refine LH.x_js ?_
  | with_reducible refine LH.x_rg1 ?_
  | with_reducible refine LH.x_forL ?_
  | with_reducible refine LH.x_abs ?_
  | with_reducible refine LH.x_rg2 ?_
  | with_reducible refine LH.rg1v ?_
  | with_reducible refine LH.rg2v ?_
  | with_reducible refine LH.x_forR2 ?_
  | with_reducible refine LH.x_lenSetG ?_
  | with_reducible refine LH.x_lc ?_
  | with_reducible refine LH.x_fld ?_
  | with_reducible refine LH.x_sfld ?_
  | with_reducible refine LH.x_afld ?_
  | with_reducible refine LH.x_meth ?_
  | with_reducible refine LH.x_make ?_
  | with_reducible refine LH.x_methSl ?_
  | with_reducible refine LH.x_makeSl ?_
  | with_reducible refine LH.x_din ?_
  | with_reducible refine LH.x_dni ?_
  | with_reducible refine LH.x_dget ?_
  | with_reducible refine LH.x_dput ?_
  | with_reducible refine LH.x_dget2 ?_
  | with_reducible refine LH.x_dpop1 ?_
  | with_reducible refine LH.x_litems ?_
  | with_reducible refine LH.br_nt ?_
  | with_reducible refine LH.br_nf ?_
  | with_reducible refine LH.br_t ?_
  | with_reducible refine LH.br_f ?_)
local macro_rules | `(tactic| walk_at "rd") => `(tactic| repeat (walk_at "rd1"))

section
variable {P : Program} {w : World} {K : PySem.W.Frag} {mg : Str → Option Value} {base : Heap} {a : Ad}
/-! ### a post -/
def pf (d : Addr) (n : Int) : List (Str × V) := [("_due", .int n), ("_letters", .ref d)]
structure PostAt (C : Addr) (H : Hp) (p d : Addr) (n : Int) (kvs : List (Key × V)) : Prop where
  ob : ∃ dx, H p = some (.ins C dx (pf d n))
  dc : H d = some (.dK kvs)
theorem PostAt.ne {C : Addr} {H : Hp} {p d : Addr} {n : Int} {kvs : List (Key × V)} (S : PostAt C H p d n kvs) : p ≠ d := fun e => by
  obtain ⟨⟨dx, h⟩, hd⟩ := S
  rw [e, hd] at h
  injection h with h
  cases h
theorem PostAt.keep {C : Addr} {H H' : Hp} {p d : Addr} {n : Int} {kvs : List (Key × V)} {M : List Addr} (S : PostAt C H p d n kvs) (k : LH.Ks M H H') (h1 : p ∉ M) (h2 : d ∉ M) : PostAt C H' p d n kvs :=
  ⟨let ⟨dx, h⟩ := S.ob; ⟨dx, k _ _ h h1⟩, k _ _ S.dc h2⟩
theorem PostAt.same {C : Addr} {H H' : Hp} {p d : Addr} {n : Int} {kvs : List (Key × V)} (S : PostAt C H p d n kvs) (k : Same H H') : PostAt C H' p d n kvs :=
  ⟨let ⟨dx, h⟩ := S.ob; ⟨dx, k _ _ h⟩, k _ _ S.dc⟩
def spPInit (C : Addr) : Sp := fun vs H Q _ => ∃ p dx, vs = [.ref p] ∧ H p = some (.ins C dx []) ∧ ∀ d H', H d = none → PostAt C H' p d 0 [] → LH.Ks [p] H H' → Q .non H'
theorem ok_Post___init__ (T : Txt K mg a) : FnOk P w K mg base CX0 1 a.Post___init__ a.d_Post___init__ ["self"] (spPInit a.Post) := by
  refine T.F_Post___init__.ok sc_Post___init__ (fun vs H Q E h => ?_) (fun cdv A outer s H vs Q E hr h => ?_)
  · obtain ⟨p, dx, rfl, _⟩ := h
    rfl
  · obtain ⟨p, dx, rfl, hp, k⟩ := h
    refine ⟨_, (pss_cons (ps_fld (pv 0) pe_int rfl)
  (pss_one (ps_fld (pv 0) pe_dnewK rfl))), ?_⟩
    walk_at "rd"
    refine LH.sfldv hp T.cl_Post T.na_Post__due (by decide) fun H1 k1 g1 => ?_
    walk_at "rd"
    refine LH.x_dnew fun d H2 f2 e2 g2 => ?_
    walk_at "rd"
    refine LH.sfldv (e2 _ _ g1) T.cl_Post T.na_Post__letters (by decide) fun H3 k3 g3 => ?_
    have pd : p ≠ d := ne_of_none g1 f2
    refine k d H3 ?_ ⟨⟨dx, g3⟩, k3 _ _ g2 pd.symm⟩ fun b o h n => ?_
    · cases hq : H d with
      | none => rfl
      | some o =>
        rw [k1 _ _ hq pd.symm] at f2
        cases f2
    · exact k3 _ _ (e2 _ _ (k1 _ _ h (by simpa using n))) (by simpa using n)
def spSend (C : Addr) : Sp := fun vs H Q _ => ∃ p d n kvs v, vs = [.ref p, v] ∧ PostAt C H p d n kvs ∧ kvs.length ≤ 50000 ∧ ∀ H', LH.Ks [p, d] H H' → PostAt C H' p d (n + 1) (putK kvs (Sum.inl n) v) → Q (.int n) H'
theorem ok_Post_send (T : Txt K mg a) : FnOk P w K mg base CX0 1 a.Post_send a.d_Post_send ["self", "letter"] (spSend a.Post) := by
  refine T.F_Post_send.ok sc_Post_send (fun vs H Q E h => ?_) (fun cdv A outer s H vs Q E hr h => ?_)
  · obtain ⟨p, d, n, kvs, v, rfl, _⟩ := h
    rfl
  · obtain ⟨p, d, n, kvs, v, rfl, S, hl, k⟩ := h
    obtain ⟨⟨dx, hp⟩, hd⟩ := id S
    refine ⟨_, (pss_cons (ps_set (i := 2) sc_Post_send.nd rfl (Or.inl rfl) (pe_fld (pv 0) rfl))
  (pss_cons (ps_dput (hu_of hr) (pe_fld (pv 0) rfl) (pv 2) (pv 1) rfl)
  (pss_cons (ps_fldaug (pv 0) pe_int in_add)
  (pss_one (ps_ret (pv 2)))))), ?_⟩
    walk_at "rd"
    refine LH.fldv hp T.cl_Post T.na_Post__due rfl ?_
    walk_at "rd"
    refine LH.fldv hp T.cl_Post T.na_Post__letters rfl ?_
    walk_at "rd"
    refine LH.putvI hd (by omega) fun H1 k1 g1 => ?_
    walk_at "rd"
    refine LH.afldI (k1 _ _ hp S.ne) T.cl_Post T.na_Post__due rfl (by show 2 < 1000; decide) (fun Q q => LH.x_I0 q) (fun Q q => LH.x_c q) fun H2 k2 g2 => ?_
    walk_at "rd"
    exact k H2 (fun b o h n => k2 _ _ (k1 _ _ h fun e => n (by simp [e])) fun e => n (by simp [e])) ⟨⟨dx, g2⟩, k2 _ _ g1 S.ne.symm⟩
def spBring (K : PySem.W.Frag) (C Er : Addr) : Sp := fun vs H Q E => ∃ p d n kvs x T, vs = [.ref p, x] ∧ PostAt C H p d n kvs ∧ TyB K H x T ∧
  ((∃ i v, x = .int i ∧ valV kvs (Sum.inl i) = some v ∧ ∀ H', LH.Ks [d] H H' → PostAt C H' p d n (dropK kvs (Sum.inl i)) → Q v H') ∨ ((∀ i, x = .int i → valV kvs (Sum.inl i) = none) ∧ E (.ref Er) none H))
theorem ok_Post_bring (T : Txt K mg a) : FnOk P w K mg base (L2N.CX P w) 1 a.Post_bring a.d_Post_bring ["self", "number"] (spBring K a.Post a.NoLetter) := by
  refine LH.okN T.F_Post_bring sc_Post_bring (fun vs H Q E h => ?_) (fun cdv A outer s H vs Q E hr h => ?_)
  · obtain ⟨p, d, n, kvs, x, t, rfl, _⟩ := h
    rfl
  · obtain ⟨p, d, n, kvs, x, t, rfl, S, ht, k⟩ := h
    obtain ⟨⟨dx, hp⟩, hd⟩ := id S
    refine ⟨_, (pss_cons (ps_if (PW.pt (pw_or (pt_cmpR op_notTyB (pe_callTy (r := rTyp K) call_type1 rfl T.n_type (by decide +kernel) (pa_cons (pv 1) pa_nil)) (pe_bltn (v := .ty "int") rfl T.n_int (by decide +kernel) rfl) (nomark _)) (pw_or1 (pt_cmp (pc_dnotin (hu_of hr) (pv 1) (pe_fld (pv 0) rfl))))))
    (pss_one (L2N.ps_raise rfl (LH.tkN (E := E)) (LH.pmkN PySem.F.excBase_ValueError T.x_NoLetter T.g_NoLetter T.k_NoLetter (raises_own T.bx_NoLetter T.t_NoLetter) rfl (pa_cons pe_str pa_nil))))
    pss_nil)
  (pss_one (ps_ret (pe_dpop1 (pe_fld (pv 0) rfl) (pv 1) ⟨rfl, rfl, rfl, rfl⟩)))), ?_⟩
    walk_at "rd"
    refine LH.x_typ ht ?_
    walk_at "rd"
    cases ht with
    | int i =>
      refine LH.br_nd (fun c => absurd rfl c) (fun _ => ?_)
      walk_at "rd"
      refine LH.fldv hp T.cl_Post T.na_Post__letters rfl ?_
      walk_at "rd"
      refine LH.niv (LH.getI hd) ?_
      walk_at "rd"
      cases e : valV kvs (Sum.inl i) with
      | none =>
        refine LH.br_nf ?_
        rcases k with ⟨j, v, ej, ev, _⟩ | ⟨_, k⟩
        · injection ej with ej
          rw [← ej, e] at ev
          cases ev
        · walk_at "rd"
          exact ⟨by show 1 ≤ sizeLine; decide, k⟩
      | some v =>
        refine LH.br_nt ?_
        rcases k with ⟨j, v', ej, ev, k⟩ | ⟨k, _⟩
        · injection ej with ej
          subst ej
          rw [e] at ev
          cases ev
          walk_at "rd"
          refine LH.fldv hp T.cl_Post T.na_Post__letters rfl ?_
          walk_at "rd"
          refine LH.popv (LH.isdK hd) ?_
          walk_at "rd"
          refine LH.popwI hd e fun H1 k1 g1 => ?_
          exact k H1 (k1.ks (by simp)) ⟨⟨dx, k1 _ _ hp S.ne⟩, g1⟩
        · rw [k i rfl] at e
          cases e
    | _ =>
      refine LH.br_nd (fun _ => ?_) (fun c => absurd c (by decide))
      walk_at "rd"
      rcases k with ⟨j, v', ej, _⟩ | ⟨_, k⟩
      · cases ej
      · exact ⟨by show 1 ≤ sizeLine; decide, k⟩
def spWaiting (C : Addr) : Sp := fun vs H Q _ => ∃ p d n kvs, vs = [.ref p] ∧ PostAt C H p d n kvs ∧ ∀ q H' (ts : List Addr), Same H H' → H q = none → (∀ t ∈ ts, H t = none) → H' q = some (.lst (ts.map V.ref)) → Paired (fun (t : Addr) (e : Key × V) => H' t = some (.tup [kV e.1, e.2])) ts kvs → Q (.ref q) H'
theorem ok_Post_waiting (T : Txt K mg a) : FnOk P w K mg base CX0 1 a.Post_waiting a.d_Post_waiting ["self"] (spWaiting a.Post) := by
  refine T.F_Post_waiting.ok sc_Post_waiting (fun vs H Q E h => ?_) (fun cdv A outer s H vs Q E hr h => ?_)
  · obtain ⟨p, d, n, kvs, rfl, _⟩ := h
    rfl
  · obtain ⟨p, d, n, kvs, rfl, S, k⟩ := h
    obtain ⟨⟨dx, hp⟩, hd⟩ := id S
    refine ⟨_, (pss_one (ps_ret (LiI.pe_listItems rfl (pe_fld (pv 0) rfl) rfl T.n_list (by decide +kernel)))), ?_⟩
    walk_at "rd"
    refine LH.fldv hp T.cl_Post T.na_Post__letters rfl ?_
    exact LH.liv hd fun q H' ts e f ft g pr => k q H' ts e f ft g pr
end
end K8
namespace K8
open PySem L2
local macro_rules | `(tactic| walk_at "rd1") => `(tactic| first
  | with_reducible refine LH.x_seq ?_
  | with_reducible refine LH.x_asg ?_
  | with_reducible refine LH.x_cons ?_
  | with_reducible refine LH.x_var (by with_unfolding_all exact rfl) ?_
  | with_reducible refine LH.x_c ?_
  | with_reducible refine LH.x_op ?_
  | with_reducible refine LH.x_gname ?_
  | with_reducible refine LH.x_nil ?_
  | with_reducible refine LH.x_I0 ?_
  | ((with_reducible refine LH.x_I ?k1 ?_); (case k1 => first | exact (by decide) | exact ⟨by decide, by decide⟩ | exact ⟨by decide, by decide, by decide⟩ | exact .inl ⟨by decide, by decide⟩ | exact .inr ⟨by decide, by decide⟩ | exact .inr ⟨by omega, by omega⟩ | exact .inl ⟨by omega, by omega⟩ | exact (by omega)))
  | with_reducible refine LH.x_ifS ?_
  | with_reducible refine LH.x_test ?_
  | with_reducible refine LH.x_tB ?_
  | with_reducible refine LH.bx ?_
  | with_reducible refine LH.x_and ?_
  | with_reducible refine LH.x_or ?_
  | with_reducible refine LH.x_not ?_
  | with_reducible refine LH.x_ret ?_
  | with_reducible refine LH.x_call ?_
  | with_reducible refine LH.x_cb ?_
  | with_reducible refine LH.x_lst ?_
  | with_reducible refine LH.x_tup ?_
  | with_reducible refine LH.x_bm ?_
  | with_reducible refine LH.x_drop ?_
  | with_reducible refine LH.x_next ?_
  | with_reducible refine LH.x_cont ?_
  | with_reducible refine LH.x_un ?_
  | with_reducible refine LH.x_U ?_
  | with_reducible refine LH.x_eq (by with_unfolding_all exact rfl) ?_
  | with_reducible refine LH.x_ne (by with_unfolding_all exact rfl) ?_
  | with_reducible refine LH.x_andV ?_
  | with_reducible refine LH.x_orV ?_
  | with_reducible refine LH.x_notV ?_
  | with_reducible refine LH.band ?_
  | with_reducible refine LH.bor ?_
  | with_reducible refine LH.x_if ?_
  | with_reducible refine LH.x_chain ?_
  | with_reducible refine LH.chk ?_
  | with_reducible refine LH.x_callS ?_
  | with_reducible refine LH.x_callE ?_
  | with_reducible refine LH.x_callV ?_
  | with_reducible refine LH.x_lrg ?_
  | with_reducible refine LH.x_lcS ?_
  | with_reducible refine LH.x_lcR1 ?_
  | with_reducible refine LH.x_forR1 ?_
  | with_reducible refine LH.x_forR3 ?_
  | with_reducible refine LH.strv ?_
  | with_reducible refine LH.x_yes ?_
  | with_reducible refine LH.x_sl ?_
  | with_reducible refine LH.x_noPart ?_
  | with_reducible refine LH.x_part ?_
  | with_reducible refine LH.pav ?_
  | with_reducible refine LH.x_jnv ?_
  | with_reducible refine LH.x_join ?_
  | with_reducible refine LH.x_inS ?_
  | with_reducible refine LH.x_niS ?_
  | with_reducible refine LH.x_isB ?_
  | with_reducible refine LH.x_isnB ?_
  | with_reducible refine LH.x_gcons ?_
  | with_reducible refine LH.x_gnil ?_
  | with_reducible refine LH.x_intB ?_
  | with_reducible refine LH.x_orT ?_
  | with_reducible refine LH.x_isTy ?_
  | with_reducible refine LH.x_niTy ?_
  | with_reducible refine LH.x_split ?_
  | with_reducible refine LH.x_spv ?_
  | with_reducible refine LH.x_gsub ?_
  | with_reducible refine LH.x_fmt ?_
  | with_reducible refine LH.x_js0 ?_
  | with_reducible refine LH.x_js ?_
  | with_reducible refine LH.x_rg1 ?_
  | with_reducible refine LH.x_forL ?_
  | with_reducible refine LH.x_abs ?_
  | with_reducible refine LH.x_rg2 ?_
  | with_reducible refine LH.rg1v ?_
  | with_reducible refine LH.rg2v ?_
  | with_reducible refine LH.x_forR2 ?_
  | with_reducible refine LH.x_lenSetG ?_
  | with_reducible refine LH.x_lc ?_
  | with_reducible refine LH.x_fld ?_
  | with_reducible refine LH.x_sfld ?_
  | with_reducible refine LH.x_afld ?_
  | with_reducible refine LH.x_meth ?_
  | with_reducible refine LH.x_make ?_
  | with_reducible refine LH.x_methSl ?_
  | with_reducible refine LH.x_makeSl ?_
  | with_reducible refine LH.x_din ?_
  | with_reducible refine LH.x_dni ?_
  | with_reducible refine LH.x_dget ?_
  | with_reducible refine LH.x_dput ?_
  | with_reducible refine LH.x_dget2 ?_
  | with_reducible refine LH.x_dpop1 ?_
  | with_reducible refine LH.x_litems ?_
  | with_reducible refine LH.br_nt ?_
  | with_reducible refine LH.br_nf ?_
  | with_reducible refine LH.br_t ?_
  | with_reducible refine LH.br_f ?_)
local macro_rules | `(tactic| walk_at "rd") => `(tactic| repeat (walk_at "rd1"))

section
variable {P : Program} {w : World} {K : PySem.W.Frag} {mg : Str → Option Value} {base : Heap} {a : Ad}
def isI : V → Bool
  | .int _ => true
  | _ => false
def spLWhole (K : PySem.W.Frag) : Sp := fun vs H Q _ => ∃ x T, vs = [x] ∧ TyB K H x T ∧ Q (.bl (isI x)) H
theorem ok__law_whole (T : Txt K mg a) : FnOk P w K mg base CX0 1 a._law_whole a.d__law_whole ["_law_thing"] (spLWhole K) := by
  refine T.F__law_whole.ok sc__law_whole (fun vs H Q E h => ?_) (fun cdv A outer s H vs Q E hr h => ?_)
  · obtain ⟨x, t, rfl, _⟩ := h
    rfl
  · obtain ⟨x, t, rfl, ht, k⟩ := h
    refine ⟨_, (pss_one (ps_ret (pe_and (pe_callB (r := rIsi K) call_isi rfl T.n_isinstance (by decide +kernel) (pa_cons (pv 0) (pa_cons (pe_bltn (v := .ty "int") rfl T.n_int (by decide +kernel) rfl) pa_nil))) (pe_one (pe_not (pe_callB (r := rIsi K) call_isi rfl T.n_isinstance (by decide +kernel) (pa_cons (pv 0) (pa_cons (pe_bltn (v := .ty "bool") rfl T.n_bool (by decide +kernel) rfl) pa_nil)))))))), ?_⟩
    walk_at "rd"
    have ht' := ht
    cases ht with
    | int i =>
      refine LH.x_isiT (b := true) ht' (by decide +kernel) ?_
      walk_at "rd"
      refine LH.x_isiT (b := false) ht' (by decide +kernel) ?_
      walk_at "rd"
      exact k
    | bl i =>
      refine LH.x_isiT (b := true) ht' (by decide +kernel) ?_
      walk_at "rd"
      refine LH.x_isiT (b := true) ht' (by decide +kernel) ?_
      walk_at "rd"
      exact k
    | _ =>
      refine LH.x_isiT (b := false) ht' (by decide +kernel) ?_
      walk_at "rd"
      exact k
def spKind (D : Addr) (x : Str) : LH.SpE := fun e cls d vs H Q => vs = [.ref e] ∧ cls = .ref D ∧ d = none ∧
  ∀ H' q, Same H H' → H q = none → H' q = some (.tup [.str x]) → Q (.ref q) H'
theorem ok__law_kind (T : Txt K mg a) : LH.FnE P w K mg base 1 a._law_kind a.d__law_kind ["_law_error"] (spKind a.NoLetter "letter") := by
  refine LH.fnE_of T.F__law_kind sc__law_kind (fun e cls d vs H Q h => ?_) (fun cdv A outer s H vs Q p cls d hot hz hr h => ?_)
  · obtain ⟨rfl, _⟩ := h
    rfl
  · obtain ⟨rfl, rfl, rfl, k⟩ := h
    have hf : ∃ us, p.2.data = .fields us := let ⟨us, e, _⟩ := hot.2; ⟨us, e⟩
    have isP : ∀ {X : Cx}, X.K = K → X.pn = [p] → CallR X (.builtin "isinstance") (rIsE X.K a.NoLetter p.1) := fun {X} e1 e2 =>
      LH.call_isP (oe := p.2) (by rw [e1]; exact T.c_NoLetter) (by rw [e2]; exact List.mem_cons_self) hz.zc hf
    refine ⟨_, (pss_cons (ps_set (i := 1) sc__law_kind.nd rfl (Or.inl rfl) (pe_lst (pa_cons pe_str (pa_cons pe_str (pa_cons pe_str (pa_cons pe_str (pa_cons pe_str (pa_cons pe_str (pa_cons pe_str (pa_cons pe_str pa_nil))))))))))
  (pss_cons (ps_set (i := 2) sc__law_kind.nd rfl (Or.inl rfl) (pe_lst (pa_cons (pe_callB (isP rfl rfl) rfl T.n_isinstance (by decide +kernel) (pa_cons (pv 0) (pa_cons (pe_glob (v := .ref a.BadCount) rfl T.g_BadCount rfl) pa_nil))) (pa_cons (pe_callB (isP rfl rfl) rfl T.n_isinstance (by decide +kernel) (pa_cons (pv 0) (pa_cons (pe_glob (v := .ref a.BadHouse) rfl T.g_BadHouse rfl) pa_nil))) (pa_cons (pe_callB (isP rfl rfl) rfl T.n_isinstance (by decide +kernel) (pa_cons (pv 0) (pa_cons (pe_glob (v := .ref a.BadRow) rfl T.g_BadRow rfl) pa_nil))) pa_nil)))))
  (pss_cons (ps_set (i := 2) sc__law_kind.nd rfl (Or.inl rfl) (pe_op (r := LH.rCatS K) LH.op_catS (pv 2) (pe_lst (pa_cons (pe_callB (isP rfl rfl) rfl T.n_isinstance (by decide +kernel) (pa_cons (pv 0) (pa_cons (pe_glob (v := .ref a.BadWord) rfl T.g_BadWord rfl) pa_nil))) (pa_cons (pe_callB (isP rfl rfl) rfl T.n_isinstance (by decide +kernel) (pa_cons (pv 0) (pa_cons (pe_glob (v := .ref a.Forged) rfl T.g_Forged rfl) pa_nil))) (pa_cons (pe_callB (isP rfl rfl) rfl T.n_isinstance (by decide +kernel) (pa_cons (pv 0) (pa_cons (pe_glob (v := .ref a.NoLetter) rfl T.g_NoLetter rfl) pa_nil))) pa_nil))))))
  (pss_cons (ps_set (i := 2) sc__law_kind.nd rfl (Or.inl rfl) (pe_op (r := LH.rCatS K) LH.op_catS (pv 2) (pe_lst (pa_cons (pe_callB (isP rfl rfl) rfl T.n_isinstance (by decide +kernel) (pa_cons (pv 0) (pa_cons (pe_glob (v := .ref a.NotWritten) rfl T.g_NotWritten rfl) pa_nil))) (pa_cons (pe_callB (isP rfl rfl) rfl T.n_isinstance (by decide +kernel) (pa_cons (pv 0) (pa_cons (pe_glob (v := .ref a.NoText) rfl T.g_NoText rfl) pa_nil))) pa_nil)))))
  (pss_cons (ps_if (PW.pt (pw_or (pt_cmpR op_ne (pe_bm PySem.F.plainAttrs_list PySem.F.slot_list_count PySem.F.type_list_count LH.mt_cntV (pv 2) (pa_cons pe_bl pa_nil)) pe_int (nomark _)) (pw_or1 (pt_not (pt_val (pe_callB (isP rfl rfl) rfl T.n_isinstance (by decide +kernel) (pa_cons (pv 0) (pa_cons (pe_bltn (v := .ty "ValueError") rfl T.n_ValueError (by decide +kernel) rfl) pa_nil))))))))
    (pss_one (ps_ret (pe_tup (pa_cons pe_str pa_nil))))
    pss_nil)
  (pss_one (ps_ret (pe_tup (pa_cons (pe_ix (r := rIxL K) ix_list (pv 1) (pe_bm PySem.F.plainAttrs_list PySem.F.slot_list_index PySem.F.type_list_index mt_index (pv 2) (pa_cons pe_bl pa_nil)) (fun _ _ => rfl)) pa_nil))))))))), ?_⟩
    walk_at "rd"
    refine LH.newl (LH.small rfl) fun p1 H1 f1 e1 g1 => ?_
    walk_at "rd"
    refine LH.x_isE (fun _ e => e) T.i_BadCount ?_
    walk_at "rd"
    refine LH.x_isE (fun _ e => e) T.i_BadHouse ?_
    walk_at "rd"
    refine LH.x_isE (fun _ e => e) T.i_BadRow ?_
    walk_at "rd"
    refine LH.newl (LH.small rfl) fun p2 H2 f2 e2 g2 => ?_
    walk_at "rd"
    refine LH.x_isE (fun _ e => e) T.i_BadWord ?_
    walk_at "rd"
    refine LH.x_isE (fun _ e => e) T.i_Forged ?_
    walk_at "rd"
    refine LH.x_isE (fun _ e => e) T.i_NoLetter ?_
    walk_at "rd"
    refine LH.newl (LH.small rfl) fun p3 H3 f3 e3 g3 => ?_
    refine LH.x_catS (SqL.of (e3 _ _ g2)) (SqL.of g3) (LH.small rfl) fun p4 H4 f4 e4 g4 => ?_
    walk_at "rd"
    refine LH.x_isE (fun _ e => e) T.i_NotWritten ?_
    walk_at "rd"
    refine LH.x_isE (fun _ e => e) T.i_NoText ?_
    walk_at "rd"
    refine LH.newl (LH.small rfl) fun p5 H5 f5 e5 g5 => ?_
    refine LH.x_catS (SqL.of (e5 _ _ g4)) (SqL.of g5) (LH.small rfl) fun p6 H6 f6 e6 g6 => ?_
    walk_at "rd"
    refine LH.bm_l (SqL.of g6) ?_
    walk_at "rd"
    refine LH.x_cntV (SqL.of g6) rfl rfl ?_
    walk_at "rd"
    refine LH.br_eq (b' := false) (by decide) ?_
    walk_at "rd"
    refine LH.x_isE (fun _ e => e) T.i_ValueError ?_
    walk_at "rd"
    refine LH.bm_l (SqL.of g6) ?_
    walk_at "rd"
    refine LH.x_index (j := 5) (SqL.of g6) rfl rfl rfl rfl (fun m z h e => ?_) ?_
    · rcases m with _ | _ | _ | _ | _ | m
      all_goals first | (injection e with e; subst e; rfl) | omega
    refine LH.x_ixL (SqL.of (e6 _ _ (e5 _ _ (e4 _ _ (e3 _ _ (e2 _ _ g1)))))) rfl ?_
    walk_at "rd"
    refine LH.newt (LH.small rfl) fun p7 H7 f7 e7 g7 => ?_
    have e06 := ((((e1.trans e2).trans e3).trans e4).trans e5).trans e6
    exact k _ _ (e06.trans e7) (LH.Same.none e06 f7) g7
def spBrought (K : PySem.W.Frag) (C : Addr) : Sp := fun vs H Q _ => ∃ p d n kvs x T, vs = [.ref p, x] ∧ PostAt C H p d n kvs ∧ TyB K H x T ∧
  ((∃ i v, x = .int i ∧ valV kvs (Sum.inl i) = some v ∧ ∀ H' q, LH.Ks [d] H H' → PostAt C H' p d n (dropK kvs (Sum.inl i)) → H q = none → H' q = some (.lst [v]) → Q (.ref q) H') ∨
   ((∀ i, x = .int i → valV kvs (Sum.inl i) = none) ∧ ∀ H' q, Same H H' → H q = none → H' q = some (.tup [.str "letter"]) → Q (.ref q) H'))
theorem ok__law_brought (T : Txt K mg a) : FnOk P w K mg base CX0 2 a._law_brought a.d__law_brought ["_law_post", "_law_number"] (spBrought K a.Post) := by
  have G_Post_bring := ok_Post_bring (P := P) (w := w) (base := base) T
  have G__law_kind := ok__law_kind (P := P) (w := w) (base := base) T
  refine T.F__law_brought.ok sc__law_brought (fun vs H Q E h => ?_) (fun cdv A outer s H vs Q E hr h => ?_)
  · obtain ⟨p, d, n, kvs, x, t, rfl, _⟩ := h
    rfl
  · obtain ⟨p, d, n, kvs, x, t, rfl, S, ht, k⟩ := h
    obtain ⟨⟨dx, hp⟩, hd⟩ := id S
    have HR_Post_bring : Room 1 _ := hr.mono (by decide)
    have HR__law_kind : Room 1 _ := hr.mono (by decide)
    let TB : WX → TS := fun W => tRet (tLst (tCons (LH.tMethSl a.Post "bring" (spBring K a.Post a.NoLetter) (WE W) (tVar 0) (tCons (tVar 1) tNil)) tNil))
    let TSU : Addr → Value → Option Addr → TS := fun e cls d => tRet (LH.tCallE (spKind a.NoLetter "letter") e cls d (tCons (tVar 2) tNil))
    refine ⟨_, (pss_one (L2N.ps_try_as (i := 2) (Wout := fun _ _ _ _ => False) (tb := TB) (ts := TSU) rfl rfl sc__law_brought.nd rfl rfl ⟨rfl, by decide, .inl T.g_HouseError⟩ LH.takesN0
    (fun W pn xe tk _ => (by exact (pss_one (ps_ret (pe_lst (pa_cons (LH.pe_methSl (pv 0) T.cl_Post T.me_Post_bring G_Post_bring HR_Post_bring T.b_Post_bring (fun σ => L2N.passAt tk σ) (pa_cons (pv 1) pa_nil)) pa_nil))))))
    (fun e oe cls d pn hz hf => (by exact (pss_one (ps_ret (LH.pe_callE (p := (e, oe)) G__law_kind ⟨HR__law_kind.dp, HR__law_kind.un⟩ ⟨rfl, LH.ctx_of hz hf⟩ hz List.mem_cons_self rfl T.g__law_kind T.F__law_kind.kp T.b__law_kind (pa_cons (pv 2) pa_nil)))))))), ?_⟩
    walk_at "rd"
    refine LH.methv hp rfl ?_
    walk_at "rd"
    refine ⟨p, d, n, kvs, x, t, rfl, S, ht, ?_⟩
    rcases k with ⟨i, v, rfl, ev, k⟩ | ⟨k1, k⟩
    · refine .inl ⟨i, v, rfl, ev, fun H1 ks S1 => ?_⟩
      walk_at "rd"
      refine LH.newl (LH.small rfl) fun q H2 f2 e2 g2 => ?_
      have fq : H q = none := by
        cases hq : H q with
        | none => rfl
        | some o =>
          by_cases c : q = d
          · subst c
            rw [S1.dc] at f2
            cases f2
          · rw [ks _ _ hq (by simpa using c)] at f2
            cases f2
      exact k H2 q (ks.trans (.of e2)) (S1.same e2) fq g2
    · refine .inr ⟨k1, true, T.e_NoLetter, fun _ e he => ?_, fun q => nomatch q⟩
      show tRet _ _ _ _
      walk_at "rd"
      exact ⟨rfl, rfl, rfl, fun H1 q e1 f1 g1 => k H1 q e1 f1 g1⟩
end
end K8
namespace K8
open PySem L2
/-! ### the law's rows: what was sent, by numbers; what was brought is none -/
abbrev Row := Option (V × PyData)
def vR : Row → V
  | none => .non
  | some p => p.1
def atR (rows : List Row) (i : Nat) : Row := rows.getD i none
def isS (rows : List Row) (i : Nat) : Bool := (atR rows i).isSome
def js (rows : List Row) : List Nat := (List.range rows.length).filter (isS rows)
def kvs (rows : List Row) : List (Key × V) := (js rows).map fun (i : Nat) => (Sum.inl (i : Int), vR (atR rows i))
def dat (rows : List Row) (i : Nat) : PyData := .tuple [.int i, ((atR rows i).map Prod.snd).getD .none]
def dats (rows : List Row) : List PyData := (js rows).map (dat rows)
theorem atR_app {rows : List Row} {x : Row} {i : Nat} (h : i < rows.length) : atR (rows ++ [x]) i = atR rows i := by
  unfold atR
  rw [List.getD_eq_getElem?_getD, List.getD_eq_getElem?_getD, List.getElem?_append_left h]
theorem atR_last {rows : List Row} {x : Row} : atR (rows ++ [x]) rows.length = x := by
  unfold atR
  rw [List.getD_eq_getElem?_getD, List.getElem?_append_right (Nat.le_refl _), Nat.sub_self]
  rfl
theorem js_lt {rows : List Row} {i : Nat} (h : i ∈ js rows) : i < rows.length ∧ isS rows i = true := by
  unfold js at h
  rw [List.mem_filter, List.mem_range] at h
  exact h
theorem js_app {rows : List Row} {x : V × PyData} : js (rows ++ [some x]) = js rows ++ [rows.length] := by
  unfold js
  rw [List.length_append, List.length_singleton, List.range_succ, List.filter_append]
  have e1 : (List.range rows.length).filter (isS (rows ++ [some x])) = (List.range rows.length).filter (isS rows) := List.filter_congr fun i hi => by
    rw [List.mem_range] at hi
    unfold isS
    rw [atR_app hi]
  have e2 : [rows.length].filter (isS (rows ++ [some x])) = [rows.length] := by
    have : isS (rows ++ [some x]) rows.length = true := by
      unfold isS
      rw [atR_last]
      rfl
    simp [List.filter, this]
  rw [e1, e2]
theorem val_map (v : Nat → V) (z : Int) : ∀ l : List Nat, valV (l.map fun (i : Nat) => ((Sum.inl (i : Int) : Key), v i)) (Sum.inl z) = if (l.any fun (i : Nat) => decide ((i : Int) = z)) = true then some (v z.toNat) else none
  | [] => rfl
  | i :: l => by
    rw [List.map_cons, List.any_cons]
    by_cases h : (i : Int) = z
    · subst h
      rw [valV_pos rfl]
      simp
    · rw [valV_neg (by intro e; injection e with e; exact h e), val_map v z l]
      simp [h]
theorem any_js {rows : List Row} {z : Int} : ((js rows).any fun (i : Nat) => decide ((i : Int) = z)) = true ↔ 0 ≤ z ∧ z < rows.length ∧ isS rows z.toNat = true := by
  rw [List.any_eq_true]
  constructor
  · rintro ⟨i, hi, e⟩
    have e := of_decide_eq_true e
    obtain ⟨h1, h2⟩ := js_lt hi
    subst e
    exact ⟨by omega, by omega, h2⟩
  · rintro ⟨h1, h2, h3⟩
    refine ⟨z.toNat, ?_, decide_eq_true (by omega)⟩
    unfold js
    rw [List.mem_filter, List.mem_range]
    exact ⟨by omega, h3⟩
theorem kv_val {rows : List Row} {z : Int} : valV (kvs rows) (Sum.inl z) = if 0 ≤ z ∧ z < rows.length ∧ isS rows z.toNat = true then some (vR (atR rows z.toNat)) else none := by
  unfold kvs
  rw [val_map (fun i => vR (atR rows i))]
  by_cases h : 0 ≤ z ∧ z < rows.length ∧ isS rows z.toNat = true
  · rw [if_pos h, if_pos (any_js.mpr h)]
  · rw [if_neg h, if_neg fun q => h (any_js.mp q)]
theorem kv_len (rows : List Row) : (kvs rows).length ≤ rows.length := by
  unfold kvs js
  rw [List.length_map]
  have := List.length_filter_le (isS rows) (List.range rows.length)
  rw [List.length_range] at this
  exact this
theorem kv_send {rows : List Row} {x : V × PyData} : putK (kvs rows) (Sum.inl (rows.length : Int)) x.1 = kvs (rows ++ [some x]) := by
  rw [putK_new _ (by rw [kv_val, if_neg]; omega)]
  unfold kvs
  rw [js_app, List.map_append]
  congr 1
  · refine List.map_congr_left fun i hi => ?_
    rw [atR_app (js_lt hi).1]
  · rw [List.map_cons, List.map_nil, atR_last]
    rfl
theorem atR_set {rows : List Row} {j i : Nat} : atR (rows.set j none) i = if i = j then none else atR rows i := by
  unfold atR
  rw [List.getD_eq_getElem?_getD, List.getD_eq_getElem?_getD, List.getElem?_set]
  by_cases h : j = i
  · subst h
    rw [if_pos rfl, if_pos rfl]
    by_cases c : j < rows.length
    · rw [if_pos c]; rfl
    · rw [if_neg c]; rfl
  · rw [if_neg h, if_neg (fun e => h e.symm)]
theorem js_set {rows : List Row} {j : Nat} : js (rows.set j none) = (js rows).filter fun i => decide (i ≠ j) := by
  unfold js
  rw [List.length_set, List.filter_filter]
  refine List.filter_congr fun i _ => ?_
  unfold isS
  rw [atR_set]
  by_cases h : i = j
  · rw [if_pos h]; simp [h]
  · rw [if_neg h]; simp [h]
theorem kv_drop {rows : List Row} {j : Nat} : dropK (kvs rows) (Sum.inl (j : Int)) = kvs (rows.set j none) := by
  unfold kvs dropK
  rw [js_set, List.filter_map]
  have e : (js rows).filter ((fun kv : Key × V => decide (kv.1 ≠ Sum.inl (j : Int))) ∘ fun (i : Nat) => (Sum.inl (i : Int), vR (atR rows i))) = (js rows).filter fun i => decide (i ≠ j) := List.filter_congr fun i _ => by
    show decide ((Sum.inl (i : Int) : Key) ≠ Sum.inl (j : Int)) = decide (i ≠ j)
    refine decide_eq_decide.mpr ⟨fun h e => h (by rw [e]), fun h e => h (by injection e with e; omega)⟩
  rw [e]
  refine List.map_congr_left fun i hi => ?_
  have h := of_decide_eq_true (List.mem_filter.mp hi).2
  rw [atR_set, if_neg h]
/-! ### the letters -/
def Lt (x y z u : Int) : PyData := .tuple [.int x, .int y, .tuple [.str "mark", .int z, .str "row", .int u]]
def LtA : PyData := .tuple [.int 0, .int 1, .tuple [.str "mark", .int 0, .str "a", .int 0]]
structure Ltr (K : PySem.W.Frag) (F : Hp) (x : V × PyData) : Prop where
  rf : ∃ p, x.1 = .ref p
  dp : Dp K F x.1 x.2
  lay : PyData.canLay0 x.2 = true
  dep : PyData.depth x.2 ≤ 5
def RG (K : PySem.W.Frag) (F : Hp) (rows : List Row) : Prop := ∀ x, some x ∈ rows → Ltr K F x
mutual
theorem dp_up {K : PySem.W.Frag} {H H' : Hp} (e : Same H H') : ∀ {d : PyData} {x : V}, Dp K H x d → Dp K H' x d
  | _, _, .non => .non
  | _, _, .bl b => .bl b
  | _, _, .int i => .int i
  | _, _, .str x => .str x
  | _, _, .lst h r => .lst (Same.seq e h) (dpA_up e r)
  | _, _, .tup h r => .tup (LH.Same.seqT e h) (dpA_up e r)
theorem dpA_up {K : PySem.W.Frag} {H H' : Hp} (e : Same H H') : ∀ {ds : List PyData} {xs : List V}, DpAll K H xs ds → DpAll K H' xs ds
  | _, _, .nil => .nil
  | _, _, .cons h r => .cons (dp_up e h) (dpA_up e r)
end
theorem Ltr.up {K : PySem.W.Frag} {H H' : Hp} {x : V × PyData} (e : Same H H') (l : Ltr K H x) : Ltr K H' x := ⟨l.rf, dp_up e l.dp, l.lay, l.dep⟩
theorem RG.up {K : PySem.W.Frag} {H H' : Hp} {rows : List Row} (e : Same H H') (r : RG K H rows) : RG K H' rows := fun x m => (r x m).up e
theorem atR_mem {rows : List Row} {i : Nat} {x : V × PyData} (h : atR rows i = some x) : some x ∈ rows := by
  unfold atR at h
  rw [List.getD_eq_getElem?_getD] at h
  cases e : rows[i]? with
  | none => rw [e] at h; cases h
  | some y =>
    rw [e] at h
    have h : y = some x := h
    rw [← h]
    exact List.mem_of_getElem? e
theorem dats_ok {K : PySem.W.Frag} {F : Hp} {rows : List Row} (r : RG K F rows) : SeqAt.shaped (.list (dats rows)) = true := by
  have h : ∀ l : List Nat, PyData.canLayAll0 (l.map (dat rows)) = true ∧ PyData.depthAll (l.map (dat rows)) ≤ 8 := by
    intro l
    induction l with
    | nil => exact ⟨rfl, by simp [PyData.depthAll]⟩
    | cons i l ih =>
      have one : PyData.canLay0 (((atR rows i).map Prod.snd).getD .none) = true ∧ PyData.depth (((atR rows i).map Prod.snd).getD .none) ≤ 5 := by
        cases e : atR rows i with
        | none => exact ⟨rfl, by simp [PyData.depth]⟩
        | some x =>
          have q := r x (atR_mem e)
          exact ⟨q.lay, q.dep⟩
      constructor
      · show (PyData.canLay0 (dat rows i) && PyData.canLayAll0 (l.map (dat rows))) = true
        rw [ih.1]
        show ((PyData.canLay0 (.int i) && (PyData.canLay0 (((atR rows i).map Prod.snd).getD .none) && true)) && true) = true
        rw [one.1]
        rfl
      · have d1 : PyData.depth (dat rows i) ≤ 8 := by
          show PyData.depth (.tuple [.int i, _]) ≤ 8
          simp only [PyData.depth, PyData.depthAll]
          omega
        have := ih.2
        simp only [List.map_cons, PyData.depthAll]
        omega
  unfold SeqAt.shaped
  rw [Bool.and_eq_true]
  refine ⟨(h _).1, decide_eq_true ?_⟩
  have := (h (js rows)).2
  show PyData.depth (.list ((js rows).map (dat rows))) ≤ _
  simp only [PyData.depth]
  omega
end K8
namespace K8
open PySem L2
local macro_rules | `(tactic| walk_at "rd1") => `(tactic| first
  | with_reducible refine LH.x_seq ?_
  | with_reducible refine LH.x_asg ?_
  | with_reducible refine LH.x_cons ?_
  | with_reducible refine LH.x_var (by with_unfolding_all exact rfl) ?_
  | with_reducible refine LH.x_c ?_
  | with_reducible refine LH.x_op ?_
  | with_reducible refine LH.x_gname ?_
  | with_reducible refine LH.x_nil ?_
  | with_reducible refine LH.x_I0 ?_
  | ((with_reducible refine LH.x_I ?k1 ?_); (case k1 => first | exact (by decide) | exact ⟨by decide, by decide⟩ | exact ⟨by decide, by decide, by decide⟩ | exact .inl ⟨by decide, by decide⟩ | exact .inr ⟨by decide, by decide⟩ | exact .inr ⟨by omega, by omega⟩ | exact .inl ⟨by omega, by omega⟩ | exact (by omega)))
  | with_reducible refine LH.x_ifS ?_
  | with_reducible refine LH.x_test ?_
  | with_reducible refine LH.x_tB ?_
  | with_reducible refine LH.bx ?_
  | with_reducible refine LH.x_and ?_
  | with_reducible refine LH.x_or ?_
  | with_reducible refine LH.x_not ?_
  | with_reducible refine LH.x_ret ?_
  | with_reducible refine LH.x_call ?_
  | with_reducible refine LH.x_cb ?_
  | with_reducible refine LH.x_lst ?_
  | with_reducible refine LH.x_tup ?_
  | with_reducible refine LH.x_bm ?_
  | with_reducible refine LH.x_drop ?_
  | with_reducible refine LH.x_next ?_
  | with_reducible refine LH.x_cont ?_
  | with_reducible refine LH.x_un ?_
  | with_reducible refine LH.x_U ?_
  | with_reducible refine LH.x_eq (by with_unfolding_all exact rfl) ?_
  | with_reducible refine LH.x_ne (by with_unfolding_all exact rfl) ?_
  | with_reducible refine LH.x_andV ?_
  | with_reducible refine LH.x_orV ?_
  | with_reducible refine LH.x_notV ?_
  | with_reducible refine LH.band ?_
  | with_reducible refine LH.bor ?_
  | with_reducible refine LH.x_if ?_
  | with_reducible refine LH.x_chain ?_
  | with_reducible refine LH.chk ?_
  | with_reducible refine LH.x_callS ?_
  | with_reducible refine LH.x_callE ?_
  | with_reducible refine LH.x_callV ?_
  | with_reducible refine LH.x_lrg ?_
  | with_reducible refine LH.x_lcS ?_
  | with_reducible refine LH.x_lcR1 ?_
  | with_reducible refine LH.x_forR1 ?_
  | with_reducible refine LH.x_forR3 ?_
  | with_reducible refine LH.strv ?_
  | with_reducible refine LH.x_yes ?_
  | with_reducible refine LH.x_sl ?_
  | with_reducible refine LH.x_noPart ?_
  | with_reducible refine LH.x_part ?_
  | with_reducible refine LH.pav ?_
  | with_reducible refine LH.x_jnv ?_
  | with_reducible refine LH.x_join ?_
  | with_reducible refine LH.x_inS ?_
  | with_reducible refine LH.x_niS ?_
  | with_reducible refine LH.x_isB ?_
  | with_reducible refine LH.x_isnB ?_
  | with_reducible refine LH.x_gcons ?_
  | with_reducible refine LH.x_gnil ?_
  | with_reducible refine LH.x_intB ?_
  | with_reducible refine LH.x_orT ?_
  | with_reducible refine LH.x_isTy ?_
  | with_reducible refine LH.x_niTy ?_
  | with_reducible refine LH.x_split ?_
  | with_reducible refine LH.x_spv ?_
  | with_reducible refine LH.x_gsub ?_
  | with_reducible refine LH.x_fmt ?_
  | with_reducible refine LH.x_js0 ?_
  | with_reducible refine LH.x_js ?_
  | with_reducible refine LH.x_rg1 ?_
  | with_reducible refine LH.x_forL ?_
  | with_reducible refine LH.x_abs ?_
  | with_reducible refine LH.x_rg2 ?_
  | with_reducible refine LH.rg1v ?_
  | with_reducible refine LH.rg2v ?_
  | with_reducible refine LH.x_forR2 ?_
  | with_reducible refine LH.x_lenSetG ?_
  | with_reducible refine LH.x_lc ?_
  | with_reducible refine LH.x_fld ?_
  | with_reducible refine LH.x_sfld ?_
  | with_reducible refine LH.x_afld ?_
  | with_reducible refine LH.x_meth ?_
  | with_reducible refine LH.x_make ?_
  | with_reducible refine LH.x_methSl ?_
  | with_reducible refine LH.x_makeSl ?_
  | with_reducible refine LH.x_din ?_
  | with_reducible refine LH.x_dni ?_
  | with_reducible refine LH.x_dget ?_
  | with_reducible refine LH.x_dput ?_
  | with_reducible refine LH.x_dget2 ?_
  | with_reducible refine LH.x_dpop1 ?_
  | with_reducible refine LH.x_litems ?_
  | with_reducible refine LH.br_nt ?_
  | with_reducible refine LH.br_nf ?_
  | with_reducible refine LH.br_t ?_
  | with_reducible refine LH.br_f ?_)
local macro_rules | `(tactic| walk_at "rd") => `(tactic| repeat (walk_at "rd1"))
local macro_rules | `(tactic| walk_at "rs1") => `(tactic| first
  | with_reducible refine LH.x_seq ?_
  | with_reducible refine LH.x_cons ?_
  | with_reducible refine LH.x_var (by with_unfolding_all exact rfl) ?_
  | with_reducible refine LH.x_c ?_
  | with_reducible refine LH.x_op ?_
  | with_reducible refine LH.x_gname ?_
  | with_reducible refine LH.x_nil ?_
  | with_reducible refine LH.x_I0 ?_
  | ((with_reducible refine LH.x_I ?k1 ?_); (case k1 => first | exact (by decide) | exact ⟨by decide, by decide⟩ | exact ⟨by decide, by decide, by decide⟩ | exact .inl ⟨by decide, by decide⟩ | exact .inr ⟨by decide, by decide⟩ | exact .inr ⟨by omega, by omega⟩ | exact .inl ⟨by omega, by omega⟩ | exact (by omega)))
  | with_reducible refine LH.x_test ?_
  | with_reducible refine LH.x_tB ?_
  | with_reducible refine LH.bx ?_
  | with_reducible refine LH.x_and ?_
  | with_reducible refine LH.x_or ?_
  | with_reducible refine LH.x_not ?_
  | with_reducible refine LH.x_call ?_
  | with_reducible refine LH.x_cb ?_
  | with_reducible refine LH.x_lst ?_
  | with_reducible refine LH.x_tup ?_
  | with_reducible refine LH.x_bm ?_
  | with_reducible refine LH.x_drop ?_
  | with_reducible refine LH.x_next ?_
  | with_reducible refine LH.x_cont ?_
  | with_reducible refine LH.x_un ?_
  | with_reducible refine LH.x_U ?_
  | with_reducible refine LH.x_eq (by with_unfolding_all exact rfl) ?_
  | with_reducible refine LH.x_ne (by with_unfolding_all exact rfl) ?_
  | with_reducible refine LH.x_andV ?_
  | with_reducible refine LH.x_orV ?_
  | with_reducible refine LH.x_notV ?_
  | with_reducible refine LH.band ?_
  | with_reducible refine LH.bor ?_
  | with_reducible refine LH.x_if ?_
  | with_reducible refine LH.x_chain ?_
  | with_reducible refine LH.chk ?_
  | with_reducible refine LH.x_callS ?_
  | with_reducible refine LH.x_callE ?_
  | with_reducible refine LH.x_callV ?_
  | with_reducible refine LH.x_lrg ?_
  | with_reducible refine LH.x_lcS ?_
  | with_reducible refine LH.x_lcR1 ?_
  | with_reducible refine LH.strv ?_
  | with_reducible refine LH.x_yes ?_
  | with_reducible refine LH.x_sl ?_
  | with_reducible refine LH.x_noPart ?_
  | with_reducible refine LH.x_part ?_
  | with_reducible refine LH.pav ?_
  | with_reducible refine LH.x_jnv ?_
  | with_reducible refine LH.x_join ?_
  | with_reducible refine LH.x_inS ?_
  | with_reducible refine LH.x_niS ?_
  | with_reducible refine LH.x_isB ?_
  | with_reducible refine LH.x_isnB ?_
  | with_reducible refine LH.x_gcons ?_
  | with_reducible refine LH.x_gnil ?_
  | with_reducible refine LH.x_intB ?_
  | with_reducible refine LH.x_orT ?_
  | with_reducible refine LH.x_isTy ?_
  | with_reducible refine LH.x_niTy ?_
  | with_reducible refine LH.x_split ?_
  | with_reducible refine LH.x_spv ?_
  | with_reducible refine LH.x_gsub ?_
  | with_reducible refine LH.x_fmt ?_
  | with_reducible refine LH.x_js0 ?_
  | with_reducible refine LH.x_js ?_
  | with_reducible refine LH.x_rg1 ?_
  | with_reducible refine LH.x_abs ?_
  | with_reducible refine LH.x_rg2 ?_
  | with_reducible refine LH.rg1v ?_
  | with_reducible refine LH.rg2v ?_
  | with_reducible refine LH.x_lenSetG ?_
  | with_reducible refine LH.x_lc ?_
  | with_reducible refine LH.x_fld ?_
  | with_reducible refine LH.x_sfld ?_
  | with_reducible refine LH.x_afld ?_
  | with_reducible refine LH.x_meth ?_
  | with_reducible refine LH.x_make ?_
  | with_reducible refine LH.x_methSl ?_
  | with_reducible refine LH.x_makeSl ?_
  | with_reducible refine LH.x_din ?_
  | with_reducible refine LH.x_dni ?_
  | with_reducible refine LH.x_dget ?_
  | with_reducible refine LH.x_dput ?_
  | with_reducible refine LH.x_dget2 ?_
  | with_reducible refine LH.x_dpop1 ?_
  | with_reducible refine LH.x_litems ?_
  | with_reducible refine LH.br_nt ?_
  | with_reducible refine LH.br_nf ?_
  | with_reducible refine LH.br_t ?_
  | with_reducible refine LH.br_f ?_)
local macro_rules | `(tactic| walk_at "rs") => `(tactic| repeat (walk_at "rs1"))

section
variable {P : Program} {w : World} {K : PySem.W.Frag} {mg : Str → Option Value} {base : Heap} {a : Ad}
theorem fmod_pos {x c : Int} (h : 1 ≤ c) : x.fmod c = x % c := Int.fmod_eq_emod_of_nonneg _ (by omega)
theorem map_app {rows : List Row} {x : V × PyData} : (rows ++ [some x]).map vR = rows.map vR ++ [x.1] := by
  rw [List.map_append]
  rfl
theorem map_set {rows : List Row} {j : Nat} : (rows.set j none).map vR = (rows.map vR).set j .non := by
  rw [List.map_set]
  rfl
theorem at_map {rows : List Row} {i : Nat} (h : i < rows.length) : (rows.map vR)[i]? = some (vR (atR rows i)) := by
  unfold atR
  rw [List.getElem?_map, List.getD_eq_getElem?_getD, List.getElem?_eq_getElem h]
  rfl
theorem set_mem {rows : List Row} {j : Nat} {x : V × PyData} (h : some x ∈ rows.set j none) : some x ∈ rows := by
  rcases List.mem_or_eq_of_mem_set h with h | h
  · exact h
  · cases h
theorem lt_lay (x y z u : Int) : PyData.canLay0 (Lt x y z u) = true := by
  have e1 : PyData.strOk "mark" = true := by decide +kernel
  have e2 : PyData.strOk "row" = true := by decide +kernel
  simp [Lt, PyData.canLay0, PyData.canLayAll0, e1, e2]
theorem ixN_nat {n j : Nat} (hj : j < n) : ixN n (j : Int) = some j := by
  unfold ixN
  rw [if_pos (Int.natCast_nonneg j), if_pos (by omega)]
  rfl
/-- a number that waits -/
def gd (rows : List Row) : V → Bool
  | .int i => decide (0 ≤ i) && (decide (i < rows.length) && isS rows i.toNat)
  | _ => false
theorem at_mod {α : Type} {l : List α} {n : Nat} (hn : l.length = n) (h0 : 0 < n) (i : Int) : ∃ (j : Nat) (x : α), l[j]? = some x ∧ atI l (i % n) = some x := by
  have h1 := Int.emod_nonneg i (show (n : Int) ≠ 0 by omega)
  have h2 := Int.emod_lt_of_pos i (show (0 : Int) < n by omega)
  obtain ⟨j, e⟩ : ∃ j : Nat, i % (n : Int) = (j : Int) := ⟨(i % (n : Int)).toNat, by omega⟩
  have hj : j < l.length := by omega
  exact ⟨j, l[j], List.getElem?_eq_getElem hj, by rw [e]; exact atI_nat (List.getElem?_eq_getElem hj)⟩
def spDeed (K : PySem.W.Frag) (C : Addr) : Sp := fun vs H Q _ => ∃ p d r rows c M, vs = [.ref p, .ref r, .int c] ∧ PostAt C H p d (rows : List Row).length (kvs rows) ∧ H r = some (.lst (rows.map vR)) ∧ rows.length ≤ 1000 ∧ p ∈ M ∧ d ∈ M ∧ r ∈ M ∧
  (∀ b ∈ M, ∃ o, H b = some o) ∧ RG K (LH.Fr M H) rows ∧ ∀ H' rows', LH.Ks [p, d, r] H H' → PostAt C H' p d (rows' : List Row).length (kvs rows') → H' r = some (.lst (rows'.map vR)) → rows'.length ≤ rows.length + 1 → RG K (LH.Fr M H') rows' → Q (.bl true) H'
theorem ok__law_deed (T : Txt K mg a) : FnOk P w K mg base CX0 3 a._law_deed a.d__law_deed ["_law_post", "_law_rows", "_law_cell"] (spDeed K a.Post) := by
  have G_Post_send := ok_Post_send (P := P) (w := w) (base := base) T
  have G__law_brought := ok__law_brought (P := P) (w := w) (base := base) T
  have G__law_whole := ok__law_whole (P := P) (w := w) (base := base) T
  refine T.F__law_deed.ok sc__law_deed (fun vs H Q E h => ?_) (fun cdv A outer s H vs Q E hr h => ?_)
  · obtain ⟨p, d, r, rows, c, M, rfl, _⟩ := h
    rfl
  · obtain ⟨p, d, r, rows, c, M, rfl, S, hr0, hl, mp, md, mr, al, rg, k⟩ := h
    obtain ⟨⟨dx, hp⟩, hd⟩ := id S
    have rp : r ≠ p := ne_of hr0 hp (by intro z; cases z)
    have rd : r ≠ d := ne_of hr0 hd (by intro z; cases z)
    have HR_Post_send : Room 1 _ := hr.mono (by decide)
    have HR__law_whole : Room 1 _ := hr.mono (by decide)
    have HR__law_brought : Room 2 _ := hr.mono (by decide)
    refine ⟨_, (pss_cons (ps_if (pt_cmpR op_eq (pe_op op_mod (pv 2) pe_int) pe_int (nomark _))
    (pss_cons (ps_set (i := 3) sc__law_deed.nd rfl (Or.inl rfl) (pe_tup (pa_cons (pe_op op_mod (pe_op op_fdiv (pv 2) pe_int) pe_int) (pa_cons (pe_op op_mod (pe_op op_fdiv (pv 2) pe_int) pe_int) (pa_cons (pe_tup (pa_cons pe_str (pa_cons (pe_op op_mod (pe_op op_fdiv (pv 2) pe_int) pe_int) (pa_cons pe_str (pa_cons (pe_op op_mod (pe_op op_fdiv (pv 2) pe_int) pe_int) pa_nil))))) pa_nil)))))
    (pss_cons (ps_expr (pe_bm PySem.F.plainAttrs_list PySem.F.slot_list_append PySem.F.type_list_append mt_append (pv 1) (pa_cons (pv 3) pa_nil)))
    (pss_cons (ps_set (i := 4) sc__law_deed.nd rfl (Or.inl rfl) (pe_meth (pv 0) T.cl_Post T.me_Post_send G_Post_send HR_Post_send T.b_Post_send .nil pass0 (pa_cons (pv 3) pa_nil)))
    (pss_one (ps_ret (pe_and (pe_call G__law_whole HR__law_whole rfl T.g__law_whole T.F__law_whole.kp T.b__law_whole .nil pass0 (pa_cons (pv 4) pa_nil)) (pe_one (pe_cmpR (r := rEqD K) (op_eqD hr.units) (pv 4) (pe_op op_sub (pe_callB (r := LH.rLen K) LH.call_len rfl T.n_len (by decide +kernel) (pa_cons (pv 1) pa_nil)) pe_int) (nomark _)))))))))
    pss_nil)
  (pss_cons (ps_set (i := 5) sc__law_deed.nd rfl (Or.inl rfl) (pe_op op_modN (pe_op op_fdiv (pv 2) pe_int) (pe_op op_add (pe_callB (r := LH.rLen K) LH.call_len rfl T.n_len (by decide +kernel) (pa_cons (pv 1) pa_nil)) pe_int)))
  (pss_cons (ps_if (pt_cmpR op_eq (pe_op op_mod (pe_op op_fdiv (pv 2) pe_int) pe_int) pe_int (nomark _))
    (pss_one (ps_set (i := 5) sc__law_deed.nd rfl (Or.inl rfl) (pe_ix (r := rIxL K) ix_list (pe_lst (pa_cons (pe_un un_neg pe_int) (pa_cons pe_bl (pa_cons pe_bl (pa_cons pe_non (pa_cons pe_str (pa_cons (pe_lst (pa_cons pe_int pa_nil)) (pa_cons pe_dnewK (pa_cons (pe_op op_add (pe_callB (r := LH.rLen K) LH.call_len rfl T.n_len (by decide +kernel) (pa_cons (pv 1) pa_nil)) (pe_op op_modN (pv 2) (pe_op op_pow pe_int pe_int))) pa_nil))))))))) (pe_op op_mod (pe_op op_fdiv (pv 2) pe_int) pe_int) (fun _ _ => rfl))))
    pss_nil)
  (pss_cons (ps_set (i := 6) sc__law_deed.nd rfl (Or.inl rfl) (pe_and (pe_call G__law_whole HR__law_whole rfl T.g__law_whole T.F__law_whole.kp T.b__law_whole .nil pass0 (pa_cons (pv 5) pa_nil)) (pe_and (pe_chain op_le op_lt pe_int (pv 5) (pe_callB (r := LH.rLen K) LH.call_len rfl T.n_len (by decide +kernel) (pa_cons (pv 1) pa_nil))) (pe_one (pe_cmpR op_notN (pe_ix (r := rIxL K) ix_list (pv 1) (pv 5) (fun _ _ => rfl)) pe_non (nomark _))))))
  (pss_cons (ps_set (i := 4) sc__law_deed.nd rfl (Or.inl rfl) (pe_call G__law_brought HR__law_brought rfl T.g__law_brought T.F__law_brought.kp T.b__law_brought .nil pass0 (pa_cons (pv 0) (pa_cons (pv 5) pa_nil))))
  (pss_cons (ps_if (pt_not (pt_val (pv 6)))
    (pss_one (ps_ret (pe_cmpR (r := rEqD K) (op_eqD hr.units) (pv 4) (pe_tup (pa_cons pe_str pa_nil)) (nomark _))))
    pss_nil)
  (pss_cons (ps_set (i := 7) sc__law_deed.nd rfl (Or.inl rfl) (pe_ix (r := rIxL K) ix_list (pv 1) (pv 5) (fun _ _ => rfl)))
  (pss_cons (ps_asg pe_non (pg_sub (pv 1) (pv 5) set_list))
  (pss_one (ps_ret (pe_and (pe_callB (r := rIsi K) call_isi rfl T.n_isinstance (by decide +kernel) (pa_cons (pv 4) (pa_cons (pe_bltn (v := .ty "list") rfl T.n_list (by decide +kernel) rfl) pa_nil))) (pe_one (pe_cmpR (r := rEqD K) (op_eqD hr.units) (pv 4) (pe_lst (pa_cons (pv 7) pa_nil)) (nomark _)))))))))))))), ?_⟩
    walk_at "rd"
    refine LH.br_d (fun c0 => ?_) (fun c0 => ?_)
    · walk_at "rd"
      refine LH.newt (LH.small rfl) fun t1 H1 f1 e1 g1 => ?_
      walk_at "rd"
      refine LH.newt (LH.small rfl) fun t2 H2 f2 e2 g2 => ?_
      walk_at "rd"
      have e02 := e1.trans e2
      refine LH.bm_l (SqL.of (e02 _ _ hr0)) ?_
      walk_at "rd"
      refine LH.x_appK (e02 _ _ hr0) (by rw [List.length_map]; omega) fun H3 k3 g3 => ?_
      walk_at "rd"
      have hp3 := k3 _ _ (e02 _ _ hp) rp.symm
      refine LH.methv hp3 rfl ?_
      walk_at "rd"
      have S3 : PostAt a.Post H3 p d rows.length (kvs rows) := ⟨⟨dx, hp3⟩, k3 _ _ (e02 _ _ hd) rd.symm⟩
      refine ⟨p, d, _, _, _, rfl, S3, by have := kv_len rows; omega, fun H4 k4 S4 => ?_⟩
      walk_at "rd"
      refine ⟨_, _, rfl, .int _, ?_⟩
      walk_at "rd"
      have n1 : t1 ∉ M := LH.not_in f1 al
      have n2 : t2 ∉ M := LH.not_in (LH.Same.none e1 f2) al
      have t12 : t1 ≠ t2 := ne_of_none g1 f2
      have g4 : H4 r = some (.lst (rows.map vR ++ [.ref t2])) := k4 _ _ g3 (by simp [rp, rd])
      refine LH.br_eq (b' := true) rfl ?_
      walk_at "rd"
      refine LH.x_lenL (SqL.of g4) ?_
      walk_at "rd"
      refine LH.x_eqD (.int _) (.int _) rfl rfl ?_
      have ee : PyData.eqv (.int (rows.length : Int)) (.int (((rows.map vR ++ [V.ref t2]).length : Nat) - 1 : Int)) = true := by
        show ((rows.length : Int) == _) = true
        rw [beq_iff_eq, List.length_append, List.length_map]
        show (rows.length : Int) = ((rows.length + 1 : Nat) : Int) - 1
        omega
      rw [ee]
      have kM : LH.Ks M H H4 := ((LH.Ks.of e02).trans (k3.ks mr)).trans (k4.sub (by intro b hb; simp only [List.mem_cons, List.not_mem_nil, or_false] at hb; rcases hb with rfl | rfl <;> assumption))
      have x1 : LH.Fr M H4 t1 = some (.tup [.str "mark", .int (c / 32 % 3), .str "row", .int (c / 96 % 4)]) := by
        refine LH.fr_of (k4 _ _ (k3 _ _ (e2 _ _ g1) ?_) ?_) n1
        · exact fun q => n1 (q ▸ mr)
        · simp only [List.mem_cons, List.not_mem_nil, or_false]
          rintro (rfl | rfl)
          · exact n1 mp
          · exact n1 md
      have x2 : LH.Fr M H4 t2 = some (.tup [.int (c / 2 % 4), .int (c / 8 % 4), .ref t1]) := by
        refine LH.fr_of (k4 _ _ (k3 _ _ g2 ?_) ?_) n2
        · exact fun q => n2 (q ▸ mr)
        · simp only [List.mem_cons, List.not_mem_nil, or_false]
          rintro (rfl | rfl)
          · exact n2 mp
          · exact n2 md
      let L : V × PyData := (.ref t2, Lt (c / 2 % 4) (c / 8 % 4) (c / 32 % 3) (c / 96 % 4))
      refine k H4 (rows ++ [some L]) ?_ ?_ ?_ (by rw [List.length_append]; exact Nat.le_refl _) ?_
      · exact ((LH.Ks.of e02).trans (k3.ks (by simp))).trans (k4.sub (by intro b hb; simp only [List.mem_cons, List.not_mem_nil, or_false] at hb ⊢; rcases hb with rfl | rfl <;> simp))
      · rw [← kv_send, List.length_append]
        exact S4
      · rw [map_app]
        exact g4
      · intro x hx
        rcases List.mem_append.mp hx with hx | hx
        · exact (rg x hx).up kM.fr
        · have : x = L := by
            have := List.mem_singleton.mp hx
            injection this
          subst this
          refine ⟨⟨_, rfl⟩, ?_, ?_, ?_⟩
          · exact .tup (SqT.of x2) (.cons (.int _) (.cons (.int _) (.cons (.tup (SqT.of x1) (.cons (.str _) (.cons (.int _) (.cons (.str _) (.cons (.int _) .nil))))) .nil)))
          · exact lt_lay _ _ _ _
          · show PyData.depth (.tuple [.int _, .int _, .tuple [.str _, .int _, .str _, .int _]]) ≤ 5
            simp [PyData.depth, PyData.depthAll]
    · walk_at "rd"
      refine LH.x_lenL (SqL.of hr0) ?_
      walk_at "rs"
      refine LH.cutS (fun σ' H' => ∃ x T, σ' = [some (.ref p), some (.ref r), some (.int c), none, none, some x, none, none] ∧ Same H H' ∧ TyB K H' x T) (fun N hN => ?_) ?_
      · walk_at "rd"
        refine LH.br_d (fun c7 => ?_) (fun c7 => ?_)
        · walk_at "rd"
          refine LH.newl (LH.small rfl) fun p1 H1 f1 e1 g1 => ?_
          walk_at "rd"
          refine LH.x_dnew fun p2 H2 f2 e2 g2 => ?_
          walk_at "rd"
          refine LH.x_lenL (SqL.of ((e1.trans e2) _ _ hr0)) ?_
          walk_at "rd"
          refine LH.newl (LH.small rfl) fun p3 H3 f3 e3 g3 => ?_
          walk_at "rd"
          have e03 := (e1.trans e2).trans e3
          obtain ⟨j, y, hj, ej⟩ := at_mod (l := [V.int (-1), .bl true, .bl false, .non, .str "0", .ref p1, .ref p2, .int (((rows.map vR).length : Nat) + c.fmod (10 ^ (30 : Int).toNat))]) (n := 8) rfl (by decide) (c / 14)
          have ej' : atI [V.int (-1), .bl true, .bl false, .non, .str "0", .ref p1, .ref p2, .int (((rows.map vR).length : Nat) + c.fmod (10 ^ (30 : Int).toNat))] (c / 14 % 8) = some y := ej
          refine LH.x_ixL (SqL.of g3) ej' ?_
          walk_at "rd"
          have ty : ∃ T, TyB K H3 y T := by
            have my := List.mem_of_getElem? hj
            simp only [List.mem_cons, List.not_mem_nil, or_false] at my
            rcases my with rfl | rfl | rfl | rfl | rfl | rfl | rfl | rfl
            · exact ⟨_, .int _⟩
            · exact ⟨_, .bl _⟩
            · exact ⟨_, .bl _⟩
            · exact ⟨_, .non⟩
            · exact ⟨_, .str _⟩
            · exact ⟨_, .lst (SqL.of ((e2.trans e3) _ _ g1))⟩
            · exact ⟨_, .dK (e3 _ _ g2)⟩
            · exact ⟨_, .int _⟩
          obtain ⟨ty, hty⟩ := ty
          exact hN _ _ ⟨y, ty, rfl, e03, hty⟩
        · walk_at "rd"
          exact hN _ _ ⟨_, _, rfl, Same.refl _, .int _⟩
      · rintro σ' H' ⟨x, ty, rfl, e1, ht⟩
        have S1 := S.same e1
        have hr1 := e1 _ _ hr0
        walk_at "rs"
        refine LH.x_asg ?_
        refine LH.cut (fun y H1 => y = .bl (gd rows x) ∧ H' = H1) (fun Q hQ => ?_) ?_
        · walk_at "rd"
          refine ⟨_, _, rfl, ht, ?_⟩
          walk_at "rd"
          cases ht with
          | int i =>
            refine LH.br_eq (b' := true) rfl ?_
            walk_at "rd"
            refine LH.br_d (fun i0 => ?_) (fun i0 => ?_)
            · walk_at "rd"
              refine LH.x_lenL (SqL.of hr1) ?_
              walk_at "rd"
              rw [List.length_map]
              refine LH.br_d (fun i1 => ?_) (fun i1 => ?_)
              · walk_at "rd"
                obtain ⟨j, rfl⟩ : ∃ j : Nat, i = (j : Int) := ⟨i.toNat, by omega⟩
                refine LH.x_ixL (SqL.of hr1) (atI_nat (at_map (by omega))) ?_
                walk_at "rd"
                refine ⟨rfl, hQ _ _ ⟨?_, rfl⟩⟩
                have e : gd rows (.int j) = isS rows j := by
                  show (decide (0 ≤ (j : Int)) && (decide ((j : Int) < rows.length) && isS rows j)) = _
                  rw [decide_eq_true i0, decide_eq_true i1]
                  rfl
                rw [e]
                unfold isS
                cases hx : atR rows j with
                | none => rfl
                | some z =>
                  obtain ⟨q, hq⟩ := (rg z (atR_mem hx)).rf
                  show V.bl (!decide (z.1 = V.non)) = _
                  rw [hq]
                  rfl
              · walk_at "rd"
                refine hQ _ _ ⟨?_, rfl⟩
                show _ = V.bl (decide (0 ≤ i) && (decide (i < rows.length) && isS rows i.toNat))
                rw [decide_eq_false i1]
                simp
            · walk_at "rd"
              refine hQ _ _ ⟨?_, rfl⟩
              show _ = V.bl (decide (0 ≤ i) && (decide (i < rows.length) && isS rows i.toNat))
              rw [decide_eq_false i0]
              rfl
          | _ =>
            refine LH.br_eq (b' := false) rfl ?_
            walk_at "rd"
            exact hQ _ _ ⟨rfl, rfl⟩
        · rintro y H1 ⟨rfl, rfl⟩
          walk_at "rd"
          cases hg : gd rows x with
          | false =>
            refine ⟨p, d, _, _, x, _, rfl, S1, ht, .inr ⟨fun i ei => ?_, fun H2 q e2 f2 g2 => ?_⟩⟩
            · subst ei
              have hg : (decide (0 ≤ i) && (decide (i < rows.length) && isS rows i.toNat)) = false := hg
              rw [kv_val, if_neg]
              rintro ⟨h1, h2, h3⟩
              rw [decide_eq_true h1, decide_eq_true h2, h3] at hg
              cases hg
            · walk_at "rd"
              refine LH.newt (LH.small rfl) fun p3 H3 f3 e3 g3 => ?_
              refine LH.x_eqD (.tup (SqT.of (e3 _ _ g2)) (.cons (.str _) .nil)) (.tup (SqT.of g3) (.cons (.str _) .nil)) (by decide +kernel) (by decide +kernel) ?_
              have e : PyData.eqv (.tuple [.str "letter"]) (.tuple [.str "letter"]) = true := by decide +kernel
              rw [e]
              have e03 := (e1.trans e2).trans e3
              exact k H3 rows (.of e03) (S.same e03) (e03 _ _ hr0) (by omega) (rg.up (LH.same_fr e03))
          | true =>
            obtain ⟨i, rfl, i1, i2⟩ : ∃ i : Nat, x = .int i ∧ i < rows.length ∧ isS rows i = true := by
              cases x with
              | int i =>
                have hg : (decide (0 ≤ i) && (decide (i < rows.length) && isS rows i.toNat)) = true := hg
                rw [Bool.and_eq_true, Bool.and_eq_true, decide_eq_true_eq, decide_eq_true_eq] at hg
                exact ⟨i.toNat, by congr 1; omega, by omega, hg.2.2⟩
              | _ => cases hg
            obtain ⟨z, hz⟩ : ∃ z, atR rows i = some z := by
              unfold isS at i2
              cases e : atR rows i with
              | none => rw [e] at i2; cases i2
              | some z => exact ⟨z, rfl⟩
            have lz := rg z (atR_mem hz)
            have ev : valV (kvs rows) (Sum.inl (i : Int)) = some z.1 := by
              rw [kv_val, if_pos ⟨by omega, by omega, i2⟩]
              show some (vR (atR rows i)) = _
              rw [hz]
              rfl
            refine ⟨p, d, _, _, _, _, rfl, S1, .int _, .inl ⟨i, z.1, rfl, ev, fun H2 q k2 S2 f2 g2 => ?_⟩⟩
            have kM2 : LH.Ks M H' H2 := k2.sub (by intro b hb; rw [List.mem_singleton.mp hb]; exact md)
            have nq : q ∉ M := LH.not_in (LH.Same.none e1 f2) al
            walk_at "rd"
            have hr2 : H2 r = some (.lst (rows.map vR)) := k2 _ _ hr1 (by simpa using rd)
            refine LH.x_ixL (SqL.of hr2) (atI_nat (at_map i1)) ?_
            walk_at "rd"
            refine LH.setLV hr2 (ixN_nat (by rw [List.length_map]; exact i1)) fun H3 k3 g3 => ?_
            have k3 : LH.Kp r H2 H3 := k3
            walk_at "rd"
            have qr : q ≠ r := fun e => nq (e ▸ mr)
            have g3' := k3 _ _ g2 qr
            refine LH.x_isiT (b := true) (.lst (SqL.of g3')) (by decide +kernel) ?_
            walk_at "rd"
            refine LH.newl (LH.small rfl) fun p4 H4 f4 e4 g4 => ?_
            have kM : LH.Ks M H H4 := (((LH.Ks.of e1).trans kM2).trans (k3.ks mr)).trans (.of e4)
            have lz4 := lz.up kM.fr
            have hv : vR (atR rows i) = z.1 := by rw [hz]; rfl
            have dp4 : Dp K H4 (vR (atR rows i)) z.2 := by rw [hv]; exact dp_up LH.fr_le lz4.dp
            have sh : SeqAt.shaped (.list [z.2]) = true := by
              unfold SeqAt.shaped
              rw [Bool.and_eq_true]
              refine ⟨?_, decide_eq_true ?_⟩
              · show (PyData.canLay0 z.2 && true) = true
                rw [lz.lay]
                rfl
              · have := lz.dep
                simp only [PyData.depth, PyData.depthAll]
                omega
            refine LH.x_eqD (.lst (SqL.of (e4 _ _ g3')) (.cons (by rw [← hv]; exact dp4) .nil)) (.lst (SqL.of g4) (.cons dp4 .nil)) sh sh ?_
            have ee : PyData.eqv (.list [z.2]) (.list [z.2]) = true := SeqAt.eqv_refl _ (by show (PyData.canLay0 z.2 && true) = true; rw [lz.lay]; rfl)
            rw [ee]
            have kS : LH.Ks [p, d, r] H H4 := (((LH.Ks.of e1).trans (k2.sub (by simp))).trans (k3.ks (by simp))).trans (.of e4)
            refine k H4 (rows.set i none) kS ?_ ?_ (by rw [List.length_set]; omega) fun y hy => (rg y (set_mem hy)).up kM.fr
            · rw [List.length_set, ← kv_drop]
              exact (S2.keep (k3.ks (List.mem_singleton.mpr rfl)) (by simpa using rp.symm) (by simpa using rd.symm)).same e4
            · rw [map_set]
              exact e4 _ _ g3
end
end K8
namespace K8
open PySem L2
local macro_rules | `(tactic| walk_at "rd1") => `(tactic| first
  | with_reducible refine LH.x_seq ?_
  | with_reducible refine LH.x_asg ?_
  | with_reducible refine LH.x_cons ?_
  | with_reducible refine LH.x_var (by with_unfolding_all exact rfl) ?_
  | with_reducible refine LH.x_c ?_
  | with_reducible refine LH.x_op ?_
  | with_reducible refine LH.x_gname ?_
  | with_reducible refine LH.x_nil ?_
  | with_reducible refine LH.x_I0 ?_
  | ((with_reducible refine LH.x_I ?k1 ?_); (case k1 => first | exact (by decide) | exact ⟨by decide, by decide⟩ | exact ⟨by decide, by decide, by decide⟩ | exact .inl ⟨by decide, by decide⟩ | exact .inr ⟨by decide, by decide⟩ | exact .inr ⟨by omega, by omega⟩ | exact .inl ⟨by omega, by omega⟩ | exact (by omega)))
  | with_reducible refine LH.x_ifS ?_
  | with_reducible refine LH.x_test ?_
  | with_reducible refine LH.x_tB ?_
  | with_reducible refine LH.bx ?_
  | with_reducible refine LH.x_and ?_
  | with_reducible refine LH.x_or ?_
  | with_reducible refine LH.x_not ?_
  | with_reducible refine LH.x_ret ?_
  | with_reducible refine LH.x_call ?_
  | with_reducible refine LH.x_cb ?_
  | with_reducible refine LH.x_lst ?_
  | with_reducible refine LH.x_tup ?_
  | with_reducible refine LH.x_bm ?_
  | with_reducible refine LH.x_drop ?_
  | with_reducible refine LH.x_next ?_
  | with_reducible refine LH.x_cont ?_
  | with_reducible refine LH.x_un ?_
  | with_reducible refine LH.x_U ?_
  | with_reducible refine LH.x_eq (by with_unfolding_all exact rfl) ?_
  | with_reducible refine LH.x_ne (by with_unfolding_all exact rfl) ?_
  | with_reducible refine LH.x_andV ?_
  | with_reducible refine LH.x_orV ?_
  | with_reducible refine LH.x_notV ?_
  | with_reducible refine LH.band ?_
  | with_reducible refine LH.bor ?_
  | with_reducible refine LH.x_if ?_
  | with_reducible refine LH.x_chain ?_
  | with_reducible refine LH.chk ?_
  | with_reducible refine LH.x_callS ?_
  | with_reducible refine LH.x_callE ?_
  | with_reducible refine LH.x_callV ?_
  | with_reducible refine LH.x_lrg ?_
  | with_reducible refine LH.x_lcS ?_
  | with_reducible refine LH.x_lcR1 ?_
  | with_reducible refine LH.x_forR1 ?_
  | with_reducible refine LH.x_forR3 ?_
  | with_reducible refine LH.strv ?_
  | with_reducible refine LH.x_yes ?_
  | with_reducible refine LH.x_sl ?_
  | with_reducible refine LH.x_noPart ?_
  | with_reducible refine LH.x_part ?_
  | with_reducible refine LH.pav ?_
  | with_reducible refine LH.x_jnv ?_
  | with_reducible refine LH.x_join ?_
  | with_reducible refine LH.x_inS ?_
  | with_reducible refine LH.x_niS ?_
  | with_reducible refine LH.x_isB ?_
  | with_reducible refine LH.x_isnB ?_
  | with_reducible refine LH.x_gcons ?_
  | with_reducible refine LH.x_gnil ?_
  | with_reducible refine LH.x_intB ?_
  | with_reducible refine LH.x_orT ?_
  | with_reducible refine LH.x_isTy ?_
  | with_reducible refine LH.x_niTy ?_
  | with_reducible refine LH.x_split ?_
  | with_reducible refine LH.x_spv ?_
  | with_reducible refine LH.x_gsub ?_
  | with_reducible refine LH.x_fmt ?_
  | with_reducible refine LH.x_js0 ?_
  | with_reducible refine LH.x_js ?_
  | with_reducible refine LH.x_rg1 ?_
  | with_reducible refine LH.x_forL ?_
  | with_reducible refine LH.x_abs ?_
  | with_reducible refine LH.x_rg2 ?_
  | with_reducible refine LH.rg1v ?_
  | with_reducible refine LH.rg2v ?_
  | with_reducible refine LH.x_forR2 ?_
  | with_reducible refine LH.x_lenSetG ?_
  | with_reducible refine LH.x_lc ?_
  | with_reducible refine LH.x_fld ?_
  | with_reducible refine LH.x_sfld ?_
  | with_reducible refine LH.x_afld ?_
  | with_reducible refine LH.x_meth ?_
  | with_reducible refine LH.x_make ?_
  | with_reducible refine LH.x_methSl ?_
  | with_reducible refine LH.x_makeSl ?_
  | with_reducible refine LH.x_din ?_
  | with_reducible refine LH.x_dni ?_
  | with_reducible refine LH.x_dget ?_
  | with_reducible refine LH.x_dput ?_
  | with_reducible refine LH.x_dget2 ?_
  | with_reducible refine LH.x_dpop1 ?_
  | with_reducible refine LH.x_litems ?_
  | with_reducible refine LH.br_nt ?_
  | with_reducible refine LH.br_nf ?_
  | with_reducible refine LH.br_t ?_
  | with_reducible refine LH.br_f ?_)
local macro_rules | `(tactic| walk_at "rd") => `(tactic| repeat (walk_at "rd1"))
local macro_rules | `(tactic| walk_at "rs1") => `(tactic| first
  | with_reducible refine LH.x_seq ?_
  | with_reducible refine LH.x_cons ?_
  | with_reducible refine LH.x_var (by with_unfolding_all exact rfl) ?_
  | with_reducible refine LH.x_c ?_
  | with_reducible refine LH.x_op ?_
  | with_reducible refine LH.x_gname ?_
  | with_reducible refine LH.x_nil ?_
  | with_reducible refine LH.x_I0 ?_
  | ((with_reducible refine LH.x_I ?k1 ?_); (case k1 => first | exact (by decide) | exact ⟨by decide, by decide⟩ | exact ⟨by decide, by decide, by decide⟩ | exact .inl ⟨by decide, by decide⟩ | exact .inr ⟨by decide, by decide⟩ | exact .inr ⟨by omega, by omega⟩ | exact .inl ⟨by omega, by omega⟩ | exact (by omega)))
  | with_reducible refine LH.x_test ?_
  | with_reducible refine LH.x_tB ?_
  | with_reducible refine LH.bx ?_
  | with_reducible refine LH.x_and ?_
  | with_reducible refine LH.x_or ?_
  | with_reducible refine LH.x_not ?_
  | with_reducible refine LH.x_call ?_
  | with_reducible refine LH.x_cb ?_
  | with_reducible refine LH.x_lst ?_
  | with_reducible refine LH.x_tup ?_
  | with_reducible refine LH.x_bm ?_
  | with_reducible refine LH.x_drop ?_
  | with_reducible refine LH.x_next ?_
  | with_reducible refine LH.x_cont ?_
  | with_reducible refine LH.x_un ?_
  | with_reducible refine LH.x_U ?_
  | with_reducible refine LH.x_eq (by with_unfolding_all exact rfl) ?_
  | with_reducible refine LH.x_ne (by with_unfolding_all exact rfl) ?_
  | with_reducible refine LH.x_andV ?_
  | with_reducible refine LH.x_orV ?_
  | with_reducible refine LH.x_notV ?_
  | with_reducible refine LH.band ?_
  | with_reducible refine LH.bor ?_
  | with_reducible refine LH.x_if ?_
  | with_reducible refine LH.x_chain ?_
  | with_reducible refine LH.chk ?_
  | with_reducible refine LH.x_callS ?_
  | with_reducible refine LH.x_callE ?_
  | with_reducible refine LH.x_callV ?_
  | with_reducible refine LH.x_lrg ?_
  | with_reducible refine LH.x_lcS ?_
  | with_reducible refine LH.x_lcR1 ?_
  | with_reducible refine LH.strv ?_
  | with_reducible refine LH.x_yes ?_
  | with_reducible refine LH.x_sl ?_
  | with_reducible refine LH.x_noPart ?_
  | with_reducible refine LH.x_part ?_
  | with_reducible refine LH.pav ?_
  | with_reducible refine LH.x_jnv ?_
  | with_reducible refine LH.x_join ?_
  | with_reducible refine LH.x_inS ?_
  | with_reducible refine LH.x_niS ?_
  | with_reducible refine LH.x_isB ?_
  | with_reducible refine LH.x_isnB ?_
  | with_reducible refine LH.x_gcons ?_
  | with_reducible refine LH.x_gnil ?_
  | with_reducible refine LH.x_intB ?_
  | with_reducible refine LH.x_orT ?_
  | with_reducible refine LH.x_isTy ?_
  | with_reducible refine LH.x_niTy ?_
  | with_reducible refine LH.x_split ?_
  | with_reducible refine LH.x_spv ?_
  | with_reducible refine LH.x_gsub ?_
  | with_reducible refine LH.x_fmt ?_
  | with_reducible refine LH.x_js0 ?_
  | with_reducible refine LH.x_js ?_
  | with_reducible refine LH.x_rg1 ?_
  | with_reducible refine LH.x_abs ?_
  | with_reducible refine LH.x_rg2 ?_
  | with_reducible refine LH.rg1v ?_
  | with_reducible refine LH.rg2v ?_
  | with_reducible refine LH.x_lenSetG ?_
  | with_reducible refine LH.x_lc ?_
  | with_reducible refine LH.x_fld ?_
  | with_reducible refine LH.x_sfld ?_
  | with_reducible refine LH.x_afld ?_
  | with_reducible refine LH.x_meth ?_
  | with_reducible refine LH.x_make ?_
  | with_reducible refine LH.x_methSl ?_
  | with_reducible refine LH.x_makeSl ?_
  | with_reducible refine LH.x_din ?_
  | with_reducible refine LH.x_dni ?_
  | with_reducible refine LH.x_dget ?_
  | with_reducible refine LH.x_dput ?_
  | with_reducible refine LH.x_dget2 ?_
  | with_reducible refine LH.x_dpop1 ?_
  | with_reducible refine LH.x_litems ?_
  | with_reducible refine LH.br_nt ?_
  | with_reducible refine LH.br_nf ?_
  | with_reducible refine LH.br_t ?_
  | with_reducible refine LH.br_f ?_)
local macro_rules | `(tactic| walk_at "rs") => `(tactic| repeat (walk_at "rs1"))

section
variable {P : Program} {w : World} {K : PySem.W.Frag} {mg : Str → Option Value} {base : Heap} {a : Ad}
theorem isS_some {rows : List Row} {i : Nat} (h : isS rows i = true) : ∃ z, atR rows i = some z := by
  unfold isS at h
  cases e : atR rows i with
  | none => rw [e] at h; cases h
  | some z => exact ⟨z, rfl⟩
theorem dat_of {H : Hp} {rows : List Row} {i : Nat} {t : Addr} (r : RG K H rows) (h : isS rows i = true) (e : SqT K H t [.int i, vR (atR rows i)]) : Dp K H (.ref t) (dat rows i) := by
  obtain ⟨z, hz⟩ := isS_some h
  have lz := r z (atR_mem hz)
  unfold dat
  rw [hz] at e ⊢
  exact .tup e (.cons (.int _) (.cons lz.dp .nil))
theorem found_data {H : Hp} {rows : List Row} (r : RG K H rows) : ∀ (l : List Nat) (ts : List Addr), (∀ i ∈ l, isS rows i = true) → Paired (fun (t : Addr) (e : Key × V) => H t = some (.tup [kV e.1, e.2])) ts (l.map fun (i : Nat) => (Sum.inl (i : Int), vR (atR rows i))) →
    DpAll K H (ts.map V.ref) (l.map (dat rows))
  | [], _, _, .nil => .nil
  | i :: l, t :: ts, h, .cons e p => .cons (dat_of r (h i List.mem_cons_self) (SqT.of e)) (found_data r l ts (fun j hj => h j (List.mem_cons_of_mem _ hj)) p)
theorem found_tup {H : Hp} {rows : List Row} : ∀ (l : List Nat) (ts : List Addr), Paired (fun (t : Addr) (e : Key × V) => H t = some (.tup [kV e.1, e.2])) ts (l.map fun (i : Nat) => (Sum.inl (i : Int), vR (atR rows i))) →
    ∀ x ∈ ts.map V.ref, ∃ (t : Addr) (i : Int) (v : V), x = .ref t ∧ H t = some (.tup [.int i, v])
  | [], _, .nil, x, m => by cases m
  | i :: l, t :: ts, .cons e p, x, m => by
    rcases List.mem_cons.mp m with rfl | m
    · exact ⟨t, _, _, rfl, e⟩
    · exact found_tup l ts p x m
def Rdue (rows : List Row) (i : Nat) (y : V) (F : Hp) : Prop := ∃ t, y = .ref t ∧ F t = some (.tup [.int i, vR (atR rows i)])
theorem due_data {H : Hp} {rows : List Row} (r : RG K H rows) : ∀ (l : List Nat) (ys : List V), (∀ i ∈ l, isS rows i = true) → Paired (fun i y => Rdue rows i y H) l ys → DpAll K H ys (l.map (dat rows))
  | [], _, _, .nil => .nil
  | i :: l, y :: ys, h, .cons ⟨t, ey, e⟩ p => by
    subst ey
    exact .cons (dat_of r (h i List.mem_cons_self) (SqT.of e)) (due_data r l ys (fun j hj => h j (List.mem_cons_of_mem _ hj)) p)
def HeldOk (K : PySem.W.Frag) (F : Hp) (v : V) : Prop := ∃ t f c D, v = .ref t ∧ F t = some (.tup [f, c]) ∧ Dp K F f D ∧ Dp K F c D ∧ SeqAt.shaped D = true
theorem HeldOk.up {F F' : Hp} {v : V} (e : Same F F') (h : HeldOk K F v) : HeldOk K F' v :=
  let ⟨t, f, c, D, e1, h1, h2, h3, h4⟩ := h
  ⟨t, f, c, D, e1, e _ _ h1, dp_up e h2, dp_up e h3, h4⟩
def spWaits (K : PySem.W.Frag) (C : Addr) : Sp := fun vs H Q _ => ∃ p d r h rows held M, vs = [.ref p, .ref r, .ref h] ∧ PostAt C H p d (rows : List Row).length (kvs rows) ∧ H r = some (.lst (rows.map vR)) ∧ rows.length ≤ 1000 ∧
  H h = some (.lst held) ∧ held.length ≤ 1000 ∧ h ∈ M ∧ h ≠ r ∧ r ∈ M ∧ (∀ b ∈ M, ∃ o, H b = some o) ∧ RG K (LH.Fr M H) rows ∧
  ∀ H' v, LH.Ks [h] H H' → H' h = some (.lst (held ++ [v])) → HeldOk K (LH.Fr M H') v → Q (.bl true) H'
theorem ok__law_waits (T : Txt K mg a) : FnOk P w K mg base CX0 2 a._law_waits a.d__law_waits ["_law_post", "_law_rows", "_law_held"] (spWaits K a.Post) := by
  have G_Post_waiting := ok_Post_waiting (P := P) (w := w) (base := base) T
  have G__law_whole := ok__law_whole (P := P) (w := w) (base := base) T
  refine T.F__law_waits.ok sc__law_waits (fun vs H Q E h => ?_) (fun cdv A outer s H vs Q E hr h => ?_)
  · obtain ⟨p, d, r, h, rows, held, M, rfl, _⟩ := h
    rfl
  · obtain ⟨p, d, r, h, rows, held, M, rfl, S, hr0, hl, hh, hhl, mh, hr', mr, al, rg, k⟩ := h
    obtain ⟨⟨dx, hp⟩, hd⟩ := id S
    have HR_Post_waiting : Room 1 _ := hr.mono (by decide)
    have HR__law_whole : Room 1 _ := hr.mono (by decide)
    refine ⟨_, (pss_cons (ps_set (i := 3) sc__law_waits.nd rfl (Or.inl rfl) (pe_meth0 (pv 0) T.cl_Post T.me_Post_waiting G_Post_waiting HR_Post_waiting T.b_Post_waiting .nil pass0))
  (pss_cons (ps_setLc (i := 4) (own := [("_law_number", 5)]) (g := gName 5) rfl sc__law_waits.nd rfl rfl rfl (pi_range1 rfl T.n_range (pa_cons (pe_callB (r := LH.rLen K) LH.call_len rfl T.n_len (by decide +kernel) (pa_cons (pv 1) pa_nil)) pa_nil)) (blkOk_by (N := N__law_waits) (sc := defScope s__law_waits) (by decide +kernel)) (fun _ _ _ _ _ => pg_name (i := 5) sc__law_waits.nd rfl (Or.inl rfl)) (fun _ _ _ _ _ => (pts_one (pt_cmpR op_notN (pe_ix (r := rIxL K) ix_list (pv 1) (pv 5) (fun _ _ => rfl)) pe_non (nomark _)))) (fun _ _ _ _ _ => (pe_tup (pa_cons (pv 5) (pa_cons (pe_ix (r := rIxL K) ix_list (pv 1) (pv 5) (fun _ _ => rfl)) pa_nil)))))
  (pss_cons (ps_if (PW.pt (pw_or (pt_not (pt_val (pe_callB (r := rIsi K) call_isi rfl T.n_isinstance (by decide +kernel) (pa_cons (pv 3) (pa_cons (pe_bltn (v := .ty "list") rfl T.n_list (by decide +kernel) rfl) pa_nil))))) (pw_or1 (pt_cmpR (r := rNeD K) (op_neD hr.units) (pv 3) (pv 4) (nomark _)))))
    (pss_one (ps_ret pe_bl))
    pss_nil)
  (pss_cons (ps_if (pt_cmpR (r := rNeD K) (op_neD hr.units) (pe_lc (own := [("_law_one", 6)]) (g := gName 6) rfl sc__law_waits.nd (pi_list (pv 3)) (blkOk_by (N := N__law_waits) (sc := defScope s__law_waits) (by decide +kernel)) (fun _ _ _ _ _ => pg_name (i := 6) sc__law_waits.nd rfl (Or.inl rfl)) (fun _ _ _ _ _ => (pts_one (PW.pt (pw_or (pt_not (pt_val (pe_callB (r := rIsi K) call_isi rfl T.n_isinstance (by decide +kernel) (pa_cons (pv 6) (pa_cons (pe_bltn (v := .ty "tuple") rfl T.n_tuple (by decide +kernel) rfl) pa_nil))))) (pw_or1 (pt_not (pt_val (pe_call G__law_whole HR__law_whole rfl T.g__law_whole T.F__law_whole.kp T.b__law_whole .nil pass0 (pa_cons (pe_ix (r := rIxT K) ix_tup (pv 6) pe_int (fun _ _ => rfl)) pa_nil))))))))) (fun _ _ _ _ _ => (pv 6))) (pe_lst pa_nil) (nomark _))
    (pss_one (ps_ret pe_bl))
    pss_nil)
  (pss_cons (ps_expr (pe_bm PySem.F.plainAttrs_list PySem.F.slot_list_append PySem.F.type_list_append mt_append (pv 2) (pa_cons (pe_tup (pa_cons (pv 3) (pa_cons (pe_callTy (r := LH.rListOf K) LH.call_listOf rfl T.n_list (by decide +kernel) (pa_cons (pv 3) pa_nil)) pa_nil))) pa_nil)))
  (pss_one (ps_ret pe_bl))))))), ?_⟩
    walk_at "rd"
    refine LH.methv hp rfl ?_
    walk_at "rd"
    refine ⟨p, d, _, _, rfl, S, fun q H1 ts e1 f1 ft g1 pr => ?_⟩
    walk_at "rd"
    have hr1 := e1 _ _ hr0
    refine LH.x_lenL (SqL.of hr1) ?_
    walk_at "rd"
    refine LH.rn1v (by rw [List.length_map]; omega) (by rw [List.length_map]; omega) ?_
    have en : ((List.map vR rows).length : Int).toNat = rows.length := by rw [List.length_map]; rfl
    rw [en]
    refine LH.lc_RR (by omega) (isS rows) (Rdue rows) (fun i y Ha Hb e ⟨t, e1, e2⟩ => ⟨t, e1, e _ _ e2⟩) (fun _ => rfl) ?_ ?_ fun D H2 ys f2 e2 g2 pr2 => ?_
    · intro i hi H2 e2 Q2 q2
      walk_at "rd"
      rw [Int.zero_add]
      refine LH.x_ixL (SqL.of (e2 _ _ hr1)) (atI_nat (at_map hi)) ?_
      walk_at "rd"
      refine ⟨rfl, ?_⟩
      walk_at "rd"
      have e : (!decide (vR (atR rows i) = V.non)) = isS rows i := by
        unfold isS
        cases hx : atR rows i with
        | none => rfl
        | some z =>
          obtain ⟨q, hq⟩ := (rg z (atR_mem hx)).rf
          show (!decide (z.1 = V.non)) = true
          rw [hq]
          rfl
      rw [e]
      exact q2 _ (Same.refl _)
    · intro i hi fi D H2 es e2 lD Q2 q2
      walk_at "rd"
      refine LH.x_ixL (SqL.of (e2 _ _ hr1)) (by rw [Int.zero_add]; exact atI_nat (at_map hi)) ?_
      walk_at "rd"
      refine LH.newt (LH.small rfl) fun t H3 f3 e3 g3 => ?_
      obtain ⟨l, lD⟩ := lD
      rw [Int.zero_add] at g3
      exact q2 _ _ e3 ⟨t, rfl, LH.fr_of g3 (by simpa using (ne_of_none lD f3).symm)⟩
    walk_at "rd"
    have e02 := e1.trans e2
    have nq : q ∉ M := LH.not_in f1 al
    have rgH : ∀ {H' : Hp}, Same H H' → RG K H' rows := fun e => rg.up (LH.fr_le.trans e)
    have all_js : ∀ i ∈ js rows, isS rows i = true := fun i hi => (js_lt hi).2
    refine LH.x_isiT (b := true) (.lst (SqL.of (e2 _ _ g1))) (by decide +kernel) ?_
    walk_at "rd"
    have pr' : Paired (fun (t : Addr) (e : Key × V) => H2 t = some (.tup [kV e.1, e.2])) ts (kvs rows) := LH.Paired.imp (fun _ _ h => e2 _ _ h) pr
    have d1 : Dp K H2 (.ref q) (.list (dats rows)) := .lst (SqL.of (e2 _ _ g1)) (found_data (rgH e02) _ _ all_js pr')
    have d2 : Dp K H2 (.ref D) (.list (dats rows)) := .lst (SqL.of g2) (due_data (rgH e02) _ _ all_js (LH.Paired.imp (fun i y ⟨t, a, b⟩ => ⟨t, a, LH.fr_le _ _ b⟩) pr2))
    have sh := dats_ok rg
    have ee : PyData.eqv (.list (dats rows)) (.list (dats rows)) = true := SeqAt.eqv_refl _ (by
      unfold SeqAt.shaped at sh
      rw [Bool.and_eq_true] at sh
      exact sh.1)
    refine LH.x_neD d1 d2 sh sh ?_
    rw [ee]
    walk_at "rd"
    have tl : ts.length ≤ 100000 := by
      have := LH.Paired.len pr
      have := kv_len rows
      omega
    refine LH.lc_L (SqL.of (e2 _ _ g1)) (by rw [List.length_map]; exact tl) (fun _ => false) id (fun _ => rfl) ?_ (fun _ _ h => by cases h) fun p3 H3 f3 e3 g3 => ?_
    · intro x hx H3 e3 Q3 q3
      obtain ⟨t, i, v, rfl, gt⟩ := found_tup _ _ pr' x hx
      have gt3 := e3 _ _ gt
      walk_at "rd"
      refine LH.x_isiT (b := true) (.tup (SqT.of gt3)) (by decide +kernel) ?_
      walk_at "rd"
      refine LH.x_ixT (SqT.of gt3) rfl ?_
      walk_at "rd"
      refine ⟨_, _, rfl, .int _, ?_⟩
      walk_at "rd"
      exact q3 _ (Same.refl _)
    walk_at "rd"
    refine LH.newl (LH.small rfl) fun p4 H4 f4 e4 g4 => ?_
    have g3' : H3 p3 = some (.lst []) := by rw [g3]; simp
    refine LH.x_neD (.lst (SqL.of (e4 _ _ g3')) .nil) (.lst (SqL.of g4) .nil) (by decide +kernel) (by decide +kernel) ?_
    have e0 : PyData.eqv (.list []) (.list []) = true := by decide +kernel
    rw [e0]
    walk_at "rd"
    have e24 := e3.trans e4
    have e04 := e02.trans e24
    refine LH.bm_l (SqL.of (e04 _ _ hh)) ?_
    walk_at "rd"
    have g1' := e24 _ _ (e2 _ _ g1)
    refine LH.x_listOf (.inl (SqL.of g1')) fun c H5 f5 e5 g5 => ?_
    walk_at "rd"
    refine LH.newt (LH.small rfl) fun t H6 f6 e6 g6 => ?_
    have e46 := e5.trans e6
    have e06 := e04.trans e46
    walk_at "rd"
    refine LH.x_appK (e06 _ _ hh) (by omega) fun H7 k7 g7 => ?_
    walk_at "rd"
    have ks : LH.Ks [h] H H7 := (LH.Ks.of e06).trans (k7.ks (by simp))
    have nc : c ∉ M := LH.not_in (LH.Same.none e04 f5) al
    have nt : t ∉ M := LH.not_in (LH.Same.none (e04.trans e5) f6) al
    have s67 : Same (LH.Fr M H6) (LH.Fr M H7) := (k7.ks mh).fr
    have prF : Paired (fun (t : Addr) (e : Key × V) => LH.Fr M H6 t = some (.tup [kV e.1, e.2])) ts (kvs rows) := by
      have hts : ∀ t ∈ ts, t ∉ M := fun t ht => LH.not_in (ft t ht) al
      have go : ∀ {us : List Addr} {ks : List (Key × V)}, (∀ t ∈ us, t ∉ M) → Paired (fun (t : Addr) (e : Key × V) => H2 t = some (.tup [kV e.1, e.2])) us ks → Paired (fun (t : Addr) (e : Key × V) => LH.Fr M H6 t = some (.tup [kV e.1, e.2])) us ks := by
        intro us ks hu p
        induction p with
        | nil => exact .nil
        | cons e r ih => exact .cons (LH.fr_of ((e24.trans e46) _ _ e) (hu _ List.mem_cons_self)) (ih fun t ht => hu t (List.mem_cons_of_mem _ ht))
      exact go hts pr'
    have rgF : RG K (LH.Fr M H6) rows := rg.up (LH.same_fr e06)
    have dq : DpAll K (LH.Fr M H6) (ts.map V.ref) (dats rows) := found_data rgF _ _ all_js prF
    refine k H7 _ ks g7 (HeldOk.up s67 ⟨t, _, _, .list (dats rows), rfl, LH.fr_of g6 nt, .lst (SqL.of (LH.fr_of (e46 _ _ g1') nq)) dq, .lst (SqL.of (LH.fr_of (e6 _ _ g5) nc)) dq, sh⟩)
end
end K8
namespace K8
open PySem L2
local macro_rules | `(tactic| walk_at "rd1") => `(tactic| first
  | with_reducible refine LH.x_seq ?_
  | with_reducible refine LH.x_asg ?_
  | with_reducible refine LH.x_cons ?_
  | with_reducible refine LH.x_var (by with_unfolding_all exact rfl) ?_
  | with_reducible refine LH.x_c ?_
  | with_reducible refine LH.x_op ?_
  | with_reducible refine LH.x_gname ?_
  | with_reducible refine LH.x_nil ?_
  | with_reducible refine LH.x_I0 ?_
  | ((with_reducible refine LH.x_I ?k1 ?_); (case k1 => first | exact (by decide) | exact ⟨by decide, by decide⟩ | exact ⟨by decide, by decide, by decide⟩ | exact .inl ⟨by decide, by decide⟩ | exact .inr ⟨by decide, by decide⟩ | exact .inr ⟨by omega, by omega⟩ | exact .inl ⟨by omega, by omega⟩ | exact (by omega)))
  | with_reducible refine LH.x_ifS ?_
  | with_reducible refine LH.x_test ?_
  | with_reducible refine LH.x_tB ?_
  | with_reducible refine LH.bx ?_
  | with_reducible refine LH.x_and ?_
  | with_reducible refine LH.x_or ?_
  | with_reducible refine LH.x_not ?_
  | with_reducible refine LH.x_ret ?_
  | with_reducible refine LH.x_call ?_
  | with_reducible refine LH.x_cb ?_
  | with_reducible refine LH.x_lst ?_
  | with_reducible refine LH.x_tup ?_
  | with_reducible refine LH.x_bm ?_
  | with_reducible refine LH.x_drop ?_
  | with_reducible refine LH.x_next ?_
  | with_reducible refine LH.x_cont ?_
  | with_reducible refine LH.x_un ?_
  | with_reducible refine LH.x_U ?_
  | with_reducible refine LH.x_eq (by with_unfolding_all exact rfl) ?_
  | with_reducible refine LH.x_ne (by with_unfolding_all exact rfl) ?_
  | with_reducible refine LH.x_andV ?_
  | with_reducible refine LH.x_orV ?_
  | with_reducible refine LH.x_notV ?_
  | with_reducible refine LH.band ?_
  | with_reducible refine LH.bor ?_
  | with_reducible refine LH.x_if ?_
  | with_reducible refine LH.x_chain ?_
  | with_reducible refine LH.chk ?_
  | with_reducible refine LH.x_callS ?_
  | with_reducible refine LH.x_callE ?_
  | with_reducible refine LH.x_callV ?_
  | with_reducible refine LH.x_lrg ?_
  | with_reducible refine LH.x_lcS ?_
  | with_reducible refine LH.x_lcR1 ?_
  | with_reducible refine LH.x_forR1 ?_
  | with_reducible refine LH.x_forR3 ?_
  | with_reducible refine LH.strv ?_
  | with_reducible refine LH.x_yes ?_
  | with_reducible refine LH.x_sl ?_
  | with_reducible refine LH.x_noPart ?_
  | with_reducible refine LH.x_part ?_
  | with_reducible refine LH.pav ?_
  | with_reducible refine LH.x_jnv ?_
  | with_reducible refine LH.x_join ?_
  | with_reducible refine LH.x_inS ?_
  | with_reducible refine LH.x_niS ?_
  | with_reducible refine LH.x_isB ?_
  | with_reducible refine LH.x_isnB ?_
  | with_reducible refine LH.x_gcons ?_
  | with_reducible refine LH.x_gnil ?_
  | with_reducible refine LH.x_intB ?_
  | with_reducible refine LH.x_orT ?_
  | with_reducible refine LH.x_isTy ?_
  | with_reducible refine LH.x_niTy ?_
  | with_reducible refine LH.x_split ?_
  | with_reducible refine LH.x_spv ?_
  | with_reducible refine LH.x_gsub ?_
  | with_reducible refine LH.x_fmt ?_
  | with_reducible refine LH.x_js0 ?_
  | with_reducible refine LH.x_js ?_
  | with_reducible refine LH.x_rg1 ?_
  | with_reducible refine LH.x_forL ?_
  | with_reducible refine LH.x_abs ?_
  | with_reducible refine LH.x_rg2 ?_
  | with_reducible refine LH.rg1v ?_
  | with_reducible refine LH.rg2v ?_
  | with_reducible refine LH.x_forR2 ?_
  | with_reducible refine LH.x_lenSetG ?_
  | with_reducible refine LH.x_lc ?_
  | with_reducible refine LH.x_fld ?_
  | with_reducible refine LH.x_sfld ?_
  | with_reducible refine LH.x_afld ?_
  | with_reducible refine LH.x_meth ?_
  | with_reducible refine LH.x_make ?_
  | with_reducible refine LH.x_methSl ?_
  | with_reducible refine LH.x_makeSl ?_
  | with_reducible refine LH.x_din ?_
  | with_reducible refine LH.x_dni ?_
  | with_reducible refine LH.x_dget ?_
  | with_reducible refine LH.x_dput ?_
  | with_reducible refine LH.x_dget2 ?_
  | with_reducible refine LH.x_dpop1 ?_
  | with_reducible refine LH.x_litems ?_
  | with_reducible refine LH.br_nt ?_
  | with_reducible refine LH.br_nf ?_
  | with_reducible refine LH.br_t ?_
  | with_reducible refine LH.br_f ?_)
local macro_rules | `(tactic| walk_at "rd") => `(tactic| repeat (walk_at "rd1"))
local macro_rules | `(tactic| walk_at "rs1") => `(tactic| first
  | with_reducible refine LH.x_seq ?_
  | with_reducible refine LH.x_cons ?_
  | with_reducible refine LH.x_var (by with_unfolding_all exact rfl) ?_
  | with_reducible refine LH.x_c ?_
  | with_reducible refine LH.x_op ?_
  | with_reducible refine LH.x_gname ?_
  | with_reducible refine LH.x_nil ?_
  | with_reducible refine LH.x_I0 ?_
  | ((with_reducible refine LH.x_I ?k1 ?_); (case k1 => first | exact (by decide) | exact ⟨by decide, by decide⟩ | exact ⟨by decide, by decide, by decide⟩ | exact .inl ⟨by decide, by decide⟩ | exact .inr ⟨by decide, by decide⟩ | exact .inr ⟨by omega, by omega⟩ | exact .inl ⟨by omega, by omega⟩ | exact (by omega)))
  | with_reducible refine LH.x_test ?_
  | with_reducible refine LH.x_tB ?_
  | with_reducible refine LH.bx ?_
  | with_reducible refine LH.x_and ?_
  | with_reducible refine LH.x_or ?_
  | with_reducible refine LH.x_not ?_
  | with_reducible refine LH.x_call ?_
  | with_reducible refine LH.x_cb ?_
  | with_reducible refine LH.x_lst ?_
  | with_reducible refine LH.x_tup ?_
  | with_reducible refine LH.x_bm ?_
  | with_reducible refine LH.x_drop ?_
  | with_reducible refine LH.x_next ?_
  | with_reducible refine LH.x_cont ?_
  | with_reducible refine LH.x_un ?_
  | with_reducible refine LH.x_U ?_
  | with_reducible refine LH.x_eq (by with_unfolding_all exact rfl) ?_
  | with_reducible refine LH.x_ne (by with_unfolding_all exact rfl) ?_
  | with_reducible refine LH.x_andV ?_
  | with_reducible refine LH.x_orV ?_
  | with_reducible refine LH.x_notV ?_
  | with_reducible refine LH.band ?_
  | with_reducible refine LH.bor ?_
  | with_reducible refine LH.x_if ?_
  | with_reducible refine LH.x_chain ?_
  | with_reducible refine LH.chk ?_
  | with_reducible refine LH.x_callS ?_
  | with_reducible refine LH.x_callE ?_
  | with_reducible refine LH.x_callV ?_
  | with_reducible refine LH.x_lrg ?_
  | with_reducible refine LH.x_lcS ?_
  | with_reducible refine LH.x_lcR1 ?_
  | with_reducible refine LH.strv ?_
  | with_reducible refine LH.x_yes ?_
  | with_reducible refine LH.x_sl ?_
  | with_reducible refine LH.x_noPart ?_
  | with_reducible refine LH.x_part ?_
  | with_reducible refine LH.pav ?_
  | with_reducible refine LH.x_jnv ?_
  | with_reducible refine LH.x_join ?_
  | with_reducible refine LH.x_inS ?_
  | with_reducible refine LH.x_niS ?_
  | with_reducible refine LH.x_isB ?_
  | with_reducible refine LH.x_isnB ?_
  | with_reducible refine LH.x_gcons ?_
  | with_reducible refine LH.x_gnil ?_
  | with_reducible refine LH.x_intB ?_
  | with_reducible refine LH.x_orT ?_
  | with_reducible refine LH.x_isTy ?_
  | with_reducible refine LH.x_niTy ?_
  | with_reducible refine LH.x_split ?_
  | with_reducible refine LH.x_spv ?_
  | with_reducible refine LH.x_gsub ?_
  | with_reducible refine LH.x_fmt ?_
  | with_reducible refine LH.x_js0 ?_
  | with_reducible refine LH.x_js ?_
  | with_reducible refine LH.x_rg1 ?_
  | with_reducible refine LH.x_abs ?_
  | with_reducible refine LH.x_rg2 ?_
  | with_reducible refine LH.rg1v ?_
  | with_reducible refine LH.rg2v ?_
  | with_reducible refine LH.x_lenSetG ?_
  | with_reducible refine LH.x_lc ?_
  | with_reducible refine LH.x_fld ?_
  | with_reducible refine LH.x_sfld ?_
  | with_reducible refine LH.x_afld ?_
  | with_reducible refine LH.x_meth ?_
  | with_reducible refine LH.x_make ?_
  | with_reducible refine LH.x_methSl ?_
  | with_reducible refine LH.x_makeSl ?_
  | with_reducible refine LH.x_din ?_
  | with_reducible refine LH.x_dni ?_
  | with_reducible refine LH.x_dget ?_
  | with_reducible refine LH.x_dput ?_
  | with_reducible refine LH.x_dget2 ?_
  | with_reducible refine LH.x_dpop1 ?_
  | with_reducible refine LH.x_litems ?_
  | with_reducible refine LH.br_nt ?_
  | with_reducible refine LH.br_nf ?_
  | with_reducible refine LH.br_t ?_
  | with_reducible refine LH.br_f ?_)
local macro_rules | `(tactic| walk_at "rs") => `(tactic| repeat (walk_at "rs1"))

section
variable {P : Program} {w : World} {K : PySem.W.Frag} {mg : Str → Option Value} {base : Heap} {a : Ad}
def spLaw (K : PySem.W.Frag) : Sp := fun vs H Q _ => ∃ (q : Addr) (ns : List Int), vs = [.ref q] ∧ SqL K H q (ns.map V.int) ∧ ns.length ≤ 63 ∧ ∀ H', Q (.bl true) H'
/-- what holds between two deeds: h the held list, posts and rows by p, d, r and p', d', r' -/
structure Wd (K : PySem.W.Frag) (C : Addr) (H : Hp) (L R h p d r p' d' r' : Addr) (rows rows' : List Row) (held : List V) (n : Nat) : Prop where
  nd : [h, p, d, r, p', d', r'].Nodup
  nL : L ∉ [h, p, d, r, p', d', r']
  nR : R ∉ [h, p, d, r, p', d', r']
  gL : H L = some (.lst [.ref p, .ref p'])
  gR : H R = some (.lst [.ref r, .ref r'])
  s : PostAt C H p d rows.length (kvs rows)
  s' : PostAt C H p' d' rows'.length (kvs rows')
  gr : H r = some (.lst (rows.map vR))
  gr' : H r' = some (.lst (rows'.map vR))
  gh : H h = some (.lst held)
  ok : RG K (LH.Fr [h, p, d, r, p', d', r'] H) rows
  ok' : RG K (LH.Fr [h, p, d, r, p', d', r'] H) rows'
  hl : ∀ v ∈ held, HeldOk K (LH.Fr [h, p, d, r, p', d', r'] H) v
  l : rows.length ≤ n
  l' : rows'.length ≤ n
  lh : held.length ≤ 2 * n
theorem Wd.alive {C H L R h p d r p' d' r' rows rows' held n} (W : Wd K C H L R h p d r p' d' r' rows rows' held n) : ∀ b ∈ [h, p, d, r, p', d', r'], ∃ o, H b = some o := by
  intro b hb
  simp only [List.mem_cons, List.not_mem_nil, or_false] at hb
  rcases hb with rfl | rfl | rfl | rfl | rfl | rfl | rfl
  · exact ⟨_, W.gh⟩
  · exact ⟨_, W.s.ob.choose_spec⟩
  · exact ⟨_, W.s.dc⟩
  · exact ⟨_, W.gr⟩
  · exact ⟨_, W.s'.ob.choose_spec⟩
  · exact ⟨_, W.s'.dc⟩
  · exact ⟨_, W.gr'⟩
theorem Wd.same {C H H' L R h p d r p' d' r' rows rows' held n} (W : Wd K C H L R h p d r p' d' r' rows rows' held n) (e : Same H H') : Wd K C H' L R h p d r p' d' r' rows rows' held n :=
  ⟨W.nd, W.nL, W.nR, e _ _ W.gL, e _ _ W.gR, W.s.same e, W.s'.same e, e _ _ W.gr, e _ _ W.gr', e _ _ W.gh, W.ok.up (LH.same_fr e), W.ok'.up (LH.same_fr e), fun v hv => (W.hl v hv).up (LH.same_fr e), W.l, W.l', W.lh⟩
/-- behind a deed with the first post -/
theorem Wd.deed {C H H' L R h p d r p' d' r' rows rows' rows2 held n} (W : Wd K C H L R h p d r p' d' r' rows rows' held n) (k : LH.Ks [p, d, r] H H') (s : PostAt C H' p d (rows2 : List Row).length (kvs rows2)) (g : H' r = some (.lst (rows2.map vR))) (l : rows2.length ≤ rows.length + 1)
    (ok : RG K (LH.Fr [h, p, d, r, p', d', r'] H') rows2) : Wd K C H' L R h p d r p' d' r' rows2 rows' held (n + 1) := by
  have nd := W.nd
  have nL := W.nL
  have nR := W.nR
  simp only [List.nodup_cons, List.mem_cons, List.not_mem_nil, or_false, not_or, List.nodup_nil, and_true] at nd nL nR
  have kM : LH.Ks [h, p, d, r, p', d', r'] H H' := k.sub (by simp)
  have f := kM.fr
  refine ⟨W.nd, W.nL, W.nR, k _ _ W.gL ?_, k _ _ W.gR ?_, s, W.s'.keep k ?_ ?_, g, k _ _ W.gr' ?_, k _ _ W.gh ?_, ok, W.ok'.up f, fun v hv => (W.hl v hv).up f, by have := W.l; omega, by have := W.l'; omega, by have := W.lh; omega⟩
  all_goals
    simp only [List.mem_cons, List.not_mem_nil, or_false, not_or]
    refine ⟨?_, ?_, ?_⟩
    all_goals (intro e; subst e; simp_all)
/-- the second post first -/
theorem Wd.swap {C H L R h p d r p' d' r' rows rows' held n} (W : Wd K C H L R h p d r p' d' r' rows rows' held n) : ∀ b, b ∈ [h, p', d', r', p, d, r] ↔ b ∈ [h, p, d, r, p', d', r'] := by
  intro b
  simp only [List.mem_cons, List.not_mem_nil, or_false]
  constructor <;> (intro h; rcases h with h | h | h | h | h | h | h <;> simp [h])
theorem fr_swap {h p d r p' d' r' : Addr} {H : Hp} : LH.Fr [h, p', d', r', p, d, r] H = LH.Fr [h, p, d, r, p', d', r'] H := by
  funext b
  unfold LH.Fr
  have e : b ∈ [h, p', d', r', p, d, r] ↔ b ∈ [h, p, d, r, p', d', r'] := by
    simp only [List.mem_cons, List.not_mem_nil, or_false]
    constructor <;> (intro h; rcases h with h | h | h | h | h | h | h <;> simp [h])
  by_cases c : b ∈ [h, p, d, r, p', d', r']
  · rw [if_pos c, if_pos (e.mpr c)]
  · rw [if_neg c, if_neg fun q => c (e.mp q)]
theorem Wd.deed' {C H H' L R h p d r p' d' r' rows rows' rows2 held n} (W : Wd K C H L R h p d r p' d' r' rows rows' held n) (k : LH.Ks [p', d', r'] H H') (s : PostAt C H' p' d' (rows2 : List Row).length (kvs rows2)) (g : H' r' = some (.lst (rows2.map vR))) (l : rows2.length ≤ rows'.length + 1)
    (ok : RG K (LH.Fr [h, p, d, r, p', d', r'] H') rows2) : Wd K C H' L R h p d r p' d' r' rows rows2 held (n + 1) := by
  have nd := W.nd
  have nL := W.nL
  have nR := W.nR
  simp only [List.nodup_cons, List.mem_cons, List.not_mem_nil, or_false, not_or, List.nodup_nil, and_true] at nd nL nR
  have kM : LH.Ks [h, p, d, r, p', d', r'] H H' := k.sub (by simp)
  have f := kM.fr
  refine ⟨W.nd, W.nL, W.nR, k _ _ W.gL ?_, k _ _ W.gR ?_, W.s.keep k ?_ ?_, s, k _ _ W.gr ?_, g, k _ _ W.gh ?_, W.ok.up f, ok, fun v hv => (W.hl v hv).up f, by have := W.l; omega, by have := W.l'; omega, by have := W.lh; omega⟩
  all_goals
    simp only [List.mem_cons, List.not_mem_nil, or_false, not_or]
    refine ⟨?_, ?_, ?_⟩
    all_goals (intro e; subst e; simp_all)
/-- one more that is held -/
theorem Wd.held {C H H' L R h p d r p' d' r' rows rows' held n v m} (W : Wd K C H L R h p d r p' d' r' rows rows' held n) (k : LH.Ks [h] H H') (g : H' h = some (.lst (held ++ [v]))) (ok : HeldOk K (LH.Fr [h, p, d, r, p', d', r'] H') v) (lm : held.length + 1 ≤ 2 * m) (nm : n ≤ m) :
    Wd K C H' L R h p d r p' d' r' rows rows' (held ++ [v]) m := by
  have nd := W.nd
  have nL := W.nL
  have nR := W.nR
  simp only [List.nodup_cons, List.mem_cons, List.not_mem_nil, or_false, not_or, List.nodup_nil, and_true] at nd nL nR
  have kM : LH.Ks [h, p, d, r, p', d', r'] H H' := k.sub (by simp)
  have f := kM.fr
  refine ⟨W.nd, W.nL, W.nR, k _ _ W.gL ?_, k _ _ W.gR ?_, W.s.keep k ?_ ?_, W.s'.keep k ?_ ?_, k _ _ W.gr ?_, k _ _ W.gr' ?_, g, W.ok.up f, W.ok'.up f, fun u hu => ?_, by have := W.l; omega, by have := W.l'; omega, by rw [List.length_append]; exact lm⟩
  all_goals first
    | (rcases List.mem_append.mp hu with hu | hu
       · exact (W.hl u hu).up f
       · rw [List.mem_singleton.mp hu]; exact ok)
    | (simp only [List.mem_cons, List.not_mem_nil, or_false]; intro e; subst e; simp_all)
end
end K8
namespace K8
open PySem L2
local macro_rules | `(tactic| walk_at "rd1") => `(tactic| first
  | with_reducible refine LH.x_seq ?_
  | with_reducible refine LH.x_asg ?_
  | with_reducible refine LH.x_cons ?_
  | with_reducible refine LH.x_var (by with_unfolding_all exact rfl) ?_
  | with_reducible refine LH.x_c ?_
  | with_reducible refine LH.x_op ?_
  | with_reducible refine LH.x_gname ?_
  | with_reducible refine LH.x_nil ?_
  | with_reducible refine LH.x_I0 ?_
  | ((with_reducible refine LH.x_I ?k1 ?_); (case k1 => first | exact (by decide) | exact ⟨by decide, by decide⟩ | exact ⟨by decide, by decide, by decide⟩ | exact .inl ⟨by decide, by decide⟩ | exact .inr ⟨by decide, by decide⟩ | exact .inr ⟨by omega, by omega⟩ | exact .inl ⟨by omega, by omega⟩ | exact (by omega)))
  | with_reducible refine LH.x_ifS ?_
  | with_reducible refine LH.x_test ?_
  | with_reducible refine LH.x_tB ?_
  | with_reducible refine LH.bx ?_
  | with_reducible refine LH.x_and ?_
  | with_reducible refine LH.x_or ?_
  | with_reducible refine LH.x_not ?_
  | with_reducible refine LH.x_ret ?_
  | with_reducible refine LH.x_call ?_
  | with_reducible refine LH.x_cb ?_
  | with_reducible refine LH.x_lst ?_
  | with_reducible refine LH.x_tup ?_
  | with_reducible refine LH.x_bm ?_
  | with_reducible refine LH.x_drop ?_
  | with_reducible refine LH.x_next ?_
  | with_reducible refine LH.x_cont ?_
  | with_reducible refine LH.x_un ?_
  | with_reducible refine LH.x_U ?_
  | with_reducible refine LH.x_eq (by with_unfolding_all exact rfl) ?_
  | with_reducible refine LH.x_ne (by with_unfolding_all exact rfl) ?_
  | with_reducible refine LH.x_andV ?_
  | with_reducible refine LH.x_orV ?_
  | with_reducible refine LH.x_notV ?_
  | with_reducible refine LH.band ?_
  | with_reducible refine LH.bor ?_
  | with_reducible refine LH.x_if ?_
  | with_reducible refine LH.x_chain ?_
  | with_reducible refine LH.chk ?_
  | with_reducible refine LH.x_callS ?_
  | with_reducible refine LH.x_callE ?_
  | with_reducible refine LH.x_callV ?_
  | with_reducible refine LH.x_lrg ?_
  | with_reducible refine LH.x_lcS ?_
  | with_reducible refine LH.x_lcR1 ?_
  | with_reducible refine LH.x_forR1 ?_
  | with_reducible refine LH.x_forR3 ?_
  | with_reducible refine LH.strv ?_
  | with_reducible refine LH.x_yes ?_
  | with_reducible refine LH.x_sl ?_
  | with_reducible refine LH.x_noPart ?_
  | with_reducible refine LH.x_part ?_
  | with_reducible refine LH.pav ?_
  | with_reducible refine LH.x_jnv ?_
  | with_reducible refine LH.x_join ?_
  | with_reducible refine LH.x_inS ?_
  | with_reducible refine LH.x_niS ?_
  | with_reducible refine LH.x_isB ?_
  | with_reducible refine LH.x_isnB ?_
  | with_reducible refine LH.x_gcons ?_
  | with_reducible refine LH.x_gnil ?_
  | with_reducible refine LH.x_intB ?_
  | with_reducible refine LH.x_orT ?_
  | with_reducible refine LH.x_isTy ?_
  | with_reducible refine LH.x_niTy ?_
  | with_reducible refine LH.x_split ?_
  | with_reducible refine LH.x_spv ?_
  | with_reducible refine LH.x_gsub ?_
  | with_reducible refine LH.x_fmt ?_
  | with_reducible refine LH.x_js0 ?_
  | with_reducible refine LH.x_js ?_
  | with_reducible refine LH.x_rg1 ?_
  | with_reducible refine LH.x_forL ?_
  | with_reducible refine LH.x_abs ?_
  | with_reducible refine LH.x_rg2 ?_
  | with_reducible refine LH.rg1v ?_
  | with_reducible refine LH.rg2v ?_
  | with_reducible refine LH.x_forR2 ?_
  | with_reducible refine LH.x_lenSetG ?_
  | with_reducible refine LH.x_lc ?_
  | with_reducible refine LH.x_fld ?_
  | with_reducible refine LH.x_sfld ?_
  | with_reducible refine LH.x_afld ?_
  | with_reducible refine LH.x_meth ?_
  | with_reducible refine LH.x_make ?_
  | with_reducible refine LH.x_methSl ?_
  | with_reducible refine LH.x_makeSl ?_
  | with_reducible refine LH.x_din ?_
  | with_reducible refine LH.x_dni ?_
  | with_reducible refine LH.x_dget ?_
  | with_reducible refine LH.x_dput ?_
  | with_reducible refine LH.x_dget2 ?_
  | with_reducible refine LH.x_dpop1 ?_
  | with_reducible refine LH.x_litems ?_
  | with_reducible refine LH.br_nt ?_
  | with_reducible refine LH.br_nf ?_
  | with_reducible refine LH.br_t ?_
  | with_reducible refine LH.br_f ?_)
local macro_rules | `(tactic| walk_at "rd") => `(tactic| repeat (walk_at "rd1"))
local macro_rules | `(tactic| walk_at "rs1") => `(tactic| first
  | with_reducible refine LH.x_seq ?_
  | with_reducible refine LH.x_cons ?_
  | with_reducible refine LH.x_var (by with_unfolding_all exact rfl) ?_
  | with_reducible refine LH.x_c ?_
  | with_reducible refine LH.x_op ?_
  | with_reducible refine LH.x_gname ?_
  | with_reducible refine LH.x_nil ?_
  | with_reducible refine LH.x_I0 ?_
  | ((with_reducible refine LH.x_I ?k1 ?_); (case k1 => first | exact (by decide) | exact ⟨by decide, by decide⟩ | exact ⟨by decide, by decide, by decide⟩ | exact .inl ⟨by decide, by decide⟩ | exact .inr ⟨by decide, by decide⟩ | exact .inr ⟨by omega, by omega⟩ | exact .inl ⟨by omega, by omega⟩ | exact (by omega)))
  | with_reducible refine LH.x_test ?_
  | with_reducible refine LH.x_tB ?_
  | with_reducible refine LH.bx ?_
  | with_reducible refine LH.x_and ?_
  | with_reducible refine LH.x_or ?_
  | with_reducible refine LH.x_not ?_
  | with_reducible refine LH.x_call ?_
  | with_reducible refine LH.x_cb ?_
  | with_reducible refine LH.x_lst ?_
  | with_reducible refine LH.x_tup ?_
  | with_reducible refine LH.x_bm ?_
  | with_reducible refine LH.x_drop ?_
  | with_reducible refine LH.x_next ?_
  | with_reducible refine LH.x_cont ?_
  | with_reducible refine LH.x_un ?_
  | with_reducible refine LH.x_U ?_
  | with_reducible refine LH.x_eq (by with_unfolding_all exact rfl) ?_
  | with_reducible refine LH.x_ne (by with_unfolding_all exact rfl) ?_
  | with_reducible refine LH.x_andV ?_
  | with_reducible refine LH.x_orV ?_
  | with_reducible refine LH.x_notV ?_
  | with_reducible refine LH.band ?_
  | with_reducible refine LH.bor ?_
  | with_reducible refine LH.x_if ?_
  | with_reducible refine LH.x_chain ?_
  | with_reducible refine LH.chk ?_
  | with_reducible refine LH.x_callS ?_
  | with_reducible refine LH.x_callE ?_
  | with_reducible refine LH.x_callV ?_
  | with_reducible refine LH.x_lrg ?_
  | with_reducible refine LH.x_lcS ?_
  | with_reducible refine LH.x_lcR1 ?_
  | with_reducible refine LH.strv ?_
  | with_reducible refine LH.x_yes ?_
  | with_reducible refine LH.x_sl ?_
  | with_reducible refine LH.x_noPart ?_
  | with_reducible refine LH.x_part ?_
  | with_reducible refine LH.pav ?_
  | with_reducible refine LH.x_jnv ?_
  | with_reducible refine LH.x_join ?_
  | with_reducible refine LH.x_inS ?_
  | with_reducible refine LH.x_niS ?_
  | with_reducible refine LH.x_isB ?_
  | with_reducible refine LH.x_isnB ?_
  | with_reducible refine LH.x_gcons ?_
  | with_reducible refine LH.x_gnil ?_
  | with_reducible refine LH.x_intB ?_
  | with_reducible refine LH.x_orT ?_
  | with_reducible refine LH.x_isTy ?_
  | with_reducible refine LH.x_niTy ?_
  | with_reducible refine LH.x_split ?_
  | with_reducible refine LH.x_spv ?_
  | with_reducible refine LH.x_gsub ?_
  | with_reducible refine LH.x_fmt ?_
  | with_reducible refine LH.x_js0 ?_
  | with_reducible refine LH.x_js ?_
  | with_reducible refine LH.x_rg1 ?_
  | with_reducible refine LH.x_abs ?_
  | with_reducible refine LH.x_rg2 ?_
  | with_reducible refine LH.rg1v ?_
  | with_reducible refine LH.rg2v ?_
  | with_reducible refine LH.x_lenSetG ?_
  | with_reducible refine LH.x_lc ?_
  | with_reducible refine LH.x_fld ?_
  | with_reducible refine LH.x_sfld ?_
  | with_reducible refine LH.x_afld ?_
  | with_reducible refine LH.x_meth ?_
  | with_reducible refine LH.x_make ?_
  | with_reducible refine LH.x_methSl ?_
  | with_reducible refine LH.x_makeSl ?_
  | with_reducible refine LH.x_din ?_
  | with_reducible refine LH.x_dni ?_
  | with_reducible refine LH.x_dget ?_
  | with_reducible refine LH.x_dput ?_
  | with_reducible refine LH.x_dget2 ?_
  | with_reducible refine LH.x_dpop1 ?_
  | with_reducible refine LH.x_litems ?_
  | with_reducible refine LH.br_nt ?_
  | with_reducible refine LH.br_nf ?_
  | with_reducible refine LH.br_t ?_
  | with_reducible refine LH.br_f ?_)
local macro_rules | `(tactic| walk_at "rs") => `(tactic| repeat (walk_at "rs1"))

section
variable {P : Program} {w : World} {K : PySem.W.Frag} {mg : Str → Option Value} {base : Heap} {a : Ad}
theorem HeldOk.split {H : Hp} {v : V} (h : HeldOk K H v) : ∃ t f c D, v = .ref t ∧ H t = some (.tup [f, c]) ∧ Dp K H f D ∧ Dp K H c D ∧ SeqAt.shaped D = true ∧ PyData.eqv D D = true := by
  obtain ⟨t, f, c, D, e1, h1, h2, h3, h4⟩ := h
  refine ⟨t, f, c, D, e1, h1, h2, h3, h4, SeqAt.eqv_refl _ ?_⟩
  unfold SeqAt.shaped at h4
  rw [Bool.and_eq_true] at h4
  exact h4.1
theorem cut_int {ns : List Int} {lo hi : Option Int} {x : V} (h : x ∈ cutV (ns.map V.int) lo hi) : ∃ i, x = .int i := by
  unfold cutV at h
  have := List.mem_of_mem_drop (List.mem_of_mem_take h)
  obtain ⟨i, _, e⟩ := List.mem_map.mp this
  exact ⟨i, e.symm⟩
theorem cut_len {xs : List V} {lo hi : Option Int} : (cutV xs lo hi).length ≤ xs.length := by
  unfold cutV
  rw [List.length_take, List.length_drop]
  omega
theorem ok_law (T : Txt K mg a) : FnOk P w K mg base CX0 4 a.law a.d_law ["_law_script"] (spLaw K) := by
  have G_Post___init__ := ok_Post___init__ (P := P) (w := w) (base := base) T
  have G_Post_send := ok_Post_send (P := P) (w := w) (base := base) T
  have G_Post_waiting := ok_Post_waiting (P := P) (w := w) (base := base) T
  have G__law_brought := ok__law_brought (P := P) (w := w) (base := base) T
  have G__law_deed := ok__law_deed (P := P) (w := w) (base := base) T
  have G__law_waits := ok__law_waits (P := P) (w := w) (base := base) T
  refine T.F_law.ok sc_law (fun vs H Q E h => ?_) (fun cdv A outer s H vs Q E hr h => ?_)
  · obtain ⟨q, ns, rfl, _⟩ := h
    rfl
  · obtain ⟨q, ns, rfl, hq, hn, k⟩ := h
    have HR_Post_send : Room 1 _ := hr.mono (by decide)
    have HR_Post_waiting : Room 1 _ := hr.mono (by decide)
    have HR__law_brought : Room 2 _ := hr.mono (by decide)
    have HR__law_deed : Room 3 _ := hr.mono (by decide)
    have HR__law_waits : Room 2 _ := hr.mono (by decide)
    have HRM_Post : Room 2 _ := hr.mono (by decide)
    refine ⟨_, (pss_cons (ps_set (i := 1) sc_law.nd rfl (Or.inl rfl) (pe_lst (pa_cons (pe_make0 T.mk_Post G_Post___init__ HRM_Post rfl T.g_Post T.b_Post___init__ .nil pass0) (pa_cons (pe_make0 T.mk_Post G_Post___init__ HRM_Post rfl T.g_Post T.b_Post___init__ .nil pass0) pa_nil))))
  (pss_cons (ps_set (i := 2) sc_law.nd rfl (Or.inl rfl) (pe_lst (pa_cons (pe_lst pa_nil) (pa_cons (pe_lst pa_nil) pa_nil))))
  (pss_cons (ps_set (i := 3) sc_law.nd rfl (Or.inl rfl) (pe_lst pa_nil))
  (pss_cons (ps_for PassesOwn.never rfl (pi_list (pe_slice sl_list (pv 0) po_none (po_some pe_int))) (pg_name (i := 4) sc_law.nd rfl (Or.inl rfl))
    (pss_cons (ps_set (i := 5) sc_law.nd rfl (Or.inl rfl) (pe_callTy LH.call_intB rfl T.n_int (by decide +kernel) (pa_cons (pe_cmpR op_eq (pe_op op_mod (pe_callB LH.call_absI rfl T.n_abs (by decide +kernel) (pa_cons (pv 4) pa_nil)) pe_int) pe_int (nomark _)) pa_nil)))
    (pss_cons (ps_if (pt_not (pt_val (pe_call G__law_deed HR__law_deed rfl T.g__law_deed T.F__law_deed.kp T.b__law_deed .nil pass0 (pa_cons (pe_ix (r := rIxL K) ix_list (pv 1) (pv 5) (fun _ _ => rfl)) (pa_cons (pe_ix (r := rIxL K) ix_list (pv 2) (pv 5) (fun _ _ => rfl)) (pa_cons (pe_op op_fdiv (pe_callB LH.call_absI rfl T.n_abs (by decide +kernel) (pa_cons (pv 4) pa_nil)) pe_int) pa_nil))))))
      (pss_one (ps_ret pe_bl))
      pss_nil)
    (pss_cons (ps_for PassesOwn.never rfl (pi_range1 rfl T.n_range (pa_cons pe_int pa_nil)) (pg_name (i := 6) sc_law.nd rfl (Or.inl rfl))
      (pss_one (ps_if (pt_not (pt_val (pe_call G__law_waits HR__law_waits rfl T.g__law_waits T.F__law_waits.kp T.b__law_waits .nil pass0 (pa_cons (pe_ix (r := rIxL K) ix_list (pv 1) (pv 6) (fun _ _ => rfl)) (pa_cons (pe_ix (r := rIxL K) ix_list (pv 2) (pv 6) (fun _ _ => rfl)) (pa_cons (pv 3) pa_nil))))))
        (pss_one (ps_ret pe_bl))
        pss_nil)))
    (pss_one (ps_if (pt_cmpR op_eq (pe_op op_mod (pv 4) pe_int) pe_int (nomark _))
      (pss_one (ps_expr (pe_bm PySem.F.plainAttrs_list PySem.F.slot_list_append PySem.F.type_list_append mt_append (pe_meth0 (pe_ix (r := rIxL K) ix_list (pv 1) (pv 5) (fun _ _ => rfl)) T.cl_Post T.me_Post_waiting G_Post_waiting HR_Post_waiting T.b_Post_waiting .nil pass0) (pa_cons pe_non pa_nil))))
      pss_nil))))))
  (pss_cons (ps_set (i := 7) sc_law.nd rfl (Or.inl rfl) (pe_callB (r := LH.rLen K) LH.call_len rfl T.n_len (by decide +kernel) (pa_cons (pe_ix (r := rIxL K) ix_list (pv 2) pe_int (fun _ _ => rfl)) pa_nil)))
  (pss_cons (ps_set (i := 8) sc_law.nd rfl (Or.inl rfl) (pe_tup (pa_cons pe_int (pa_cons pe_int (pa_cons (pe_tup (pa_cons pe_str (pa_cons pe_int (pa_cons pe_str (pa_cons pe_int pa_nil))))) pa_nil)))))
  (pss_cons (ps_if (PW.pt (pw_or (pt_cmpR (r := rNeD K) (op_neD hr.units) (pe_call G__law_brought HR__law_brought rfl T.g__law_brought T.F__law_brought.kp T.b__law_brought .nil pass0 (pa_cons (pe_ix (r := rIxL K) ix_list (pv 1) pe_int (fun _ _ => rfl)) (pa_cons (pv 7) pa_nil))) (pe_tup (pa_cons pe_str pa_nil)) (nomark _)) (pw_or1 (pt_cmpR op_ne (pe_meth (pe_ix (r := rIxL K) ix_list (pv 1) pe_int (fun _ _ => rfl)) T.cl_Post T.me_Post_send G_Post_send HR_Post_send T.b_Post_send .nil pass0 (pa_cons (pv 8) pa_nil)) (pv 7) (nomark _)))))
    (pss_one (ps_ret pe_bl))
    pss_nil)
  (pss_cons (ps_if (PW.pt (pw_or (pt_cmpR (r := rNeD K) (op_neD hr.units) (pe_call G__law_brought HR__law_brought rfl T.g__law_brought T.F__law_brought.kp T.b__law_brought .nil pass0 (pa_cons (pe_ix (r := rIxL K) ix_list (pv 1) pe_int (fun _ _ => rfl)) (pa_cons (pv 7) pa_nil))) (pe_lst (pa_cons (pv 8) pa_nil)) (nomark _)) (pw_or1 (pt_cmpR (r := rNeD K) (op_neD hr.units) (pe_call G__law_brought HR__law_brought rfl T.g__law_brought T.F__law_brought.kp T.b__law_brought .nil pass0 (pa_cons (pe_ix (r := rIxL K) ix_list (pv 1) pe_int (fun _ _ => rfl)) (pa_cons (pv 7) pa_nil))) (pe_tup (pa_cons pe_str pa_nil)) (nomark _)))))
    (pss_one (ps_ret pe_bl))
    pss_nil)
  (pss_one (ps_ret (pe_cmpR (r := rEqD K) (op_eqD hr.units) (pe_lc (own := [("_law_pair", 9)]) (g := gName 9) rfl sc_law.nd (pi_list (pv 3)) (blkOk_by (N := N_law) (sc := defScope s_law) (by decide +kernel)) (fun _ _ _ _ _ => pg_name (i := 9) sc_law.nd rfl (Or.inl rfl)) (fun _ _ _ _ _ => (pts_one (pt_cmpR (r := rNeD K) (op_neD hr.units) (pe_ix (r := rIxT K) ix_tup (pv 9) pe_int (fun _ _ => rfl)) (pe_ix (r := rIxT K) ix_tup (pv 9) pe_int (fun _ _ => rfl)) (nomark _)))) (fun _ _ _ _ _ => (pv 9))) (pe_lst pa_nil) (nomark _)))))))))))), ?_⟩
    walk_at "rd"
    -- two posts
    refine LH.makev fun p dx H1 f1 f1' n1 e1 g1 => ?_
    refine ⟨p, dx, rfl, g1, fun d H2 f2 S2 k2 => ⟨rfl, ?_⟩⟩
    walk_at "rd"
    refine LH.makev fun p' dx' H3 f3 f3' n3 e3 g3 => ?_
    refine ⟨p', dx', rfl, g3, fun d' H4 f4 S4 k4 => ⟨rfl, ?_⟩⟩
    walk_at "rd"
    have alive_p : ∃ o, H2 p = some o := S2.ob.elim fun dx h => ⟨_, h⟩
    have pp : p ≠ p' := alive_p.elim fun o h => ne_of_none h f3
    have dp' : d ≠ p' := ne_of_none S2.dc f3
    have s34 : ∀ b o, H2 b = some o → H4 b = some o := fun b o h => k4 _ _ (e3 _ _ h) (by
      rw [List.mem_singleton]
      exact ne_of_none h f3)
    have S24 : PostAt a.Post H4 p d 0 [] := S2.same s34
    have pd' : p ≠ d' := alive_p.elim fun o h => ne_of_none (e3 _ _ h) f4
    have dd' : d ≠ d' := ne_of_none (e3 _ _ S2.dc) f4
    refine LH.newl (LH.small rfl) fun L H5 f5 e5 g5 => ?_
    walk_at "rd"
    refine LH.newl (LH.small rfl) fun r H6 f6 e6 g6 => ?_
    walk_at "rd"
    refine LH.newl (LH.small rfl) fun r' H7 f7 e7 g7 => ?_
    walk_at "rd"
    refine LH.newl (LH.small rfl) fun R H8 f8 e8 g8 => ?_
    walk_at "rd"
    refine LH.newl (LH.small rfl) fun h H9 f9 e9 g9 => ?_
    walk_at "rd"
    have e57 := e6.trans e7
    have e49 := (((e5.trans e6).trans e7).trans e8).trans e9
    have old : Same H H4 := fun b o hb => by
      have hb1 := e1 _ _ hb
      have hb2 := k2 _ _ hb1 (by rw [List.mem_singleton]; exact ne_of_none hb f1)
      exact s34 _ _ hb2
    refine LH.x_slL (Same.seq (old.trans e49) hq) fun z H10 f10 e10 g10 => ?_
    have e410 := e49.trans e10
    -- they all differ
    have W0 : Wd K a.Post H10 L R h p d r p' d' r' [] [] [] 0 := by
      have P0 : PostAt a.Post H10 p d 0 [] := S24.same e410
      have P1 : PostAt a.Post H10 p' d' 0 [] := S4.same e410
      obtain ⟨dx1, a1⟩ := P0.ob
      obtain ⟨dx2, a2⟩ := P1.ob
      have gr := ((e7.trans e8).trans (e9.trans e10)) _ _ g6
      have gr' := ((e8.trans e9).trans e10) _ _ g7
      have gh := e10 _ _ g9
      have gL := ((e57.trans e8).trans (e9.trans e10)) _ _ g5
      have gR := (e9.trans e10) _ _ g8
      have Lr : L ≠ r := ne_of_none g5 f6
      have Lr' : L ≠ r' := ne_of_none (e6 _ _ g5) f7
      have LR : L ≠ R := ne_of_none (e57 _ _ g5) f8
      have Lh : L ≠ h := ne_of_none ((e57.trans e8) _ _ g5) f9
      have rr' : r ≠ r' := ne_of_none g6 f7
      have rR : r ≠ R := ne_of_none (e7 _ _ g6) f8
      have rh : r ≠ h := ne_of_none ((e7.trans e8) _ _ g6) f9
      have r'R : r' ≠ R := ne_of_none g7 f8
      have r'h : r' ≠ h := ne_of_none (e8 _ _ g7) f9
      have Rh : R ≠ h := ne_of_none g8 f9
      have li : ∀ {x y : Addr} {xs : List V} {C dx : Addr} {fs : List (Str × V)}, H10 x = some (.lst xs) → H10 y = some (.ins C dx fs) → x ≠ y := fun h1 h2 => ne_of h1 h2 (by intro z; cases z)
      have ld : ∀ {x y : Addr} {xs : List V} {kv : List (Key × V)}, H10 x = some (.lst xs) → H10 y = some (.dK kv) → x ≠ y := fun h1 h2 => ne_of h1 h2 (by intro z; cases z)
      refine ⟨?_, ?_, ?_, gL, gR, P0, P1, gr, gr', gh, (fun x m => by cases m), (fun x m => by cases m), (fun v m => by cases m), Nat.le_refl _, Nat.le_refl _, Nat.le_refl _⟩
      · simp only [List.nodup_cons, List.mem_cons, List.not_mem_nil, or_false, not_or, List.nodup_nil, and_true]
        exact ⟨⟨li gh a1, ld gh P0.dc, rh.symm, li gh a2, ld gh P1.dc, r'h.symm⟩, ⟨P0.ne, (li gr a1).symm, pp, pd', (li gr' a1).symm⟩, ⟨(ld gr P0.dc).symm, dp', dd', (ld gr' P0.dc).symm⟩, ⟨li gr a2, ld gr P1.dc, rr'⟩, ⟨P1.ne, (li gr' a2).symm⟩, (ld gr' P1.dc).symm, not_false⟩
      · simp only [List.mem_cons, List.not_mem_nil, or_false, not_or]
        exact ⟨Lh, li gL a1, ld gL P0.dc, Lr, li gL a2, ld gL P1.dc, Lr'⟩
      · simp only [List.mem_cons, List.not_mem_nil, or_false, not_or]
        exact ⟨Rh, li gR a1, ld gR P0.dc, rR.symm, li gR a2, ld gR P1.dc, r'R.symm⟩
    have nz : z ∉ [h, p, d, r, p', d', r'] := fun m => by
      obtain ⟨o, ho⟩ : ∃ o, H9 z = some o := by
        have e59 := ((e6.trans e7).trans e8).trans e9
        simp only [List.mem_cons, List.not_mem_nil, or_false] at m
        rcases m with rfl | rfl | rfl | rfl | rfl | rfl | rfl
        · exact ⟨_, g9⟩
        · exact (S24.same e49).ob.elim fun dx h => ⟨_, h⟩
        · exact ⟨_, (S24.same e49).dc⟩
        · exact ⟨_, ((e7.trans e8).trans e9) _ _ g6⟩
        · exact (S4.same e49).ob.elim fun dx h => ⟨_, h⟩
        · exact ⟨_, (S4.same e49).dc⟩
        · exact ⟨_, (e8.trans e9) _ _ g7⟩
      rw [f10] at ho
      cases ho
    have cl : (cutV (ns.map V.int) none (some 60)).length ≤ 63 := Nat.le_trans cut_len (by rw [List.length_map]; exact hn)
    refine LH.for_L (SqL.of g10) (fun i σ H' => (∃ v4 v5 v6, σ = [some (.ref q), some (.ref L), some (.ref R), some (.ref h), v4, v5, v6, none, none, none]) ∧ H' z = some (.lst (cutV (ns.map V.int) none (some 60))) ∧ ∃ rows rows' held, Wd K a.Post H' L R h p d r p' d' r' rows rows' held i)
      ⟨⟨_, _, _, rfl⟩, g10, [], [], [], W0⟩ (fun i σ H' _ p => SqL.of p.2.1) ?_ ?_
    · rintro i x σ Ha hx ⟨⟨v4, v5, v6, rfl⟩, gz, rows, rows', held, W⟩
      obtain ⟨c, rfl⟩ := cut_int (List.mem_of_getElem? hx)
      have hi : i < 63 := Nat.lt_of_lt_of_le (List.getElem?_eq_some_iff.mp hx).1 cl
      walk_at "rs"
      refine LH.x_asg ?_
      refine LH.cut (fun y H1 => (y = .int 0 ∨ y = .int 1) ∧ Ha = H1) (fun Q hQ => ?_) ?_
      · walk_at "rd"
        refine hQ _ _ ⟨?_, rfl⟩
        cases decide (V.int ((if c < 0 then -c else c) % 5) = V.int 4)
        · exact .inl rfl
        · exact .inr rfl
      rintro y _ ⟨hy, rfl⟩
      walk_at "rs"
      refine LH.cutS (fun σ' H' => σ' = [some (.ref q), some (.ref L), some (.ref R), some (.ref h), some (.int c), some y, v6, none, none, none] ∧ H' z = some (.lst (cutV (ns.map V.int) none (some 60))) ∧ ∃ rows rows', Wd K a.Post H' L R h p d r p' d' r' rows rows' held (i + 1)) (fun N hN => ?_) ?_
      · rcases hy with rfl | rfl
        · walk_at "rd"
          refine LH.x_ixL (v := .ref p) (SqL.of W.gL) rfl ?_
          walk_at "rd"
          refine LH.x_ixL (v := .ref r) (SqL.of W.gR) rfl ?_
          walk_at "rd"
          refine ⟨p, d, r, rows, _, _, rfl, W.s, W.gr, by have := W.l; omega, ?_, ?_, ?_, W.alive, W.ok, fun Hb rows2 ks s2 g2 l2 ok2 => ?_⟩
          · simp
          · simp
          · simp
          walk_at "rd"
          exact hN _ _ ⟨rfl, ks _ _ gz (fun m => nz (by revert m; simp; rintro (rfl | rfl | rfl) <;> simp)), _, _, W.deed ks s2 g2 l2 ok2⟩
        · walk_at "rd"
          refine LH.x_ixL (v := .ref p') (SqL.of W.gL) rfl ?_
          walk_at "rd"
          refine LH.x_ixL (v := .ref r') (SqL.of W.gR) rfl ?_
          walk_at "rd"
          refine ⟨p', d', r', rows', _, _, rfl, W.s', W.gr', by have := W.l'; omega, ?_, ?_, ?_, W.alive, W.ok', fun Hb rows2 ks s2 g2 l2 ok2 => ?_⟩
          · simp
          · simp
          · simp
          walk_at "rd"
          exact hN _ _ ⟨rfl, ks _ _ gz (fun m => nz (by revert m; simp; rintro (rfl | rfl | rfl) <;> simp)), _, _, W.deed' ks s2 g2 l2 ok2⟩
      · rintro σ' Hb ⟨rfl, gz2, rows2, rows2', W2⟩
        walk_at "rd"
        refine LH.rn1v (by decide) (by decide) ?_
        refine LH.for_R1 (fun j σ H' => (∃ v6, σ = [some (.ref q), some (.ref L), some (.ref R), some (.ref h), some (.int c), some y, v6, none, none, none]) ∧ H' z = some (.lst (cutV (ns.map V.int) none (some 60))) ∧ ∃ held, held.length ≤ 2 * i + j ∧ Wd K a.Post H' L R h p d r p' d' r' rows2 rows2' held (i + 1))
          ⟨⟨_, rfl⟩, gz2, held, W.lh, W2⟩ ?_ ?_
        · rintro j σ Hc hj ⟨⟨v6', rfl⟩, gz3, held3, lh3, W3⟩
          have hnot : z ∉ [h] := fun m => nz (by rw [List.mem_singleton.mp m]; simp)
          have nd := W3.nd
          have hr1 : h ≠ r := fun e => by subst e; simp at nd
          have hr2 : h ≠ r' := fun e => by subst e; simp at nd
          have hj2 : j = 0 ∨ j = 1 := by
            have : j < 2 := hj
            omega
          rcases hj2 with rfl | rfl
          · walk_at "rd"
            refine LH.x_ixL (v := .ref p) (SqL.of W3.gL) rfl ?_
            walk_at "rd"
            refine LH.x_ixL (v := .ref r) (SqL.of W3.gR) rfl ?_
            walk_at "rd"
            refine ⟨p, d, r, h, rows2, held3, _, rfl, W3.s, W3.gr, by have := W3.l; omega, W3.gh, by omega, ?_, hr1, ?_, W3.alive, W3.ok, fun Hd v ks gd okv => ?_⟩
            · simp
            · simp
            walk_at "rd"
            exact ⟨⟨_, rfl⟩, ks _ _ gz3 hnot, _, by rw [List.length_append]; simp only [List.length_cons, List.length_nil]; omega, W3.held ks gd okv (by omega) (Nat.le_refl _)⟩
          · walk_at "rd"
            refine LH.x_ixL (v := .ref p') (SqL.of W3.gL) rfl ?_
            walk_at "rd"
            refine LH.x_ixL (v := .ref r') (SqL.of W3.gR) rfl ?_
            walk_at "rd"
            refine ⟨p', d', r', h, rows2', held3, _, rfl, W3.s', W3.gr', by have := W3.l'; omega, W3.gh, by omega, ?_, hr2, ?_, W3.alive, W3.ok', fun Hd v ks gd okv => ?_⟩
            · simp
            · simp
            walk_at "rd"
            exact ⟨⟨_, rfl⟩, ks _ _ gz3 hnot, _, by rw [List.length_append]; simp only [List.length_cons, List.length_nil]; omega, W3.held ks gd okv (by omega) (Nat.le_refl _)⟩
        · rintro σ Hc ⟨⟨v6', rfl⟩, gz3, held3, lh3, W3⟩
          walk_at "rd"
          refine LH.br_d (fun c3 => ?_) (fun c3 => ?_)
          · walk_at "rd"
            rcases hy with rfl | rfl
            · refine LH.x_ixL (v := .ref p) (SqL.of W3.gL) rfl ?_
              obtain ⟨dx1, a1⟩ := W3.s.ob
              refine LH.methv a1 rfl ?_
              walk_at "rd"
              refine ⟨p, d, _, _, rfl, W3.s, fun y H1 ts e1 f1 ft g1 pr => ?_⟩
              refine LH.bm_l (SqL.of g1) ?_
              walk_at "rd"
              refine LH.x_appK g1 (by rw [List.length_map]; have := LH.Paired.len pr; have := kv_len rows2; have := W3.l; omega) fun H2 k2 g2 => ?_
              walk_at "rd"
              have e2 : Same Hc H2 := fun b o hb => k2 _ _ (e1 _ _ hb) (ne_of_none hb f1)
              exact ⟨⟨_, _, _, rfl⟩, e2 _ _ gz3, _, _, _, W3.same e2⟩
            · refine LH.x_ixL (v := .ref p') (SqL.of W3.gL) rfl ?_
              obtain ⟨dx1, a1⟩ := W3.s'.ob
              refine LH.methv a1 rfl ?_
              walk_at "rd"
              refine ⟨p', d', _, _, rfl, W3.s', fun y H1 ts e1 f1 ft g1 pr => ?_⟩
              refine LH.bm_l (SqL.of g1) ?_
              walk_at "rd"
              refine LH.x_appK g1 (by rw [List.length_map]; have := LH.Paired.len pr; have := kv_len rows2'; have := W3.l'; omega) fun H2 k2 g2 => ?_
              walk_at "rd"
              have e2 : Same Hc H2 := fun b o hb => k2 _ _ (e1 _ _ hb) (ne_of_none hb f1)
              exact ⟨⟨_, _, _, rfl⟩, e2 _ _ gz3, _, _, _, W3.same e2⟩
          · walk_at "rd"
            exact ⟨⟨_, _, _, rfl⟩, gz3, _, _, _, W3⟩
    · rintro σ Ha ⟨⟨v4, v5, v6, rfl⟩, gz, rows, rows', held, W⟩
      walk_at "rd"
      refine LH.x_ixL (v := .ref r) (SqL.of W.gR) rfl ?_
      walk_at "rd"
      refine LH.x_lenL (SqL.of W.gr) ?_
      walk_at "rd"
      refine LH.newt (LH.small rfl) fun t1 H1 f1 e1 g1 => ?_
      walk_at "rd"
      refine LH.newt (LH.small rfl) fun t2 H2 f2 e2 g2 => ?_
      walk_at "rd"
      have e02 := e1.trans e2
      have W2 := W.same e02
      have al := W.alive
      have n1 := LH.not_in f1 al
      have n2 := LH.not_in (LH.Same.none e1 f2) al
      have lr : ((List.map vR rows).length : Int) = rows.length := by rw [List.length_map]
      rw [lr]
      have hn63 : rows.length ≤ 63 := Nat.le_trans W.l cl
      -- the next number isn't there
      refine LH.x_ixL (v := .ref p) (SqL.of W2.gL) rfl ?_
      walk_at "rd"
      have out : ∀ i, V.int (rows.length : Int) = .int i → valV (kvs rows) (Sum.inl i) = none := fun i e => by
        injection e with e
        subst e
        rw [kv_val, if_neg]
        omega
      refine ⟨p, d, _, _, _, _, rfl, W2.s, .int _, .inr ⟨out, fun H3 y e3 f3 g3 => ?_⟩⟩
      walk_at "rd"
      refine LH.newt (LH.small rfl) fun t3 H4 f4 e4 g4 => ?_
      have tt : PyData.eqv (.tuple [.str "letter"]) (.tuple [.str "letter"]) = true := by decide +kernel
      refine LH.x_neD (.tup (SqT.of (e4 _ _ g3)) (.cons (.str _) .nil)) (.tup (SqT.of g4) (.cons (.str _) .nil)) (by decide +kernel) (by decide +kernel) ?_
      rw [tt]
      walk_at "rd"
      have W4 := W2.same (e3.trans e4)
      -- it is sent
      refine LH.x_ixL (v := .ref p) (SqL.of W4.gL) rfl ?_
      obtain ⟨dx4, a4⟩ := W4.s.ob
      refine LH.methv a4 rfl ?_
      walk_at "rd"
      refine ⟨p, d, _, _, _, rfl, W4.s, by have := kv_len rows; omega, fun H5 k5 S5 => ?_⟩
      walk_at "rd"
      refine LH.br_nd (fun c => absurd rfl c) (fun _ => ?_)
      walk_at "rd"
      let ltr : V × PyData := (.ref t2, LtA)
      have S5 : PostAt a.Post H5 p d ((rows.length : Int) + 1) (kvs (rows ++ [some ltr])) := by
        rw [← kv_send]
        exact S5
      have nd := W.nd
      have k5M : LH.Ks [h, p, d, r, p', d', r'] H4 H5 := k5.sub (by simp)
      have e24 := e3.trans e4
      have x1 : LH.Fr [h, p, d, r, p', d', r'] H5 t1 = some (.tup [.str "mark", .int 0, .str "a", .int 0]) := k5M.fr _ _ (LH.fr_of (e24 _ _ (e2 _ _ g1)) n1)
      have x2 : LH.Fr [h, p, d, r, p', d', r'] H5 t2 = some (.tup [.int 0, .int 1, .ref t1]) := k5M.fr _ _ (LH.fr_of (e24 _ _ g2) n2)
      have gL5 : H5 L = some (.lst [.ref p, .ref p']) := k5 _ _ W4.gL (fun m => W.nL (by revert m; simp; rintro (rfl | rfl) <;> simp))
      have al5 : ∀ b ∈ [h, p, d, r, p', d', r'], ∃ o, H5 b = some o := fun b hb => by
        by_cases c : b ∈ [p, d]
        · simp only [List.mem_cons, List.not_mem_nil, or_false] at c
          rcases c with rfl | rfl
          · exact S5.ob.elim fun dx h => ⟨_, h⟩
          · exact ⟨_, S5.dc⟩
        · obtain ⟨o, ho⟩ := W4.alive b hb
          exact ⟨o, k5 _ _ ho c⟩
      -- and brought
      refine LH.x_ixL (v := .ref p) (SqL.of gL5) rfl ?_
      walk_at "rd"
      have inn : valV (kvs (rows ++ [some ltr])) (Sum.inl (rows.length : Int)) = some (.ref t2) := by
        have hat : atR (rows ++ [some ltr]) (rows.length : Int).toNat = some ltr := atR_last
        rw [kv_val, if_pos ⟨by omega, by rw [List.length_append]; show (rows.length : Int) < ((rows.length + 1 : Nat) : Int); omega, by unfold isS; rw [hat]; rfl⟩, hat]
        rfl
      refine ⟨p, d, _, _, _, _, rfl, S5, .int _, .inl ⟨_, _, rfl, inn, fun H6 y6 k6 S6 f6 g6 => ?_⟩⟩
      walk_at "rd"
      refine LH.newl (LH.small rfl) fun t4 H7 f7 e7 g7 => ?_
      have k6M : LH.Ks [h, p, d, r, p', d', r'] H5 H6 := k6.sub (by simp)
      have dL : Dp K (LH.Fr [h, p, d, r, p', d', r'] H5) (.ref t2) LtA := .tup (SqT.of x2) (.cons (.int _) (.cons (.int _) (.cons (.tup (SqT.of x1) (.cons (.str _) (.cons (.int _) (.cons (.str _) (.cons (.int _) .nil))))) .nil)))
      have dL7 : Dp K H7 (.ref t2) LtA := dp_up (LH.fr_le.trans e7) (dp_up k6M.fr dL)
      have la : PyData.eqv (.list [LtA]) (.list [LtA]) = true := by decide +kernel
      refine LH.x_neD (.lst (SqL.of (e7 _ _ g6)) (.cons dL7 .nil)) (.lst (SqL.of g7) (.cons dL7 .nil)) (by decide +kernel) (by decide +kernel) ?_
      rw [la]
      walk_at "rd"
      have gL7 : H7 L = some (.lst [.ref p, .ref p']) := e7 _ _ (k6 _ _ gL5 (fun m => W.nL (by rw [List.mem_singleton.mp m]; simp)))
      refine LH.x_ixL (v := .ref p) (SqL.of gL7) rfl ?_
      walk_at "rd"
      have S7 := S6.same e7
      rw [kv_drop] at S7
      have out2 : ∀ i, V.int (rows.length : Int) = .int i → valV (kvs ((rows ++ [some ltr]).set rows.length none)) (Sum.inl i) = none := fun i e => by
        injection e with e
        subst e
        rw [kv_val, if_neg]
        rintro ⟨_, _, h3⟩
        have h3 : isS ((rows ++ [some ltr]).set rows.length none) rows.length = true := h3
        unfold isS at h3
        rw [atR_set, if_pos rfl] at h3
        cases h3
      refine ⟨p, d, _, _, _, _, rfl, S7, .int _, .inr ⟨out2, fun H8 y8 e8 f8 g8 => ?_⟩⟩
      walk_at "rd"
      refine LH.newt (LH.small rfl) fun t5 H9 f9 e9 g9 => ?_
      refine LH.x_neD (.tup (SqT.of (e9 _ _ g8)) (.cons (.str _) .nil)) (.tup (SqT.of g9) (.cons (.str _) .nil)) (by decide +kernel) (by decide +kernel) ?_
      rw [tt]
      walk_at "rd"
      -- what was held stays
      have s9 : Same (LH.Fr [h, p, d, r, p', d', r'] Ha) H9 := (LH.same_fr e02).trans ((LH.same_fr e24).trans (k5M.fr.trans (k6M.fr.trans (LH.fr_le.trans ((e7.trans e8).trans e9)))))
      have nh : h ∉ [p, d] := by
        have nd := W.nd
        intro m
        simp only [List.mem_cons, List.not_mem_nil, or_false] at m
        rcases m with rfl | rfl <;> simp at nd
      have gh9 : H9 h = some (.lst held) := (e7.trans (e8.trans e9)) _ _ (k6 _ _ (k5 _ _ W4.gh nh) (fun m => nh (by rw [List.mem_singleton.mp m]; simp)))
      refine LH.lc_L (SqL.of gh9) (by have := W.lh; omega) (fun _ => false) id (fun _ => rfl) ?_ (fun _ _ h => by cases h) fun p3 H10 f10 e10 g10 => ?_
      · intro v hv Hx ex Q3 q3
        obtain ⟨t, f, c, D, rfl, h1, h2, h3, h4, h5⟩ := ((W.hl v hv).up (s9.trans ex)).split
        walk_at "rd"
        refine LH.x_ixT (SqT.of h1) rfl ?_
        walk_at "rd"
        refine LH.x_ixT (SqT.of h1) rfl ?_
        refine LH.x_neD h2 h3 h4 h4 ?_
        rw [h5]
        walk_at "rd"
        exact q3 _ (Same.refl _)
      walk_at "rd"
      refine LH.newl (LH.small rfl) fun p4 H11 f11 e11 g11 => ?_
      have g10' : H10 p3 = some (.lst []) := by rw [g10]; simp
      have e0 : PyData.eqv (.list []) (.list []) = true := by decide +kernel
      refine LH.x_eqD (.lst (SqL.of (e11 _ _ g10')) .nil) (.lst (SqL.of g11) .nil) (by decide +kernel) (by decide +kernel) ?_
      rw [e0]
      exact k _
end
end K8
namespace K8
open PySem L2
theorem all_mk {l : PySem.W.OpenLaw} {w : World} {K : PySem.W.Frag} {h : Heap} {mg : Str → Option Value} {fa f0 f1 f2 f3 f4 f5 f6 f7 f8 f9 c0 c1 c2 c3 c4 c5 c6 c7 c8 c9 : Addr} (X : K.In h) (G : h.Ns mainGlobals mg) (hfa : mg "law" = some (.ref fa))
    {od0 an0 : Option Addr} {sl0 : Array (Option Value)} {oc0 kV0 dc0 pm0 cd0 ct0 : Value} {od1 an1 : Option Addr} {sl1 : Array (Option Value)} {oc1 kV1 dc1 pm1 cd1 ct1 : Value} {od2 an2 : Option Addr} {sl2 : Array (Option Value)} {oc2 kV2 dc2 pm2 cd2 ct2 : Value} {od3 an3 : Option Addr} {sl3 : Array (Option Value)} {oc3 kV3 dc3 pm3 cd3 ct3 : Value} {od4 an4 : Option Addr} {sl4 : Array (Option Value)} {oc4 kV4 dc4 pm4 cd4 ct4 : Value} {od5 an5 : Option Addr} {sl5 : Array (Option Value)} {oc5 kV5 dc5 pm5 cd5 ct5 : Value} {od6 an6 : Option Addr} {sl6 : Array (Option Value)} {oc6 kV6 dc6 pm6 cd6 ct6 : Value} {od7 an7 : Option Addr} {sl7 : Array (Option Value)} {oc7 kV7 dc7 pm7 cd7 ct7 : Value} {od8 an8 : Option Addr} {sl8 : Array (Option Value)} {oc8 kV8 dc8 pm8 cd8 ct8 : Value} {od9 an9 : Option Addr} {sl9 : Array (Option Value)} {oc9 kV9 dc9 pm9 cd9 ct9 : Value}
    (g0 : PySem.W.nsIn K mainGlobals "HouseError" = some (some (.ref c0)))
    (g1 : PySem.W.nsIn K mainGlobals "BadCount" = some (some (.ref c1)))
    (g2 : PySem.W.nsIn K mainGlobals "BadHouse" = some (some (.ref c2)))
    (g3 : PySem.W.nsIn K mainGlobals "BadRow" = some (some (.ref c3)))
    (g4 : PySem.W.nsIn K mainGlobals "BadWord" = some (some (.ref c4)))
    (g5 : PySem.W.nsIn K mainGlobals "Forged" = some (some (.ref c5)))
    (g6 : PySem.W.nsIn K mainGlobals "NoLetter" = some (some (.ref c6)))
    (g7 : PySem.W.nsIn K mainGlobals "NotWritten" = some (some (.ref c7)))
    (g8 : PySem.W.nsIn K mainGlobals "NoText" = some (some (.ref c8)))
    (g9 : PySem.W.nsIn K mainGlobals "Post" = some (some (.ref c9)))
    (a0 : PySem.W.findIn K (.ref c9) "__init__" = some (some (.ref f0)))
    (l0 : K.lookup f0 = some ⟨oc0, od0, .func (PySem.W.fnOf "__init__" "Post.__init__" (defArgs s_Post___init__) (defBody s_Post___init__) (defScope s_Post___init__) .none kV0 dc0 pm0 an0 cd0 ct0), sl0⟩)
    (c0c : PySem.W.codeIn K cd0 "Post.__init__" = true)
    (k0 : PySem.W.keepIn K (.ref f0) = true)
    (ii0 : PySem.W.isFn K (.ref f0) = true)
    (a1 : PySem.W.findIn K (.ref c9) "send" = some (some (.ref f1)))
    (l1 : K.lookup f1 = some ⟨oc1, od1, .func (PySem.W.fnOf "send" "Post.send" (defArgs s_Post_send) (defBody s_Post_send) (defScope s_Post_send) .none kV1 dc1 pm1 an1 cd1 ct1), sl1⟩)
    (c1c : PySem.W.codeIn K cd1 "Post.send" = true)
    (k1 : PySem.W.keepIn K (.ref f1) = true)
    (ii1 : PySem.W.isFn K (.ref f1) = true)
    (a2 : PySem.W.findIn K (.ref c9) "bring" = some (some (.ref f2)))
    (l2 : K.lookup f2 = some ⟨oc2, od2, .func (PySem.W.fnOf "bring" "Post.bring" (defArgs s_Post_bring) (defBody s_Post_bring) (defScope s_Post_bring) .none kV2 dc2 pm2 an2 cd2 ct2), sl2⟩)
    (c2c : PySem.W.codeIn K cd2 "Post.bring" = true)
    (k2 : PySem.W.keepIn K (.ref f2) = true)
    (ii2 : PySem.W.isFn K (.ref f2) = true)
    (a3 : PySem.W.findIn K (.ref c9) "waiting" = some (some (.ref f3)))
    (l3 : K.lookup f3 = some ⟨oc3, od3, .func (PySem.W.fnOf "waiting" "Post.waiting" (defArgs s_Post_waiting) (defBody s_Post_waiting) (defScope s_Post_waiting) .none kV3 dc3 pm3 an3 cd3 ct3), sl3⟩)
    (c3c : PySem.W.codeIn K cd3 "Post.waiting" = true)
    (k3 : PySem.W.keepIn K (.ref f3) = true)
    (ii3 : PySem.W.isFn K (.ref f3) = true)
    (a4 : PySem.W.nsIn K mainGlobals "_law_whole" = some (some (.ref f4)))
    (l4 : K.lookup f4 = some ⟨oc4, od4, .func (PySem.W.fnOf "_law_whole" "_law_whole" (defArgs s__law_whole) (defBody s__law_whole) (defScope s__law_whole) .none kV4 dc4 pm4 an4 cd4 ct4), sl4⟩)
    (c4c : PySem.W.codeIn K cd4 "_law_whole" = true)
    (k4 : PySem.W.keepIn K (.ref f4) = true)
    (a5 : PySem.W.nsIn K mainGlobals "_law_kind" = some (some (.ref f5)))
    (l5 : K.lookup f5 = some ⟨oc5, od5, .func (PySem.W.fnOf "_law_kind" "_law_kind" (defArgs s__law_kind) (defBody s__law_kind) (defScope s__law_kind) .none kV5 dc5 pm5 an5 cd5 ct5), sl5⟩)
    (c5c : PySem.W.codeIn K cd5 "_law_kind" = true)
    (k5 : PySem.W.keepIn K (.ref f5) = true)
    (a6 : PySem.W.nsIn K mainGlobals "_law_brought" = some (some (.ref f6)))
    (l6 : K.lookup f6 = some ⟨oc6, od6, .func (PySem.W.fnOf "_law_brought" "_law_brought" (defArgs s__law_brought) (defBody s__law_brought) (defScope s__law_brought) .none kV6 dc6 pm6 an6 cd6 ct6), sl6⟩)
    (c6c : PySem.W.codeIn K cd6 "_law_brought" = true)
    (k6 : PySem.W.keepIn K (.ref f6) = true)
    (a7 : PySem.W.nsIn K mainGlobals "_law_deed" = some (some (.ref f7)))
    (l7 : K.lookup f7 = some ⟨oc7, od7, .func (PySem.W.fnOf "_law_deed" "_law_deed" (defArgs s__law_deed) (defBody s__law_deed) (defScope s__law_deed) .none kV7 dc7 pm7 an7 cd7 ct7), sl7⟩)
    (c7c : PySem.W.codeIn K cd7 "_law_deed" = true)
    (k7 : PySem.W.keepIn K (.ref f7) = true)
    (a8 : PySem.W.nsIn K mainGlobals "_law_waits" = some (some (.ref f8)))
    (l8 : K.lookup f8 = some ⟨oc8, od8, .func (PySem.W.fnOf "_law_waits" "_law_waits" (defArgs s__law_waits) (defBody s__law_waits) (defScope s__law_waits) .none kV8 dc8 pm8 an8 cd8 ct8), sl8⟩)
    (c8c : PySem.W.codeIn K cd8 "_law_waits" = true)
    (k8 : PySem.W.keepIn K (.ref f8) = true)
    (a9 : PySem.W.nsIn K mainGlobals "law" = some (some (.ref f9)))
    (l9 : K.lookup f9 = some ⟨oc9, od9, .func (PySem.W.fnOf "law" "law" (defArgs s_law) (defBody s_law) (defScope s_law) .none kV9 dc9 pm9 an9 cd9 ct9), sl9⟩)
    (c9c : PySem.W.codeIn K cd9 "law" = true)
    (k9 : PySem.W.keepIn K (.ref f9) = true)
    (pg_c9 : PySem.W.plainGet K c9 Str.empty = true)
    (hd_c9 : PySem.W.hasDictIn K c9 = true)
    (po_c9 : PySem.W.plainOver K c9 = true)
    (sa_c9 : PySem.W.findIn K (.ref c9) "__setattr__" = some (some (.builtin "object.__setattr__")))
    (mm_c9 : PySem.W.makesIn K c9 = true)
    (kp_c9 : PySem.W.keepIn K (.ref c9) = true)
    (na_c9__due : PySem.W.findIn K (.ref c9) "_due" = some none)
    (na_c9__letters : PySem.W.findIn K (.ref c9) "_letters" = some none)
    (x_c6 : PySem.W.excIn K c6 VEs "ValueError.__new__" = true)
    (kk_c6 : PySem.W.keepIn K (.ref c6) = true)
    (bx_c6 : PySem.W.subIn K (.ref c6) (.type "BaseException") = some true)
    (t_c6 : PySem.W.typeIn K (.ref c6) = some (.type "type"))
    (e_c6 : PySem.W.exmOne K (.ref c6) (.ref c0) = some true)
    (y1_c6 : PySem.W.findIn K (.ref c6) "__getattribute__" = some (some (.builtin "BaseException.__getattribute__")))
    (y2_c6 : PySem.W.findIn K (.ref c6) "__getattr__" = some none)
    (y4_c6 : PySem.W.hasDictIn K c6 = true)
    (y5_c6 : PySem.W.findIn K (.ref c6) "__class__" = some (some (.builtin "object.__class__")))
    (y8_c6 : PySem.W.mroIn K c6 (.type "object") = some true)
    (y6 : PySem.W.specialIn K (.builtin "object.__class__") "__get__" = some (some (.builtin "getset_descriptor.__get__")))
    (y7 : PySem.W.takesIn K (.builtin "object.__class__") = some true)
    (i_c6_c1 : PySem.W.kitOne K (.ref c6) (.ref c1) = some false)
    (i_c6_c2 : PySem.W.kitOne K (.ref c6) (.ref c2) = some false)
    (i_c6_c3 : PySem.W.kitOne K (.ref c6) (.ref c3) = some false)
    (i_c6_c4 : PySem.W.kitOne K (.ref c6) (.ref c4) = some false)
    (i_c6_c5 : PySem.W.kitOne K (.ref c6) (.ref c5) = some false)
    (i_c6_c6 : PySem.W.kitOne K (.ref c6) (.ref c6) = some true)
    (i_c6_c7 : PySem.W.kitOne K (.ref c6) (.ref c7) = some false)
    (i_c6_c8 : PySem.W.kitOne K (.ref c6) (.ref c8) = some false)
    (i_c6_ValueError : PySem.W.kitOne K (.ref c6) (.type "ValueError") = some true)
    (n_ValueError : PySem.W.nsIn K mainGlobals "ValueError" = some none)
    (n_abs : PySem.W.nsIn K mainGlobals "abs" = some none)
    (n_bool : PySem.W.nsIn K mainGlobals "bool" = some none)
    (n_int : PySem.W.nsIn K mainGlobals "int" = some none)
    (n_isinstance : PySem.W.nsIn K mainGlobals "isinstance" = some none)
    (n_len : PySem.W.nsIn K mainGlobals "len" = some none)
    (n_list : PySem.W.nsIn K mainGlobals "list" = some none)
    (n_range : PySem.W.nsIn K mainGlobals "range" = some none)
    (n_tuple : PySem.W.nsIn K mainGlobals "tuple" = some none)
    (n_type : PySem.W.nsIn K mainGlobals "type" = some none) :
    ∃ fd : FuncData, (∀ (s : Shared) (v : Value), BindsTo s fd ⟨[v], []⟩ [("_law_script", v)]) ∧ ∀ base : Heap, K.In base → base.Ns mainGlobals mg → FnOk l.prog w K mg base CX0 4 fa fd ["_law_script"] (spLaw K) := by
  have e := hfa.symm.trans (PySem.W.mg_of X G a9)
  cases e
  have F0 := fun_mk (st := s_Post___init__) l0 c0c k0
  have b0 := F0.binds (ps := ["self"]) fun _ _ _ _ _ _ us hl => match us, hl with | [_], _ => rfl
  have F1 := fun_mk (st := s_Post_send) l1 c1c k1
  have b1 := F1.binds (ps := ["self", "letter"]) fun _ _ _ _ _ _ us hl => match us, hl with | [_, _], _ => rfl
  have F2 := fun_mk (st := s_Post_bring) l2 c2c k2
  have b2 := F2.binds (ps := ["self", "number"]) fun _ _ _ _ _ _ us hl => match us, hl with | [_, _], _ => rfl
  have F3 := fun_mk (st := s_Post_waiting) l3 c3c k3
  have b3 := F3.binds (ps := ["self"]) fun _ _ _ _ _ _ us hl => match us, hl with | [_], _ => rfl
  have F4 := fun_mk (st := s__law_whole) l4 c4c k4
  have b4 := F4.binds (ps := ["_law_thing"]) fun _ _ _ _ _ _ us hl => match us, hl with | [_], _ => rfl
  have F5 := fun_mk (st := s__law_kind) l5 c5c k5
  have b5 := F5.binds (ps := ["_law_error"]) fun _ _ _ _ _ _ us hl => match us, hl with | [_], _ => rfl
  have F6 := fun_mk (st := s__law_brought) l6 c6c k6
  have b6 := F6.binds (ps := ["_law_post", "_law_number"]) fun _ _ _ _ _ _ us hl => match us, hl with | [_, _], _ => rfl
  have F7 := fun_mk (st := s__law_deed) l7 c7c k7
  have b7 := F7.binds (ps := ["_law_post", "_law_rows", "_law_cell"]) fun _ _ _ _ _ _ us hl => match us, hl with | [_, _, _], _ => rfl
  have F8 := fun_mk (st := s__law_waits) l8 c8c k8
  have b8 := F8.binds (ps := ["_law_post", "_law_rows", "_law_held"]) fun _ _ _ _ _ _ us hl => match us, hl with | [_, _, _], _ => rfl
  have F9 := fun_mk (st := s_law) l9 c9c k9
  let a : Ad := ⟨f0, f1, f2, f3, f4, f5, f6, f7, f8, fa, PySem.W.fnOf "__init__" "Post.__init__" (defArgs s_Post___init__) (defBody s_Post___init__) (defScope s_Post___init__) .none kV0 dc0 pm0 an0 cd0 ct0, PySem.W.fnOf "send" "Post.send" (defArgs s_Post_send) (defBody s_Post_send) (defScope s_Post_send) .none kV1 dc1 pm1 an1 cd1 ct1, PySem.W.fnOf "bring" "Post.bring" (defArgs s_Post_bring) (defBody s_Post_bring) (defScope s_Post_bring) .none kV2 dc2 pm2 an2 cd2 ct2, PySem.W.fnOf "waiting" "Post.waiting" (defArgs s_Post_waiting) (defBody s_Post_waiting) (defScope s_Post_waiting) .none kV3 dc3 pm3 an3 cd3 ct3, PySem.W.fnOf "_law_whole" "_law_whole" (defArgs s__law_whole) (defBody s__law_whole) (defScope s__law_whole) .none kV4 dc4 pm4 an4 cd4 ct4, PySem.W.fnOf "_law_kind" "_law_kind" (defArgs s__law_kind) (defBody s__law_kind) (defScope s__law_kind) .none kV5 dc5 pm5 an5 cd5 ct5, PySem.W.fnOf "_law_brought" "_law_brought" (defArgs s__law_brought) (defBody s__law_brought) (defScope s__law_brought) .none kV6 dc6 pm6 an6 cd6 ct6, PySem.W.fnOf "_law_deed" "_law_deed" (defArgs s__law_deed) (defBody s__law_deed) (defScope s__law_deed) .none kV7 dc7 pm7 an7 cd7 ct7, PySem.W.fnOf "_law_waits" "_law_waits" (defArgs s__law_waits) (defBody s__law_waits) (defScope s__law_waits) .none kV8 dc8 pm8 an8 cd8 ct8, PySem.W.fnOf "law" "law" (defArgs s_law) (defBody s_law) (defScope s_law) .none kV9 dc9 pm9 an9 cd9 ct9, c0, c1, c2, c3, c4, c5, c6, c7, c8, c9⟩
  have T : Txt K mg a := {
    F_Post___init__ := F0,
    me_Post___init__ := ⟨a0, ii0, k0⟩,
    b_Post___init__ := b0,
    F_Post_send := F1,
    me_Post_send := ⟨a1, ii1, k1⟩,
    b_Post_send := b1,
    F_Post_bring := F2,
    me_Post_bring := ⟨a2, ii2, k2⟩,
    b_Post_bring := b2,
    F_Post_waiting := F3,
    me_Post_waiting := ⟨a3, ii3, k3⟩,
    b_Post_waiting := b3,
    F__law_whole := F4,
    g__law_whole := PySem.W.mg_of X G a4,
    b__law_whole := b4,
    F__law_kind := F5,
    g__law_kind := PySem.W.mg_of X G a5,
    b__law_kind := b5,
    F__law_brought := F6,
    g__law_brought := PySem.W.mg_of X G a6,
    b__law_brought := b6,
    F__law_deed := F7,
    g__law_deed := PySem.W.mg_of X G a7,
    b__law_deed := b7,
    F__law_waits := F8,
    g__law_waits := PySem.W.mg_of X G a8,
    b__law_waits := b8,
    F_law := F9,
    g_HouseError := PySem.W.mg_of X G g0,
    g_BadCount := PySem.W.mg_of X G g1,
    g_BadHouse := PySem.W.mg_of X G g2,
    g_BadRow := PySem.W.mg_of X G g3,
    g_BadWord := PySem.W.mg_of X G g4,
    g_Forged := PySem.W.mg_of X G g5,
    g_NoLetter := PySem.W.mg_of X G g6,
    g_NotWritten := PySem.W.mg_of X G g7,
    g_NoText := PySem.W.mg_of X G g8,
    g_Post := PySem.W.mg_of X G g9,
    cl_Post := ⟨pg_c9, hd_c9, po_c9, sa_c9⟩,
    mk_Post := ⟨mm_c9, a0, ii0, kp_c9⟩,
    na_Post__due := na_c9__due,
    na_Post__letters := na_c9__letters,
    x_NoLetter := x_c6,
    k_NoLetter := kk_c6,
    bx_NoLetter := bx_c6,
    t_NoLetter := t_c6,
    e_NoLetter := e_c6,
    c_NoLetter := ⟨y1_c6, y2_c6, bx_c6, y4_c6, y5_c6, y6, y7, y8_c6⟩,
    i_BadCount := i_c6_c1,
    i_BadHouse := i_c6_c2,
    i_BadRow := i_c6_c3,
    i_BadWord := i_c6_c4,
    i_Forged := i_c6_c5,
    i_NoLetter := i_c6_c6,
    i_NotWritten := i_c6_c7,
    i_NoText := i_c6_c8,
    i_ValueError := i_c6_ValueError,
    n_ValueError := PySem.W.mg_none_of X G n_ValueError,
    n_abs := PySem.W.mg_none_of X G n_abs,
    n_bool := PySem.W.mg_none_of X G n_bool,
    n_int := PySem.W.mg_none_of X G n_int,
    n_isinstance := PySem.W.mg_none_of X G n_isinstance,
    n_len := PySem.W.mg_none_of X G n_len,
    n_list := PySem.W.mg_none_of X G n_list,
    n_range := PySem.W.mg_none_of X G n_range,
    n_tuple := PySem.W.mg_none_of X G n_tuple,
    n_type := PySem.W.mg_none_of X G n_type }
  exact ⟨_, fun s v => .of_eq rfl, fun base _ _ => ok_law T⟩
end K8
open PySem PySem.W PyProof.Rows
set_option maxRecDepth 100000 in
set_option maxHeartbeats 0 in
theorem PySem.Challenge.cw_latehouse_k08_a_post_holds : PySem.Challenge.rw_latehouse_k08_a_post.Holds := by
  w_on; o_law; k_head; (case hw => w_witness2)
  k_fill
  refine L2.walk_of (l := PySem.Challenge.rw_latehouse_k08_a_post) (n := 63) (k := 4) (x := "_law_script") (CX := fun _ => L2.CX0) (sp := fun w => K8.spLaw _) rfl (by decide) rfl ⟨rfl, by decide, by decide⟩ (fun w h Y => PySem.W.kIn_of Y) ?F (fun _ _ a ns hl _ hS => ⟨a, ns, rfl, hS, hl, fun _ => rfl⟩) (fun _ _ _ _ _ h => h)
  case F =>
    intro w mg fa h KX G hmg
    refine' K8.all_mk KX G hmg ?zq_g0 ?zq_g1 ?zq_g2 ?zq_g3 ?zq_g4 ?zq_g5 ?zq_g6 ?zq_g7 ?zq_g8 ?zq_g9 ?zq_a0 ?zq_l0 ?zq_c0c ?zq_k0 ?zq_ii0 ?zq_a1 ?zq_l1 ?zq_c1c ?zq_k1 ?zq_ii1 ?zq_a2 ?zq_l2 ?zq_c2c ?zq_k2 ?zq_ii2 ?zq_a3 ?zq_l3 ?zq_c3c ?zq_k3 ?zq_ii3 ?zq_a4 ?zq_l4 ?zq_c4c ?zq_k4 ?zq_a5 ?zq_l5 ?zq_c5c ?zq_k5 ?zq_a6 ?zq_l6 ?zq_c6c ?zq_k6 ?zq_a7 ?zq_l7 ?zq_c7c ?zq_k7 ?zq_a8 ?zq_l8 ?zq_c8c ?zq_k8 ?zq_a9 ?zq_l9 ?zq_c9c ?zq_k9 ?zq_pg_c9 ?zq_hd_c9 ?zq_po_c9 ?zq_sa_c9 ?zq_mm_c9 ?zq_kp_c9 ?zq_na_c9__due ?zq_na_c9__letters ?zq_x_c6 ?zq_kk_c6 ?zq_bx_c6 ?zq_t_c6 ?zq_e_c6 ?zq_y1_c6 ?zq_y2_c6 ?zq_y4_c6 ?zq_y5_c6 ?zq_y8_c6 ?zq_y6 ?zq_y7 ?zq_i_c6_c1 ?zq_i_c6_c2 ?zq_i_c6_c3 ?zq_i_c6_c4 ?zq_i_c6_c5 ?zq_i_c6_c6 ?zq_i_c6_c7 ?zq_i_c6_c8 ?zq_i_c6_ValueError ?zq_n_ValueError ?zq_n_abs ?zq_n_bool ?zq_n_int ?zq_n_isinstance ?zq_n_len ?zq_n_list ?zq_n_range ?zq_n_tuple ?zq_n_type
    (case zq_g0 => first | k_is | rfl)
    (case zq_g1 => first | k_is | rfl)
    (case zq_g2 => first | k_is | rfl)
    (case zq_g3 => first | k_is | rfl)
    (case zq_g4 => first | k_is | rfl)
    (case zq_g5 => first | k_is | rfl)
    (case zq_g6 => first | k_is | rfl)
    (case zq_g7 => first | k_is | rfl)
    (case zq_g8 => first | k_is | rfl)
    (case zq_g9 => first | k_is | rfl)
    (case zq_a0 => first | k_is | rfl)
    (case zq_l0 => first | k_is | rfl)
    (case zq_c0c => first | k_is | rfl)
    (case zq_k0 => first | k_is | rfl)
    (case zq_ii0 => first | k_is | rfl)
    (case zq_a1 => first | k_is | rfl)
    (case zq_l1 => first | k_is | rfl)
    (case zq_c1c => first | k_is | rfl)
    (case zq_k1 => first | k_is | rfl)
    (case zq_ii1 => first | k_is | rfl)
    (case zq_a2 => first | k_is | rfl)
    (case zq_l2 => first | k_is | rfl)
    (case zq_c2c => first | k_is | rfl)
    (case zq_k2 => first | k_is | rfl)
    (case zq_ii2 => first | k_is | rfl)
    (case zq_a3 => first | k_is | rfl)
    (case zq_l3 => first | k_is | rfl)
    (case zq_c3c => first | k_is | rfl)
    (case zq_k3 => first | k_is | rfl)
    (case zq_ii3 => first | k_is | rfl)
    (case zq_a4 => first | k_is | rfl)
    (case zq_l4 => first | k_is | rfl)
    (case zq_c4c => first | k_is | rfl)
    (case zq_k4 => first | k_is | rfl)
    (case zq_a5 => first | k_is | rfl)
    (case zq_l5 => first | k_is | rfl)
    (case zq_c5c => first | k_is | rfl)
    (case zq_k5 => first | k_is | rfl)
    (case zq_a6 => first | k_is | rfl)
    (case zq_l6 => first | k_is | rfl)
    (case zq_c6c => first | k_is | rfl)
    (case zq_k6 => first | k_is | rfl)
    (case zq_a7 => first | k_is | rfl)
    (case zq_l7 => first | k_is | rfl)
    (case zq_c7c => first | k_is | rfl)
    (case zq_k7 => first | k_is | rfl)
    (case zq_a8 => first | k_is | rfl)
    (case zq_l8 => first | k_is | rfl)
    (case zq_c8c => first | k_is | rfl)
    (case zq_k8 => first | k_is | rfl)
    (case zq_a9 => first | k_is | rfl)
    (case zq_l9 => first | k_is | rfl)
    (case zq_c9c => first | k_is | rfl)
    (case zq_k9 => first | k_is | rfl)
    (case zq_pg_c9 => first | k_is | rfl)
    (case zq_hd_c9 => first | k_is | rfl)
    (case zq_po_c9 => first | k_is | rfl)
    (case zq_sa_c9 => first | k_is | rfl)
    (case zq_mm_c9 => first | k_is | rfl)
    (case zq_kp_c9 => first | k_is | rfl)
    (case zq_na_c9__due => first | k_is | rfl)
    (case zq_na_c9__letters => first | k_is | rfl)
    (case zq_x_c6 => k_exc)
    (case zq_kk_c6 => first | k_is | rfl)
    (case zq_bx_c6 => first | k_is | rfl)
    (case zq_t_c6 => first | k_is | rfl)
    (case zq_e_c6 => first | k_is | rfl)
    (case zq_y1_c6 => first | k_is | rfl)
    (case zq_y2_c6 => first | k_is | rfl)
    (case zq_y4_c6 => first | k_is | rfl)
    (case zq_y5_c6 => first | k_is | rfl)
    (case zq_y8_c6 => first | k_is | rfl)
    (case zq_y6 => first | k_is | rfl)
    (case zq_y7 => first | k_is | rfl)
    (case zq_i_c6_c1 => first | k_is | rfl)
    (case zq_i_c6_c2 => first | k_is | rfl)
    (case zq_i_c6_c3 => first | k_is | rfl)
    (case zq_i_c6_c4 => first | k_is | rfl)
    (case zq_i_c6_c5 => first | k_is | rfl)
    (case zq_i_c6_c6 => first | k_is | rfl)
    (case zq_i_c6_c7 => first | k_is | rfl)
    (case zq_i_c6_c8 => first | k_is | rfl)
    (case zq_i_c6_ValueError => first | k_is | rfl)
    (case zq_n_ValueError => first | k_is | rfl)
    (case zq_n_abs => first | k_is | rfl)
    (case zq_n_bool => first | k_is | rfl)
    (case zq_n_int => first | k_is | rfl)
    (case zq_n_isinstance => first | k_is | rfl)
    (case zq_n_len => first | k_is | rfl)
    (case zq_n_list => first | k_is | rfl)
    (case zq_n_range => first | k_is | rfl)
    (case zq_n_tuple => first | k_is | rfl)
    (case zq_n_type => first | k_is | rfl)
