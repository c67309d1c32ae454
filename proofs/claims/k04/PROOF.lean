import PyProof.Rows.All
import Wide.All
import OpenK.AllK
import Wide.FinOn
import HandS.ForMost
import HandS.Exc
import HandS.TryOnly
import HandS.ExcOwn
import HandS.WordsExc
import HandS.IsInst
import HandS.ExcIs
import HandS.ExcCtx
import HandS.HotCalls
import HandS.SetFor
import HandS.More
import HandS.Conv
import HandS.FStr
import HandS.Walk
import HandS.Flow
import HandS.TupAny
import HandS.TupLe
import HandS.Steps
import HandS.Zip
import HandS.DictComp
import PyProof.Rows.SetFrom
import PyProof.SetRoads
import PyProof.P3Eq
import HandS.ListItems
import HandS.CallSlots
import PyProof.DictMoreH
import KE.KDictList
import HandS.SetBool
import HandS.SetKeys
import HandS.Codes
import PySem.Challenge.RW_latehouse_k04_backings
set_option Elab.async false
set_option linter.all false
set_option maxRecDepth 100000
set_option maxHeartbeats 4000000
/-! own rules beside the layer's: a caught error handed to a def, its isinstance, count, value calls -/
namespace LH
open PySem PySem.Spec PyProof.Rows L2
abbrev St := L2.St

/-! ### isinstance of the error that a context bears -/
theorem call_isP {X : Cx} {a D : Addr} {oe : Obj} (C : ExcC X.K D) (hp : (a, oe) ∈ X.pn) (hz : Zc (.ref D) none oe)
    (hf : ∃ vs, oe.data = .fields vs) : CallR X (.builtin "isinstance") (rIsE X.K D a) := by
  intro pins s σ H xs us Q I r h
  obtain ⟨c, cv, b, rfl, hcv, e, q⟩ := h
  match us, r with
  | [_, _], .cons rx (.cons rt .nil) =>
    cases rx
    have ec := hcv _ rt
    subst ec
    have hget := (I.pin (a, oe) (List.mem_append_left _ hp)).1
    obtain ⟨vs, hv⟩ := hf
    have J : PySem.W.InstAt s.heap a oe D none := by
      refine ⟨hget, hz.1, ?_, ?_⟩
      · unfold PySem.W.notCls; rw [hv] <;> rfl
      · rw [hz.2]; trivial
    exact PySem.W.kia_one (PySem.W.handS_kitx_exc C.hg C.hk C.hs C.hd C.ha C.hn C.ht C.hm) I.kIn J e
      (fun z => nomatch z) fun tk => ⟨.bl b, H, I.kept (t' := tk) fun _ _ z => z, rfl, q⟩

/-! ### a def that is handed the error that is handled -/
/-- the error's address, its class, its dict, then as Sp -/
abbrev SpE := Addr → Value → Option Addr → List V → Hp → VK → Prop
structure FnE (P : Program) (w : World) (K : PySem.W.Frag) (mg : Str → Option Value) (base : Heap) (k : Nat) (f : Addr)
    (fd : FuncData) (ps : List Str) (sp : SpE) : Prop where
  len : ∀ e cls d vs H Q, sp e cls d vs H Q → vs.length = ps.length
  run : ∀ (A : Around) (outer : List Env) (s : Shared) (H : Hp) (us : List Value) (vs : List V) (Q : VK) (p : Addr × Obj) (cls : Value) (d : Option Addr),
    L2H.RoomH k A → L2H.Hot1 A p → L2N.Zn cls d p.2 → L2H.PinOk outer H s p → Env0 P w K mg base A outer s H → BindsTo s fd ⟨us, []⟩ (ps.zip us) →
    Vals vs us → sp p.1 cls d vs H Q → codeAny (model P w) A (.call (.ref f) ⟨us, []⟩) (CR CX0 outer P w H s Q E0) s

theorem fnE_of {P : Program} {w : World} {K : PySem.W.Frag} {mg : Str → Option Value} {base : Heap} {x qual : Str} {st : Stmt}
    {f : Addr} {fd : FuncData} {N ps : List Str} {k : Nat} {sp : SpE} (F : Fun K x qual st f fd) (S : FnScope N ps (defScope st))
    (len : ∀ e cls d vs H Q, sp e cls d vs H Q → vs.length = ps.length)
    (hbody : ∀ (cdv : Value) (A : Around) (outer : List Env) (s : Shared) (H : Hp) (vs : List V) (Q : VK) (p : Addr × Obj) (cls : Value) (d : Option Addr),
      L2H.Hot1 A p → L2N.Zn cls d p.2 → L2H.RoomH k (A.deeper (envOfC qual (defScope st) s.heap.objs.size f cdv)) → sp p.1 cls d vs H Q →
      ∃ t, PSs (L2H.cxH CX0 P w K mg base N qual (defScope st) f cdv A outer s H E0 p) (defBody st) t ∧
        t { nx := fun _ H' => Q .non H', rt := Q } (L2.start N vs) H) :
    FnE P w K mg base (k + 1) f fd ps sp := by
  obtain ⟨oc, od, kV, doc, pm, an, cdv, ct, osl, rfl, lk, hcd⟩ := F.ex
  refine ⟨len, ?_⟩
  intro A outer s H us vs Q p cls d hr hot hz hpin e0 hb r hsp
  have inS : K.In s.heap := e0.mod.kin.keeps fun b o e => (e0.bs b o e).1
  have lim : s.heap.NoLimit := e0.mod.nolimit.keeps fun b o e => (e0.bs b o e).1
  have hkd : ∀ y ∈ ps.zip us, (defScope st).names.lookup y.1 = some .local ∨ ((defScope st).names.lookup y.1 = some .cell ∧
      ((cellsFrom (s.heap.objs.size + 1) (defScope st).names []).lookup y.1).isSome = true) := by
    rintro ⟨n, v⟩ hy
    rcases S.par n (List.of_mem_zip hy).1 with q | q
    · exact Or.inl q
    · exact Or.inr ⟨q, PySem.W.cellsFrom_some _ _ _ (Or.inl q)⟩
  refine codeAny_call_function hr.depth (inS _ _ lk) rfl S.co S.gen rfl
    (PySem.W.codeRec_of inS hcd) (hb _ _ _ _ ?_)
  refine wpAny_newFunctionEnv_cells S.kind hkd ?_
  intro env he s1 x
  subst he
  refine ⟨lim.keeps x.toInCall.keep, codeAny_func ?_⟩
  obtain ⟨t, ht, hq⟩ := hbody cdv A outer s H vs Q p cls d hot hz (hr.deeper _) hsp
  have I := L2H.inv_startH (CX := CX0) (E := E0) S hpin e0 (len _ _ _ _ _ _ hsp) r x
  refine wpAny_mono (ht.run [] s1 (L2.start N vs) H _ I hq) ?_ (fun _ _ z => z)
  intro fl s' hs
  cases fl with
  | ret u =>
    obtain ⟨v, σ', H', J, rv, q⟩ := hs
    exact ⟨v, H', J.os, J.bare, J.base, J.hok, rv, q⟩
  | next =>
    obtain ⟨σ', H', J, q⟩ := hs
    exact ⟨V.non, H', J.os, J.bare, J.base, J.hok, rfl, q⟩
  | brk =>
    obtain ⟨_, _, _, q⟩ := hs
    exact False.elim q
  | cont =>
    obtain ⟨_, _, _, q⟩ := hs
    exact False.elim q

def tCallE (sp : SpE) (e : Addr) (cls : Value) (d : Option Addr) (t : TA) : TE := fun σ H Q => t σ H fun vs H1 => sp e cls d vs H1 Q
theorem pe_callE {X : Cx} {k : Nat} {f : Addr} {fd : FuncData} {ps : List Str} {sp : SpE} {x : Str} {q pos : Pos} {e : Expr}
    {es : List Expr} {t : TA} {p : Addr × Obj} {cls : Value} {d : Option Addr} (F : FnE X.prog X.w X.K X.mg X.base k f fd ps sp) (hr : L2H.RoomH k X.A)
    (hot : L2H.Hot1 X.A p) (hz : L2N.Zn cls d p.2) (hp : p ∈ X.pn) (hg : Gl X x) (hm : X.mg x = some (.ref f)) (hk : PySem.W.keepIn X.K (.ref f) = true)
    (hb : Binds X.K fd ps []) (ha : PA X (e :: es) t) (hdb : (x == ("__debug__" : Str)) = false := by decide)
    (he : starEach (e :: es) X.env = (false, eval e X.env) :: starEach es X.env := by rfl)
    (hpl : (backTo pos (starEach es X.env)).any (·.1) = false := by rfl) : PE X (.Call (.Name x q) (e :: es) [] pos) (tCallE sp p.1 cls d t) := by
  refine ⟨fun pins s σ H Q I h => ?_⟩
  refine wpAny_Call_Name_kw (ld_glob I hg hm ?_ hdb)
  refine PySem.W.callWith_K (h₀ := X.base) I.ok.mod.kin hk (thn (ha.run pos pins s σ H _ I h) ?_) he hpl
  rintro us s1 ⟨vs, H1, I1, r, h1⟩
  refine ⟨I1.kIn, ?_⟩
  have hl : us.length = ps.length := by rw [← r.length]; exact F.len _ _ _ _ _ _ h1
  have b := hb s1 us I1.kIn (by rw [List.append_nil]; exact hl)
  rw [List.append_nil] at b
  have P1 := I1.pin p (List.mem_append_left _ hp)
  have hpin : L2H.PinOk X.stack H1 s1 p :=
    ⟨P1.1, P1.2.1, fun hm => (List.mem_cons.mp (I1.stkSub p.1 hm)).elim P1.2.2.1 P1.2.2.2.1, P1.2.2.2.2⟩
  refine wpAny_call (codeAny_mono (F.run X.A X.stack s1 H1 us vs Q p cls d hr hot hz hpin I1.env0 b r h1) ?_)
  intro rr s' hq
  cases rr with
  | error e => exact False.elim hq
  | ok fl =>
    cases fl with
    | ret u => exact I1.after hq
    | next => exact False.elim hq
    | brk => exact False.elim hq
    | cont => exact False.elim hq

/-! ### xs.count(y), flat things -/
theorem cnt_eqU {x : V} {xs : List V} {us : List Value} (r : Vals xs us) (f : xs.all flatV = true) :
    us.countP (eqU x) = xs.countP fun y => eqV y x := by
  induction r with
  | nil => rfl
  | cons ry rt ih =>
    rw [List.all_cons, Bool.and_eq_true] at f
    rw [List.countP_cons, List.countP_cons, ih f.2, eqU_of ry f.1]
def rCntV (K : PySem.W.Frag) : V → List V → Hp → VK → Prop := fun x vs H Q => ∃ (a : Addr) (ys : List V) (y : V), x = .ref a ∧ vs = [y] ∧
  SqL K H a ys ∧ flatV y = true ∧ ys.all flatV = true ∧ Q (.int (ys.countP fun z => eqV z y : Nat)) H
theorem mt_cntV {X : Cx} : MtR X "list.count" (rCntV X.K) := by
  intro pins s σ H x xs v us Q I rx rxs h
  obtain ⟨p, ys, y, rfl, rfl, hs, fy, fys, q⟩ := h
  cases rx
  obtain ⟨u, rfl, ru⟩ := rxs.one
  obtain ⟨its, rv, ⟨⟨cls, dd, data, sl⟩, n, ho, hc, hdn, hd⟩, hlen⟩ := I.list hs
  simp only at hc hd
  subst hc hd
  refine call_meets PySem.F.slot_list_count ⟨_, ho, rfl⟩ PySem.F.entry_list_count (PySem.F.args_list_count_2 _ _)
    (SeqAt.list_countAt p its.toArray n dd sl u (eqU y)) ⟨ho, fun w hw => mem_eqAt ru fy rv fys w (by simpa using hw), ?_⟩
  have ec : its.toArray.toList.countP (eqU y) = ys.countP fun z => eqV z y := cnt_eqU rv fys
  refine ⟨.int (ys.countP fun z => eqV z y : Nat), H, I.tok _, ⟨s.toks, ?_⟩, q⟩
  show Value.int ((its.toArray.toList.countP (eqU y) : Nat) : Int) s.toks = _
  rw [ec]

/-! ### a list and a list, the left one perhaps the script -/
def rCatS (K : PySem.W.Frag) : R2 := fun x y H Q => ∃ l b xs zs, x = .ref l ∧ y = .ref b ∧ SqL K H l xs ∧ SqL K H b zs ∧
  xs.length + zs.length ≤ sizeLine ∧ ∀ p, H p = none → Q (.ref p) (upd H p (.lst (xs ++ zs)))
theorem op_catS {X : Cx} : OpR X (binaryOp .Add) (rCatS X.K) := by
  intro pins s σ H x y v u Q I rx ry h
  obtain ⟨l, b, xs, zs, rfl, rfl, hl, hb, hz, q⟩ := h
  cases rx
  cases ry
  obtain ⟨its, r, pl, _⟩ := I.list hl
  obtain ⟨its2, r2, pl2, _⟩ := I.list hb
  have n1 := r.length
  have n2 := r2.length
  obtain ⟨⟨c1, d1, da1, sl1⟩, m1, ho1, hc1, _, hd1⟩ := pl
  obtain ⟨⟨c2, d2, da2, sl2⟩, m2, ho2, hc2, _, hd2⟩ := pl2
  simp only at hc1 hd1 hc2 hd2
  subst hc1 hd1 hc2 hd2
  have ea : its.toArray ++ its2.toArray = (its ++ its2).toArray := by simp
  refine concat_meets ⟨_, ho1, rfl⟩ ⟨_, ho2, rfl⟩ noFill_list_add seq_list_add PySem.F.slot_list_add PySem.F.entry_list_add
    (PySem.F.args_list_add_2 _ _) (list_addW l b its.toArray its2.toArray m1 m2 d1 d2 sl1 sl2
      (by rw [List.size_toArray, List.size_toArray]; omega)) ⟨ho1, ho2, ?_⟩
  rw [ea]
  exact ⟨.ref _, _, I.lnew (t' := s.toks) (r.append r2) (by rw [List.length_append]; omega), rfl, q _ I.fresh⟩

/-! ### e(..), the value of e one of some defs of one promise -/
def tCallV (S : Addr → Prop) (sp : Sp) (E : St → XK) (te : TE) (t : TA) : TE := fun σ H Q => te σ H fun x H1 => ∃ f, x = .ref f ∧ S f ∧ t σ H1 fun vs H2 => sp vs H2 Q (E σ)
theorem pe_callV {X : Cx} {CX : CXT} {k : Nat} {S : Addr → Prop} {sp : Sp} {E : St → XK} {g e : Expr} {es : List Expr} {te : TE} {t : TA} {pos : Pos}
    (F : ∀ f, S f → ∃ (fd : FuncData) (ps : List Str), FnOk X.prog X.w X.K X.mg X.base CX k f fd ps sp ∧ PySem.W.keepIn X.K (.ref f) = true ∧ Binds X.K fd ps [])
    (hr : Room k X.A) (hx : ∀ σ, PassesAt CX X σ (E σ)) (hg : PE X g te) (ha : PA X (e :: es) t)
    (hev : eval (.Call g (e :: es) [] pos) X.env = (do callWith pos (← eval g X.env) [] (backTo pos (starEach (e :: es) X.env)) (backToKw pos (keywordEach [] X.env))) := by rfl)
    (he : starEach (e :: es) X.env = (false, eval e X.env) :: starEach es X.env := by rfl)
    (hpl : (backTo pos (starEach es X.env)).any (·.1) = false := by rfl) : PE X (.Call g (e :: es) [] pos) (tCallV S sp E te t) := by
  refine ⟨fun pins s σ H Q I h => ?_⟩
  refine PyProof.Rows.Call_ (thn (hg.run pins s σ H _ I h) ?_) hev
  rintro u s1 ⟨x, H1, I1, rx, f, rfl, hS, h1⟩
  obtain rfl : u = Value.ref f := rx
  obtain ⟨fd, ps, F1, hk, hb⟩ := F f hS
  refine PySem.W.callWith_K (h₀ := X.base) I.ok.mod.kin hk (thn (ha.run pos pins s1 σ H1 _ I1 h1) ?_) he hpl
  rintro us s2 ⟨vs, H2, I2, r, h2⟩
  exact ⟨I2.kIn, run_fnS F1 hr hb (hx σ) I2 r h2⟩

/-! ### a def that may raise, with the errors' context told -/
theorem okN {P : Program} {w : World} {K : PySem.W.Frag} {mg : Str → Option Value} {base : Heap} {x qual : Str} {st : Stmt} {f : Addr} {fd : FuncData}
    {N ps : List Str} {k : Nat} {sp : Sp} (F : Fun K x qual st f fd) (S : FnScope N ps (defScope st)) (len : ∀ vs H Q E, sp vs H Q E → vs.length = ps.length)
    (hbody : ∀ (cdv : Value) (A : Around) (outer : List Env) (s : Shared) (H : Hp) (vs : List V) (Q : VK) (E : XK), Room k (A.deeper (envOfC qual (defScope st) s.heap.objs.size f cdv)) →
      sp vs H Q E → ∃ t, PSs (cxOf (L2N.CX P w) P w K mg base N qual (defScope st) f cdv A outer s H E) (defBody st) t ∧
        t { nx := fun _ H' => Q .non H', rt := Q } (start N vs) H) : FnOk P w K mg base (L2N.CX P w) (k + 1) f fd ps sp := by
  obtain ⟨oc, od, kV, doc, pm, an, cdv, ct, osl, rfl, lk, hcd⟩ := F.ex
  exact fn_of lk hcd S len fun A outer s H vs Q E hr hsp => hbody cdv A outer s H vs Q E hr hsp
/-- X(e, ..), X an own error class without its own __init__; its context told -/
theorem pmkN {X : Cx} {C : Addr} {bmB : List Value} {B newId initId : String} {x : Str} {p pos : Pos} {e : Expr} {es : List Expr} {t : TA}
    (F : ExcBaseFacts B newId initId bmB) (q : PySem.W.excIn X.K C bmB newId = true) (gC : X.mg x = some (.ref C))
    (kC : PySem.W.keepIn X.K (.ref C) = true) (r : Raises X (.ref C)) (hg : Gl X x) (ha : PA X (e :: es) t)
    (hdb : (x == ("__debug__" : Str)) = false := by decide)
    (he : starEach (e :: es) X.env = (false, eval e X.env) :: starEach es X.env := by rfl)
    (hpl : (backTo pos (starEach es X.env)).any (·.1) = false := by rfl) :
    L2N.PMk X (.Call (.Name x p) (e :: es) [] pos) (fun σ H Q => t σ H fun vs H1 => vs.length ≤ sizeLine ∧ Q (.ref C) none H1) := by
  intro pins s σ H Q I h
  refine wpAny_Call_Name_kw (ld_glob I hg gC ?_ hdb)
  refine PySem.W.callWith_K (h₀ := X.base) I.ok.mod.kin kC (thn (ha.run pos pins s σ H _ I h) ?_) he hpl
  rintro us s1 ⟨vs, H1, I1, r1, hz, q1⟩
  refine ⟨I1.kIn, ?_⟩
  show wpAny _ _ (call (.ref C) us) _ _ _
  obtain ⟨bm, N, nm, qn, bs, hdct, sn, sub, ab, col, dd, k0, k1, k2, k3, k5, mN, hC, hN, hni, T⟩ := exc_obj I1.kIn q
  refine wpAny_call_exc_subT F T hC hN hni ?_ (by rw [← r1.length]; exact hz)
  intro h' e' hm
  exact L2N.mk_of I1 hm r q1 (I1.hok.gone hm.new)
theorem tkN {X : Cx} {E : XK} (hs : X.stack = X.env :: X.outer := by rfl) (hf : X.env.frame = some X.env.locals := by rfl) (hex : X.ex = [] := by rfl) {E₁ : Value → Shared → Prop}
    (hx : X.xe = fun e s' => wpAny (model X.prog X.w) X.A (leaving X.env e) (fun _ s'' => L2N.CX X.prog X.w X.outer X.H_0 X.s_0 E e s'') E₁ s' := by rfl) : L2N.Takes X (fun cls d _ H => E cls d H) := L2N.takes_of hs hf hex hx
/-- nothing is let out where the wish is none -/
theorem passN {X : Cx} : Passes (L2N.CX X.prog X.w) X E0 := by
  intro _ _ _ _ _ _ _ h
  obtain ⟨_, _, _, _, _, _, _, _, _, _, _, _, z⟩ := h
  exact z.elim
/-! ### heaps -/
theorem get_new {H : Hp} {p q : Addr} {o x : HO} (h : H p = none) (e : H q = some x) : upd H p o q = some x := by
  rw [upd_ne (ne_of_none e h)]
  exact e
theorem sq_new {K : PySem.W.Frag} {H : Hp} {p q : Addr} {o : HO} {xs : List V} (h : H p = none) (e : SqL K H q xs) : SqL K (upd H p o) q xs := by
  rcases e with (e | ⟨ob, e⟩) | e
  · exact .inl (.inl (get_new h e))
  · exact .inl (.inr ⟨ob, get_new h e⟩)
  · exact .inr e
theorem st_new {K : PySem.W.Frag} {H : Hp} {p q : Addr} {o : HO} {xs : List V} (h : H p = none) (e : SqT K H q xs) : SqT K (upd H p o) q xs := by
  rcases e with (e | ⟨ob, e⟩) | e
  · exact .inl (.inl (get_new h e))
  · exact .inl (.inr ⟨ob, get_new h e⟩)
  · exact .inr e
theorem same_new {H H' : Hp} {p : Addr} {o : HO} (h : H' p = none) (e : Same H H') : Same H (upd H' p o) := fun b x q => get_new h (e b x q)
theorem Same.new {H : Hp} {p : Addr} {o : HO} (h : H p = none) : Same H (upd H p o) := fun b x q => get_new h q
/-- a new object: from then on the heap is told by what it keeps and holds -/
theorem nw {H : Hp} {o : HO} {Q : VK} (k : ∀ (p : Addr) (H2 : Hp), H p = none → Same H H2 → H2 p = some o → Q (.ref p) H2) : ∀ p : Addr, H p = none → Q (.ref p) (upd H p o) :=
  fun p hp => k p _ hp (Same.new hp) upd_same
theorem takesN0 {X : Cx} : L2N.Takes X (fun _ _ _ _ => False) := by
  intro _ _ x
  obtain ⟨_, _, _, _, _, _, _, _, _, _, _, _, _, _, _, _, z⟩ := x
  exact z.elim
theorem ctx_of {cls : Value} {d : Option Addr} {oe : Obj} (hz : L2N.Zn cls d oe) (hf : ∃ vs, oe.data = .fields vs) : ∃ vs : Array Value, oe.data = .fields vs ∧ vs[2]? = some .none := by
  obtain ⟨vs, e⟩ := hf
  exact ⟨vs, e, hz.2.2 vs e⟩
theorem Same.seqT {K : PySem.W.Frag} {H H' : Hp} {a : Addr} {xs : List V} (e : Same H H') (h : SqT K H a xs) : SqT K H' a xs := by
  rcases h with (h | ⟨o, h⟩) | h
  · exact .inl (.inl (e _ _ h))
  · exact .inl (.inr ⟨o, e _ _ h⟩)
  · exact .inr h
theorem Same.ty {K : PySem.W.Frag} {H H' : Hp} {x : V} {T : String} (e : Same H H') (h : TyB K H x T) : TyB K H' x T := by
  cases h with
  | non => exact .non
  | bl b => exact .bl b
  | int i => exact .int i
  | str x => exact .str x
  | byt b => exact .byt b
  | lst h => exact .lst (Same.seq e h)
  | tup h => exact .tup (Same.seqT e h)
  | dK h => exact .dK (e _ _ h)
theorem small {n : Nat} (h : n.ble 100000 = true) : n ≤ 100000 := Nat.le_of_ble_eq_true h
end LH
/-! the reader: a reading, step by step, what follows kept as a letter -/
namespace LH
open PySem L2
variable {K : PySem.W.Frag} {σ : L2.St} {H : Hp} {Q : VK} {D : Ends} {ta tb te tc : TE} {t u : TS} {c c' : TT} {x y v : V} {r r' : R2} {tr : TA} {g : TG}
def Br (b : Bool) (A B : Prop) : Prop := if b = true then A else B
theorem br_t {A B : Prop} (h : A) : Br true A B := by unfold Br; rw [if_pos rfl]; exact h
theorem br_f {A B : Prop} (h : B) : Br false A B := by unfold Br; rw [if_neg Bool.false_ne_true]; exact h
theorem br {b : Bool} {A B : Prop} (h1 : b = true → A) (h2 : b = false → B) : Br b A B := by
  cases b
  · exact br_f (h2 rfl)
  · exact br_t (h1 rfl)
theorem br_p {p A B : Prop} [Decidable p] (h : p) (k : A) : Br (decide p) A B := by rw [decide_eq_true h]; exact br_t k
theorem br_n {p A B : Prop} [Decidable p] (h : ¬ p) (k : B) : Br (decide p) A B := by rw [decide_eq_false h]; exact br_f k
theorem br_d {p A B : Prop} [Decidable p] (h1 : p → A) (h2 : ¬ p → B) : Br (decide p) A B := br (fun e => h1 (of_decide_eq_true e)) (fun e => h2 (of_decide_eq_false e))
theorem br_nd {p A B : Prop} [Decidable p] (h1 : ¬ p → A) (h2 : p → B) : Br (!decide p) A B := br (fun e => h1 (by simpa using e)) (fun e => h2 (by simpa using e))
theorem br_nt {A B : Prop} (h : B) : Br (!true) A B := br_f h
theorem br_nf {A B : Prop} (h : A) : Br (!false) A B := br_t h
theorem br_eq {b b' : Bool} {A B : Prop} (e : b = b') (h : Br b' A B) : Br b A B := by rw [e]; exact h
def Bx (x : V) (H : Hp) (Q : Bool → Hp → Prop) : Prop := ∃ k, x = .bl k ∧ Q k H
theorem bx {k : Bool} {Q : Bool → Hp → Prop} (q : Q k H) : Bx (.bl k) H Q := ⟨k, rfl, q⟩
def BAnd (x : V) (H : Hp) (Q : VK) (R : Hp → VK → Prop) : Prop := ∃ c, x = .bl c ∧ if c = true then R H Q else Q (.bl false) H
def BOr (x : V) (H : Hp) (Q : VK) (R : Hp → VK → Prop) : Prop := ∃ c, x = .bl c ∧ if c = true then Q (.bl true) H else R H Q
theorem band {k : Bool} {R : Hp → VK → Prop} (q : Br k (R H Q) (Q (.bl false) H)) : BAnd (.bl k) H Q R := ⟨k, rfl, q⟩
theorem bor {k : Bool} {R : Hp → VK → Prop} (q : Br k (Q (.bl true) H) (R H Q)) : BOr (.bl k) H Q R := ⟨k, rfl, q⟩
def NewL (xs : List V) (H : Hp) (Q : VK) : Prop := xs.length ≤ sizeLine ∧ ∀ p, H p = none → Q (.ref p) (upd H p (.lst xs))
def NewT (xs : List V) (H : Hp) (Q : VK) : Prop := xs.length ≤ sizeLine ∧ ∀ p, H p = none → Q (.ref p) (upd H p (.tup xs))
theorem sz {n : Nat} (h : n ≤ 100000) : n ≤ sizeLine := Nat.le_trans h (by decide)
theorem sz' {n : Nat} (h : n ≤ 100000) : n < sizeLine := Nat.lt_of_le_of_lt h (by decide)
theorem newl {xs : List V} (hl : xs.length ≤ 100000) (k : ∀ p H2, H p = none → Same H H2 → H2 p = some (.lst xs) → Q (.ref p) H2) : NewL xs H Q :=
  ⟨sz hl, fun p hp => k p _ hp (Same.new hp) upd_same⟩
theorem newt {xs : List V} (hl : xs.length ≤ 100000) (k : ∀ p H2, H p = none → Same H H2 → H2 p = some (.tup xs) → Q (.ref p) H2) : NewT xs H Q :=
  ⟨sz hl, fun p hp => k p _ hp (Same.new hp) upd_same⟩
def NewO (o : HO) (H : Hp) (Q : VK) : Prop := ∀ p, H p = none → Q (.ref p) (upd H p o)
theorem newo {o : HO} (k : ∀ p H2, H p = none → Same H H2 → H2 p = some o → Q (.ref p) H2) : NewO o H Q := fun p hp => k p _ hp (Same.new hp) upd_same
/-! statements -/
theorem x_seq (h : t { D with nx := u D } σ H) : tSeq t u D σ H := h
theorem x_asg (h : te σ H fun x H1 => g x σ H1 D.nx) : tAsg te g D σ H := h
theorem x_gname {i : Nat} {Q : L2.St → Hp → Prop} (h : Q (σ.set i (some v)) H) : gName i v σ H Q := h
theorem x_ret (h : te σ H D.rt) : tRet te D σ H := h
theorem x_drop (h : te σ H fun _ H1 => D.nx σ H1) : tDrop te D σ H := h
theorem x_ifS (h : c σ H fun b H1 => Br b (t D σ H1) (u D σ H1)) : tIfS c t u D σ H := h
theorem x_next (h : D.nx σ H) : tNext D σ H := h
theorem x_cont (h : D.ct σ H) : tCont D σ H := h
/-! expressions -/
theorem x_var {i : Nat} (h : σ[i]? = some (some v)) (q : Q v H) : tVar i σ H Q := ⟨v, h, q⟩
theorem x_c (q : Q v H) : tC v σ H Q := q
theorem x_op (h : ta σ H fun x H1 => tb σ H1 fun y H2 => r x y H2 Q) : tOp r ta tb σ H Q := h
theorem x_un {r : V → Hp → VK → Prop} (h : ta σ H fun x H1 => r x H1 Q) : tUn r ta σ H Q := h
theorem x_U {f : Int → V} {i : Int} (q : Q (f i) H) : rU f (.int i) H Q := ⟨i, rfl, q⟩
theorem x_I0 {f : Int → Int → V} {i j : Int} (q : Q (f i j) H) : rI0 f (.int i) (.int j) H Q := ⟨i, j, rfl, rfl, q⟩
theorem x_I {C : Int → Int → Prop} {f : Int → Int → V} {i j : Int} (h : C i j) (q : Q (f i j) H) : rI C f (.int i) (.int j) H Q := ⟨i, j, rfl, rfl, h, q⟩
theorem x_eq (h : scal x y = true) (q : Q (.bl (decide (x = y))) H) : rEq x y H Q := ⟨h, q⟩
theorem x_ne (h : scal x y = true) (q : Q (.bl (!decide (x = y))) H) : rNe x y H Q := ⟨h, q⟩
theorem x_test {Q : Bool → Hp → Prop} (h : te σ H fun x H1 => Bx x H1 Q) : tTest te σ H Q := h
theorem x_tB {Q : Bool → Hp → Prop} (h : te σ H fun x H1 => Bx x H1 Q) : tB te σ H Q := h
theorem x_and {Q : Bool → Hp → Prop} (h : c σ H fun b H1 => Br b (c' σ H1 Q) (Q false H1)) : tAnd c c' σ H Q := h
theorem x_or {Q : Bool → Hp → Prop} (h : c σ H fun b H1 => Br b (Q true H1) (c' σ H1 Q)) : tOr c c' σ H Q := h
theorem x_not {Q : Bool → Hp → Prop} (h : c σ H fun b H1 => Q (!b) H1) : tNot c σ H Q := h
theorem x_andV (h : ta σ H fun x H1 => BAnd x H1 Q (tb σ)) : tAndV ta tb σ H Q := h
theorem x_orV (h : ta σ H fun x H1 => BOr x H1 Q (tb σ)) : tOrV ta tb σ H Q := h
theorem x_notV (h : ta σ H fun x H1 => Bx x H1 fun b H2 => Q (.bl (!b)) H2) : tNotV ta σ H Q := h
theorem x_if (h : c σ H fun b H1 => Br b (ta σ H1 Q) (tb σ H1 Q)) : tIf c ta tb σ H Q := h
def ChK (z : V) (σ : L2.St) (H : Hp) (Q : VK) (tc : TE) (r' : R2) (y : V) : Prop := ∃ k, z = .bl k ∧ if k = true then tc σ H fun w' H4 => r' y w' H4 Q else Q (.bl false) H
theorem x_chain (h : ta σ H fun x H1 => tb σ H1 fun y H2 => r x y H2 fun z H3 => ChK z σ H3 Q tc r' y) : tChain r r' ta tb tc σ H Q := h
theorem chk {k : Bool} (h : Br k (tc σ H fun w' H4 => r' y w' H4 Q) (Q (.bl false) H)) : ChK (.bl k) σ H Q tc r' y := ⟨k, rfl, h⟩
theorem x_nil {Q : List V → Hp → Prop} (q : Q [] H) : tNil σ H Q := q
theorem x_cons {Q : List V → Hp → Prop} (h : ta σ H fun x H1 => tr σ H1 fun xs H2 => Q (x :: xs) H2) : tCons ta tr σ H Q := h
theorem x_lst (h : tr σ H fun xs H1 => NewL xs H1 Q) : tLst tr σ H Q := h
theorem x_tup (h : tr σ H fun xs H1 => NewT xs H1 Q) : tTup tr σ H Q := h
theorem x_call {sp : Sp} {dvs : List V} {E : XK} (h : tr σ H fun vs H1 => sp (vs ++ dvs) H1 Q E) : tCall sp dvs E tr σ H Q := h
theorem x_callS {sp : Sp} {E : L2.St → XK} (h : tr σ H fun vs H1 => sp vs H1 Q (E σ)) : tCallS sp E tr σ H Q := h
theorem x_callE {sp : SpE} {e : Addr} {cls : Value} {d : Option Addr} (h : tr σ H fun vs H1 => sp e cls d vs H1 Q) : tCallE sp e cls d tr σ H Q := h
theorem x_cb {r : List V → Hp → VK → Prop} (h : tr σ H fun vs H1 => r vs H1 Q) : tCB r tr σ H Q := h
def BmV (K : PySem.W.Frag) (T : String) (r : V → List V → Hp → VK → Prop) (tr : TA) (σ : L2.St) (x : V) (H : Hp) (Q : VK) : Prop := tyV K T x H ∧ tr σ H fun xs H2 => r x xs H2 Q
theorem x_bm {T : String} {r : V → List V → Hp → VK → Prop} (h : te σ H fun x H1 => BmV K T r tr σ x H1 Q) : tBM K T r te tr σ H Q := h
theorem bm_l {r : V → List V → Hp → VK → Prop} {p : Addr} {xs : List V} (h : SqL K H p xs) (q : tr σ H fun ys H2 => r (.ref p) ys H2 Q) : BmV K "list" r tr σ (.ref p) H Q := ⟨.inl ⟨rfl, _, h⟩, q⟩
def CvV (S : Addr → Prop) (sp : Sp) (E : L2.St → XK) (tr : TA) (σ : L2.St) (x : V) (H : Hp) (Q : VK) : Prop := ∃ f, x = .ref f ∧ S f ∧ tr σ H fun vs H2 => sp vs H2 Q (E σ)
theorem x_callV {S : Addr → Prop} {sp : Sp} {E : L2.St → XK} (h : te σ H fun x H1 => CvV S sp E tr σ x H1 Q) : tCallV S sp E te tr σ H Q := h
theorem cvv {S : Addr → Prop} {sp : Sp} {E : L2.St → XK} {f : Addr} (h : S f) (q : tr σ H fun vs H2 => sp vs H2 Q (E σ)) : CvV S sp E tr σ (.ref f) H Q := ⟨f, rfl, h, q⟩
/-! values -/
theorem x_ixL {p : Addr} {xs : List V} {i : Int} (h : SqL K H p xs) (e : atI xs i = some v) (q : Q v H) : rIxL K (.ref p) (.int i) H Q := ⟨p, xs, i, v, rfl, rfl, h, e, q⟩
theorem x_ixT {p : Addr} {xs : List V} {i : Int} (h : SqT K H p xs) (e : atI xs i = some v) (q : Q v H) : rIxT K (.ref p) (.int i) H Q := ⟨p, xs, i, v, rfl, rfl, h, e, q⟩
theorem x_isi {t : Value} {n : Value} {b : Bool} {cv : V} (k : ClsV cv n) (ty : TyX K H x t) (e : PySem.W.kitOne K t n = some b) (q : Q (.bl b) H) : rIsi K [x, cv] H Q := ⟨x, cv, t, n, b, rfl, k, ty, e, q⟩
theorem x_isE {C a : Addr} {b : Bool} {cv : V} {n : Value} (hc : ∀ u, RelV cv u → u = n) (e : PySem.W.kitOne K (.ref C) n = some b) (q : Q (.bl b) H) : rIsE K C a [.ref a, cv] H Q := ⟨cv, n, b, rfl, hc, e, q⟩
theorem x_cntV {p : Addr} {ys : List V} (h : SqL K H p ys) (fy : flatV y = true) (fys : ys.all flatV = true) (q : Q (.int (ys.countP fun z => eqV z y : Nat)) H) : rCntV K (.ref p) [y] H Q := ⟨p, ys, y, rfl, rfl, h, fy, fys, q⟩
theorem x_index {p : Addr} {ys : List V} {j : Nat} {z : V} (h : SqL K H p ys) (fy : flatV y = true) (fys : ys.all flatV = true) (e : ys[j]? = some z) (ez : eqV z y = true)
    (hn : ∀ (m : Nat) (z' : V), m < j → ys[m]? = some z' → eqV z' y = false) (q : Q (.int (j : Nat)) H) : rIndex K (.ref p) [y] H Q := ⟨p, ys, y, j, z, rfl, rfl, h, fy, fys, e, ez, hn, q⟩
theorem x_catS {p q : Addr} {xs ys : List V} (h1 : SqL K H p xs) (h2 : SqL K H q ys) (hl : xs.length + ys.length ≤ 100000)
    (k : ∀ p H2, H p = none → Same H H2 → H2 p = some (.lst (xs ++ ys)) → Q (.ref p) H2) : rCatS K (.ref p) (.ref q) H Q :=
  ⟨p, q, xs, ys, rfl, rfl, h1, h2, sz hl, fun p hp => k p _ hp (Same.new hp) upd_same⟩
theorem x_in {neg : Bool} {p : Addr} {xs : List V} (h : SqL K H p xs) (hx : flatV x = true) (ha : xs.all flatV = true) (q : Q (.bl (if neg then !inV x xs else inV x xs)) H) : rIn K neg x (.ref p) H Q := ⟨p, xs, rfl, Or.inl h, hx, ha, q⟩
theorem x_typ {T : String} (h : TyB K H x T) (q : Q (.ty T) H) : rTyp K [x] H Q := ⟨x, T, rfl, h, q⟩
theorem x_neD {d e : PyData} (hx : Dp K H x d) (hy : Dp K H y e) (sd : SeqAt.shaped d = true) (se : SeqAt.shaped e = true) (q : Q (.bl (!PyData.eqv d e)) H) : rNeD K x y H Q := ⟨d, e, hx, hy, sd, se, q⟩
theorem x_eqD {d e : PyData} (hx : Dp K H x d) (hy : Dp K H y e) (sd : SeqAt.shaped d = true) (se : SeqAt.shaped e = true) (q : Q (.bl (PyData.eqv d e)) H) : rEqD K x y H Q := ⟨d, e, hx, hy, sd, se, q⟩
def LrV (a b : Int) (H : Hp) (Q : VK) : Prop := RgOk a b ∧ NewO (.lst (rgV a b)) H Q
theorem lrv {a b : Int} (h : RgOk a b) (k : ∀ p H2, H p = none → Same H H2 → H2 p = some (.lst (rgV a b)) → Q (.ref p) H2) : LrV a b H Q := ⟨h, newo k⟩
theorem x_lrg {te : L2.St → Hp → (Int → Int → Hp → Prop) → Prop} (h : te σ H fun a b H1 => LrV a b H1 Q) : tLstRg te σ H Q := h
end LH
namespace LH
open PySem L2
section
variable {K : PySem.W.Frag} {σ : L2.St} {H : Hp} {Q : VK} {te tl : TE} {t : TT} {g : TG}
/-! comprehensions over a list -/
def LcV (K : PySem.W.Frag) (g : TG) (t : TT) (te : TE) (vs : List Nat) (σ : L2.St) (x : V) (H1 : Hp) (Q : VK) : Prop :=
  ∃ a, x = .ref a ∧ (∃ xs, SqL K H1 a xs) ∧ ∀ D, H1 D = none → ∃ W : Nat → Nat → Hp → Prop, (∃ m, W 0 m (upd H1 D (.lst []))) ∧ ∀ i m H, W i m H →
  ((Itl K a).stop i H ∧ Q (.ref D) H) ∨ ((Itl K a).go i H ∧ ∃ Nx : Hp → Prop, (∀ H', Nx H' → ∃ m', m' < m ∧ W (i + 1) m' H') ∧ ∀ x H', (Itl K a).yld i H x H' → g x (wipe σ vs) H' fun σ2 H2 => wipe σ2 vs = wipe σ vs ∧ t σ2 H2 fun b H3 =>
    if b = true then te σ2 H3 fun y H4 => ∃ acc, H4 D = some (.lst acc) ∧ acc.length < sizeLine ∧ Nx (upd H4 D (.lst (acc ++ [y]))) else Nx H3)
theorem x_lc {vs : List Nat} (h : tl σ H fun x H1 => LcV K g t te vs σ x H1 Q) : tLc (iList K tl) g t te vs σ H Q := h
theorem take_more {α : Type} {l : List α} {i : Nat} {x : α} (h : l[i]? = some x) : l.take (i + 1) = l.take i ++ [x] := by
  rw [List.take_add_one, h]
  rfl
theorem Same.mut {H H' : Hp} {p : Addr} {o : HO} (e : Same H H') (h : H p = none) : Same H (upd H' p o) := fun a u ha => by
  rw [upd_ne (ne_of_none ha h)]
  exact e a u ha
/-- each item kept where f says so, and turned by v; tests and elements may make things of their own -/
theorem lc_L {a : Addr} {xs : List V} {j : Nat} {vs : List Nat} (hx : SqL K H a xs) (hz : xs.length ≤ 100000) (f : V → Bool) (v : V → V)
    (hw : ∀ x, wipe ((wipe σ vs).set j (some x)) vs = wipe σ vs)
    (ht : ∀ x, x ∈ xs → ∀ H1, Same H H1 → ∀ Q : Bool → Hp → Prop, (∀ H2, Same H1 H2 → Q (f x) H2) → t ((wipe σ vs).set j (some x)) H1 Q)
    (he : ∀ x, x ∈ xs → f x = true → ∀ H1, Same H H1 → ∀ Q : VK, (∀ H2, Same H1 H2 → Q (v x) H2) → te ((wipe σ vs).set j (some x)) H1 Q)
    (k : ∀ p H2, H p = none → Same H H2 → H2 p = some (.lst ((xs.filter f).map v)) → Q (.ref p) H2) : LcV K (gName j) t te vs σ (.ref a) H Q := by
  refine ⟨a, rfl, ⟨xs, hx⟩, fun D hD => ?_⟩
  refine lc_list (xs := xs) (fun i H' => Same H H' ∧ H' D = some (.lst (((xs.take i).filter f).map v))) ⟨Same.new hD, upd_same⟩ (fun i H' _ p => Same.seq p.1 hx) ?_ ?_
  · intro i x H' hi p
    have hm : x ∈ xs := List.mem_of_getElem? hi
    have hlt : i < xs.length := (List.getElem?_eq_some_iff.mp hi).1
    have et := take_more hi
    refine ⟨hw x, ht x hm H' p.1 _ fun H2 e2 => ?_⟩
    cases hf : f x with
    | true =>
      rw [if_pos rfl]
      refine he x hm hf H2 (p.1.trans e2) _ fun H3 e3 => ⟨_, e3 _ _ (e2 _ _ p.2), ?_, ?_, ?_⟩
      · have z1 := List.length_filter_le f (xs.take i)
        rw [List.length_map]
        rw [List.length_take] at z1
        exact sz' (by omega)
      · exact Same.mut ((p.1.trans e2).trans e3) hD
      · rw [et, List.filter_append, List.map_append, upd_same]
        simp [List.filter, hf]
    | false =>
      rw [if_neg Bool.false_ne_true]
      refine ⟨p.1.trans e2, ?_⟩
      rw [et, List.filter_append, List.map_append]
      simp [List.filter, hf]
      exact e2 _ _ p.2
  · intro H' p
    rw [List.take_length] at p
    exact k D H' hD p.1 p.2
/-- len(..) -/
def rLen (K : PySem.W.Frag) : List V → Hp → VK → Prop := fun xs H Q => ∃ p ys, xs = [.ref p] ∧ (SqL K H p ys ∨ SqT K H p ys) ∧ Q (.int ys.length) H
theorem call_len {X : Cx} : CallR X (.builtin "len") (rLen X.K) := call_len_seq
theorem x_lenL {p : Addr} {xs : List V} (h : SqL K H p xs) (q : Q (.int xs.length) H) : rLen K [.ref p] H Q := ⟨p, xs, rfl, .inl h, q⟩
theorem x_lenT {p : Addr} {xs : List V} (h : SqT K H p xs) (q : Q (.int xs.length) H) : rLen K [.ref p] H Q := ⟨p, xs, rfl, .inr h, q⟩
def rAbs : List V → Hp → VK → Prop := fun xs H Q => ∃ i, xs = [.int i] ∧ Q (.int (if i < 0 then -i else i)) H
theorem call_absI {X : Cx} : CallR X (.builtin "abs") rAbs := call_abs
theorem x_abs {i : Int} (q : Q (.int (if i < 0 then -i else i)) H) : rAbs [.int i] H Q := ⟨i, rfl, q⟩
def ForL (K : PySem.W.Frag) (g : TG) (tb : TS) (D : Ends) (σ : L2.St) (x : V) (H1 : Hp) : Prop := ∃ a, x = .ref a ∧ (∃ xs, SqL K H1 a xs) ∧ ∃ W : Nat → Nat → L2.St → Hp → Prop, (∃ m, W 0 m σ H1) ∧ ∀ i m σ H, W i m σ H →
  ((Itl K a).stop i H ∧ D.nx σ H) ∨ ((Itl K a).go i H ∧ ∃ N : L2.St → Hp → Prop, (∀ σ' H', N σ' H' → ∃ m', m' < m ∧ W (i + 1) m' σ' H') ∧ ∀ x H', (Itl K a).yld i H x H' → g x σ H' fun σ2 H2 => tb { D with nx := N, ct := N, bk := D.nx } σ2 H2)
theorem x_forL {tb : TS} {D : Ends} (h : tl σ H fun x H1 => ForL K g tb D σ x H1) : tFor (iList K tl) g tb D σ H := h
/-- a for over a list by what holds between two turns; the turn's item is x -/
theorem for_L {tb : TS} {D : Ends} {j : Nat} {a : Addr} {xs : List V} (hx : SqL K H a xs) (Pv : Nat → L2.St → Hp → Prop) (h0 : Pv 0 σ H) (hl : ∀ i σ H, i ≤ xs.length → Pv i σ H → SqL K H a xs)
    (hs : ∀ i x σ H, xs[i]? = some x → Pv i σ H → tb { nx := Pv (i + 1), rt := D.rt, ct := Pv (i + 1), bk := D.nx } (σ.set j (some x)) H) (hd : ∀ σ H, Pv xs.length σ H → D.nx σ H) : ForL K (gName j) tb D σ (.ref a) H :=
  ⟨a, rfl, ⟨xs, hx⟩, for_list (xs := xs) Pv h0 hl (fun i x σ H e p => hs i x σ H e p) hd⟩
def Rg1V (x : V) (H : Hp) (Q : Int → Int → Hp → Prop) : Prop := ∃ n, x = .int n ∧ Q 0 n H
def Rg2V (x y : V) (H : Hp) (Q : Int → Int → Hp → Prop) : Prop := ∃ i j, x = .int i ∧ y = .int j ∧ Q i j H
theorem x_rg1 {Q : Int → Int → Hp → Prop} (h : te σ H fun x H1 => Rg1V x H1 Q) : tRg1 te σ H Q := h
theorem x_rg2 {tb : TE} {Q : Int → Int → Hp → Prop} (h : te σ H fun x H1 => tb σ H1 fun y H2 => Rg2V x y H2 Q) : tRg2 te tb σ H Q := h
theorem rg1v {n : Int} {Q : Int → Int → Hp → Prop} (q : Q 0 n H) : Rg1V (.int n) H Q := ⟨n, rfl, q⟩
theorem rg2v {i j : Int} {Q : Int → Int → Hp → Prop} (q : Q i j H) : Rg2V (.int i) (.int j) H Q := ⟨i, j, rfl, rfl, q⟩
end
end LH
namespace LH
open PySem L2
section
variable {K : PySem.W.Frag} {σ : L2.St} {H : Hp} {Q : VK} {D : Ends} {te tl ta tb : TE} {tr : TA} {t : TT} {g : TG} {x y : V}
/-! walks of any kind -/
def LcJ (J : It) (g : TG) (t : TT) (te : TE) (vs : List Nat) (σ : L2.St) (H1 : Hp) (Q : VK) : Prop :=
  ∀ D, H1 D = none → ∃ W : Nat → Nat → Hp → Prop, (∃ m, W 0 m (upd H1 D (.lst []))) ∧ ∀ i m H, W i m H →
  (J.stop i H ∧ Q (.ref D) H) ∨ (J.go i H ∧ ∃ Nx : Hp → Prop, (∀ H', Nx H' → ∃ m', m' < m ∧ W (i + 1) m' H') ∧ ∀ x H', J.yld i H x H' → g x (wipe σ vs) H' fun σ2 H2 => wipe σ2 vs = wipe σ vs ∧ t σ2 H2 fun b H3 =>
    if b = true then te σ2 H3 fun y H4 => ∃ acc, H4 D = some (.lst acc) ∧ acc.length < sizeLine ∧ Nx (upd H4 D (.lst (acc ++ [y]))) else Nx H3)
def ForJ (J : It) (g : TG) (tb : TS) (D : Ends) (σ : L2.St) (H1 : Hp) : Prop := ∃ W : Nat → Nat → L2.St → Hp → Prop, (∃ m, W 0 m σ H1) ∧ ∀ i m σ H, W i m σ H →
  (J.stop i H ∧ D.nx σ H) ∨ (J.go i H ∧ ∃ N : L2.St → Hp → Prop, (∀ σ' H', N σ' H' → ∃ m', m' < m ∧ W (i + 1) m' σ' H') ∧ ∀ x H', J.yld i H x H' → g x σ H' fun σ2 H2 => tb { D with nx := N, ct := N, bk := D.nx } σ2 H2)
def StrV (v : V) (H : Hp) (R : It → Hp → Prop) : Prop := ∃ x, v = .str x ∧ R (Its x) H
theorem strv {z : Str} {R : It → Hp → Prop} (h : R (Its z) H) : StrV (.str z) H R := ⟨z, rfl, h⟩
def Rn1V (vs : List V) (H : Hp) (R : It → Hp → Prop) : Prop := ∃ j : Int, vs = [.int j] ∧ -(2 ^ 62) ≤ j ∧ j < 2 ^ 62 ∧ R (Itr 0 j.toNat) H
theorem rn1v {j : Int} {R : It → Hp → Prop} (h1 : -100000 ≤ j) (h2 : j ≤ 100000) (h : R (Itr 0 j.toNat) H) : Rn1V [.int j] H R := ⟨j, rfl, by omega, by omega, h⟩
def Rn3V (vs : List V) (H : Hp) (R : It → Hp → Prop) : Prop := ∃ (i j c : Int) (n : Nat), vs = [.int i, .int j, .int c] ∧ RgC i j c n ∧ R (Itc i c n) H
theorem rn3v {i j c : Int} {n : Nat} {R : It → Hp → Prop} (h1 : RgC i j c n) (h : R (Itc i c n) H) : Rn3V [.int i, .int j, .int c] H R := ⟨i, j, c, n, rfl, h1, h⟩
def TupV (K : PySem.W.Frag) (x : V) (H : Hp) (R : It → Hp → Prop) : Prop := ∃ a, x = .ref a ∧ (∃ xs, SqT K H a xs) ∧ R (Itt K a) H
theorem x_lcS {vs : List Nat} (h : tl σ H fun v H1 => StrV v H1 fun J H2 => LcJ J g t te vs σ H2 Q) : tLc (iStr tl) g t te vs σ H Q := h
theorem x_lcR1 {vs : List Nat} (h : tr σ H fun v H1 => Rn1V v H1 fun J H2 => LcJ J g t te vs σ H2 Q) : tLc (iRng1 tr) g t te vs σ H Q := h
theorem x_forR1 {tb : TS} (h : tr σ H fun v H1 => Rn1V v H1 fun J H2 => ForJ J g tb D σ H2) : tFor (iRng1 tr) g tb D σ H := h
theorem x_forR3 {tb : TS} (h : tr σ H fun v H1 => Rn3V v H1 fun J H2 => ForJ J g tb D σ H2) : tFor (iRng3 tr) g tb D σ H := h
theorem for_R3 {tb : TS} {lo c : Int} {n : Nat} {j : Nat} (Pv : Nat → L2.St → Hp → Prop) (h0 : Pv 0 σ H)
    (hs : ∀ i σ H, i < n → Pv i σ H → tb { nx := Pv (i + 1), rt := D.rt, ct := Pv (i + 1), bk := D.nx } (σ.set j (some (.int (lo + (i : Nat) * c)))) H) (hd : ∀ σ H, Pv n σ H → D.nx σ H) : ForJ (Itc lo c n) (gName j) tb D σ H :=
  for_rangeC Pv h0 (fun i σ H hi p => hs i σ H hi p) hd
theorem for_R1 {tb : TS} {lo : Int} {n : Nat} {j : Nat} (Pv : Nat → L2.St → Hp → Prop) (h0 : Pv 0 σ H)
    (hs : ∀ i σ H, i < n → Pv i σ H → tb { nx := Pv (i + 1), rt := D.rt, ct := Pv (i + 1), bk := D.nx } (σ.set j (some (.int (lo + (i : Nat))))) H) (hd : ∀ σ H, Pv n σ H → D.nx σ H) : ForJ (Itr lo n) (gName j) tb D σ H :=
  for_range Pv h0 (fun i σ H hi p => hs i σ H hi p) hd
/-- a comprehension whose walk gives the items xs, the heap as it was -/
theorem lc_J {J : It} {n : Nat} {Y : Nat → Hp → V → Hp → Prop} (w : Walk J n (fun _ => True) Y) {xs : List V} (hn : xs.length = n) (hY : ∀ i H x H', Y i H x H' → H' = H ∧ xs[i]? = some x) {j : Nat} {vs : List Nat} (hz : xs.length ≤ 100000)
    (f : V → Bool) (v : V → V) (hw : ∀ x, wipe ((wipe σ vs).set j (some x)) vs = wipe σ vs)
    (ht : ∀ x, x ∈ xs → ∀ H1, Same H H1 → ∀ Q : Bool → Hp → Prop, (∀ H2, Same H1 H2 → Q (f x) H2) → t ((wipe σ vs).set j (some x)) H1 Q)
    (he : ∀ x, x ∈ xs → f x = true → ∀ H1, Same H H1 → ∀ Q : VK, (∀ H2, Same H1 H2 → Q (v x) H2) → te ((wipe σ vs).set j (some x)) H1 Q)
    (k : ∀ p H2, H p = none → Same H H2 → H2 p = some (.lst ((xs.filter f).map v)) → Q (.ref p) H2) : LcJ J (gName j) t te vs σ H Q := by
  intro D hD
  refine lc_it w (fun i H' => Same H H' ∧ H' D = some (.lst (((xs.take i).filter f).map v))) ⟨Same.new hD, upd_same⟩ (fun _ _ _ _ => trivial) ?_ ?_
  · intro i x H' H'' hi p y
    obtain ⟨rfl, hx⟩ := hY _ _ _ _ y
    have hm : x ∈ xs := List.mem_of_getElem? hx
    have et := take_more hx
    refine ⟨hw x, ht x hm _ p.1 _ fun H2 e2 => ?_⟩
    cases hf : f x with
    | true =>
      rw [if_pos rfl]
      refine he x hm hf H2 (p.1.trans e2) _ fun H3 e3 => ⟨_, e3 _ _ (e2 _ _ p.2), ?_, ?_, ?_⟩
      · have z1 := List.length_filter_le f (xs.take i)
        rw [List.length_map]
        rw [List.length_take] at z1
        exact sz' (by omega)
      · exact Same.mut ((p.1.trans e2).trans e3) hD
      · rw [et, List.filter_append, List.map_append, upd_same]
        simp [List.filter, hf]
    | false =>
      rw [if_neg Bool.false_ne_true]
      refine ⟨p.1.trans e2, ?_⟩
      rw [et, List.filter_append, List.map_append]
      simp [List.filter, hf]
      exact e2 _ _ p.2
  · intro H' p
    rw [← hn, List.take_length] at p
    exact k D H' hD p.1 p.2
def signs (z : Str) : List V := z.cps.toList.map fun c => .str ⟨#[c]⟩
theorem signs_len (z : Str) : (signs z).length = z.cps.size := by unfold signs; rw [List.length_map, Array.length_toList]
/-- .. over a text's signs -/
theorem lc_S {z : Str} {j : Nat} {vs : List Nat} (hz : z.cps.size ≤ 100000) (f : V → Bool) (v : V → V) (hw : ∀ x, wipe ((wipe σ vs).set j (some x)) vs = wipe σ vs)
    (ht : ∀ x, x ∈ signs z → ∀ H1, Same H H1 → ∀ Q : Bool → Hp → Prop, (∀ H2, Same H1 H2 → Q (f x) H2) → t ((wipe σ vs).set j (some x)) H1 Q)
    (he : ∀ x, x ∈ signs z → f x = true → ∀ H1, Same H H1 → ∀ Q : VK, (∀ H2, Same H1 H2 → Q (v x) H2) → te ((wipe σ vs).set j (some x)) H1 Q)
    (k : ∀ p H2, H p = none → Same H H2 → H2 p = some (.lst (((signs z).filter f).map v)) → Q (.ref p) H2) : LcJ (Its z) (gName j) t te vs σ H Q :=
  lc_J walk_str (signs_len z) (fun i H x H' ⟨e, c, hc, hx⟩ => ⟨e, by unfold signs; rw [List.getElem?_map, Array.getElem?_toList, hc, hx]; rfl⟩) (by rw [signs_len]; exact hz) f v hw ht he k
theorem walk_rg {lo : Int} {n : Nat} : Walk (Itr lo n) n (fun _ => True) (fun i H x H' => H' = H ∧ x = .int (lo + (i : Nat)) ∧ i < n) :=
  ⟨fun _ _ h _ => h, fun _ _ => Nat.le_refl _, fun i H x H' h _ y => ⟨y.1, y.2, h⟩⟩
def intsV (lo : Int) (n : Nat) : List V := (List.range n).map fun i => V.int (lo + (i : Nat))
/-- .. over a range -/
theorem lc_R {lo : Int} {n : Nat} {j : Nat} {vs : List Nat} (hz : n ≤ 100000) (f : V → Bool) (v : V → V) (hw : ∀ x, wipe ((wipe σ vs).set j (some x)) vs = wipe σ vs)
    (ht : ∀ x, x ∈ intsV lo n → ∀ H1, Same H H1 → ∀ Q : Bool → Hp → Prop, (∀ H2, Same H1 H2 → Q (f x) H2) → t ((wipe σ vs).set j (some x)) H1 Q)
    (he : ∀ x, x ∈ intsV lo n → f x = true → ∀ H1, Same H H1 → ∀ Q : VK, (∀ H2, Same H1 H2 → Q (v x) H2) → te ((wipe σ vs).set j (some x)) H1 Q)
    (k : ∀ p H2, H p = none → Same H H2 → H2 p = some (.lst (((intsV lo n).filter f).map v)) → Q (.ref p) H2) : LcJ (Itr lo n) (gName j) t te vs σ H Q :=
  lc_J walk_rg (by unfold intsV; rw [List.length_map, List.length_range]) (fun i H x H' ⟨e, hx, hi⟩ => ⟨e, by unfold intsV; rw [List.getElem?_map, List.getElem?_range hi, hx]; rfl⟩) (by unfold intsV; rw [List.length_map, List.length_range]; exact hz) f v hw ht he k
theorem x_yes {Q : Bool → Hp → Prop} (q : Q true H) : tYes σ H Q := q
/-! texts -/
def rLenS : List V → Hp → VK → Prop := fun xs H Q => ∃ z, xs = [.str z] ∧ z.length ≤ sizeLine ∧ Q (.int z.length) H
theorem call_lenS {X : Cx} : CallR X (.builtin "len") rLenS := call_len_str
theorem x_lenS {z : Str} (h : z.length ≤ 100000) (q : Q (.int z.length) H) : rLenS [.str z] H Q := ⟨z, rfl, sz h, q⟩
def rAddS : R2 := fun x y H Q => ∃ i j, x = .str i ∧ y = .str j ∧ i.length + j.length ≤ sizeLine ∧ Q (.str (i ++ j)) H
theorem op_addS {X : Cx} : OpR X (binaryOp .Add) rAddS := op_add_str
theorem x_addS {a b : Str} (h : a.length + b.length ≤ 100000) (q : Q (.str (a ++ b)) H) : rAddS (.str a) (.str b) H Q := ⟨a, b, rfl, rfl, sz h, q⟩
def rInS (neg : Bool) : R2 := fun x y H Q => ∃ (c : Nat) (z : Str), x = .str ⟨#[c]⟩ ∧ y = .str z ∧ Q (.bl (if neg then !decide (c ∈ z.cps.toList) else decide (c ∈ z.cps.toList))) H
theorem op_inS {X : Cx} : OpR X (compareOp .In) (rInS false) := op_in_sign
theorem op_niS {X : Cx} : OpR X (compareOp .NotIn) (rInS true) := op_notIn_sign
theorem x_inS {c : Nat} {z : Str} (q : Q (.bl (decide (c ∈ z.cps.toList))) H) : rInS false (.str ⟨#[c]⟩) (.str z) H Q := ⟨c, z, rfl, rfl, q⟩
theorem x_niS {c : Nat} {z : Str} (q : Q (.bl (!decide (c ∈ z.cps.toList))) H) : rInS true (.str ⟨#[c]⟩) (.str z) H Q := ⟨c, z, rfl, rfl, q⟩
theorem x_ixS {z : Str} {i : Int} {c : Nat} (h : z.length ≤ 100000) (e : atI z.cps.toList i = some c) (q : Q (.str ⟨#[c]⟩) H) : rIxS (.str z) (.int i) H Q := ⟨z, i, c, rfl, rfl, sz h, e, q⟩
theorem x_sl {r : V → Option Int → Option Int → Hp → VK → Prop} {lo hi : TO} (h : te σ H fun x H1 => lo σ H1 fun l H2 => hi σ H2 fun u H3 => r x l u H3 Q) : tSl r te lo hi σ H Q := h
theorem x_noPart {Q : Option Int → Hp → Prop} (q : Q none H) : tNoPart σ H Q := q
def PaV (x : V) (H : Hp) (Q : Option Int → Hp → Prop) : Prop := ∃ i, x = .int i ∧ Q (some i) H
theorem pav {i : Int} {Q : Option Int → Hp → Prop} (q : Q (some i) H) : PaV (.int i) H Q := ⟨i, rfl, q⟩
theorem x_part {Q : Option Int → Hp → Prop} (h : te σ H fun x H1 => PaV x H1 Q) : tPart te σ H Q := h
theorem x_slS {z : Str} {lo hi : Option Int} (h : z.length ≤ 100000) (q : Q (.str (cutS z lo hi)) H) : rSlS (.str z) lo hi H Q := ⟨z, rfl, sz h, q⟩
def JnV (K : PySem.W.Frag) (te : TE) (σ : L2.St) (x : V) (H : Hp) (Q : VK) : Prop := (∃ a, x = .str a) ∧ te σ H fun y H2 => ∃ a p, ∃ ys : List Str, x = .str a ∧ [y] = [.ref p] ∧ (SqL K H2 p (ys.map V.str) ∨ SqT K H2 p (ys.map V.str)) ∧
  (ys.map (·.length)).sum + ys.length * a.length ≤ 16777216 ∧ Q (.str (Txt.join a ys)) H2
def JnW (K : PySem.W.Frag) (a : Str) (y : V) (H2 : Hp) (Q : VK) : Prop := ∃ a' p, ∃ ys : List Str, V.str a = .str a' ∧ [y] = [.ref p] ∧ (SqL K H2 p (ys.map V.str) ∨ SqT K H2 p (ys.map V.str)) ∧
  (ys.map (·.length)).sum + ys.length * a'.length ≤ 16777216 ∧ Q (.str (Txt.join a' ys)) H2
theorem x_jnv {a : Str} (h : te σ H fun y H2 => JnW K a y H2 Q) : JnV K te σ (.str a) H Q := ⟨⟨a, rfl⟩, h⟩
theorem x_jnw {a : Str} {p : Addr} {ys : List Str} (h : SqL K H p (ys.map V.str)) (hz : (ys.map (·.length)).sum + ys.length * a.length ≤ 100000) (q : Q (.str (Txt.join a ys)) H) : JnW K a (.ref p) H Q := ⟨a, p, ys, rfl, rfl, .inl h, Nat.le_trans hz (by decide), q⟩
def tJoin (K : PySem.W.Frag) (to te : TE) : TE := fun σ H Q => to σ H fun x H1 => JnV K te σ x H1 Q
theorem x_join {to : TE} (h : to σ H fun x H1 => JnV K te σ x H1 Q) : tJoin K to te σ H Q := h
theorem pe_joinN {X : Cx} {o e : Expr} {to te : TE} {apos pos : Pos} (ho : PE X o to) (he : PE X e te) (hs : starEach [e] X.env = [(false, eval e X.env)] := by rfl) (hbase : attributeBase o "join" X.env (eval o X.env) = eval o X.env := by rfl) (hline : (apos.endLine == pos.line) = true := by rfl) :
    PE X (.Call (.Attribute o "join" apos) [e] [] pos) (tJoin X.K to te) := pe_join ho he hs hbase hline
/-! tuples, bools, lists of, unpacking -/
theorem x_slA {p : Addr} {xs : List V} {lo hi : Option Int} (h : SqT K H p xs) (k : ∀ p' H2, Same H H2 → SqT K H2 p' (cutV xs lo hi) → Q (.ref p') H2) : rSlA K (.ref p) lo hi H Q := by
  refine ⟨p, xs, rfl, h, fun hw => ?_, fun hw q hq => k q _ (Same.new hq) (SqT.of upd_same)⟩
  have e : cutV xs lo hi = xs := by
    unfold cutV
    rw [hw.1, hw.2, List.drop_zero, Nat.sub_zero, List.take_length]
  exact k p H (Same.refl H) (by rw [e]; exact h)
theorem x_catA {p q : Addr} {xs ys : List V} (h1 : SqT K H p xs) (h2 : SqT K H q ys) (hl : xs.length + ys.length ≤ 100000) (k : ∀ p' H2, Same H H2 → SqT K H2 p' (xs ++ ys) → Q (.ref p') H2) : rCatA K (.ref p) (.ref q) H Q := by
  refine ⟨p, q, xs, ys, rfl, rfl, h1, h2, sz hl, fun e => ?_, fun _ e => ?_, fun _ _ r hr => k r _ (Same.new hr) (SqT.of upd_same)⟩
  · exact k q H (Same.refl H) (by rw [e]; exact h2)
  · exact k p H (Same.refl H) (by rw [e, List.append_nil]; exact h1)
def rIsB (neg : Bool) : R2 := fun x y H Q => ∃ a b, x = .bl a ∧ y = .bl b ∧ Q (.bl (if neg then !decide (a = b) else decide (a = b))) H
theorem op_isB {X : Cx} : OpR X (compareOp .Is) (rIsB false) := op_is_bl
theorem op_isnB {X : Cx} : OpR X (compareOp .IsNot) (rIsB true) := op_isnot_bl
theorem x_isB {b c : Bool} (q : Q (.bl (decide (b = c))) H) : rIsB false (.bl b) (.bl c) H Q := ⟨b, c, rfl, rfl, q⟩
theorem x_isnB {b c : Bool} (q : Q (.bl (!decide (b = c))) H) : rIsB true (.bl b) (.bl c) H Q := ⟨b, c, rfl, rfl, q⟩
theorem x_gtup {n : Nat} {tg : TGs} {a : Addr} {xs : List V} {Q : L2.St → Hp → Prop} (h : SqT K H a xs) (e : xs.length = n) (q : tg xs σ H Q) : gTup K n tg (.ref a) σ H Q := ⟨a, xs, rfl, h, e, q⟩
theorem x_gcons {tg : TGs} {v : V} {r : List V} {Q : L2.St → Hp → Prop} (q : g v σ H fun σ' H' => tg r σ' H' Q) : gCons g tg (v :: r) σ H Q := ⟨v, r, rfl, q⟩
theorem x_gnil {Q : L2.St → Hp → Prop} (q : Q σ H) : gNil [] σ H Q := ⟨rfl, q⟩
def rInt1 : List V → Hp → VK → Prop := fun xs H Q => (∃ i, xs = [.int i] ∧ Q (.int i) H) ∨ ∃ k, xs = [.bl k] ∧ Q (.int (if k then 1 else 0)) H
theorem call_intB {X : Cx} : CallR X (.type "int") rInt1 := call_int1
theorem x_intB {b : Bool} (q : Q (.int (if b then 1 else 0)) H) : rInt1 [.bl b] H Q := .inr ⟨b, rfl, q⟩
theorem x_dnew (k : ∀ p H2, H p = none → Same H H2 → H2 p = some (.dK []) → Q (.ref p) H2) : tDNewK σ H Q := fun p hp => k p _ hp (Same.new hp) upd_same
def rListOf (K : PySem.W.Frag) : List V → Hp → VK → Prop := fun xs H Q => ∃ p ys, xs = [.ref p] ∧ (SqL K H p ys ∨ SqT K H p ys) ∧ ∀ l, H l = none → Q (.ref l) (upd H l (.lst ys))
theorem call_listOf {X : Cx} : CallR X (.type "list") (rListOf X.K) := call_list_of
theorem x_listOf {p : Addr} {ys : List V} (h : SqL K H p ys ∨ SqT K H p ys) (k : ∀ l H2, H l = none → Same H H2 → H2 l = some (.lst ys) → Q (.ref l) H2) : rListOf K [.ref p] H Q := ⟨p, ys, rfl, h, fun l hl => k l _ hl (Same.new hl) upd_same⟩
theorem x_all {p : Addr} {bs : List Bool} (h : SqL K H p (bs.map V.bl)) (q : Q (.bl (bs.all id)) H) : rAll K [.ref p] H Q := ⟨p, bs, rfl, h, q⟩
theorem x_any {p : Addr} {bs : List Bool} (h : SqL K H p (bs.map V.bl)) (q : Q (.bl (bs.any id)) H) : rAny K [.ref p] H Q := ⟨p, bs, rfl, h, q⟩
theorem x_ixQ {p : Addr} {xs : List V} {i : Int} {v : V} (h : SqT K H p xs) (e : atI xs i = some v) (q : Q v H) : rIx K (.ref p) (.int i) H Q := .inr (.inl ⟨p, xs, i, v, rfl, rfl, h, e, q⟩)
def OrV (K : PySem.W.Frag) (x : V) (H : Hp) (Q : VK) (R : Hp → VK → Prop) : Prop := ∃ k, TruV K x H k ∧ if k = true then Q x H else R H Q
theorem x_orT (h : ta σ H fun x H1 => OrV K x H1 Q (tb σ)) : tOrT K ta tb σ H Q := h
theorem orv {k : Bool} {R : Hp → VK → Prop} (h : TruV K x H k) (q : Br k (Q x H) (R H Q)) : OrV K x H Q R := ⟨k, h, q⟩
def rIsTy : R2 := fun x y H Q => ∃ a b, x = .ty a ∧ y = .ty b ∧ Q (.bl (decide (a = b))) H
theorem op_isTy {X : Cx} : OpR X (compareOp .Is) rIsTy := op_isTyB
theorem x_isTy {a b : String} (q : Q (.bl (decide (a = b))) H) : rIsTy (.ty a) (.ty b) H Q := ⟨a, b, rfl, rfl, q⟩
theorem x_niTy {a b : String} (q : Q (.bl (!decide (a = b))) H) : rNT (.ty a) (.ty b) H Q := ⟨a, b, rfl, rfl, q⟩
def rIntS : List V → Hp → VK → Prop := fun xs H Q => ∃ a n, xs = [.str a] ∧ PySem.intText? a = some n ∧ a.length ≤ 640 ∧ Q (.int n) H
theorem call_intS {X : Cx} : CallR X (.type "int") rIntS := call_int_str
theorem x_intS {z : Str} {n : Int} (e : PySem.intText? z = some n) (h : z.length ≤ 640) (q : Q (.int n) H) : rIntS [.str z] H Q := ⟨z, n, rfl, e, h, q⟩
def rStrI : List V → Hp → VK → Prop := fun xs H Q => ∃ i, xs = [.int i] ∧ i.natAbs.log2 < 1920 ∧ Q (.str (toString i)) H
theorem call_strI {X : Cx} : CallR X (.type "str") rStrI := call_str_int
theorem x_strI {i : Int} (h : i.natAbs.log2 < 1920) (q : Q (.str (toString i)) H) : rStrI [.int i] H Q := ⟨i, rfl, h, q⟩
theorem x_glst {n : Nat} {tg : TGs} {a : Addr} {xs : List V} {Q : L2.St → Hp → Prop} (h : SqL K H a xs) (e : xs.length = n) (q : tg xs σ H Q) : gLst K n tg (.ref a) σ H Q := ⟨a, xs, rfl, h, e, q⟩
def SpV (te : TE) (σ : L2.St) (x : V) (H : Hp) (Q : VK) : Prop := (∃ a, x = .str a) ∧ te σ H fun y H2 => ∃ a b, x = .str a ∧ [y] = [.str b] ∧ (b.length == 0) = false ∧ a.length + 2 ≤ sizeLine ∧ rNewStrs (Txt.split a b) H2 Q
def SpW (a : Str) (y : V) (H2 : Hp) (Q : VK) : Prop := ∃ a' b, V.str a = .str a' ∧ [y] = [.str b] ∧ (b.length == 0) = false ∧ a'.length + 2 ≤ sizeLine ∧ rNewStrs (Txt.split a' b) H2 Q
def tSplit (to te : TE) : TE := fun σ H Q => to σ H fun x H1 => SpV te σ x H1 Q
theorem x_split {to : TE} (h : to σ H fun x H1 => SpV te σ x H1 Q) : tSplit to te σ H Q := h
theorem x_spv {a : Str} (h : te σ H fun y H2 => SpW a y H2 Q) : SpV te σ (.str a) H Q := ⟨⟨a, rfl⟩, h⟩
theorem x_spw {a b : Str} (hb : (b.length == 0) = false) (hz : a.length ≤ 100000) (k : ∀ p H2, H p = none → Same H H2 → H2 p = some (.lst ((Txt.split a b).map V.str)) → Q (.ref p) H2) : SpW a (.str b) H Q :=
  ⟨a, b, rfl, rfl, hb, Nat.le_trans (Nat.add_le_add_right hz 2) (by decide), fun p hp => k p _ hp (Same.new hp) upd_same⟩
theorem pe_splitN {X : Cx} {o e : Expr} {to te : TE} {apos pos : Pos} (ho : PE X o to) (he : PE X e te) (hs : starEach [e] X.env = [(false, eval e X.env)] := by rfl) (hbase : attributeBase o "split" X.env (eval o X.env) = eval o X.env := by rfl) (hline : (apos.endLine == pos.line) = true := by rfl) :
    PE X (.Call (.Attribute o "split" apos) [e] [] pos) (tSplit to te) := pe_split ho he hs hbase hline
def SetLV (v o i : V) (H : Hp) (Q : Hp → Prop) : Prop := rSetL o i v H Q
theorem x_gsub {to ti : TE} {v : V} {Q : L2.St → Hp → Prop} (h : to σ H fun o H1 => ti σ H1 fun i H2 => SetLV v o i H2 fun H3 => Q σ H3) : gSub to ti rSetL v σ H Q := h
/-- xs[j] = v of a list of one's own: nothing else changes -/
theorem setLV {p : Addr} {xs : List V} {i : Int} {j : Nat} {v : V} {Q : Hp → Prop} (h : H p = some (.lst xs)) (e : ixN xs.length i = some j) (k : ∀ H', (∀ b o, H b = some o → b ≠ p → H' b = some o) → H' p = some (.lst (xs.set j v)) → Q H') : SetLV v (.ref p) (.int i) H Q :=
  ⟨p, xs, i, j, rfl, rfl, h, e, k _ (fun b o q hb => by rw [upd_ne hb]; exact q) upd_same⟩
def tFmt2 (te : TE) : TE := fun σ H Q => te σ H fun x H1 => (∃ y : Str, x = .str y ∧ y.length ≤ sizeLine ∧ Q (.str y) H1) ∨ ∃ i : Int, x = .int i ∧ i.natAbs.log2 < 1920 ∧ Q (.str (toString i)) H1
def FmV (x : V) (H1 : Hp) (Q : VK) : Prop := (∃ y : Str, x = .str y ∧ y.length ≤ sizeLine ∧ Q (.str y) H1) ∨ ∃ i : Int, x = .int i ∧ i.natAbs.log2 < 1920 ∧ Q (.str (toString i)) H1
theorem x_fmt (h : te σ H fun x H1 => FmV x H1 Q) : tFmt te σ H Q := h
theorem fm_s {y : Str} (h : y.length ≤ 100000) (q : Q (.str y) H) : FmV (.str y) H Q := .inl ⟨y, rfl, sz h, q⟩
theorem fm_i {i : Int} (h : i.natAbs.log2 < 1920) (q : Q (.str (toString i)) H) : FmV (.int i) H Q := .inr ⟨i, rfl, h, q⟩
def JsV (ts : List TE) (acc : Str) (σ : L2.St) (x : V) (H1 : Hp) (Q : Str → Hp → Prop) : Prop := ∃ y : Str, x = .str y ∧ (acc ++ y).length ≤ sizeLine ∧ tJs ts (acc ++ y) σ H1 Q
theorem x_js0 {acc : Str} {Q : Str → Hp → Prop} (q : Q acc H) : tJs [] acc σ H Q := q
theorem x_js {ts : List TE} {acc : Str} {Q : Str → Hp → Prop} (h : te σ H fun x H1 => JsV ts acc σ x H1 Q) : tJs (te :: ts) acc σ H Q := h
theorem jsv {ts : List TE} {acc y : Str} {Q : Str → Hp → Prop} (h : (acc ++ y).length ≤ 100000) (q : tJs ts (acc ++ y) σ H Q) : JsV ts acc σ (.str y) H Q := ⟨y, rfl, sz h, q⟩
/-- a for over a list whose target is any -/
theorem for_Lg {tb : TS} {D : Ends} {a : Addr} {xs : List V} (hx : SqL K H a xs) (Pv : Nat → L2.St → Hp → Prop) (h0 : Pv 0 σ H) (hl : ∀ i σ H, i ≤ xs.length → Pv i σ H → SqL K H a xs)
    (hs : ∀ i x σ H, xs[i]? = some x → Pv i σ H → g x σ H fun σ2 H2 => tb { nx := Pv (i + 1), rt := D.rt, ct := Pv (i + 1), bk := D.nx } σ2 H2) (hd : ∀ σ H, Pv xs.length σ H → D.nx σ H) : ForL K g tb D σ (.ref a) H :=
  ⟨a, rfl, ⟨xs, hx⟩, for_list (xs := xs) Pv h0 hl (fun i x σ H e p => hs i x σ H e p) hd⟩
/-- a value's type by isinstance -/
theorem ty_x {T : String} (h : TyB K H x T) : TyX K H x (.type T) := by
  cases h with
  | non => exact .base .non
  | bl b => exact .base (.bl b)
  | int i => exact .base (.int i)
  | str z => exact .base (.str z)
  | byt b => exact .byt b
  | lst h =>
    rcases h with (h | ⟨o, h⟩) | ⟨o, its, n, hk, hc, _⟩
    · exact .base (.lst h)
    · exact .base (.frz h)
    · exact .kList hk hc
  | tup h =>
    rcases h with (h | ⟨o, h⟩) | ⟨o, its, n, hk, hc, _⟩
    · exact .base (.tup h)
    · exact .fTuple h
    · exact .kTuple hk hc
  | dK h => exact .base (.dK h)
theorem x_isiT {T n : String} {b : Bool} (h : TyB K H x T) (e : kitB T n = some b) (q : Q (.bl b) H) : rIsi K [x, .ty n] H Q := x_isi (.ty n) (ty_x h) (kit_ty e) q
end
end LH
/-! more readings: while, range(a, b), min, pop at a place, how many different ints -/
namespace LH
open PySem L2
section
variable {K : PySem.W.Frag} {σ : L2.St} {H : Hp} {Q : VK} {D : Ends} {te tl ta tb : TE} {tr : TA} {c : TT} {t : TS} {g : TG} {x y : V}
/-! range(a, b) -/
def Rn2V (vs : List V) (H : Hp) (R : It → Hp → Prop) : Prop := ∃ i j : Int, vs = [.int i, .int j] ∧ (-(2 ^ 62) ≤ i ∧ i < 2 ^ 62 ∧ -(2 ^ 62) ≤ j ∧ j < 2 ^ 62) ∧ R (Itr i (j - i).toNat) H
theorem rn2v {i j : Int} {R : It → Hp → Prop} (h1 : -100000 ≤ i ∧ i ≤ 100000) (h2 : -100000 ≤ j ∧ j ≤ 100000) (h : R (Itr i (j - i).toNat) H) : Rn2V [.int i, .int j] H R := ⟨i, j, rfl, ⟨by omega, by omega, by omega, by omega⟩, h⟩
theorem x_forR2 (h : tr σ H fun v H1 => Rn2V v H1 fun J H2 => ForJ J g t D σ H2) : tFor (iRng2 tr) g t D σ H := h
/-! while -/
def WhB (W : Nat → L2.St → Hp → Prop) (m : Nat) (t : TS) (D : Ends) (σ : L2.St) (b : Bool) (H1 : Hp) : Prop :=
  if b = true then ∃ N : L2.St → Hp → Prop, (∀ σ' H', N σ' H' → ∃ m', m' < m ∧ W m' σ' H') ∧ t { D with nx := N, ct := N, bk := D.nx } σ H1 else D.nx σ H1
theorem while_m (W : Nat → L2.St → Hp → Prop) (m0 : Nat) (h0 : W m0 σ H) (hs : ∀ m σ H, W m σ H → c σ H (WhB W m t D σ)) : tWhile c t D σ H := ⟨W, ⟨m0, h0⟩, hs⟩
theorem whb {W : Nat → L2.St → Hp → Prop} {m : Nat} {b : Bool} (h1 : b = true → t { D with nx := fun σ' H' => ∃ m', m' < m ∧ W m' σ' H', ct := fun σ' H' => ∃ m', m' < m ∧ W m' σ' H', bk := D.nx } σ H) (h2 : b = false → D.nx σ H) : WhB W m t D σ b H := by
  unfold WhB
  cases b with
  | false => rw [if_neg Bool.false_ne_true]; exact h2 rfl
  | true => rw [if_pos rfl]; exact ⟨_, fun _ _ q => q, h1 rfl⟩
/-! min, max of two ints -/
def rMinI : List V → Hp → VK → Prop := fun xs H Q => ∃ i j, xs = [.int i, .int j] ∧ Q (.int (if j < i then j else i)) H
theorem call_minI {X : Cx} (hc : X.calm = true) : CallR X (.builtin "min") rMinI := call_min2 hc
theorem x_minI {i j : Int} (q : Q (.int (min i j)) H) : rMinI [.int i, .int j] H Q := ⟨i, j, rfl, by
  have e : (if j < i then j else i) = min i j := by
    split <;> omega
  rw [e]; exact q⟩
/-! xs.pop(i) of a list of one's own -/
theorem x_popAt {p : Addr} {xs : List V} {i : Int} {k : Nat} {y : V} (h : H p = some (.lst xs)) (h1 : -100000 ≤ i) (h2 : i ≤ 100000) (hk : seqIndex? i xs.length = some k) (hy : xs[k]? = some y)
    (q : ∀ H', (∀ b o, H b = some o → b ≠ p → H' b = some o) → H' p = some (.lst (xs.eraseIdx k)) → Q y H') : rPopAt (.ref p) [.int i] H Q :=
  ⟨p, xs, i, k, y, rfl, rfl, h, by omega, by omega, hk, hy, q _ (fun b o e hb => by rw [upd_ne hb]; exact e) upd_same⟩
/-- xs.append(y) to a list of one's own -/
theorem x_app {p : Addr} {xs : List V} {y : V} (h : H p = some (.lst xs)) (hl : xs.length ≤ 100000)
    (q : ∀ H', (∀ b o, H b = some o → b ≠ p → H' b = some o) → H' p = some (.lst (xs ++ [y])) → Q .non H') : rAppend (.ref p) [y] H Q :=
  ⟨p, xs, y, rfl, rfl, h, sz' hl, q _ (fun b o e hb => by rw [upd_ne hb]; exact e) upd_same⟩
theorem Same.set {H0 H H' : Hp} {p : Addr} (e : L2.Same H0 H) (f : H0 p = none) (k : ∀ b o, H b = some o → b ≠ p → H' b = some o) : L2.Same H0 H' := fun b o h => k b o (e b o h) fun q => by
  rw [q, f] at h
  cases h
theorem Same.none {H H' : Hp} {p : Addr} (e : L2.Same H H') (h : H' p = none) : H p = none := by
  cases hq : H p with
  | none => rfl
  | some o => rw [e _ _ hq] at h; cases h
theorem perm_erase {α : Type} : ∀ (l : List α) (j : Nat) (h : j < l.length), (l[j] :: l.eraseIdx j).Perm l
  | [], j, h => absurd h (Nat.not_lt_zero _)
  | a :: l, 0, _ => List.Perm.refl _
  | a :: l, j + 1, h => (List.Perm.swap a (l[j]'(Nat.lt_of_succ_lt_succ h)) (l.eraseIdx j)).trans ((perm_erase l j (Nat.lt_of_succ_lt_succ h)).cons a)
theorem map_erase {α β : Type} (f : α → β) : ∀ (l : List α) (j : Nat), (l.map f).eraseIdx j = (l.eraseIdx j).map f
  | [], _ => rfl
  | _ :: _, 0 => rfl
  | a :: l, j + 1 => congrArg (fun z => f a :: z) (map_erase f l j)
/-- a comprehension over a list, by what becomes of each item: nothing, or a value -/
theorem lc_Li {a : Addr} {xs : List V} {j : Nat} {vs : List Nat} {t : TT} (hx : SqL K H a xs) (hz : xs.length ≤ 100000) (out : List (Option V)) (hn : out.length = xs.length)
    (hw : ∀ x, wipe ((wipe σ vs).set j (some x)) vs = wipe σ vs)
    (ht : ∀ (i : Nat) x o, xs[i]? = some x → out[i]? = some o → ∀ H1, L2.Same H H1 → ∀ Q : Bool → Hp → Prop, (∀ H2, L2.Same H1 H2 → Q o.isSome H2) → t ((wipe σ vs).set j (some x)) H1 Q)
    (he : ∀ (i : Nat) x y, xs[i]? = some x → out[i]? = some (some y) → ∀ H1, L2.Same H H1 → ∀ Q : VK, (∀ H2, L2.Same H1 H2 → Q y H2) → te ((wipe σ vs).set j (some x)) H1 Q)
    (k : ∀ p H2, H p = none → L2.Same H H2 → H2 p = some (.lst (out.filterMap id)) → Q (.ref p) H2) : LcV K (gName j) t te vs σ (.ref a) H Q := by
  refine ⟨a, rfl, ⟨xs, hx⟩, fun D hD => ?_⟩
  refine lc_list (xs := xs) (fun i H' => L2.Same H H' ∧ H' D = some (.lst ((out.take i).filterMap id))) ⟨LH.Same.new hD, upd_same⟩ (fun i H' _ p => Same.seq p.1 hx) ?_ ?_
  · intro i x H' hi p
    have hlt : i < xs.length := (List.getElem?_eq_some_iff.mp hi).1
    have ho : out[i]? = some (out[i]'(by omega)) := List.getElem?_eq_getElem (by omega)
    generalize out[i]'(by omega) = o at ho
    have et := take_more ho
    have small : ((out.take i).filterMap id).length ≤ 100000 := by
      have z1 := List.length_filterMap_le id (out.take i)
      rw [List.length_take] at z1
      omega
    refine ⟨hw x, ht i x o hi ho H' p.1 _ fun H2 e2 => ?_⟩
    cases o with
    | some y =>
      show (if true = true then _ else _)
      rw [if_pos rfl]
      refine he i x y hi ho H2 (p.1.trans e2) _ fun H3 e3 => ⟨_, e3 _ _ (e2 _ _ p.2), sz' small, ?_, ?_⟩
      · exact Same.mut ((p.1.trans e2).trans e3) hD
      · rw [et, List.filterMap_append, upd_same]
        rfl
    | none =>
      show (if false = true then _ else _)
      rw [if_neg Bool.false_ne_true]
      refine ⟨p.1.trans e2, ?_⟩
      rw [et, List.filterMap_append]
      have := e2 _ _ p.2
      simpa using this
  · intro H' p
    rw [← hn, List.take_length] at p
    exact k D H' hD p.1 p.2
/-- a comprehension whose items are objects of their own: the i-th holds ob i, which is no list -/
theorem lc_N {a : Addr} {xs : List V} {j : Nat} {vs : List Nat} {t : TT} (hx : SqL K H a xs) (hz : xs.length ≤ 100000) (ob : Nat → HO) (no : ∀ i l, ob i ≠ .lst l)
    (hw : ∀ x, wipe ((wipe σ vs).set j (some x)) vs = wipe σ vs)
    (ht : ∀ x, x ∈ xs → ∀ H1, L2.Same H H1 → ∀ Q : Bool → Hp → Prop, (∀ H2, L2.Same H1 H2 → Q true H2) → t ((wipe σ vs).set j (some x)) H1 Q)
    (he : ∀ (i : Nat) x, xs[i]? = some x → ∀ H1, L2.Same H H1 → ∀ Q : VK, (∀ p H2, L2.Same H1 H2 → H2 p = some (ob i) → Q (.ref p) H2) → te ((wipe σ vs).set j (some x)) H1 Q)
    (k : ∀ p H2 ys, H p = none → L2.Same H H2 → H2 p = some (.lst ys) → ys.length = xs.length → (∀ i y, ys[i]? = some y → ∃ p, y = .ref p ∧ H2 p = some (ob i)) → Q (.ref p) H2) : LcV K (gName j) t te vs σ (.ref a) H Q := by
  refine ⟨a, rfl, ⟨xs, hx⟩, fun D hD => ?_⟩
  refine lc_list (xs := xs) (fun i H' => L2.Same H H' ∧ ∃ ys : List V, H' D = some (.lst ys) ∧ ys.length = i ∧ ∀ i y, ys[i]? = some y → ∃ p, y = .ref p ∧ H' p = some (ob i)) ⟨LH.Same.new hD, [], upd_same, rfl, fun i y h => nomatch h⟩ (fun i H' _ p => Same.seq p.1 hx) ?_ ?_
  · rintro i x H' hi ⟨e0, ys, gD, ly, hy⟩
    have hlt : i < xs.length := (List.getElem?_eq_some_iff.mp hi).1
    refine ⟨hw x, ht x (List.mem_of_getElem? hi) H' e0 _ fun H2 e2 => ?_⟩
    show (if true = true then _ else _)
    rw [if_pos rfl]
    refine he i x hi H2 (e0.trans e2) _ fun p H3 e3 g3 => ⟨ys, e3 _ _ (e2 _ _ gD), sz' (by omega), ?_, ys ++ [.ref p], upd_same, by rw [List.length_append, ly]; rfl, fun m y hm => ?_⟩
    · exact Same.mut ((e0.trans e2).trans e3) hD
    · have other : ∀ b o, H3 b = some o → (∀ l, o ≠ .lst l) → upd H3 D (.lst (ys ++ [.ref p])) b = some o := fun b o hb hl => by
        rw [upd_ne (fun q => by
          rw [q, e3 _ _ (e2 _ _ gD)] at hb
          injection hb with hb
          exact hl _ hb.symm)]
        exact hb
      by_cases h : m < ys.length
      · rw [List.getElem?_append_left h] at hm
        obtain ⟨p1, e1, g1⟩ := hy m y hm
        exact ⟨p1, e1, other _ _ (e3 _ _ (e2 _ _ g1)) (no m)⟩
      · rw [List.getElem?_append_right (by omega)] at hm
        have hm0 : m - ys.length = 0 := by
          cases hq : m - ys.length with
          | zero => rfl
          | succ z => rw [hq] at hm; cases hm
        rw [hm0] at hm
        injection hm with hm
        have : m = i := by omega
        subst this
        exact ⟨p, hm.symm, other _ _ g3 (no m)⟩
  · rintro H' ⟨e0, ys, gD, ly, hy⟩
    exact k D H' ys hD e0 gD ly hy
/-- two ways that meet again: what follows, R, is proved once -/
theorem join {α : Type} {A : Prop} {R : α → Hp → Prop} (X : α → Hp → Prop) (hA : (∀ y H', X y H' → R y H') → A) (h : ∀ y H', X y H' → R y H') : A := hA h
/-! tuple(xs) of a list; != of plain data or of two dicts -/
def rTupL (K : PySem.W.Frag) : List V → Hp → VK → Prop := fun xs H Q => ∃ p ys, xs = [.ref p] ∧ ((SqL K H p ys ∧ ∀ l, H l = none → Q (.ref l) (upd H l (.tup ys))) ∨ (SqT K H p ys ∧ Q (.ref p) H))
theorem call_tupL {X : Cx} : CallR X (.type "tuple") (rTupL X.K) := call_tuple_of
theorem x_tupL {p : Addr} {ys : List V} (h : SqL K H p ys) (k : ∀ l H2, H l = none → L2.Same H H2 → H2 l = some (.tup ys) → Q (.ref l) H2) : rTupL K [.ref p] H Q := ⟨p, ys, rfl, .inl ⟨h, fun l hl => k l _ hl (LH.Same.new hl) upd_same⟩⟩
def rNeX (K : PySem.W.Frag) : R2 := fun x y H Q => rNeD K x y H Q ∨ rNeDA x y H Q
theorem op_neX {X : Cx} (hu : X.A.units + 64 < cLine) : OpR X (compareOp .NotEq) (rNeX X.K) := (op_neD hu).or (op_ne_dictA (by omega))
theorem x_neX {d : PyData} (hx : Dp K H x d) (sd : SeqAt.shaped d = true) (hy : Dp K H y d) (q : Q (.bl false) H) : rNeX K x y H Q := .inl ⟨d, d, hx, hy, sd, sd, by
  have e : PyData.eqv d d = true := by
    unfold SeqAt.shaped at sd
    rw [Bool.and_eq_true] at sd
    exact SeqAt.eqv_refl _ sd.1
  rw [e]
  exact q⟩
theorem x_neX0 {p : Addr} (h : H p = some (.dK [])) (q : Q (.bl false) H) : rNeX K (.ref p) (.ref p) H Q := .inr ⟨p, p, [], [], rfl, rfl, h, h, rfl, (fun _ m => nomatch m), q⟩
/-! how many different ones -/
def dist (ns : List Int) : List Int := PyProof.Rows.firstMet (fun i => ns.getD i 0) ns.length
def LsV (K : PySem.W.Frag) (x : V) (H : Hp) (Q : VK) : Prop := ∃ (l : Addr) (ns : List Int), x = V.ref l ∧ SqL K H l (ns.map V.int) ∧ ns.length < 60 ∧ Q (.int (dist ns).length) H
def tLenSetG (K : PySem.W.Frag) (ta : TE) : TE := fun σ H Q => ta σ H fun x H1 => LsV K x H1 Q
theorem x_lenSetG (h : ta σ H fun x H1 => LsV K x H1 Q) : tLenSetG K ta σ H Q := h
theorem lsv {p : Addr} {ns : List Int} (h : SqL K H p (ns.map V.int)) (hl : ns.length < 60) (q : Q (.int (dist ns).length) H) : LsV K (.ref p) H Q := ⟨p, ns, rfl, h, hl, q⟩
theorem fold_dist : ∀ (l acc : List Int), (l.foldl PyProof.Rows.step_dedup acc).length ≤ acc.length + l.length ∧ ((l.foldl PyProof.Rows.step_dedup acc).length = acc.length + l.length → l.Nodup ∧ ∀ k ∈ l, k ∉ acc)
  | [], acc => ⟨Nat.le_refl _, fun _ => ⟨List.nodup_nil, fun k h => nomatch h⟩⟩
  | k :: l, acc => by
    have ih := fold_dist l (PyProof.Rows.step_dedup acc k)
    rw [List.foldl_cons]
    by_cases hk : acc.any (· == k) = true
    · have e : PyProof.Rows.step_dedup acc k = acc := by unfold PyProof.Rows.step_dedup; rw [if_pos hk]
      rw [e] at ih ⊢
      refine ⟨by rw [List.length_cons]; omega, fun h => ?_⟩
      rw [List.length_cons] at h
      omega
    · have e : PyProof.Rows.step_dedup acc k = acc ++ [k] := by unfold PyProof.Rows.step_dedup; rw [if_neg hk]
      rw [e] at ih ⊢
      rw [List.length_append, List.length_singleton] at ih
      refine ⟨by rw [List.length_cons]; omega, fun h => ?_⟩
      rw [List.length_cons] at h
      obtain ⟨h1, h2⟩ := ih.2 (by omega)
      have nk : k ∉ acc := fun hm => hk (List.any_eq_true.mpr ⟨k, hm, beq_self_eq_true k⟩)
      refine ⟨List.nodup_cons.mpr ⟨fun hm => h2 k hm (List.mem_append.mpr (.inr (List.mem_singleton.mpr rfl))), h1⟩, fun j hj => ?_⟩
      rcases List.mem_cons.mp hj with rfl | hj
      · exact nk
      · exact fun hm => h2 j hj (List.mem_append.mpr (.inl hm))
theorem dist_eq (ns : List Int) : (dist ns).length = ns.length ↔ ns.Nodup := by
  constructor
  · intro h
    have e : (List.range ns.length).map (fun i => ns.getD i 0) = ns := by
      refine List.ext_getElem (by simp) fun i h1 h2 => ?_
      simp at h1 ⊢
      rw [List.getElem?_eq_getElem h1]
      rfl
    have h2 : (ns.foldl PyProof.Rows.step_dedup []).length = ([] : List Int).length + ns.length := by
      unfold dist PyProof.Rows.firstMet at h
      rw [e] at h
      simpa using h
    exact ((fold_dist ns []).2 h2).1
  · intro h
    unfold dist
    rw [RZ.firstMet_nodup h ns.length (Nat.le_refl _), List.take_length]
end
section
open PySem.Spec PyProof.Rows
variable {X : Cx}
/-- len(set(a)): how many different ints -/
theorem pe_lenSetG {a : Expr} {ta : TE} {p p2 q pos : Pos} (calm : X.calm = true) (g1 : Gl X "len") (m1 : X.mg "len" = none) (g2 : Gl X "set") (m2 : X.mg "set" = none) (ea : PE X a ta)
    (sp : starEach [a] X.env = (false, eval a X.env) :: starEach [] X.env := by rfl) :
    PE X (.Call (.Name "len" p) [.Call (.Name "set" p2) [a] [] q] [] pos) (tLenSetG X.K ta) := by
  constructor
  intro pins s σ H Q inv need
  refine Call_ ?_
  apply ld_blt inv g1 m1 boot_len
  apply PyProof.Rows.callWith_builtin1
  · apply PyProof.Rows.args_cons
    · refine Call_ ?_
      apply ld_blt inv g2 m2 boot_set
      apply PyProof.Rows.callWith_type1
      · apply PyProof.Rows.args_cons
        · apply thn (ea.run pins s σ H _ inv need)
          rintro v s1 ⟨x, H1, inv1, rel, l, ns, rfl, sq, hl, go⟩
          apply PyProof.Rows.args_nil
          cases rel
          obtain ⟨its, vals, plain, _⟩ := inv1.list sq
          have size : its.toArray.size = ns.length := by
            rw [List.size_toArray, ← vals.length, List.length_map]
          refine call_set_list (inv1.ok.hd calm) plain.isList (ns := ns) (by simpa using vals.ints) (by unfold scanBound; omega) ?_
          intro h' tk made kept
          rw [size] at made
          obtain ⟨o, es, ep, tb, at_, exact_, data, _, _, _, fits, count⟩ := made
          apply PyProof.Rows.args_nil
          have inv2 : Inv X pins σ H1 { s1 with heap := h', toks := tk } := inv1.kept fun b u e => kept b u (Heap.lt_size e) e
          have few := PyProof.Rows.firstMet_length_le (fun i => ns.getD i 0) ns.length
          refine call_len_set at_ exact_ data fits (by rw [count]; omega) ⟨.int (dist ns).length, H1, inv2.tok _, ⟨_, by rw [count]; rfl⟩, go⟩
        · exact sp
      · exact sp
      · rfl
    · rfl
  · rfl
  · rfl
end
end LH
/-! readings for classes and dicts; the part of a heap that stands still -/
namespace LH
open PySem L2
/-! ### what stands still -/
/-- the heap without the places M that may change -/
def Fr (M : List Addr) (H : Hp) : Hp := fun b => if b ∈ M then none else H b
/-- all but the place a stays -/
def Kp (a : Addr) (H H' : Hp) : Prop := ∀ b o, H b = some o → b ≠ a → H' b = some o
/-- all but the places M stay -/
def Ks (M : List Addr) (H H' : Hp) : Prop := ∀ b o, H b = some o → b ∉ M → H' b = some o
theorem Kp.ks {a : Addr} {M : List Addr} {H H' : Hp} (k : Kp a H H') (m : a ∈ M) : Ks M H H' := fun b o h n => k b o h fun e => n (e ▸ m)
theorem Ks.of {M : List Addr} {H H' : Hp} (e : L2.Same H H') : Ks M H H' := fun b o h _ => e b o h
theorem Ks.trans {M : List Addr} {H H1 H2 : Hp} (a : Ks M H H1) (b : Ks M H1 H2) : Ks M H H2 := fun c o h n => b c o (a c o h n) n
theorem Ks.sub {M N : List Addr} {H H1 : Hp} (a : Ks M H H1) (s : ∀ b ∈ M, b ∈ N) : Ks N H H1 := fun c o h n => a c o h fun m => n (s c m)
theorem Kp.up {a : Addr} {H H' : Hp} : Kp a H (upd H a o) := fun b o h n => by rw [upd_ne n]; exact h
theorem Kp.upd {a : Addr} {H : Hp} {o : HO} : Kp a H (L2.upd H a o) := fun b u h n => by rw [upd_ne n]; exact h
theorem fr_of {M : List Addr} {H : Hp} {b : Addr} {o : HO} (h : H b = some o) (n : b ∉ M) : Fr M H b = some o := by
  unfold Fr
  rw [if_neg n]
  exact h
theorem fr_in {M : List Addr} {H : Hp} {b : Addr} (m : b ∈ M) : Fr M H b = none := by
  unfold Fr
  rw [if_pos m]
theorem fr_some {M : List Addr} {H : Hp} {b : Addr} {o : HO} (h : Fr M H b = some o) : H b = some o ∧ b ∉ M := by
  unfold Fr at h
  by_cases m : b ∈ M
  · rw [if_pos m] at h
    cases h
  · rw [if_neg m] at h
    exact ⟨h, m⟩
theorem fr_le {M : List Addr} {H : Hp} : L2.Same (Fr M H) H := fun _ _ h => (fr_some h).1
theorem Ks.fr {M : List Addr} {H H' : Hp} (k : Ks M H H') : L2.Same (Fr M H) (Fr M H') := fun b o h => let ⟨h1, n⟩ := fr_some h; fr_of (k b o h1 n) n
theorem Ks.frS {M N : List Addr} {H H' : Hp} (k : Ks M H H') (s : ∀ b ∈ M, b ∈ N) : L2.Same (Fr N H) (Fr N H') := (k.sub s).fr
theorem same_fr {M : List Addr} {H H' : Hp} (e : L2.Same H H') : L2.Same (Fr M H) (Fr M H') := (Ks.of e).fr
/-- a new place that may change from now on -/
theorem fr_new {M : List Addr} {H H' : Hp} {p : Addr} (f : H p = none) (e : L2.Same H H') : L2.Same (Fr M H) (Fr (p :: M) H') := fun b o h => by
  obtain ⟨h1, n⟩ := fr_some h
  exact fr_of (e _ _ h1) fun m => by
    rcases List.mem_cons.mp m with rfl | m
    · rw [f] at h1
      cases h1
    · exact n m
theorem not_in {M : List Addr} {H : Hp} {p : Addr} (f : H p = none) (l : ∀ b ∈ M, ∃ o, H b = some o) : p ∉ M := fun m => by
  obtain ⟨o, h⟩ := l p m
  rw [f] at h
  cases h
section
variable {K : PySem.W.Frag} {σ : L2.St} {H : Hp} {Q : VK} {D : Ends} {te tl ta tb td ty tv tx : TE} {tr : TA} {t : TS} {g : TG} {x y z v : V} {f m : Str} {C dx a : Addr} {fs : List (Str × V)} {sp : Sp} {dvs : List V} {E : XK}
/-! ### fields -/
def FldV (K : PySem.W.Frag) (f : Str) (x : V) (H1 : Hp) (Q : VK) : Prop := ∃ a C dx fs v, x = .ref a ∧ H1 a = some (.ins C dx fs) ∧ Cls K C ∧ NoAttr K C f ∧ fs.lookup f = some v ∧ Q v H1
theorem x_fld (h : ta σ H fun x H1 => FldV K f x H1 Q) : tFld K ta f σ H Q := h
theorem fldv (h : H a = some (.ins C dx fs)) (c : Cls K C) (n : NoAttr K C f) (e : fs.lookup f = some v) (q : Q v H) : FldV K f (.ref a) H Q := ⟨a, C, dx, fs, v, rfl, h, c, n, e, q⟩
def SFldV (K : PySem.W.Frag) (f : Str) (y : V) (D : Ends) (σ : L2.St) (x : V) (H2 : Hp) : Prop := ∃ a C dx fs, x = .ref a ∧ H2 a = some (.ins C dx fs) ∧ Cls K C ∧ NoAttr K C f ∧ fs.length < 1000 ∧ D.nx σ (upd H2 a (.ins C dx (putF f y fs)))
theorem x_sfld (h : tv σ H fun y H1 => ta σ H1 fun x H2 => SFldV K f y D σ x H2) : sFld K ta tv f D σ H := h
theorem sfldv (h : H a = some (.ins C dx fs)) (c : Cls K C) (n : NoAttr K C f) (l : fs.length < 1000) (k : ∀ H', Kp a H H' → H' a = some (.ins C dx (putF f y fs)) → D.nx σ H') : SFldV K f y D σ (.ref a) H :=
  ⟨a, C, dx, fs, rfl, h, c, n, l, k _ Kp.upd upd_same⟩
def AFldV (K : PySem.W.Frag) (f : Str) (tv : TE) (rd : V → V → Hp → VK → Prop) (D : Ends) (σ : L2.St) (x : V) (H1 : Hp) : Prop := ∃ a C dx fs v, x = .ref a ∧ H1 a = some (.ins C dx fs) ∧ Cls K C ∧ NoAttr K C f ∧ fs.lookup f = some v ∧
  tv σ H1 fun y H2 => rd v y H2 fun z H3 => ∃ dx' fs', H3 a = some (.ins C dx' fs') ∧ fs'.length < 1000 ∧ D.nx σ (upd H3 a (.ins C dx' (putF f z fs')))
theorem x_afld {rd : V → V → Hp → VK → Prop} (h : ta σ H fun x H1 => AFldV K f tv rd D σ x H1) : sFldAug K ta tv rd f D σ H := h
/-- e.f += i, ints -/
theorem afldI {i j : Int} {rd : V → V → Hp → VK → Prop} (h : H a = some (.ins C dx fs)) (c : Cls K C) (n : NoAttr K C f) (e : fs.lookup f = some (.int i)) (l : fs.length < 1000)
    (hr : ∀ Q : VK, Q (.int (i + j)) H → rd (.int i) (.int j) H Q) (hv : ∀ Q : VK, Q (.int j) H → tv σ H Q)
    (k : ∀ H', Kp a H H' → H' a = some (.ins C dx (putF f (.int (i + j)) fs)) → D.nx σ H') : AFldV K f tv rd D σ (.ref a) H :=
  ⟨a, C, dx, fs, _, rfl, h, c, n, e, hv _ (hr _ ⟨dx, fs, h, l, k _ Kp.upd upd_same⟩)⟩
/-! ### methods, new instances -/
def MethV (C : Addr) (m : Str) (sp : Sp) (dvs : List V) (E : XK) (tr : TA) (σ : L2.St) (x : V) (H1 : Hp) (Q : VK) : Prop := ∃ a dx fs, x = .ref a ∧ H1 a = some (.ins C dx fs) ∧ fs.lookup m = none ∧ tr σ H1 fun vs H2 => sp (x :: (vs ++ dvs)) H2 Q E
theorem x_meth (h : ta σ H fun x H1 => MethV C m sp dvs E tr σ x H1 Q) : tMeth C m sp dvs E ta tr σ H Q := h
theorem methv (h : H a = some (.ins C dx fs)) (l : fs.lookup m = none) (k : tr σ H fun vs H2 => sp (.ref a :: (vs ++ dvs)) H2 Q E) : MethV C m sp dvs E tr σ (.ref a) H Q := ⟨a, dx, fs, rfl, h, l, k⟩
def MakeV (C : Addr) (sp : Sp) (dvs : List V) (E : XK) (vs : List V) (H1 : Hp) (Q : VK) : Prop := ∀ x dx, H1 x = none → H1 dx = none → dx ≠ x → sp (.ref x :: (vs ++ dvs)) (upd (upd H1 dx (.own x)) x (.ins C dx [])) (fun v H2 => v = .non ∧ Q (.ref x) H2) E
theorem x_make (h : tr σ H fun vs H1 => MakeV C sp dvs E vs H1 Q) : tMake C sp dvs E tr σ H Q := h
theorem makev {vs : List V} (k : ∀ x dx H2, H x = none → H dx = none → dx ≠ x → L2.Same H H2 → H2 x = some (.ins C dx []) → sp (.ref x :: (vs ++ dvs)) H2 (fun v H3 => v = .non ∧ Q (.ref x) H3) E) : MakeV C sp dvs E vs H Q := fun x dx f1 f2 n => by
  refine k x dx _ f1 f2 n (fun b o h => ?_) upd_same
  rw [upd_ne (ne_of_none h f1), upd_ne (ne_of_none h f2)]
  exact h
/-! ### dicts -/
def InV (y x : V) (H2 : Hp) (Q : VK) : Prop := ∃ a o, x = .ref a ∧ DGet H2 a y o ∧ Q (.bl o.isSome) H2
def NiV (y x : V) (H2 : Hp) (Q : VK) : Prop := ∃ a o, x = .ref a ∧ DGet H2 a y o ∧ Q (.bl (!o.isSome)) H2
theorem x_din (h : ty σ H fun y H1 => td σ H1 fun x H2 => InV y x H2 Q) : tDIn ty td σ H Q := h
theorem x_dni (h : ty σ H fun y H1 => td σ H1 fun x H2 => NiV y x H2 Q) : tDNotIn ty td σ H Q := h
theorem getI {kvs : List (Key × V)} {i : Int} (h : H a = some (.dK kvs)) : DGet H a (.int i) (valV kvs (Sum.inl i)) := DGet.k (k := Sum.inl i) h
theorem getS {kvs : List (Key × V)} {s : Str} (h : H a = some (.dK kvs)) : DGet H a (.str s) (valV kvs (Sum.inr s)) := DGet.k (k := Sum.inr s) h
theorem getT {kvs : List (List Key × V)} {k : List Key} {b : Addr} (h : H a = some (.dT kvs)) (e : H b = some (.tup (k.map kV))) : DGet H a (.ref b) (valV kvs k) := DGet.t h e
theorem inv {o : Option V} (h : DGet H a y o) (q : Q (.bl o.isSome) H) : InV y (.ref a) H Q := ⟨a, o, rfl, h, q⟩
theorem niv {o : Option V} (h : DGet H a y o) (q : Q (.bl (!o.isSome)) H) : NiV y (.ref a) H Q := ⟨a, o, rfl, h, q⟩
def GetV (x y : V) (H2 : Hp) (Q : VK) : Prop := ∃ a v, x = .ref a ∧ DGet H2 a y (some v) ∧ Q v H2
theorem x_dget (h : td σ H fun x H1 => ty σ H1 fun y H2 => GetV x y H2 Q) : tDGet td ty σ H Q := h
theorem getv {o : Option V} (h : DGet H a y o) (e : o = some v) (q : Q v H) : GetV (.ref a) y H Q := ⟨a, v, rfl, e ▸ h, q⟩
def DpV (v x y : V) (D : Ends) (σ : L2.St) (H3 : Hp) : Prop := ∃ a H4, x = .ref a ∧ DPut H3 a y v H4 ∧ D.nx σ H4
theorem x_dput (h : tv σ H fun v H1 => td σ H1 fun x H2 => ty σ H2 fun y H3 => DpV v x y D σ H3) : sDPut td ty tv D σ H := h
theorem putvI {kvs : List (Key × V)} {i : Int} (h : H a = some (.dK kvs)) (l : kvs.length ≤ 100000) (k : ∀ H', Kp a H H' → H' a = some (.dK (putK kvs (Sum.inl i) v)) → D.nx σ H') : DpV v (.ref a) (.int i) D σ H :=
  ⟨a, _, rfl, DPut.k (k := Sum.inl i) h (sz' l), k _ Kp.upd upd_same⟩
theorem putvS {kvs : List (Key × V)} {s : Str} (h : H a = some (.dK kvs)) (l : kvs.length ≤ 100000) (k : ∀ H', Kp a H H' → H' a = some (.dK (putK kvs (Sum.inr s) v)) → D.nx σ H') : DpV v (.ref a) (.str s) D σ H :=
  ⟨a, _, rfl, DPut.k (k := Sum.inr s) h (sz' l), k _ Kp.upd upd_same⟩
theorem putvT {kvs : List (List Key × V)} {ks : List Key} {b : Addr} (h : H a = some (.dT kvs)) (e : H b = some (.tup (ks.map kV))) (l : kvs.length ≤ 100000) (k : ∀ H', Kp a H H' → H' a = some (.dT (putK kvs ks v)) → D.nx σ H') : DpV v (.ref a) (.ref b) D σ H :=
  ⟨a, _, rfl, DPut.t h e (sz' l), k _ Kp.upd upd_same⟩
def Get2V (ty tx : TE) (σ : L2.St) (x : V) (H1 : Hp) (Q : VK) : Prop := ∃ a, x = .ref a ∧ IsD H1 a ∧ ty σ H1 fun y H2 => tx σ H2 fun z H3 => ∃ o, DGet H3 a y o ∧ Q (o.getD z) H3
def Get2W (a : Addr) (y z : V) (H3 : Hp) (Q : VK) : Prop := ∃ o, DGet H3 a y o ∧ Q (o.getD z) H3
theorem x_dget2 (h : td σ H fun x H1 => Get2V ty tx σ x H1 Q) : tDGet2 td ty tx σ H Q := h
theorem get2v (h : IsD H a) (k : ty σ H fun y H2 => tx σ H2 fun z H3 => Get2W a y z H3 Q) : Get2V ty tx σ (.ref a) H Q := ⟨a, rfl, h, k⟩
theorem get2w {o : Option V} (h : DGet H a y o) (q : Q (o.getD z) H) : Get2W a y z H Q := ⟨o, h, q⟩
theorem isdK {kvs : List (Key × V)} (h : H a = some (.dK kvs)) : IsD H a := .inl ⟨kvs, .inl h⟩
theorem isdT {kvs : List (List Key × V)} (h : H a = some (.dT kvs)) : IsD H a := .inr ⟨kvs, .inl h⟩
def PopV (ty : TE) (σ : L2.St) (x : V) (H1 : Hp) (Q : VK) : Prop := ∃ a, x = .ref a ∧ IsD H1 a ∧ ty σ H1 fun y H2 => ∃ kvs k v, H2 a = some (.dK kvs) ∧ y = kV k ∧ valV kvs k = some v ∧ Q v (upd H2 a (.dK (dropK kvs k)))
def PopW (a : Addr) (y : V) (H2 : Hp) (Q : VK) : Prop := ∃ kvs k v, H2 a = some (.dK kvs) ∧ y = kV k ∧ valV kvs k = some v ∧ Q v (upd H2 a (.dK (dropK kvs k)))
theorem x_dpop1 (h : td σ H fun x H1 => PopV ty σ x H1 Q) : tDPop1 td ty σ H Q := h
theorem popv (h : IsD H a) (k : ty σ H fun y H2 => PopW a y H2 Q) : PopV ty σ (.ref a) H Q := ⟨a, rfl, h, k⟩
theorem popwI {kvs : List (Key × V)} {i : Int} (h : H a = some (.dK kvs)) (e : valV kvs (Sum.inl i) = some v) (k : ∀ H', Kp a H H' → H' a = some (.dK (dropK kvs (Sum.inl i))) → Q v H') : PopW a (.int i) H Q :=
  ⟨kvs, Sum.inl i, v, h, rfl, e, k _ Kp.upd upd_same⟩
def LiV (x : V) (H1 : Hp) (Q : VK) : Prop := LiI.rItemsL x H1 Q
theorem x_litems (h : te σ H fun x H1 => LiV x H1 Q) : LiI.tListItems te σ H Q := h
theorem liv {kvs : List (Key × V)} (h : H a = some (.dK kvs))
    (k : ∀ p H' (ts : List Addr), L2.Same H H' → H p = none → (∀ t ∈ ts, H t = none) → H' p = some (.lst (ts.map V.ref)) → Paired (fun (t : Addr) (q : Key × V) => H' t = some (.tup [kV q.1, q.2])) ts kvs → Q (.ref p) H') : LiV (.ref a) H Q :=
  ⟨a, kvs, rfl, h, fun H' p ts e f ft _ g pr => k p H' ts e f ft g pr⟩
/-! ### displays, lists -/
theorem x_dnewT (k : ∀ p H2, H p = none → L2.Same H H2 → H2 p = some (.dT []) → Q (.ref p) H2) : tDNewT σ H Q := fun p hp => k p _ hp (LH.Same.new hp) upd_same
theorem x_clear {p : Addr} {xs : List V} (h : H p = some (.lst xs)) (q : ∀ H', Kp p H H' → H' p = some (.lst []) → Q .non H') : rClear (.ref p) [] H Q :=
  ⟨p, xs, rfl, rfl, h, q _ Kp.upd upd_same⟩
theorem x_appK {p : Addr} {xs : List V} (h : H p = some (.lst xs)) (hl : xs.length ≤ 100000) (q : ∀ H', Kp p H H' → H' p = some (.lst (xs ++ [y])) → Q .non H') : rAppend (.ref p) [y] H Q :=
  ⟨p, xs, y, rfl, rfl, h, sz' hl, q _ Kp.upd upd_same⟩
def SlLV (K : PySem.W.Frag) (x : V) (lo hi : Option Int) (H : Hp) (Q : VK) : Prop := rSlL K x lo hi H Q
end
end LH
namespace LH
open PySem L2 PySem.Spec PyProof.Rows
/-! ### methods and new instances within a try: what is raised is wished for at the slots -/
section
variable {X : Cx} {CX : CXT} {k : Nat} {f C : Addr} {fd : FuncData} {ps : List Str} {sp : Sp} {E : L2.St → XK} {x m : Str} {p pos apos : Pos} {e o : Expr} {es : List Expr} {to : TE} {tr : TA}
def tMethSl (C : Addr) (m : Str) (sp : Sp) (E : L2.St → XK) (to : TE) (tr : TA) : TE := fun σ H Q => to σ H fun x H1 => MethV C m sp [] (E σ) tr σ x H1 Q
theorem x_methSl {σ : L2.St} {H : Hp} {Q : VK} (h : to σ H fun x H1 => MethV C m sp [] (E σ) tr σ x H1 Q) : tMethSl C m sp E to tr σ H Q := h
theorem pe_methSl {pl : Sem Bool} (ho : PE X o to) (c : Cls X.K C) (hm : Meth X.K C m f) (G : FnOk X.prog X.w X.K X.mg X.base CX k f fd ps sp) (room : Room k X.A) (hb : Binds X.K fd ps []) (hx : ∀ σ, PassesAt CX X σ (E σ)) (ha : PA X (e :: es) tr)
    (h1 : starEach (e :: es) X.env = (false, eval e X.env) :: starEach es X.env := by rfl) (h2 : (backTo pos (starEach es X.env)).any (·.1) = false := by rfl)
    (h3 : eval (.Call (.Attribute o m apos) (e :: es) [] pos) X.env = (do
      let obj ← eval o X.env
      standAt apos.atName
      let (fn, lead) ← holding [obj] (getMethod obj m pl)
      callWith pos fn lead (backTo pos (starEach (e :: es) X.env)) (backToKw pos (keywordEach [] X.env))) := by rfl) :
    PE X (.Call (.Attribute o m apos) (e :: es) [] pos) (tMethSl C m sp E to tr) := by
  constructor
  intro pins s σ H Q I need
  apply PySem.W.methodCall_KW (pl := pl) _ h3
  apply thn (ho.run pins s σ H _ I need)
  rintro u s1 ⟨x, H1, I1, rx, a, dx, fs, rfl, ea, l, q⟩
  have eu : u = Value.ref a := rx
  rw [eu]
  apply getmeth_ok I1 ea c hm l
  refine PySem.W.callWith_K (first := [.ref a]) (h₀ := X.base) I.ok.mod.kin hm.kp (thn (ha.run pos pins s1 σ H1 _ I1 q) ?_) h1 h2
  rintro us s2 ⟨vs, H2, I2, r, q2⟩
  rw [List.append_nil] at q2
  exact ⟨I2.kIn, run_fnS G room hb (hx σ) I2 (.cons (show L2.RelV (V.ref a) (Value.ref a) from rfl) r) q2⟩
def tMakeSl (C : Addr) (sp : Sp) (E : L2.St → XK) (tr : TA) : TE := fun σ H Q => tr σ H fun vs H1 => MakeV C sp [] (E σ) vs H1 Q
theorem x_makeSl {σ : L2.St} {H : Hp} {Q : VK} (h : tr σ H fun vs H1 => MakeV C sp [] (E σ) vs H1 Q) : tMakeSl C sp E tr σ H Q := h
theorem run_makeSl {pins : List (Addr × Obj)} {σ : L2.St} {H : Hp} {s : Shared} {Q : VK} {us : List Value} {vs : List V} (M : Mk X.K C f) (G : FnOk X.prog X.w X.K X.mg X.base CX k f fd ps sp) (room : Room (k + 1) X.A) (hb : Binds X.K fd ps [])
    (hx : PassesAt CX X σ (E σ)) (I : Inv X pins σ H s) (r : Vals vs us) (need : MakeV C sp [] (E σ) vs H Q) : wpAny (model X.prog X.w) X.A (call (.ref C) us) (EP X pins σ Q) X.xe s := by
  have wish := need (s.heap.objs.size + 1) s.heap.objs.size (I.hok.fresh (Nat.le_succ _)) (I.hok.fresh (Nat.le_refl _)) (Nat.ne_of_lt (Nat.lt_succ_self _))
  rw [List.append_nil] at wish
  have made := Inv.made (C := C) I
  have all : Vals (V.ref (s.heap.objs.size + 1) :: vs) (Value.ref (s.heap.objs.size + 1) :: us) := .cons rfl r
  have same : (Value.ref (s.heap.objs.size + 1) :: us).length = ps.length := by
    rw [← all.length]
    exact G.len _ _ _ _ wish
  have b := hb _ (Value.ref (s.heap.objs.size + 1) :: us) made.kIn (by rw [List.append_nil]; exact same)
  rw [List.append_nil] at b
  apply wpAny_call
  apply make_map (f := f) I.kIn M.makes M.init (beq_iff_eq.mp M.fn)
  apply codeAny_mono (G.run _ X.stack _ _ ⟨Value.ref (s.heap.objs.size + 1) :: us, []⟩ (Value.ref (s.heap.objs.size + 1) :: us) _ _ (E σ) (room.make C us []) (made.env0.make C us []) b all wish)
  intro fl s' got
  cases fl with
  | error e => exact hx pins _ _ e s' made got
  | ok fl =>
    cases fl with
    | ret u =>
      obtain ⟨v, H', I3, rv, rfl, q3⟩ := made.after got
      exact ⟨rv, V.ref (s.heap.objs.size + 1), H', I3, rfl, q3⟩
    | next => exact False.elim got
    | brk => exact False.elim got
    | cont => exact False.elim got
theorem pe_makeSl (M : Mk X.K C f) (G : FnOk X.prog X.w X.K X.mg X.base CX k f fd ps sp) (room : Room (k + 1) X.A) (hg : Gl X x) (hm : X.mg x = some (.ref C)) (hb : Binds X.K fd ps []) (hx : ∀ σ, PassesAt CX X σ (E σ))
    (ha : PA X (e :: es) tr) (h0 : (x == ("__debug__" : Str)) = false := by decide) (h1 : starEach (e :: es) X.env = (false, eval e X.env) :: starEach es X.env := by rfl) (h2 : (backTo pos (starEach es X.env)).any (·.1) = false := by rfl) :
    PE X (.Call (.Name x p) (e :: es) [] pos) (tMakeSl C sp E tr) := by
  constructor
  intro pins s σ H Q I need
  apply wpAny_Call_Name_kw (ld_glob I hg hm _ h0)
  refine PySem.W.callWith_K (h₀ := X.base) I.ok.mod.kin M.kp (thn (ha.run pos pins s σ H _ I need) ?_) h1 h2
  rintro us s1 ⟨vs, H1, I1, r, q⟩
  exact ⟨I1.kIn, run_makeSl M G room hb (hx σ) I1 r q⟩
end
end LH
namespace LH
open PySem L2
section
variable {K : PySem.W.Frag} {σ : L2.St} {H : Hp} {Q : VK} {te : TE} {t : TT}
theorem x_slL {p : Addr} {xs : List V} {lo hi : Option Int} (h : SqL K H p xs) (k : ∀ p' H2, H p' = none → L2.Same H H2 → H2 p' = some (.lst (cutV xs lo hi)) → Q (.ref p') H2) : rSlL K (.ref p) lo hi H Q :=
  ⟨p, xs, rfl, h, fun q hq => k q _ hq (LH.Same.new hq) upd_same⟩
theorem Paired.imp {α β : Type} {F G : α → β → Prop} (h : ∀ a b, F a b → G a b) : ∀ {xs : List α} {ys : List β}, Paired F xs ys → Paired G xs ys
  | _, _, .nil => .nil
  | _, _, .cons a r => .cons (h _ _ a) (Paired.imp h r)
theorem Paired.snoc {α β : Type} {F : α → β → Prop} {a : α} {b : β} : ∀ {xs : List α} {ys : List β}, Paired F xs ys → F a b → Paired F (xs ++ [a]) (ys ++ [b])
  | _, _, .nil, h => .cons h .nil
  | _, _, .cons c r, h => .cons c (Paired.snoc r h)
theorem Paired.len {α β : Type} {F : α → β → Prop} : ∀ {xs : List α} {ys : List β}, Paired F xs ys → xs.length = ys.length
  | _, _, .nil => rfl
  | _, _, .cons _ r => congrArg (· + 1) (Paired.len r)
theorem range_filter_succ (f : Nat → Bool) (i : Nat) : (List.range (i + 1)).filter f = if f i = true then (List.range i).filter f ++ [i] else (List.range i).filter f := by
  rw [List.range_succ, List.filter_append]
  cases h : f i <;> simp [List.filter, h]
theorem fr_same {M : List Addr} {H H' : Hp} {p : Addr} (f : H p = none) (e : L2.Same H H') : L2.Same H (Fr [p] H') := fun b o h => fr_of (e _ _ h) fun m => by
  rw [List.mem_singleton.mp m, f] at h
  cases h
theorem same_mut {H H1 H' : Hp} {D : Addr} (e : L2.Same H (Fr [D] H1)) (k : Kp D H1 H') : L2.Same H (Fr [D] H') := e.trans (k.ks (List.mem_singleton.mpr rfl)).fr
/-- a comprehension over a walk, each item told by R, which speaks of what stands still beside the new list -/
theorem lc_JR {J : It} {n : Nat} {Y : Nat → Hp → V → Hp → Prop} (w : Walk J n (fun _ => True) Y) {xs : List V} (hn : xs.length = n) (hY : ∀ i H x H', Y i H x H' → H' = H ∧ xs[i]? = some x) {j : Nat} {vs : List Nat} (hz : n ≤ 100000)
    (f : Nat → Bool) (R : Nat → V → Hp → Prop) (st : ∀ i y H1 H2, L2.Same H1 H2 → R i y H1 → R i y H2) (hw : ∀ x, wipe ((wipe σ vs).set j (some x)) vs = wipe σ vs)
    (ht : ∀ i x, xs[i]? = some x → ∀ H1, L2.Same H H1 → ∀ Q : Bool → Hp → Prop, (∀ H2, L2.Same H1 H2 → Q (f i) H2) → t ((wipe σ vs).set j (some x)) H1 Q)
    (he : ∀ i x, xs[i]? = some x → f i = true → ∀ D H1, L2.Same H (Fr [D] H1) → L2.Same H H1 → (∃ l, H1 D = some (.lst l)) → ∀ Q : VK, (∀ y H2, L2.Same H1 H2 → R i y (Fr [D] H2) → Q y H2) → te ((wipe σ vs).set j (some x)) H1 Q)
    (k : ∀ D H2 ys, H D = none → L2.Same H H2 → H2 D = some (.lst ys) → Paired (fun i y => R i y (Fr [D] H2)) ((List.range n).filter f) ys → Q (.ref D) H2) : LcJ J (gName j) t te vs σ H Q := by
  intro D hD
  refine lc_it w (fun i H' => L2.Same H (Fr [D] H') ∧ ∃ ys, H' D = some (.lst ys) ∧ ys.length ≤ i ∧ Paired (fun i y => R i y (Fr [D] H')) ((List.range i).filter f) ys)
    ⟨fr_same (M := []) hD (LH.Same.new hD), [], upd_same, Nat.le_refl _, .nil⟩ (fun _ _ _ _ => trivial) ?_ ?_
  · rintro i x H' H'' hi ⟨e0, ys, gD, ly, hy⟩ y
    obtain ⟨rfl, hx⟩ := hY _ _ _ _ y
    have e1 : L2.Same H H'' := e0.trans fr_le
    refine ⟨hw x, ht i x hx _ e1 _ fun H2 e2 => ?_⟩
    cases hf : f i with
    | true =>
      rw [if_pos rfl]
      refine he i x hx hf D H2 (e0.trans (same_fr e2)) (e1.trans e2) ⟨_, e2 _ _ gD⟩ _ fun y H3 e3 r3 => ⟨ys, e3 _ _ (e2 _ _ gD), sz' (by omega), ?_, ys ++ [y], upd_same, by rw [List.length_append]; exact Nat.add_le_add_right ly 1, ?_⟩
      · exact same_mut (e0.trans (same_fr (e2.trans e3))) Kp.upd
      · rw [range_filter_succ, if_pos hf]
        have s3 : L2.Same (Fr [D] H3) (Fr [D] (upd H3 D (.lst (ys ++ [y])))) := (Kp.ks (a := D) Kp.upd (List.mem_singleton.mpr rfl)).fr
        exact Paired.snoc (Paired.imp (fun a b h => st a b _ _ ((same_fr (e2.trans e3)).trans s3) h) hy) (st _ _ _ _ s3 r3)
    | false =>
      rw [if_neg Bool.false_ne_true]
      refine ⟨e0.trans (same_fr e2), ys, e2 _ _ gD, Nat.le_succ_of_le ly, ?_⟩
      rw [range_filter_succ, if_neg (by rw [hf]; exact Bool.false_ne_true)]
      exact Paired.imp (fun a b h => st a b _ _ (same_fr e2) h) hy
  · rintro H' ⟨e0, ys, gD, ly, hy⟩
    exact k D H' ys hD (e0.trans fr_le) gD hy
/-- the same over a range -/
theorem lc_RR {lo : Int} {n : Nat} {j : Nat} {vs : List Nat} (hz : n ≤ 100000)
    (f : Nat → Bool) (R : Nat → V → Hp → Prop) (st : ∀ i y H1 H2, L2.Same H1 H2 → R i y H1 → R i y H2) (hw : ∀ x, wipe ((wipe σ vs).set j (some x)) vs = wipe σ vs)
    (ht : ∀ i, i < n → ∀ H1, L2.Same H H1 → ∀ Q : Bool → Hp → Prop, (∀ H2, L2.Same H1 H2 → Q (f i) H2) → t ((wipe σ vs).set j (some (.int (lo + (i : Nat))))) H1 Q)
    (he : ∀ i, i < n → f i = true → ∀ D H1, L2.Same H (Fr [D] H1) → L2.Same H H1 → (∃ l, H1 D = some (.lst l)) → ∀ Q : VK, (∀ y H2, L2.Same H1 H2 → R i y (Fr [D] H2) → Q y H2) → te ((wipe σ vs).set j (some (.int (lo + (i : Nat))))) H1 Q)
    (k : ∀ D H2 ys, H D = none → L2.Same H H2 → H2 D = some (.lst ys) → Paired (fun i y => R i y (Fr [D] H2)) ((List.range n).filter f) ys → Q (.ref D) H2) : LcJ (Itr lo n) (gName j) t te vs σ H Q := by
  have hx : ∀ i x, (intsV lo n)[i]? = some x → i < n ∧ x = .int (lo + (i : Nat)) := fun i x h => by
    unfold intsV at h
    rw [List.getElem?_map] at h
    by_cases hi : i < n
    · rw [List.getElem?_range hi] at h
      injection h with h
      exact ⟨hi, h.symm⟩
    · rw [List.getElem?_eq_none (by rw [List.length_range]; omega)] at h
      cases h
  refine lc_JR (xs := intsV lo n) walk_rg (by unfold intsV; rw [List.length_map, List.length_range]) (fun i H x H' ⟨e, hx, hi⟩ => ⟨e, by unfold intsV; rw [List.getElem?_map, List.getElem?_range hi, hx]; rfl⟩) hz f R st hw ?_ ?_ k
  · intro i x h
    obtain ⟨hi, rfl⟩ := hx i x h
    exact ht i hi
  · intro i x h
    obtain ⟨hi, rfl⟩ := hx i x h
    exact he i hi
/-- the same over a list -/
theorem lc_LR {a : Addr} {xs : List V} {j : Nat} {vs : List Nat} (hx : SqL K H a xs) (hz : xs.length ≤ 100000)
    (f : Nat → Bool) (R : Nat → V → Hp → Prop) (st : ∀ i y H1 H2, L2.Same H1 H2 → R i y H1 → R i y H2) (hw : ∀ x, wipe ((wipe σ vs).set j (some x)) vs = wipe σ vs)
    (ht : ∀ i x, xs[i]? = some x → ∀ H1, L2.Same H H1 → ∀ Q : Bool → Hp → Prop, (∀ H2, L2.Same H1 H2 → Q (f i) H2) → t ((wipe σ vs).set j (some x)) H1 Q)
    (he : ∀ i x, xs[i]? = some x → f i = true → ∀ D H1, L2.Same H (Fr [D] H1) → L2.Same H H1 → (∃ l, H1 D = some (.lst l)) → ∀ Q : VK, (∀ y H2, L2.Same H1 H2 → R i y (Fr [D] H2) → Q y H2) → te ((wipe σ vs).set j (some x)) H1 Q)
    (k : ∀ D H2 ys, H D = none → L2.Same H H2 → H2 D = some (.lst ys) → Paired (fun i y => R i y (Fr [D] H2)) ((List.range xs.length).filter f) ys → Q (.ref D) H2) : LcV K (gName j) t te vs σ (.ref a) H Q := by
  refine ⟨a, rfl, ⟨xs, hx⟩, fun D hD => ?_⟩
  refine lc_list (xs := xs) (fun i H' => L2.Same H (Fr [D] H') ∧ ∃ ys, H' D = some (.lst ys) ∧ ys.length ≤ i ∧ Paired (fun i y => R i y (Fr [D] H')) ((List.range i).filter f) ys)
    ⟨fr_same (M := []) hD (LH.Same.new hD), [], upd_same, Nat.le_refl _, .nil⟩ (fun i H' _ p => L2.Same.seq (p.1.trans fr_le) hx) ?_ ?_
  · rintro i x H' hi ⟨e0, ys, gD, ly, hy⟩
    have hlt : i < xs.length := (List.getElem?_eq_some_iff.mp hi).1
    have e1 : L2.Same H H' := e0.trans fr_le
    refine ⟨hw x, ht i x hi _ e1 _ fun H2 e2 => ?_⟩
    cases hf : f i with
    | true =>
      rw [if_pos rfl]
      refine he i x hi hf D H2 (e0.trans (same_fr e2)) (e1.trans e2) ⟨_, e2 _ _ gD⟩ _ fun y H3 e3 r3 => ⟨ys, e3 _ _ (e2 _ _ gD), sz' (by omega), ?_, ys ++ [y], upd_same, by rw [List.length_append]; exact Nat.add_le_add_right ly 1, ?_⟩
      · exact same_mut (e0.trans (same_fr (e2.trans e3))) Kp.upd
      · rw [range_filter_succ, if_pos hf]
        have s3 : L2.Same (Fr [D] H3) (Fr [D] (upd H3 D (.lst (ys ++ [y])))) := (Kp.ks (a := D) Kp.upd (List.mem_singleton.mpr rfl)).fr
        exact Paired.snoc (Paired.imp (fun a b h => st a b _ _ ((same_fr (e2.trans e3)).trans s3) h) hy) (st _ _ _ _ s3 r3)
    | false =>
      rw [if_neg Bool.false_ne_true]
      refine ⟨e0.trans (same_fr e2), ys, e2 _ _ gD, Nat.le_succ_of_le ly, ?_⟩
      rw [range_filter_succ, if_neg (by rw [hf]; exact Bool.false_ne_true)]
      exact Paired.imp (fun a b h => st a b _ _ (same_fr e2) h) hy
  · rintro H' ⟨e0, ys, gD, ly, hy⟩
    exact k D H' ys hD (e0.trans fr_le) gD hy
end
end LH
namespace LH
open PySem L2
/-- ways that meet again behind an expression -/
theorem cut {te : TE} {σ : L2.St} {H : Hp} {Q0 : VK} (X : V → Hp → Prop) (h : ∀ Q : VK, (∀ y H', X y H' → Q y H') → te σ H Q) (k : ∀ y H', X y H' → Q0 y H') : te σ H Q0 := h Q0 k
/-- .. behind a statement -/
theorem cutS {t : TS} {D : Ends} {σ : L2.St} {H : Hp} (X : L2.St → Hp → Prop) (h : ∀ N : L2.St → Hp → Prop, (∀ σ' H', X σ' H' → N σ' H') → t { D with nx := N } σ H) (k : ∀ σ' H', X σ' H' → D.nx σ' H') : t D σ H := h D.nx k
/-- .. behind a test -/
theorem cutT {t : TT} {σ : L2.St} {H : Hp} {Q0 : Bool → Hp → Prop} (X : Bool → Hp → Prop) (h : ∀ Q : Bool → Hp → Prop, (∀ y H', X y H' → Q y H') → t σ H Q) (k : ∀ y H', X y H' → Q0 y H') : t σ H Q0 := h Q0 k
end LH
/-! more rules: setdefault with tuple keys, list(d.values()) -/
namespace LH
open PySem PySem.Spec PyProof.Rows L2
section
variable {X : Cx} {o e f : Expr} {td ty tx : TE} {apos cpos : Pos}
def SdV (ty tx : TE) (σ : L2.St) (x : V) (H1 : Hp) (Q : VK) : Prop := ∃ a, x = .ref a ∧ IsD H1 a ∧ ty σ H1 fun y H2 => tx σ H2 fun z H3 => ∃ (kvs : List (List Key × V)) (k : List Key) (b : Addr), H3 a = some (.dT kvs) ∧ y = .ref b ∧ H3 b = some (.tup (k.map kV)) ∧ kvs.length < sizeLine ∧
  (∀ v, valV kvs k = some v → Q v H3) ∧ (valV kvs k = none → Q z (upd H3 a (.dT (putK kvs k z))))
def tDSetT (td ty tx : TE) : TE := fun σ H Q => td σ H fun x H1 => SdV ty tx σ x H1 Q
/-- d.setdefault(y, z), the keys tuples -/
theorem pe_dsetdT (hu : X.A.units + 1 < cLine) (ho : PE X o td) (he : PE X e ty) (hf : PE X f tx) (m : M2 X o "setdefault" apos e f cpos) : PE X (.Call (.Attribute o "setdefault" apos) [e, f] [] cpos) (tDSetT td ty tx) := by
  constructor
  intro pins s σ H Q I need
  apply wpAny_Call_method m.base m.few m.line PySem.F.plainAttrs_dict PySem.F.slot_dict_setdefault PySem.F.type_dict_setdefault
  apply thn (ho.run pins s σ H _ I need)
  rintro u s1 ⟨x, H1, I1, rx, a, rfl, isd, q1⟩
  have eu : u = Value.ref a := rx
  rw [eu]
  obtain ⟨t1, t2, _⟩ := isD_at I1 isd
  refine ⟨t1, t2, ?_⟩
  rw [m.trees]
  apply Calls.callWith_builtin rfl
  apply Calls.evalArgs_plain
  apply Calls.spliced_cons
  apply thn (he.run pins s1 σ H1 _ I1 q1)
  rintro kv s2 ⟨y, H2, I2, ry, q2⟩
  apply Calls.spliced_cons
  apply thn (hf.run pins s2 σ H2 _ I2 q2)
  rintro dv s3 ⟨z, H3, I3, rz, kvs, k, b, ea, rfl, eb, len, there, absent⟩
  apply Calls.spliced_nil
  have ek : kv = Value.ref b := ry
  rw [ek]
  obtain ⟨lim, own, xs, rel, dd⟩ := dt_of I3.hok ea
  have lim' : xs.length ≤ sizeLine := by
    rw [← Paired.length rel]
    exact lim
  refine call_setdefault_heap (tupleKind_room_in1 hu) (key_of I3.hok eb) own dd (fun p hp => ?_) (fun hn h' dd' but => ?_) lim'
  · have r := rel.val k
    rw [hp] at r
    cases c : valV kvs k with
    | none =>
      rw [c] at r
      exact (show False from r).elim
    | some v =>
      rw [c] at r
      exact ⟨v, H3, I3.tok _, r, there v c⟩
  · have r := rel.val k
    rw [hn] at r
    cases c : valV kvs k with
    | some v =>
      rw [c] at r
      exact (show False from r).elim
    | none =>
      have len' : (putK kvs k z).length ≤ sizeLine := by
        have := length_putK kvs k z
        omega
      obtain ⟨ob, es, ep, hq, h2, h3, h4, _, h5⟩ := dd'
      refine ⟨z, upd H3 a (.dT (putK kvs k z)), d_write (t' := s3.toks + _) I3 (by rw [ea]; trivial) but ⟨ob, hq⟩ ⟨len', own, _, (rel.put k eb rz).keeps (fun c ys ec => ?_), ob, es, ep, hq, h2, h3, h4, h5⟩, rz, absent c⟩
      have ne : c ≠ a := ne_of ec ea (fun z => nomatch z)
      rw [upd_ne ne]
      exact ec
theorem x_dsetT {σ : L2.St} {H : Hp} {Q : VK} (h : td σ H fun x H1 => SdV ty tx σ x H1 Q) : tDSetT td ty tx σ H Q := h
def SdW (a : Addr) (y z : V) (H3 : Hp) (Q : VK) : Prop := ∃ (kvs : List (List Key × V)) (k : List Key) (b : Addr), H3 a = some (.dT kvs) ∧ y = .ref b ∧ H3 b = some (.tup (k.map kV)) ∧ kvs.length < sizeLine ∧
  (∀ v, valV kvs k = some v → Q v H3) ∧ (valV kvs k = none → Q z (upd H3 a (.dT (putK kvs k z))))
theorem sdv {a : Addr} {σ : L2.St} {H : Hp} {Q : VK} (h : IsD H a) (k : ty σ H fun y H2 => tx σ H2 fun z H3 => SdW a y z H3 Q) : SdV ty tx σ (.ref a) H Q := ⟨a, rfl, h, k⟩
theorem sdw {a b : Addr} {z : V} {H : Hp} {Q : VK} {kvs : List (List Key × V)} {k : List Key} (h : H a = some (.dT kvs)) (e : H b = some (.tup (k.map kV))) (l : kvs.length ≤ 100000) (h1 : ∀ v, valV kvs k = some v → Q v H)
    (h2 : valV kvs k = none → ∀ H', Kp a H H' → H' a = some (.dT (putK kvs k z)) → Q z H') : SdW a (.ref b) z H Q := ⟨kvs, k, b, h, rfl, e, sz' l, h1, fun n => h2 n _ Kp.upd upd_same⟩
end
section
variable {X : Cx} {e : Expr} {te : TE} {apos cpos p pos : Pos}
def LvV (x : V) (H : Hp) (Q : VK) : Prop := ∃ (d : Addr) (kvs : List (Key × V)), x = .ref d ∧ H d = some (.dK kvs) ∧ ∀ q, H q = none → Q (.ref q) (upd H q (.lst (kvs.map (·.2))))
def tListValues (te : TE) : TE := fun σ H Q => te σ H fun x H1 => LvV x H1 Q
theorem x_lvals {σ : L2.St} {H : Hp} {Q : VK} (h : te σ H fun x H1 => LvV x H1 Q) : tListValues te σ H Q := h
theorem lvv {d : Addr} {kvs : List (Key × V)} {H : Hp} {Q : VK} (h : H d = some (.dK kvs)) (k : ∀ q H', H q = none → L2.Same H H' → H' q = some (.lst (kvs.map (·.2))) → Q (.ref q) H') : LvV (.ref d) H Q :=
  ⟨d, kvs, rfl, h, fun q f => k q _ f (LH.Same.new f) upd_same⟩
theorem vals_of {kvs : List (Key × V)} {vs : List (Key × Value)} (r : KV kvs vs) : Vals (kvs.map (·.2)) (vs.map (·.2)) := by
  induction r with
  | nil => exact .nil
  | cons h _ ih => exact .cons h.2 ih
/-- list(e.values()) -/
theorem pe_listValues (calm : X.calm = true) (he : PE X e te) (hg : Gl X "list") (hm : X.mg "list" = none) (hv : bootBuiltins "list" = some (.type "list")) (h1 : attributeBase e "values" X.env (eval e X.env) = eval e X.env := by rfl) (h2 : (apos.endLine == cpos.line) = true := by rfl)
    (h3 : starEach [.Call (.Attribute e "values" apos) [] [] cpos] X.env = (false, eval (.Call (.Attribute e "values" apos) [] [] cpos) X.env) :: starEach [] X.env := by rfl) :
    PE X (.Call (.Name "list" p) [.Call (.Attribute e "values" apos) [] [] cpos] [] pos) (tListValues te) := by
  constructor
  intro pins s σ H Q I need
  apply wpAny_Call_Name_kw (ld_blt I hg hm hv _)
  refine PyProof.Rows.callWith_type1 ?_ h3 rfl
  rw [h3]
  show wpAny _ _ (spliced ((false, eval (.Call (.Attribute e "values" apos) [] [] cpos) X.env) :: backTo pos (starEach [] X.env))) _ _ s
  apply Calls.spliced_cons
  apply wpAny_Call_method (T := "dict") (id := "dict.values") h1 rfl h2 F.plainAttrs_dict F.slot_dict_values F.type_dict_values
  apply thn (he.run pins s σ H _ I need)
  rintro u s1 ⟨x, H1, I1, rx, d, kvs, rfl, hd, q⟩
  have eu : u = Value.ref d := rx
  rw [eu]
  obtain ⟨lim, own, vs, rel, dd⟩ := I1.hok d _ hd
  obtain ⟨ep, at_⟩ := dd.dictAt
  have ll : kvs.length = vs.length := Paired.length rel
  refine ⟨dd.typeIs, dd.mapOf.noDict, ?_⟩
  show wpAny _ _ (callWith cpos (.builtin "dict.values") [.ref d] [] []) _ X.xe s1
  refine method_meetsIn F.slot_dict_values F.entry_dict_values rfl (PySem.evalArgs_none ⟨rfl, dd.typeIs, F.args_dict_values_1 _, _, meets_dict_values (mixKind X.prog X.w) d own, ⟨vs, dd⟩, ?_⟩)
  apply Calls.spliced_nil
  refine PySem.W.kdl_call (PySem.W.kdl_values (knd := mixKind X.prog X.w) (kvs := vs) (ep := ep)) (I1.ok.hd calm) ⟨⟨_, Heap.get?_push_size _ rfl, rfl, rfl⟩, at_.push _⟩ (by omega) fun h' tk acc c kept got items => ?_
  have eq : acc.toList = vs.map (·.2) := PySem.W.kdl_vals_eq acc.toList (by rw [Array.length_toList]; exact items.1) fun j v hj => items.2 j v (by rw [← Array.getElem?_toList]; exact hj)
  have new : H1 (s1.heap.push { cls := .type "dict_values", data := .fields #[.ref d] }).objs.size = none := I1.hok.fresh (by rw [Heap.size_push]; exact Nat.le_succ _)
  refine ⟨.ref _, upd H1 _ (.lst (kvs.map (·.2))), I1.laid (t' := tk) (fun b ob hb => kept b ob (Heap.get?_push_of_some _ hb)) (by rw [Heap.size_push]; exact Nat.le_succ _) ⟨by rw [List.length_map]; exact lim, acc.toList, c, ?_, ?_⟩, rfl, q _ new⟩
  · rw [eq]
    exact vals_of rel
  · rw [Array.toArray_toList]
    exact got
end
end LH
/-! sets of ints and texts by a comprehension; how many they are -/
namespace LH
open PySem PySem.Spec PyProof.Rows L2 PpSet
section
variable {X : Cx}
theorem freshK {P : Program} {w : World} (h : Heap) : (h.push { cls := .type "set", dict := none, data := .set #[] 0 (.fresh 0 0 (!w.params.followText "set-order")) }).SetOf (mixKind P w) h.objs.size (fun _ => false) 0 :=
  ⟨_, #[], 0, _, Heap.get?_push_size _ rfl, ⟨rfl, rfl, rfl⟩, rfl, (fun e he => by simp at he), (fun k => by simp), (by decide), (by rfl), rfl⟩
theorem addK_ok {pins : List (Addr × Obj)} {σ : L2.St} {H : Hp} {s : Shared} {E : Value → Shared → Prop} {D : Addr} {S : Key → Bool} {n : Nat} {y : Key} {u : Value} {Q : Value → Shared → Prop} (I : Inv X pins σ H s) (ry : RelV (kV y) u)
    (at_ : H D = some (SetK X.prog X.w D S n)) (room : n + 1 < scanBound)
    (k : ∀ s', Inv X pins σ (upd H D (SetK X.prog X.w D (fun j => S j || decide (j = y)) (if S y = true then n else n + 1))) s' → Q .none s') : wpAny (model X.prog X.w) X.A (call (.builtin "set.add") [.ref D, u]) Q E s := by
  apply call_set_add (kV_is ry) (key_scan ry) (setK_get I at_) room
  intro h' but new
  have there : ∃ u, h'.get? D = some u := by
    obtain ⟨o, _, _, _, ho, _⟩ := id new
    exact ⟨o, ho⟩
  exact k _ (I.write (e := D) (t' := s.toks + 1) (by rw [at_]; trivial) (.inl rfl) (fun b v hb hv => (but.2 b hb).trans hv) there (setK_new new))
/-- what a turn of the comprehension leaves -/
def ScT (P : Program) (w : World) (J : It) (g : TG) (tt : TT) (te : TE) (vs : List Nat) (σ : L2.St) (D : Addr) (i m : Nat) (W : Nat → Nat → Hp → Prop) (Q : VK) (H : Hp) : Prop :=
  (J.stop i H ∧ Q (.ref D) H) ∨ (J.go i H ∧ ∃ Nx : Hp → Prop, (∀ H', Nx H' → ∃ m', m' < m ∧ W (i + 1) m' H') ∧ ∀ x H', J.yld i H x H' → g x (wipe σ vs) H' fun σ2 H2 => wipe σ2 vs = wipe σ vs ∧ tt σ2 H2 fun b H3 =>
    if b = true then te σ2 H3 fun y H4 => ∃ (c : Key) (S : Key → Bool) (n : Nat), y = kV c ∧ H4 D = some (SetK P w D S n) ∧ n + 1 < scanBound ∧ Nx (upd H4 D (SetK P w D (fun j => S j || decide (j = c)) (if S c = true then n else n + 1))) else Nx H3)
def tScK (P : Program) (w : World) (wi : TI) (g : TG) (tt : TT) (te : TE) (vs : List Nat) : TE := fun σ H Q => wi σ H fun J H1 => ∀ D, H1 D = none → ∃ W : Nat → Nat → Hp → Prop, (∃ m, W 0 m (upd H1 D (SetK P w D (fun _ => false) 0))) ∧ ∀ i m H, W i m H → ScT P w J g tt te vs σ D i m W Q H
/-- {elt for target in iter if ..}, elt an int or a text: what comes behind it is a letter -/
theorem scK_core {pins : List (Addr × Obj)} {s : Shared} {σ : L2.St} {H : Hp} {Q : VK} {elt tg iter : Expr} {ifs : List Expr} {scope : Scope} {own : List (PySem.Str × Nat)} {pos pos' : Pos} {wi : TI} {g : TG} {tt : TT} {te : TE} {use : Option (Value → Sem Unit)} {Qf : Value → Shared → Prop}
    (calm : X.calm = true) (nd : X.N.Nodup) (I : Inv X pins σ H s) (hi : PI X tg iter wi) (ok : BlkOk X.N X.env.scope scope own)
    (hg : ∀ (s : Shared) (H : Hp) (C : Addr) (cl : List (PySem.Str × Addr)) (fp : List Addr), PG (X.blk s H scope (compEnvC scope cl C X.env) fp) tg g)
    (ht : ∀ (s : Shared) (H : Hp) (C : Addr) (cl : List (PySem.Str × Addr)) (fp : List Addr), PTs (X.blk s H scope (compEnvC scope cl C X.env) fp) ifs tt)
    (he : ∀ (s : Shared) (H : Hp) (C : Addr) (cl : List (PySem.Str × Addr)) (fp : List Addr), PE (X.blk s H scope (compEnvC scope cl C X.env) fp) elt te)
    (fold : ∀ x, foldedSetIterable iter X.env x = pure x) (need : tScK X.prog X.w wi g tt te (own.map (·.2)) σ H Q)
    (then_ : ∀ D C s' m H', Inv X pins σ H' s' → Q (.ref D) H' → s'.heap.Ns C m → FpOk X pins H' C → compPost (model X.prog X.w) X.A X.xe use Qf (.ref D) C (.ok .next) s') :
    wpAny (model X.prog X.w) X.A (comprehension (.SetComp elt [⟨tg, iter, ifs, 0⟩] scope pos) scope X.env pos' (newSet (.type "set")) false (eval iter X.env) use) Qf X.xe s := by
  have bound : ∀ y ∈ scope.names, y.2 = .free → ∃ c, X.env.cells.lookup y.1 = some c := fun y hy e => by
    rcases ok.free y hy e with k | k
    · exact I.ok.has _ (.inl k)
    · exact I.ok.has _ (.inr k)
  apply wpAny_comprehension_free (use := use) rfl fold (closure_ok bound) ok.kind (fun y hy e => by rw [ok.uniq y hy, e])
  apply thn (hi.run pins s σ H _ I need)
  intro xv s1 hx
  apply thn hx
  rintro itv s2 ⟨it, fp, tn, J, H2, rfl, I2, T, st2, f2, q⟩
  apply newSet_ok
  apply newEnv_comp
  generalize eD : s2.heap.objs.size = D
  have noD : H2 D = none := I2.hok.fresh (Nat.le_of_eq eD)
  obtain ⟨W, ⟨m0, w0⟩, turn⟩ := q D noD
  generalize es3 : ({ s2 with heap := s2.heap.push { cls := .type "set", dict := none, data := .set #[] 0 (.fresh 0 0 (!X.w.params.followText "set-order")) } } : Shared) = s3
  have hp3 : s3.heap = s2.heap.push { cls := .type "set", dict := none, data := .set #[] 0 (.fresh 0 0 (!X.w.params.followText "set-order")) } := by rw [← es3]
  have I3 : Inv X pins σ (upd H2 D (SetK X.prog X.w D (fun _ => false) 0)) s3 := by
    subst es3 eD
    exact I2.laid (t' := s2.toks) (fun b o hb => Heap.get?_push_of_some _ hb) (Nat.le_refl _) (setK_new (freshK _))
  have old : ∀ b ∈ fp, b < s2.heap.objs.size := fun b hb => by
    obtain ⟨o, e, _⟩ := T.obj _ _ st2 b hb
    exact Heap.lt_size e
  have f3 : ∀ b ∈ fp, FpOk X pins (upd H2 D (SetK X.prog X.w D (fun _ => false) 0)) b ∧ b < s3.heap.objs.size := fun b hb => by
    have lt := old b hb
    have ne : b ≠ D := by
      rw [← eD]
      exact Nat.ne_of_lt lt
    exact ⟨⟨(upd_ne ne).trans (f2 b hb).1, (f2 b hb).2⟩, by rw [hp3, Heap.size_push]; exact Nat.lt_succ_of_lt lt⟩
  have st3 : tn 0 s3.heap := T.keep _ _ _ st2 fun b _ o e => by
    rw [hp3]
    exact Heap.get?_push_of_some _ e
  have I4 := block_start I3 ok nd f3
  have pg := hg s3 (upd H2 D (SetK X.prog X.w D (fun _ => false) 0)) s3.heap.objs.size (cellsFrom (s3.heap.objs.size + 1) scope.names (cloFrom X.env.cells scope.names [])) fp
  have pt := ht s3 (upd H2 D (SetK X.prog X.w D (fun _ => false) 0)) s3.heap.objs.size (cellsFrom (s3.heap.objs.size + 1) scope.names (cloFrom X.env.cells scope.names [])) fp
  have pe := he s3 (upd H2 D (SetK X.prog X.w D (fun _ => false) 0)) s3.heap.objs.size (cellsFrom (s3.heap.objs.size + 1) scope.names (cloFrom X.env.cells scope.names [])) fp
  show codeAny _ _ (.compStart (.SetComp elt [⟨tg, iter, ifs, 0⟩] scope pos) 0 (.ref it) (.ref D) (compEnvC scope (cellsFrom (s3.heap.objs.size + 1) scope.names (cloFrom X.env.cells scope.names [])) s3.heap.objs.size X.env)) _ { s3 with heap := pushCells (s3.heap.push { cls := .type "dict", data := .dict #[] }) scope.names }
  have no3 : ∀ b ∈ fp, (upd H2 D (SetK X.prog X.w D (fun _ => false) 0)) b = none := fun b hb => (f3 b hb).1.1
  generalize env3 : compEnvC scope (cellsFrom (s3.heap.objs.size + 1) scope.names (cloFrom X.env.cells scope.names [])) s3.heap.objs.size X.env = ce at I4 pg pt pe ⊢
  have here : ce.locals = s3.heap.objs.size := by
    subst env3
    rfl
  generalize eH3 : upd H2 D (SetK X.prog X.w D (fun _ => false) 0) = H3 at I3 I4 pg pt pe w0 no3 f3
  generalize es4 : ({ s3 with heap := pushCells (s3.heap.push { cls := .type "dict", data := .dict #[] }) scope.names } : Shared) = s4 at I4 ⊢
  have st4 : tn 0 s4.heap := T.keep _ _ _ st3 fun b _ o e => by
    rw [← es4]
    exact pushCells_keeps _ _ _ _ (Heap.get?_push_of_some _ e)
  have still : ∀ {σ' : L2.St} {H' : Hp} {s' : Shared}, Inv (X.blk s3 H3 scope ce fp) [] σ' H' s' → (∀ b ∈ fp, H' b = none) → ∀ b ∈ fp, FpOk (X.blk s3 H3 scope ce fp) [] H' b := fun {σ' H' s'} I' no b hb =>
    ⟨no b hb, (I'.ok.exf b hb).1, I'.ok.exfs b hb, .inl hb, fun x c e => (I'.ok.exf b hb).2 x c e, fun p hp => absurd (show p ∈ ([] : List (Addr × Obj)) ++ [] from hp) (by simp)⟩
  suffices loop : codeAny (model X.prog X.w) X.A (.compLoop (.SetComp elt [⟨tg, iter, ifs, 0⟩] scope pos) 0 (.ref it) (.ref D) ce) (compPost (model X.prog X.w) X.A X.xe use Qf (.ref D) s3.heap.objs.size) s4 from
    codeAny_compStart_set loop (T.self X.A 0 _ _ _ st4 loop)
  apply compLoopS_any (fun n s' => ∃ i H', Inv (X.blk s3 H3 scope ce fp) [] (wipe σ (own.map (·.2))) H' s' ∧ tn i s'.heap ∧ (∀ b ∈ fp, H' b = none) ∧ W i n H') _ m0 ⟨0, H3, I4, st4, no3, w0⟩
  rintro n s5 ⟨i, H5, I5, st5, no5, w5⟩
  rcases turn i n H5 w5 with ⟨stop, fin⟩ | ⟨go, Nx, hNx, step⟩
  · apply thnF (T.done (X.blk s3 H3 scope ce fp) rfl rfl rfl calm i [] s5 _ H5 (fun _ _ => False) I5 (still I5 no5) st5 stop)
    rintro r s6 ⟨rfl, I6⟩
    have I7 : Inv X pins σ H5 s6 := I3.call' (ch := fp) I6.os I6.base I6.hok I6.bare fun b hb => ⟨(f3 b hb).1.2.2.2.1, (f3 b hb).1.2.1, (f3 b hb).1.2.2.2.2.1, (f3 b hb).1.2.2.2.2.2⟩
    have noC : H5 s3.heap.objs.size = none := by
      have z : H5 ce.locals = none := I6.free
      rwa [here] at z
    obtain ⟨m, ns, _⟩ := I6.loc
    have ns : s6.heap.Ns ce.locals m := ns
    rw [here] at ns
    exact then_ D s3.heap.objs.size s6 m H5 I7 fin ns (I3.fpOk (Nat.le_refl _) noC)
  · apply thnF (T.item (X.blk s3 H3 scope ce fp) rfl rfl rfl calm i [] s5 _ H5 (fun _ _ => False) I5 (still I5 no5) st5 go)
    rintro r s6 ⟨u, rfl, h6⟩
    apply thnF h6
    rintro _ s7 ⟨x, H7, I7, r7, y7, st7, no7⟩
    have I7' := I7.pinned (still I7 no7) (T.obj _ _ st7)
    apply thnF (pg.run _ s7 _ H7 x u _ I7' r7 (step x H7 y7))
    rintro _ s8 ⟨σ8, H8, I8, same8, q8⟩
    apply thnF (pt.run _ s8 σ8 H8 _ I8 q8)
    rintro b s9 ⟨H9, I9, q9⟩
    have again : ∀ {s' : Shared} {H' : Hp}, Inv (X.blk s3 H3 scope ce fp) ([] ++ pinsAt fp s7.heap) σ8 H' s' → Nx H' → ∃ m, m < n ∧ ∃ i H', Inv (X.blk s3 H3 scope ce fp) [] (wipe σ (own.map (·.2))) H' s' ∧ tn i s'.heap ∧ (∀ b ∈ fp, H' b = none) ∧ W i m H' := fun {s' H'} I' nx => by
      obtain ⟨m', lt, w'⟩ := hNx H' nx
      have pinned : ∀ b ∈ fp, ∀ o, s7.heap.get? b = some o → s'.heap.get? b = some o ∧ H' b = none := fun b hb o e => by
        have z := I'.pin (b, o) (List.mem_append_right _ (List.mem_append_right _ (mem_pinsAt hb e)))
        exact ⟨z.1, z.2.1⟩
      have len : (wipe σ (own.map (·.2))).length = σ8.length := by rw [← same8, wipe_length]
      refine ⟨m', lt, i + 1, H', (I'.unpinned (pins := [])).weak len (fun j v e => ?_), T.keep _ _ _ st7 fun b hb o e => (pinned b hb o e).1, fun b hb => ?_, w'⟩
      · rw [← same8] at e
        exact (wipe_some e).1
      · obtain ⟨o, e, _⟩ := T.obj _ _ st7 b hb
        exact (pinned b hb o e).2
    cases b with
    | false =>
      rw [if_neg Bool.false_ne_true] at q9
      rw [if_neg Bool.false_ne_true]
      exact again I9 q9
    | true =>
      rw [if_pos rfl] at q9
      rw [if_pos rfl]
      apply thnF (pe.run _ s9 σ8 H9 _ I9 q9)
      rintro z s10 ⟨yv, H10, I10, r10, c, S0, n0, rfl, at10, room10, nx⟩
      exact addK_ok (X := X.blk s3 H3 scope ce fp) I10 r10 at10 room10 fun s11 I11 => again I11 nx
/-- as a value -/
theorem pe_scK {elt tg iter : Expr} {ifs : List Expr} {scope : Scope} {own : List (PySem.Str × Nat)} {pos : Pos} {wi : TI} {g : TG} {tt : TT} {te : TE} (calm : X.calm = true) (nd : X.N.Nodup) (hi : PI X tg iter wi) (ok : BlkOk X.N X.env.scope scope own)
    (hg : ∀ (s : Shared) (H : Hp) (C : Addr) (cl : List (PySem.Str × Addr)) (fp : List Addr), PG (X.blk s H scope (compEnvC scope cl C X.env) fp) tg g)
    (ht : ∀ (s : Shared) (H : Hp) (C : Addr) (cl : List (PySem.Str × Addr)) (fp : List Addr), PTs (X.blk s H scope (compEnvC scope cl C X.env) fp) ifs tt)
    (he : ∀ (s : Shared) (H : Hp) (C : Addr) (cl : List (PySem.Str × Addr)) (fp : List Addr), PE (X.blk s H scope (compEnvC scope cl C X.env) fp) elt te)
    (fold : ∀ x, foldedSetIterable iter X.env x = pure x := by intro _; rfl) :
    PE X (.SetComp elt [⟨tg, iter, ifs, 0⟩] scope pos) (tScK X.prog X.w wi g tt te (own.map (·.2))) := by
  constructor
  intro pins s σ H Q I need
  rw [eval_SetComp]
  apply scK_core calm nd I hi ok hg ht he fold need
  rintro D C s' m H' I' q hn ⟨z0, z1, z2, z3, z4, z5⟩
  exact ⟨m, hn, fun h'' but => ⟨.ref D, H', I'.turned (t' := s'.toks) (fun b o hb e => (but.2 b hb).trans e) z0 z1 z3 z4 z5, rfl, q⟩⟩
theorem sw_trueS {elt : Expr} {gs : List Comprehension} {scope : Scope} {pos py : Pos} {y : PySem.Str} {l : Nat} {env : Env} (h1 : env.scope.kind = .function) (h2 : env.scope.names.lookup y = some .local) (h3 : (py.line == pos.line) = true)
    (h4 : (scope.names.any fun (n, k) => n == y && (k == .local || k == .cell)) = false) : swapsWith (.SetComp elt gs scope pos) (some (.Name y py)) l env = pure true := by
  have k1 : env.kindOf y = some .local := h2
  have k2 : env.blockKind = .function := by
    unfold Env.blockKind
    rw [h1] <;> rfl
  unfold swapsWith
  simp only [k2, k1, h4, Expr.pos, h3]
  rfl
/-- name = {..} on one line, the name a local -/
theorem ps_setScK {i : Nat} {y : PySem.Str} {py : Pos} {elt tg iter : Expr} {ifs : List Expr} {scope : Scope} {own : List (PySem.Str × Nat)} {pos spos : Pos} {wi : TI} {g : TG} {tt : TT} {te : TE} (calm : X.calm = true) (nd : X.N.Nodup) (hy : X.N[i]? = some y) (loc : X.env.scope.names.lookup y = some .local)
    (swap : swapsWith (.SetComp elt [⟨tg, iter, ifs, 0⟩] scope pos) (some (.Name y py)) spos.line X.env = pure true) (hi : PI X tg iter wi) (ok : BlkOk X.N X.env.scope scope own)
    (hg : ∀ (s : Shared) (H : Hp) (C : Addr) (cl : List (PySem.Str × Addr)) (fp : List Addr), PG (X.blk s H scope (compEnvC scope cl C X.env) fp) tg g)
    (ht : ∀ (s : Shared) (H : Hp) (C : Addr) (cl : List (PySem.Str × Addr)) (fp : List Addr), PTs (X.blk s H scope (compEnvC scope cl C X.env) fp) ifs tt)
    (he : ∀ (s : Shared) (H : Hp) (C : Addr) (cl : List (PySem.Str × Addr)) (fp : List Addr), PE (X.blk s H scope (compEnvC scope cl C X.env) fp) elt te)
    (fold : ∀ x, foldedSetIterable iter X.env x = pure x := by intro _; rfl) :
    PS X (.Assign [.Name y py] (.SetComp elt [⟨tg, iter, ifs, 0⟩] scope pos) spos) (tAsg (tScK X.prog X.w wi g tt te (own.map (·.2))) (gName i)) := by
  constructor
  intro pins s σ H D I need
  rw [exec_Assign_Name_used _ _ _ _ swap]
  apply wpAny_bind
  apply wpAny_standAt
  apply wpAny_bind
  show wpAny _ X.A (do let _ ← comprehension (.SetComp elt [⟨tg, iter, ifs, 0⟩] scope pos) scope X.env (firstIterPos [⟨tg, iter, ifs, 0⟩] pos) (newSet (.type "set")) false (eval iter X.env) (some (assign (.Name y py) X.env))) _ _ s
  have need : tScK X.prog X.w wi g tt te (own.map (·.2)) σ H (fun x H1 => gName i x σ H1 D.nx) := need
  apply wpAny_bind
  refine thn (scK_core (Qf := fun _ s' => SP X pins D .next s') calm nd I hi ok hg ht he fold need ?_) fun _ s' hq => wpAny_pure (wpAny_pure hq)
  rintro L C s' m H' I' q hn ⟨z0, z1, z2, z3, z4, z5⟩
  show wpAny _ _ (assign (.Name y py) X.env (.ref L)) _ _ _
  apply wpAny_assign_Name
  refine store_ok2 (v := V.ref L) I' nd hy (.inl loc) rfl ?_ (.inr loc)
  rintro s2 I2 ⟨a, but, ha⟩
  have ne : C ≠ a := by
    rcases ha with z | z
    · rw [z]
      exact z1
    · exact fun e => z4 y a z e.symm
  exact ⟨m, hn.sameBut but ne, fun h3 but3 => ⟨_, H', I2.turned (t' := s2.toks) (fun b o hb e => (but3.2 b hb).trans e) z0 z1 z3 z4 z5, q⟩⟩
end
end LH
namespace LH
open PySem L2
section
variable {P : Program} {w : World} {K : PySem.W.Frag} {σ : L2.St} {H : Hp} {Q : VK} {te tl : TE}
/-- over a list: the i-th item gives the int ns[i] -/
def ScV (P : Program) (w : World) (K : PySem.W.Frag) (g : TG) (te : TE) (vs : List Nat) (σ : L2.St) (x : V) (H1 : Hp) (Q : VK) : Prop :=
  ∃ a, x = .ref a ∧ (∃ xs, SqL K H1 a xs) ∧ ∀ D, H1 D = none → ∃ W : Nat → Nat → Hp → Prop, (∃ m, W 0 m (upd H1 D (SetK P w D (fun _ => false) 0))) ∧ ∀ i m H, W i m H → ScT P w (Itl K a) g tYes te vs σ D i m W Q H
theorem x_scK {g : TG} {vs : List Nat} (h : tl σ H fun x H1 => ScV P w K g te vs σ x H1 Q) : tScK P w (iList K tl) g tYes te vs σ H Q := h
theorem sc_L {a : Addr} {xs : List V} {ns : List Int} {j : Nat} {vs : List Nat} (hx : SqL K H a xs) (hz : xs.length ≤ 4000) (hn : ns.length = xs.length)
    (hw : ∀ x, wipe ((wipe σ vs).set j (some x)) vs = wipe σ vs)
    (he : ∀ (i : Nat) x z, xs[i]? = some x → ns[i]? = some z → ∀ H1, L2.Same H H1 → ∀ Q : VK, (∀ H2, L2.Same H1 H2 → Q (.int z) H2) → te ((wipe σ vs).set j (some x)) H1 Q)
    (k : ∀ D H2 S n, H D = none → L2.Same H H2 → H2 D = some (SetK P w D S n) → n ≤ ns.length → (n = ns.length ↔ ns.Nodup) → Q (.ref D) H2) : ScV P w K (gName j) te vs σ (.ref a) H Q := by
  refine ⟨a, rfl, ⟨xs, hx⟩, fun D hD => ?_⟩
  let Pv : Nat → Hp → Prop := fun i H' => L2.Same H H' ∧ ∃ S n, H' D = some (SetK P w D S n) ∧ n ≤ i ∧ (n = i ↔ (ns.take i).Nodup) ∧ ∀ z : Int, S (Sum.inl z) = true ↔ z ∈ ns.take i
  refine ⟨fun i m H' => m = xs.length - i ∧ i ≤ xs.length ∧ Pv i H', ⟨xs.length, by simp, Nat.zero_le _, LH.Same.new hD, _, 0, upd_same, Nat.le_refl _, by simp, fun z => by simp⟩, ?_⟩
  rintro i m H' ⟨rfl, hi, e0, S, n, gD, ln, nd, mem⟩
  have q := L2.Same.seq e0 hx
  by_cases lt : i < xs.length
  · refine .inr ⟨⟨xs, xs[i], q, by simp [lt]⟩, Pv (i + 1), fun H2 p2 => ⟨xs.length - (i + 1), by omega, rfl, lt, p2⟩, ?_⟩
    rintro x H2 ⟨rfl, y⟩
    have hxi := y xs q
    have hz2 : ns[i]? = some (ns[i]'(by omega)) := List.getElem?_eq_getElem (by omega)
    generalize ns[i]'(by omega) = z at hz2
    refine ⟨hw x, ?_⟩
    suffices goal : te ((wipe σ vs).set j (some x)) H2 fun y H4 => ∃ (c : Key) (S : Key → Bool) (n : Nat), y = kV c ∧ H4 D = some (SetK P w D S n) ∧ n + 1 < scanBound ∧ Pv (i + 1) (upd H4 D (SetK P w D (fun j => S j || decide (j = c)) (if S c = true then n else n + 1))) by
      exact x_yes (by rw [if_pos rfl]; exact goal)
    refine he i x z hxi hz2 _ e0 _ fun H3 e3 => ⟨Sum.inl z, S, n, rfl, e3 _ _ gD, ?_, Same.mut (e0.trans e3) hD, _, _, upd_same, ?_, ?_, ?_⟩
    · unfold scanBound
      omega
    · split <;> omega
    · rw [take_more hz2, List.nodup_append]
      by_cases c : S (Sum.inl z) = true
      · rw [if_pos c]
        have hm := (mem z).mp c
        constructor
        · intro h
          omega
        · rintro ⟨_, _, h3⟩
          exact absurd rfl (h3 z hm z (List.mem_singleton.mpr rfl))
      · rw [if_neg c]
        constructor
        · intro h
          refine ⟨nd.mp (by omega), by simp, fun b hb b' hb' e => c ((mem z).mpr ?_)⟩
          rw [List.mem_singleton.mp hb'] at e
          rw [← e]
          exact hb
        · rintro ⟨h1, _, _⟩
          have := nd.mpr h1
          omega
    · intro u
      show (S (Sum.inl u) || decide ((Sum.inl u : Key) = Sum.inl z)) = true ↔ _
      rw [take_more hz2, List.mem_append, List.mem_singleton, Bool.or_eq_true, mem u, decide_eq_true_eq]
      constructor
      · rintro (h | h)
        · exact .inl h
        · injection h with h
          exact .inr h
      · rintro (h | h)
        · exact .inl h
        · exact .inr (by rw [h])
  · have e : i = xs.length := by omega
    subst e
    refine .inl ⟨⟨xs, q, Nat.le_refl _⟩, k D H' S n hD e0 gD (by omega) ?_⟩
    rw [← hn] at nd
    rw [List.take_length] at nd
    exact nd
end
end LH
namespace LH
open PySem PySem.Spec PyProof.Rows L2
/-- len of such a set -/
def rLenK (P : Program) (w : World) : List V → Hp → VK → Prop := fun xs H Q => ∃ (a : Addr) (S : Key → Bool) (n : Nat), xs = [.ref a] ∧ H a = some (SetK P w a S n) ∧ Q (.int n) H
theorem call_lenK {X : Cx} : CallR X (.builtin "len") (rLenK X.prog X.w) := by
  intro pins s σ H xs us Q I r h
  obtain ⟨a, S, n, rfl, ha, q⟩ := h
  obtain ⟨u, rfl, ru⟩ := r.one
  have eu : u = Value.ref a := ru
  rw [eu]
  obtain ⟨o, es, ep, t, at_, exact_, data, _, _, small, fits, count⟩ := setK_get I ha
  refine call_len_set at_ exact_ data fits (by unfold scanBound at small; omega) ⟨.int n, H, I.tok _, ⟨_, by rw [count]⟩, q⟩
theorem x_lenK {P : Program} {w : World} {a : Addr} {S : Key → Bool} {n : Nat} {H : Hp} {Q : VK} (h : H a = some (SetK P w a S n)) (q : Q (.int n) H) : rLenK P w [.ref a] H Q := ⟨a, S, n, rfl, h, q⟩
end LH
namespace K4
open PySem L2
def top (i : Nat) : Stmt := PySem.Challenge.pw_latehouse_k04_backings.main.body.getD i (.Pass ⟨0, 0, 0, 0⟩)
abbrev s_is_whole : Stmt := top 12
abbrev N_is_whole : List Str := ["thing", "least", "most"]
theorem sc_is_whole : FnScope N_is_whole ["thing", "least", "most"] (defScope s_is_whole) := ⟨rfl, rfl, rfl, by decide +kernel, rfl, by decide +kernel, by decide +kernel⟩
abbrev s_check_count : Stmt := top 13
abbrev N_check_count : List Str := ["count"]
theorem sc_check_count : FnScope N_check_count ["count"] (defScope s_check_count) := ⟨rfl, rfl, rfl, by decide +kernel, rfl, by decide +kernel, by decide +kernel⟩
abbrev s_is_house : Stmt := top 14
abbrev N_is_house : List Str := ["count", "thing"]
theorem sc_is_house : FnScope N_is_house ["count", "thing"] (defScope s_is_house) := ⟨rfl, rfl, rfl, by decide +kernel, rfl, by decide +kernel, by decide +kernel⟩
abbrev s_most_liars : Stmt := top 15
abbrev N_most_liars : List Str := ["count"]
theorem sc_most_liars : FnScope N_most_liars ["count"] (defScope s_most_liars) := ⟨rfl, rfl, rfl, by decide +kernel, rfl, by decide +kernel, by decide +kernel⟩
abbrev s_enough : Stmt := top 16
abbrev N_enough : List Str := ["count"]
theorem sc_enough : FnScope N_enough ["count"] (defScope s_enough) := ⟨rfl, rfl, rfl, by decide +kernel, rfl, by decide +kernel, by decide +kernel⟩
abbrev s_is_row : Stmt := top 23
abbrev N_is_row : List Str := ["thing", "letter"]
theorem sc_is_row : FnScope N_is_row ["thing"] (defScope s_is_row) := ⟨rfl, rfl, rfl, by decide +kernel, rfl, by decide +kernel, by decide +kernel⟩
abbrev s_caller : Stmt := top 24
abbrev N_caller : List Str := ["count", "number"]
theorem sc_caller : FnScope N_caller ["count", "number"] (defScope s_caller) := ⟨rfl, rfl, rfl, by decide +kernel, rfl, by decide +kernel, by decide +kernel⟩
abbrev s_is_word : Stmt := top 25
abbrev N_is_word : List Str := ["count", "thing", "kind", "number", "row", "house"]
theorem sc_is_word : FnScope N_is_word ["count", "thing"] (defScope s_is_word) := ⟨rfl, rfl, rfl, by decide +kernel, rfl, by decide +kernel, by decide +kernel⟩
abbrev s_is_backing : Stmt := top 27
abbrev N_is_backing : List Str := ["count", "number", "row", "words", "word", "houses"]
theorem sc_is_backing : FnScope N_is_backing ["count", "number", "row", "words"] (defScope s_is_backing) := ⟨rfl, rfl, rfl, by decide +kernel, rfl, by decide +kernel, by decide +kernel⟩
abbrev s__law_at : Stmt := top 29
abbrev N__law_at : List Str := ["_law_script", "_law_k"]
theorem sc__law_at : FnScope N__law_at ["_law_script", "_law_k"] (defScope s__law_at) := ⟨rfl, rfl, rfl, by decide +kernel, rfl, by decide +kernel, by decide +kernel⟩
abbrev s__law_row : Stmt := top 31
abbrev N__law_row : List Str := ["_law_base", "_law_k", "_law_letters", "_law_turned", "_law_size", "_law_tail", "_law_j", "_law_at_here"]
theorem sc__law_row : FnScope N__law_row ["_law_base", "_law_k"] (defScope s__law_row) := ⟨rfl, rfl, rfl, by decide +kernel, rfl, by decide +kernel, by decide +kernel⟩
abbrev s__law_is_row : Stmt := top 32
abbrev N__law_is_row : List Str := ["_law_thing", "_law_sign"]
theorem sc__law_is_row : FnScope N__law_is_row ["_law_thing"] (defScope s__law_is_row) := ⟨rfl, rfl, rfl, by decide +kernel, rfl, by decide +kernel, by decide +kernel⟩
abbrev s__law_is_among : Stmt := top 33
abbrev N__law_is_among : List Str := ["_law_thing", "_law_least", "_law_most"]
theorem sc__law_is_among : FnScope N__law_is_among ["_law_thing", "_law_least", "_law_most"] (defScope s__law_is_among) := ⟨rfl, rfl, rfl, by decide +kernel, rfl, by decide +kernel, by decide +kernel⟩
abbrev s__law_is_word : Stmt := top 34
abbrev N__law_is_word : List Str := ["_law_count", "_law_thing"]
theorem sc__law_is_word : FnScope N__law_is_word ["_law_count", "_law_thing"] (defScope s__law_is_word) := ⟨rfl, rfl, rfl, by decide +kernel, rfl, by decide +kernel, by decide +kernel⟩
abbrev s__law_kind : Stmt := top 35
abbrev N__law_kind : List Str := ["_law_error", "_law_words", "_law_found"]
theorem sc__law_kind : FnScope N__law_kind ["_law_error"] (defScope s__law_kind) := ⟨rfl, rfl, rfl, by decide +kernel, rfl, by decide +kernel, by decide +kernel⟩
abbrev s__law_enough : Stmt := top 36
abbrev N__law_enough : List Str := ["_law_count", "_law_wanted"]
theorem sc__law_enough : FnScope N__law_enough ["_law_count"] (defScope s__law_enough) := ⟨rfl, rfl, rfl, by decide +kernel, rfl, by decide +kernel, by decide +kernel⟩
abbrev s__law_houses : Stmt := top 37
abbrev N__law_houses : List Str := ["_law_cell", "_law_count", "_law_many", "_law_left", "_law_found"]
theorem sc__law_houses : FnScope N__law_houses ["_law_cell", "_law_count", "_law_many"] (defScope s__law_houses) := ⟨rfl, rfl, rfl, by decide +kernel, rfl, by decide +kernel, by decide +kernel⟩
abbrev s__law_spoilt : Stmt := top 38
abbrev N__law_spoilt : List Str := ["_law_words", "_law_cell", "_law_count", "_law_number", "_law_rows", "_law_at_here", "_law_house", "_law_odd", "_law_thing"]
theorem sc__law_spoilt : FnScope N__law_spoilt ["_law_words", "_law_cell", "_law_count", "_law_number", "_law_rows"] (defScope s__law_spoilt) := ⟨rfl, rfl, rfl, by decide +kernel, rfl, by decide +kernel, by decide +kernel⟩
abbrev s__law_due : Stmt := top 39
abbrev N__law_due : List Str := ["_law_count", "_law_number", "_law_row_here", "_law_words", "_law_word", "_law_houses_here"]
theorem sc__law_due : FnScope N__law_due ["_law_count", "_law_number", "_law_row_here", "_law_words"] (defScope s__law_due) := ⟨rfl, rfl, rfl, by decide +kernel, rfl, by decide +kernel, by decide +kernel⟩
abbrev s__law_truth : Stmt := top 40
abbrev N__law_truth : List Str := ["_law_found", "_law_due_here"]
theorem sc__law_truth : FnScope N__law_truth ["_law_found", "_law_due_here"] (defScope s__law_truth) := ⟨rfl, rfl, rfl, by decide +kernel, rfl, by decide +kernel, by decide +kernel⟩
abbrev s__law_refused : Stmt := top 41
abbrev N__law_refused : List Str := ["_law_count", "_law_error"]
theorem sc__law_refused : FnScope N__law_refused ["_law_count"] (defScope s__law_refused) := ⟨rfl, rfl, rfl, by decide +kernel, rfl, by decide +kernel, by decide +kernel⟩
abbrev s_law : Stmt := top 42
abbrev N_law : List Str := ["_law_script", "_law_k", "_law_cell", "_law_more", "_law_last", "_law_count", "_law_number", "_law_rows", "_law_many", "_law_words", "_law_house", "_law_handed", "_law_place", "_law_row_here"]
theorem sc_law : FnScope N_law ["_law_script"] (defScope s_law) := ⟨rfl, rfl, rfl, by decide +kernel, rfl, by decide +kernel, by decide +kernel⟩
structure Ad where
  (is_whole check_count is_house most_liars enough is_row caller is_word is_backing _law_at _law_row _law_is_row _law_is_among _law_is_word _law_kind _law_enough _law_houses _law_spoilt _law_due _law_truth _law_refused law : Addr)
  (d_is_whole d_check_count d_is_house d_most_liars d_enough d_is_row d_caller d_is_word d_is_backing d__law_at d__law_row d__law_is_row d__law_is_among d__law_is_word d__law_kind d__law_enough d__law_houses d__law_spoilt d__law_due d__law_truth d__law_refused d_law : FuncData)
  (HouseError BadCount BadHouse BadRow BadWord Forged NoLetter NotWritten NoText : Addr)
  (t_MOST_HOUSES t_SAY t_MARK t_LAST_NUMBER t_LONGEST_ROW t_LETTERS : Tok)
abbrev VEs : List Value := [.type "ValueError", .type "Exception", .type "BaseException", .type "object"]
structure Txt (K : PySem.W.Frag) (mg : Str → Option Value) (a : Ad) : Prop where
  F_is_whole : Fun K "is_whole" "is_whole" s_is_whole a.is_whole a.d_is_whole
  g_is_whole : mg "is_whole" = some (.ref a.is_whole)
  b_is_whole : Binds K a.d_is_whole ["thing", "least", "most"] []
  F_check_count : Fun K "check_count" "check_count" s_check_count a.check_count a.d_check_count
  g_check_count : mg "check_count" = some (.ref a.check_count)
  b_check_count : Binds K a.d_check_count ["count"] []
  F_is_house : Fun K "is_house" "is_house" s_is_house a.is_house a.d_is_house
  g_is_house : mg "is_house" = some (.ref a.is_house)
  b_is_house : Binds K a.d_is_house ["count", "thing"] []
  F_most_liars : Fun K "most_liars" "most_liars" s_most_liars a.most_liars a.d_most_liars
  g_most_liars : mg "most_liars" = some (.ref a.most_liars)
  b_most_liars : Binds K a.d_most_liars ["count"] []
  F_enough : Fun K "enough" "enough" s_enough a.enough a.d_enough
  g_enough : mg "enough" = some (.ref a.enough)
  b_enough : Binds K a.d_enough ["count"] []
  F_is_row : Fun K "is_row" "is_row" s_is_row a.is_row a.d_is_row
  g_is_row : mg "is_row" = some (.ref a.is_row)
  b_is_row : Binds K a.d_is_row ["thing"] []
  F_caller : Fun K "caller" "caller" s_caller a.caller a.d_caller
  g_caller : mg "caller" = some (.ref a.caller)
  b_caller : Binds K a.d_caller ["count", "number"] []
  F_is_word : Fun K "is_word" "is_word" s_is_word a.is_word a.d_is_word
  g_is_word : mg "is_word" = some (.ref a.is_word)
  b_is_word : Binds K a.d_is_word ["count", "thing"] []
  F_is_backing : Fun K "is_backing" "is_backing" s_is_backing a.is_backing a.d_is_backing
  g_is_backing : mg "is_backing" = some (.ref a.is_backing)
  b_is_backing : Binds K a.d_is_backing ["count", "number", "row", "words"] []
  F__law_at : Fun K "_law_at" "_law_at" s__law_at a._law_at a.d__law_at
  g__law_at : mg "_law_at" = some (.ref a._law_at)
  b__law_at : Binds K a.d__law_at ["_law_script", "_law_k"] []
  F__law_row : Fun K "_law_row" "_law_row" s__law_row a._law_row a.d__law_row
  g__law_row : mg "_law_row" = some (.ref a._law_row)
  b__law_row : Binds K a.d__law_row ["_law_base", "_law_k"] []
  F__law_is_row : Fun K "_law_is_row" "_law_is_row" s__law_is_row a._law_is_row a.d__law_is_row
  g__law_is_row : mg "_law_is_row" = some (.ref a._law_is_row)
  b__law_is_row : Binds K a.d__law_is_row ["_law_thing"] []
  F__law_is_among : Fun K "_law_is_among" "_law_is_among" s__law_is_among a._law_is_among a.d__law_is_among
  g__law_is_among : mg "_law_is_among" = some (.ref a._law_is_among)
  b__law_is_among : Binds K a.d__law_is_among ["_law_thing", "_law_least", "_law_most"] []
  F__law_is_word : Fun K "_law_is_word" "_law_is_word" s__law_is_word a._law_is_word a.d__law_is_word
  g__law_is_word : mg "_law_is_word" = some (.ref a._law_is_word)
  b__law_is_word : Binds K a.d__law_is_word ["_law_count", "_law_thing"] []
  F__law_kind : Fun K "_law_kind" "_law_kind" s__law_kind a._law_kind a.d__law_kind
  g__law_kind : mg "_law_kind" = some (.ref a._law_kind)
  b__law_kind : Binds K a.d__law_kind ["_law_error"] []
  F__law_enough : Fun K "_law_enough" "_law_enough" s__law_enough a._law_enough a.d__law_enough
  g__law_enough : mg "_law_enough" = some (.ref a._law_enough)
  b__law_enough : Binds K a.d__law_enough ["_law_count"] []
  F__law_houses : Fun K "_law_houses" "_law_houses" s__law_houses a._law_houses a.d__law_houses
  g__law_houses : mg "_law_houses" = some (.ref a._law_houses)
  b__law_houses : Binds K a.d__law_houses ["_law_cell", "_law_count", "_law_many"] []
  F__law_spoilt : Fun K "_law_spoilt" "_law_spoilt" s__law_spoilt a._law_spoilt a.d__law_spoilt
  g__law_spoilt : mg "_law_spoilt" = some (.ref a._law_spoilt)
  b__law_spoilt : Binds K a.d__law_spoilt ["_law_words", "_law_cell", "_law_count", "_law_number", "_law_rows"] []
  F__law_due : Fun K "_law_due" "_law_due" s__law_due a._law_due a.d__law_due
  g__law_due : mg "_law_due" = some (.ref a._law_due)
  b__law_due : Binds K a.d__law_due ["_law_count", "_law_number", "_law_row_here", "_law_words"] []
  F__law_truth : Fun K "_law_truth" "_law_truth" s__law_truth a._law_truth a.d__law_truth
  g__law_truth : mg "_law_truth" = some (.ref a._law_truth)
  b__law_truth : Binds K a.d__law_truth ["_law_found", "_law_due_here"] []
  F__law_refused : Fun K "_law_refused" "_law_refused" s__law_refused a._law_refused a.d__law_refused
  g__law_refused : mg "_law_refused" = some (.ref a._law_refused)
  b__law_refused : Binds K a.d__law_refused ["_law_count"] []
  F_law : Fun K "law" "law" s_law a.law a.d_law
  g_HouseError : mg "HouseError" = some (.ref a.HouseError)
  g_BadCount : mg "BadCount" = some (.ref a.BadCount)
  g_BadHouse : mg "BadHouse" = some (.ref a.BadHouse)
  g_BadRow : mg "BadRow" = some (.ref a.BadRow)
  g_BadWord : mg "BadWord" = some (.ref a.BadWord)
  g_Forged : mg "Forged" = some (.ref a.Forged)
  g_NoLetter : mg "NoLetter" = some (.ref a.NoLetter)
  g_NotWritten : mg "NotWritten" = some (.ref a.NotWritten)
  g_NoText : mg "NoText" = some (.ref a.NoText)
  x_BadCount : PySem.W.excIn K a.BadCount VEs "ValueError.__new__" = true
  k_BadCount : PySem.W.keepIn K (.ref a.BadCount) = true
  bx_BadCount : PySem.W.subIn K (.ref a.BadCount) (.type "BaseException") = some true
  t_BadCount : PySem.W.typeIn K (.ref a.BadCount) = some (.type "type")
  e_BadCount : PySem.W.exmOne K (.ref a.BadCount) (.ref a.HouseError) = some true
  c_BadCount : ExcC K a.BadCount
  i_BadCount : PySem.W.kitOne K (.ref a.BadCount) (.ref a.BadCount) = some true
  i_BadHouse : PySem.W.kitOne K (.ref a.BadCount) (.ref a.BadHouse) = some false
  i_BadRow : PySem.W.kitOne K (.ref a.BadCount) (.ref a.BadRow) = some false
  i_BadWord : PySem.W.kitOne K (.ref a.BadCount) (.ref a.BadWord) = some false
  i_Forged : PySem.W.kitOne K (.ref a.BadCount) (.ref a.Forged) = some false
  i_NoLetter : PySem.W.kitOne K (.ref a.BadCount) (.ref a.NoLetter) = some false
  i_NotWritten : PySem.W.kitOne K (.ref a.BadCount) (.ref a.NotWritten) = some false
  i_NoText : PySem.W.kitOne K (.ref a.BadCount) (.ref a.NoText) = some false
  i_ValueError : PySem.W.kitOne K (.ref a.BadCount) (.type "ValueError") = some true
  m_MOST_HOUSES : mg "MOST_HOUSES" = some (.int 12 a.t_MOST_HOUSES)
  m_SAY : mg "SAY" = some (.str "say" a.t_SAY)
  m_MARK : mg "MARK" = some (.str "mark" a.t_MARK)
  m_LAST_NUMBER : mg "LAST_NUMBER" = some (.int 9999 a.t_LAST_NUMBER)
  m_LONGEST_ROW : mg "LONGEST_ROW" = some (.int 8 a.t_LONGEST_ROW)
  m_LETTERS : mg "LETTERS" = some (.str "abcdefghijklmnopqrstuvwxyz" a.t_LETTERS)
  n_ValueError : mg "ValueError" = none
  n_all : mg "all" = none
  n_bool : mg "bool" = none
  n_int : mg "int" = none
  n_isinstance : mg "isinstance" = none
  n_len : mg "len" = none
  n_list : mg "list" = none
  n_min : mg "min" = none
  n_range : mg "range" = none
  n_set : mg "set" = none
  n_str : mg "str" = none
  n_tuple : mg "tuple" = none
  n_type : mg "type" = none

local macro_rules | `(tactic| walk_at "rd1") => `(tactic| first
  | with_reducible refine LH.x_seq ?_
  | with_reducible refine LH.x_asg ?_
  | with_reducible refine LH.x_cons ?_
  | with_reducible refine LH.x_var (by with_unfolding_all exact rfl) ?_
  | with_reducible refine LH.x_c ?_
  | with_reducible refine LH.x_op ?_
  | with_reducible refine LH.x_gname ?_
  | with_reducible refine LH.x_nil ?_
  | with_reducible refine LH.x_I0 ?_
  | ((with_reducible refine LH.x_I ?k1 ?_); (case k1 => first | exact (by decide) | exact ⟨by decide, by decide⟩ | exact ⟨by decide, by decide, by decide⟩ | exact .inl ⟨by decide, by decide⟩ | exact .inr ⟨by decide, by decide⟩ | exact .inr ⟨by omega, by omega⟩ | exact .inl ⟨by omega, by omega⟩ | exact (by omega)))
  | with_reducible refine LH.x_ifS ?_
  | with_reducible refine LH.x_test ?_
  | with_reducible refine LH.x_tB ?_
  | with_reducible refine LH.bx ?_
  | with_reducible refine LH.x_and ?_
  | with_reducible refine LH.x_or ?_
  | with_reducible refine LH.x_not ?_
  | with_reducible refine LH.x_ret ?_
  | with_reducible refine LH.x_call ?_
  | with_reducible refine LH.x_cb ?_
  | with_reducible refine LH.x_lst ?_
  | with_reducible refine LH.x_tup ?_
  | with_reducible refine LH.x_bm ?_
  | with_reducible refine LH.x_drop ?_
  | with_reducible refine LH.x_next ?_
  | with_reducible refine LH.x_cont ?_
  | with_reducible refine LH.x_un ?_
  | with_reducible refine LH.x_U ?_
  | with_reducible refine LH.x_eq (by with_unfolding_all exact rfl) ?_
  | with_reducible refine LH.x_ne (by with_unfolding_all exact rfl) ?_
  | with_reducible refine LH.x_andV ?_
  | with_reducible refine LH.x_orV ?_
  | with_reducible refine LH.x_notV ?_
  | with_reducible refine LH.band ?_
  | with_reducible refine LH.bor ?_
  | with_reducible refine LH.x_if ?_
  | with_reducible refine LH.x_chain ?_
  | with_reducible refine LH.chk ?_
  | with_reducible refine LH.x_callS ?_
  | with_reducible refine LH.x_callE ?_
  | with_reducible refine LH.x_callV ?_
  | with_reducible refine LH.x_lrg ?_
  | with_reducible refine LH.x_lcS ?_
  | with_reducible refine LH.x_lcR1 ?_
  | with_reducible refine LH.x_forR1 ?_
  | with_reducible refine LH.x_forR3 ?_
  | with_reducible refine LH.strv ?_
  | with_reducible refine LH.x_yes ?_
  | with_reducible refine LH.x_sl ?_
  | with_reducible refine LH.x_noPart ?_
  | with_reducible refine LH.x_part ?_
  | with_reducible refine LH.pav ?_
  | with_reducible refine LH.x_jnv ?_
  | with_reducible refine LH.x_join ?_
  | with_reducible refine LH.x_inS ?_
  | with_reducible refine LH.x_niS ?_
  | with_reducible refine LH.x_isB ?_
  | with_reducible refine LH.x_isnB ?_
  | with_reducible refine LH.x_gcons ?_
  | with_reducible refine LH.x_gnil ?_
  | with_reducible refine LH.x_intB ?_
  | with_reducible refine LH.x_orT ?_
  | with_reducible refine LH.x_isTy ?_
  | with_reducible refine LH.x_niTy ?_
  | with_reducible refine LH.x_split ?_
  | with_reducible refine LH.x_spv ?_
  | with_reducible refine LH.x_gsub ?_
  | with_reducible refine LH.x_fmt ?_
  | with_reducible refine LH.x_js0 ?_
  | with_reducible refine LH.x_js ?_
  | with_reducible refine LH.x_rg1 ?_
  | with_reducible refine LH.x_forL ?_
  | with_reducible refine LH.x_abs ?_
  | with_reducible refine LH.x_rg2 ?_
  | with_reducible refine LH.rg1v ?_
  | with_reducible refine LH.rg2v ?_
  | with_reducible refine LH.x_forR2 ?_
  | with_reducible refine LH.x_lenSetG ?_
  | with_reducible refine LH.x_lc ?_
  | with_reducible refine LH.br_nt ?_
  | with_reducible refine LH.br_nf ?_
  | with_reducible refine LH.br_t ?_
  | with_reducible refine LH.br_f ?_)
local macro_rules | `(tactic| walk_at "rd") => `(tactic| repeat (walk_at "rd1"))

section
variable {P : Program} {w : World} {K : PySem.W.Frag} {mg : Str → Option Value} {base : Heap} {a : Ad}
/-! ### counts -/
def isW : V → Int → Int → Bool
  | .int i, lo, hi => decide (lo ≤ i) && decide (i ≤ hi)
  | _, _, _ => false
theorem isW_int {x : V} {lo hi : Int} (h : isW x lo hi = true) : ∃ i, x = .int i ∧ lo ≤ i ∧ i ≤ hi := by
  cases x <;> simp [isW] at h
  exact ⟨_, rfl, h.1, h.2⟩
theorem isW_yes {i lo hi : Int} (h1 : lo ≤ i) (h2 : i ≤ hi) : isW (.int i) lo hi = true := by simp [isW, h1, h2]
def spWhole (K : PySem.W.Frag) : Sp := fun vs H Q _ => ∃ x T lo hi, vs = [x, .int lo, .int hi] ∧ TyB K H x T ∧ Q (.bl (isW x lo hi)) H
theorem ok_is_whole (T : Txt K mg a) : FnOk P w K mg base CX0 1 a.is_whole a.d_is_whole ["thing", "least", "most"] (spWhole K) := by
  refine T.F_is_whole.ok sc_is_whole (fun vs H Q E h => ?_) (fun cdv A outer s H vs Q E hr h => ?_)
  · obtain ⟨x, t, lo, hi, rfl, _⟩ := h
    rfl
  · obtain ⟨x, t, lo, hi, rfl, ht, k⟩ := h
    refine ⟨_, (pss_one (ps_ret (pe_and (pe_cmpR LH.op_isTy (pe_callTy (r := rTyp K) call_type1 rfl T.n_type (by decide +kernel) (pa_cons (pv 0) pa_nil)) (pe_bltn (v := .ty "int") rfl T.n_int (by decide +kernel) rfl) (nomark _)) (pe_one (pe_chain op_le op_le (pv 1) (pv 0) (pv 2)))))), ?_⟩
    walk_at "rd"
    refine LH.x_typ ht ?_
    walk_at "rd"
    cases ht with
    | int i =>
      refine LH.br_p rfl ?_
      walk_at "rd"
      by_cases c : lo ≤ i
      · refine LH.br_p c ?_
        walk_at "rd"
        simpa [isW, c] using k
      · refine LH.br_n c ?_
        simpa [isW, c] using k
    | _ => exact LH.br_n (by decide) k
def spCheck (K : PySem.W.Frag) (C : Addr) : Sp := fun vs H Q E => ∃ x T, vs = [x] ∧ TyB K H x T ∧ (isW x 1 12 = true → Q .non H) ∧ (isW x 1 12 = false → E (.ref C) none H)
theorem ok_check_count (T : Txt K mg a) : FnOk P w K mg base (L2N.CX P w) 2 a.check_count a.d_check_count ["count"] (spCheck K a.BadCount) := by
  have G_is_whole := ok_is_whole (P := P) (w := w) (base := base) T
  refine LH.okN T.F_check_count sc_check_count (fun vs H Q E h => ?_) (fun cdv A outer s H vs Q E hr h => ?_)
  · obtain ⟨x, t, rfl, _⟩ := h
    rfl
  · obtain ⟨x, t, rfl, ht, k1, k2⟩ := h
    have HR_is_whole : Room 1 _ := hr.mono (by decide)
    refine ⟨_, (pss_one (ps_if (pt_not (pt_val (pe_call G_is_whole HR_is_whole rfl T.g_is_whole T.F_is_whole.kp T.b_is_whole .nil pass0 (pa_cons (pv 0) (pa_cons pe_int (pa_cons (pe_glob (v := .int 12) rfl T.m_MOST_HOUSES ⟨_, rfl⟩) pa_nil))))))
    (pss_one (L2N.ps_raise rfl (LH.tkN (E := E)) (LH.pmkN PySem.F.excBase_ValueError T.x_BadCount T.g_BadCount T.k_BadCount (raises_own T.bx_BadCount T.t_BadCount) rfl (pa_cons (pe_joined (.cons pe_str (.cons (pe_fmt (pe_glob (v := .int 12) rfl T.m_MOST_HOUSES ⟨_, rfl⟩)) .nil))) pa_nil))))
    pss_nil)), ?_⟩
    walk_at "rd"
    refine ⟨x, t, 1, 12, rfl, ht, ?_⟩
    walk_at "rd"
    cases e : isW x 1 12 with
    | true =>
      refine LH.br_nt ?_
      walk_at "rd"
      exact k1 e
    | false =>
      refine LH.br_nf ?_
      refine ⟨_, rfl, by decide +kernel, Or.inr ⟨12, rfl, by decide, _, rfl, by decide +kernel, ?_⟩⟩
      exact ⟨by show 1 ≤ sizeLine; decide, k2 e⟩
/-! ### rows -/
def letters : Str := "abcdefghijklmnopqrstuvwxyz"
def isLet (c : Nat) : Bool := decide (c ∈ letters.cps.toList)
def isRowS (z : Str) : Bool := decide (1 ≤ z.length) && (decide (z.length ≤ 8) && z.cps.toList.all isLet)
def isRow : V → Bool
  | .str z => isRowS z
  | _ => false
/-- no text beyond a hundred thousand signs -/
def Ok (z : Str) : Prop := z.length ≤ 100000 ∧ z.cps.all (· < 0x110000) = true
def Sm (x : V) : Prop := ∀ z, x = .str z → Ok z
def spRow (K : PySem.W.Frag) : Sp := fun vs H Q _ => ∃ x T, vs = [x] ∧ TyB K H x T ∧ Sm x ∧ ∀ H', Same H H' → Q (.bl (isRow x)) H'
def signV : V → Bool
  | .str z => match z.cps.toList with
    | [c] => isLet c
    | _ => false
  | _ => false
theorem signs_let (z : Str) : ((LH.signs z).filter fun _ => true).map (fun x => V.bl (signV x)) = (z.cps.toList.map isLet).map V.bl := by
  rw [List.filter_eq_self.mpr (fun _ _ => rfl)]
  unfold LH.signs
  rw [List.map_map, List.map_map]
  rfl
theorem all_id (l : List Nat) : (l.map isLet).all id = l.all isLet := by
  rw [List.all_map]
  rfl
theorem ok_is_row (T : Txt K mg a) : FnOk P w K mg base CX0 1 a.is_row a.d_is_row ["thing"] (spRow K) := by
  refine T.F_is_row.ok sc_is_row (fun vs H Q E h => ?_) (fun cdv A outer s H vs Q E hr h => ?_)
  · obtain ⟨x, t, rfl, _⟩ := h
    rfl
  · obtain ⟨x, t, rfl, ht, sm, k⟩ := h
    refine ⟨_, (pss_cons (ps_if (pt_cmpR op_notTyB (pe_callTy (r := rTyp K) call_type1 rfl T.n_type (by decide +kernel) (pa_cons (pv 0) pa_nil)) (pe_bltn (v := .ty "str") rfl T.n_str (by decide +kernel) rfl) (nomark _))
    (pss_one (ps_ret pe_bl))
    pss_nil)
  (pss_cons (ps_if (PW.pt (pw_or (pt_cmpR op_lt (pe_callB LH.call_lenS rfl T.n_len (by decide +kernel) (pa_cons (pv 0) pa_nil)) pe_int (nomark _)) (pw_or1 (pt_cmpR op_gt (pe_callB LH.call_lenS rfl T.n_len (by decide +kernel) (pa_cons (pv 0) pa_nil)) (pe_glob (v := .int 8) rfl T.m_LONGEST_ROW ⟨_, rfl⟩) (nomark _)))))
    (pss_one (ps_ret pe_bl))
    pss_nil)
  (pss_one (ps_ret (pe_callB (r := rAll K) (cr_all rfl) rfl T.n_all (by decide +kernel) (pa_cons (pe_lc (own := [("letter", 1)]) (g := gName 1) (tt := tYes) rfl sc_is_row.nd (pi_str (pv 0)) (blkOk_by (N := N_is_row) (sc := defScope s_is_row) (by decide +kernel)) (fun _ _ _ _ _ => pg_name (i := 1) sc_is_row.nd rfl (Or.inl rfl)) (fun _ _ _ _ _ => pts_nil) (fun _ _ _ _ _ => (pe_cmpR (r := LH.rInS false) LH.op_inS (pv 1) (pe_glob (v := .str "abcdefghijklmnopqrstuvwxyz") rfl T.m_LETTERS ⟨_, rfl⟩) (by rfl)))) pa_nil)))))), ?_⟩
    walk_at "rd"
    refine LH.x_typ ht ?_
    walk_at "rd"
    cases ht with
    | str z =>
      have hz := (sm z rfl).1
      refine LH.br_nd (fun c => absurd rfl c) (fun _ => ?_)
      walk_at "rd"
      refine LH.x_lenS hz ?_
      walk_at "rd"
      refine LH.br_d (fun c => ?_) (fun c1 => ?_)
      · walk_at "rd"
        have e : isRow (.str z) = false := by
          have : ¬ 1 ≤ z.length := by omega
          simp [isRow, isRowS, this]
        rw [e] at k
        exact k _ (Same.refl _)
      · walk_at "rd"
        refine LH.x_lenS hz ?_
        walk_at "rd"
        refine LH.br_d (fun c => ?_) (fun c2 => ?_)
        · walk_at "rd"
          have e : isRow (.str z) = false := by
            have : ¬ z.length ≤ 8 := by omega
            simp [isRow, isRowS, this]
          rw [e] at k
          exact k _ (Same.refl _)
        · walk_at "rd"
          refine LH.lc_S (by exact hz) (fun _ => true) (fun x => V.bl (signV x)) (fun _ => rfl) ?_ ?_ fun p1 H1 f1 e1 g1 => ?_
          · intro x hx H3 e3 Q3 q3
            walk_at "rd"
            exact q3 _ (Same.refl _)
          · intro x hx _ H3 e3 Q3 q3
            obtain ⟨c, _, rfl⟩ := List.mem_map.mp hx
            walk_at "rd"
            exact q3 _ (Same.refl _)
          walk_at "rd"
          rw [signs_let] at g1
          refine LH.x_all (SqL.of g1) ?_
          walk_at "rd"
          have e : isRow (.str z) = (z.cps.toList.map isLet).all id := by
            have h1 : 1 ≤ z.length := by omega
            have h2 : z.length ≤ 8 := by omega
            rw [all_id]
            simp [isRow, isRowS, h1, h2]
          rw [e] at k
          exact k _ e1
    | _ =>
      refine LH.br_nd (fun _ => ?_) (fun c => absurd c (by decide))
      walk_at "rd"
      exact k _ (Same.refl _)
end
end K4
namespace K4
open PySem L2
local macro_rules | `(tactic| walk_at "rd1") => `(tactic| first
  | with_reducible refine LH.x_seq ?_
  | with_reducible refine LH.x_asg ?_
  | with_reducible refine LH.x_cons ?_
  | with_reducible refine LH.x_var (by with_unfolding_all exact rfl) ?_
  | with_reducible refine LH.x_c ?_
  | with_reducible refine LH.x_op ?_
  | with_reducible refine LH.x_gname ?_
  | with_reducible refine LH.x_nil ?_
  | with_reducible refine LH.x_I0 ?_
  | ((with_reducible refine LH.x_I ?k1 ?_); (case k1 => first | exact (by decide) | exact ⟨by decide, by decide⟩ | exact ⟨by decide, by decide, by decide⟩ | exact .inl ⟨by decide, by decide⟩ | exact .inr ⟨by decide, by decide⟩ | exact .inr ⟨by omega, by omega⟩ | exact .inl ⟨by omega, by omega⟩ | exact (by omega)))
  | with_reducible refine LH.x_ifS ?_
  | with_reducible refine LH.x_test ?_
  | with_reducible refine LH.x_tB ?_
  | with_reducible refine LH.bx ?_
  | with_reducible refine LH.x_and ?_
  | with_reducible refine LH.x_or ?_
  | with_reducible refine LH.x_not ?_
  | with_reducible refine LH.x_ret ?_
  | with_reducible refine LH.x_call ?_
  | with_reducible refine LH.x_cb ?_
  | with_reducible refine LH.x_lst ?_
  | with_reducible refine LH.x_tup ?_
  | with_reducible refine LH.x_bm ?_
  | with_reducible refine LH.x_drop ?_
  | with_reducible refine LH.x_next ?_
  | with_reducible refine LH.x_cont ?_
  | with_reducible refine LH.x_un ?_
  | with_reducible refine LH.x_U ?_
  | with_reducible refine LH.x_eq (by with_unfolding_all exact rfl) ?_
  | with_reducible refine LH.x_ne (by with_unfolding_all exact rfl) ?_
  | with_reducible refine LH.x_andV ?_
  | with_reducible refine LH.x_orV ?_
  | with_reducible refine LH.x_notV ?_
  | with_reducible refine LH.band ?_
  | with_reducible refine LH.bor ?_
  | with_reducible refine LH.x_if ?_
  | with_reducible refine LH.x_chain ?_
  | with_reducible refine LH.chk ?_
  | with_reducible refine LH.x_callS ?_
  | with_reducible refine LH.x_callE ?_
  | with_reducible refine LH.x_callV ?_
  | with_reducible refine LH.x_lrg ?_
  | with_reducible refine LH.x_lcS ?_
  | with_reducible refine LH.x_lcR1 ?_
  | with_reducible refine LH.x_forR1 ?_
  | with_reducible refine LH.x_forR3 ?_
  | with_reducible refine LH.strv ?_
  | with_reducible refine LH.x_yes ?_
  | with_reducible refine LH.x_sl ?_
  | with_reducible refine LH.x_noPart ?_
  | with_reducible refine LH.x_part ?_
  | with_reducible refine LH.pav ?_
  | with_reducible refine LH.x_jnv ?_
  | with_reducible refine LH.x_join ?_
  | with_reducible refine LH.x_inS ?_
  | with_reducible refine LH.x_niS ?_
  | with_reducible refine LH.x_isB ?_
  | with_reducible refine LH.x_isnB ?_
  | with_reducible refine LH.x_gcons ?_
  | with_reducible refine LH.x_gnil ?_
  | with_reducible refine LH.x_intB ?_
  | with_reducible refine LH.x_orT ?_
  | with_reducible refine LH.x_isTy ?_
  | with_reducible refine LH.x_niTy ?_
  | with_reducible refine LH.x_split ?_
  | with_reducible refine LH.x_spv ?_
  | with_reducible refine LH.x_gsub ?_
  | with_reducible refine LH.x_fmt ?_
  | with_reducible refine LH.x_js0 ?_
  | with_reducible refine LH.x_js ?_
  | with_reducible refine LH.x_rg1 ?_
  | with_reducible refine LH.x_forL ?_
  | with_reducible refine LH.x_abs ?_
  | with_reducible refine LH.x_rg2 ?_
  | with_reducible refine LH.rg1v ?_
  | with_reducible refine LH.rg2v ?_
  | with_reducible refine LH.x_forR2 ?_
  | with_reducible refine LH.x_lenSetG ?_
  | with_reducible refine LH.x_lc ?_
  | with_reducible refine LH.br_nt ?_
  | with_reducible refine LH.br_nf ?_
  | with_reducible refine LH.br_t ?_
  | with_reducible refine LH.br_f ?_)
local macro_rules | `(tactic| walk_at "rd") => `(tactic| repeat (walk_at "rd1"))

section
variable {P : Program} {w : World} {K : PySem.W.Frag} {mg : Str → Option Value} {base : Heap} {a : Ad}
/-! ### words -/
def spCaller : Sp := fun vs H Q _ => ∃ c n : Int, vs = [.int c, .int n] ∧ 1 ≤ c ∧ Q (.int (n % c)) H
theorem fmod_pos {n c : Int} (h : 1 ≤ c) : n.fmod c = n % c := Int.fmod_eq_emod_of_nonneg _ (by omega)
theorem ok_caller (T : Txt K mg a) : FnOk P w K mg base CX0 1 a.caller a.d_caller ["count", "number"] spCaller := by
  refine T.F_caller.ok sc_caller (fun vs H Q E h => ?_) (fun cdv A outer s H vs Q E hr h => ?_)
  · obtain ⟨c, n, rfl, _⟩ := h
    rfl
  · obtain ⟨c, n, rfl, hc, k⟩ := h
    refine ⟨_, (pss_one (ps_ret (pe_op op_modN (pv 1) (pv 0)))), ?_⟩
    walk_at "rd"
    rw [fmod_pos hc]
    exact k
def isKind (c : Int) : V → Int → Int → Bool
  | .str z, n, h => if z = "say" then decide (h = n % c) else decide (z = "mark")
  | _, _, _ => false
/-- is a tuple of these things a word of a town of c houses -/
def isWordL (c : Int) : List V → Bool
  | [k, .int n, r, .int h] => isW (.int n) 0 9999 && (isW (.int h) 0 (c - 1) && (isRow r && isKind c k n h))
  | _ => false
/-- what may be handed in as a word: w tells whether it is one -/
def Wd (K : PySem.W.Frag) (H : Hp) (c : Int) (x : V) (w : Bool) : Prop :=
  (∃ p xs, x = .ref p ∧ SqT K H p xs ∧ xs.length ≤ 100000 ∧ (∀ y ∈ xs, Sm y ∧ ∃ T, TyB K H y T) ∧ w = isWordL c xs) ∨ (∃ T, TyB K H x T ∧ T ≠ "tuple" ∧ w = false)
def spIsWord (K : PySem.W.Frag) (C : Addr) : Sp := fun vs H Q E => ∃ n Tn x, vs = [n, x] ∧ TyB K H n Tn ∧ (isW n 1 12 = false → E (.ref C) none H) ∧
  ∀ c, n = .int c → 1 ≤ c → c ≤ 12 → ∃ b, Wd K H c x b ∧ ∀ H', Same H H' → Q (.bl b) H'
theorem four {xs : List V} (h : (xs.length : Int) = 4) : ∃ k n r o, xs = [k, n, r, o] := by
  match xs, h with
  | [k, n, r, o], _ => exact ⟨k, n, r, o, rfl⟩
  | [], h => simp at h
  | [_], h => simp at h
  | [_, _], h => simp at h
  | [_, _, _], h => simp at h
  | _ :: _ :: _ :: _ :: _ :: l, h => simp at h; omega
theorem not_four {c : Int} {xs : List V} (h : ¬ (xs.length : Int) = 4) : isWordL c xs = false := by
  unfold isWordL
  split
  · exact absurd rfl h
  · rfl
theorem word_num {c : Int} {k n r o : V} (h : isW n 0 9999 = false) : isWordL c [k, n, r, o] = false := by
  unfold isWordL
  split
  · rename_i e
    injection e with _ e
    injection e with e1 e
    injection e with _ e
    injection e with e2 _
    subst e1 e2
    rw [h]
    rfl
  · rfl
theorem word_house {c : Int} {k n r o : V} (h : isW o 0 (c - 1) = false) : isWordL c [k, n, r, o] = false := by
  unfold isWordL
  split
  · rename_i e
    injection e with _ e
    injection e with e1 e
    injection e with _ e
    injection e with e2 _
    subst e1 e2
    rw [h, Bool.false_and, Bool.and_false]
  · rfl
def spHouse (K : PySem.W.Frag) : Sp := fun vs H Q _ => ∃ (c : Int) (x : V) (T : String), vs = [.int c, x] ∧ TyB K H x T ∧ Q (.bl (isW x 0 (c - 1))) H
theorem ok_is_house (T : Txt K mg a) : FnOk P w K mg base CX0 2 a.is_house a.d_is_house ["count", "thing"] (spHouse K) := by
  have G_is_whole := ok_is_whole (P := P) (w := w) (base := base) T
  refine T.F_is_house.ok sc_is_house (fun vs H Q E h => ?_) (fun cdv A outer s H vs Q E hr h => ?_)
  · obtain ⟨c, x, t, rfl, _⟩ := h
    rfl
  · obtain ⟨c, x, t, rfl, ht, k⟩ := h
    have HR_is_whole : Room 1 _ := hr.mono (by decide)
    refine ⟨_, (pss_one (ps_ret (pe_call G_is_whole HR_is_whole rfl T.g_is_whole T.F_is_whole.kp T.b_is_whole .nil pass0 (pa_cons (pv 1) (pa_cons pe_int (pa_cons (pe_op op_sub (pv 0) pe_int) pa_nil)))))), ?_⟩
    walk_at "rd"
    refine ⟨x, t, _, _, rfl, ht, ?_⟩
    exact k
theorem ok_is_word (T : Txt K mg a) : FnOk P w K mg base (L2N.CX P w) 3 a.is_word a.d_is_word ["count", "thing"] (spIsWord K a.BadCount) := by
  have G_is_whole := ok_is_whole (P := P) (w := w) (base := base) T
  have G_check_count := ok_check_count (P := P) (w := w) (base := base) T
  have G_is_house := ok_is_house (P := P) (w := w) (base := base) T
  have G_is_row := ok_is_row (P := P) (w := w) (base := base) T
  have G_caller := ok_caller (P := P) (w := w) (base := base) T
  refine LH.okN T.F_is_word sc_is_word (fun vs H Q E h => ?_) (fun cdv A outer s H vs Q E hr h => ?_)
  · obtain ⟨x, t, y, rfl, _⟩ := h
    rfl
  · obtain ⟨n, Tn, x, rfl, hn, kE, k⟩ := h
    have HR_is_whole : Room 1 _ := hr.mono (by decide)
    have HR_check_count : Room 2 _ := hr.mono (by decide)
    have HR_is_house : Room 2 _ := hr.mono (by decide)
    have HR_is_row : Room 1 _ := hr.mono (by decide)
    have HR_caller : Room 1 _ := hr.mono (by decide)
    refine ⟨_, (pss_cons (ps_expr (pe_call (E := E) G_check_count HR_check_count rfl T.g_check_count T.F_check_count.kp T.b_check_count .nil (L2N.passes_call (LH.tkN (E := E)) fun _ _ _ _ z => z) (pa_cons (pv 0) pa_nil)))
  (pss_cons (ps_if (PW.pt (pw_or (pt_cmpR op_notTyB (pe_callTy (r := rTyp K) call_type1 rfl T.n_type (by decide +kernel) (pa_cons (pv 1) pa_nil)) (pe_bltn (v := .ty "tuple") rfl T.n_tuple (by decide +kernel) rfl) (nomark _)) (pw_or1 (pt_cmpR op_ne (pe_callB (r := LH.rLen K) LH.call_len rfl T.n_len (by decide +kernel) (pa_cons (pv 1) pa_nil)) pe_int (nomark _)))))
    (pss_one (ps_ret pe_bl))
    pss_nil)
  (pss_cons (ps_asg (pv 1) (pg_tup rfl (pgs_cons (pg_name (i := 2) sc_is_word.nd rfl (Or.inl rfl)) (pgs_cons (pg_name (i := 3) sc_is_word.nd rfl (Or.inl rfl)) (pgs_cons (pg_name (i := 4) sc_is_word.nd rfl (Or.inl rfl)) (pgs_cons (pg_name (i := 5) sc_is_word.nd rfl (Or.inl rfl)) pgs_nil))))))
  (pss_cons (ps_if (PW.pt (pw_or (pt_not (pt_val (pe_call G_is_whole HR_is_whole rfl T.g_is_whole T.F_is_whole.kp T.b_is_whole .nil pass0 (pa_cons (pv 3) (pa_cons pe_int (pa_cons (pe_glob (v := .int 9999) rfl T.m_LAST_NUMBER ⟨_, rfl⟩) pa_nil)))))) (pw_or1 (pt_not (pt_val (pe_call G_is_house HR_is_house rfl T.g_is_house T.F_is_house.kp T.b_is_house .nil pass0 (pa_cons (pv 0) (pa_cons (pv 5) pa_nil))))))))
    (pss_one (ps_ret pe_bl))
    pss_nil)
  (pss_cons (ps_if (pt_not (pt_val (pe_call G_is_row HR_is_row rfl T.g_is_row T.F_is_row.kp T.b_is_row .nil pass0 (pa_cons (pv 4) pa_nil))))
    (pss_one (ps_ret pe_bl))
    pss_nil)
  (pss_cons (ps_if (pt_cmpR op_notTyB (pe_callTy (r := rTyp K) call_type1 rfl T.n_type (by decide +kernel) (pa_cons (pv 2) pa_nil)) (pe_bltn (v := .ty "str") rfl T.n_str (by decide +kernel) rfl) (nomark _))
    (pss_one (ps_ret pe_bl))
    pss_nil)
  (pss_cons (ps_if (pt_cmpR op_eq (pv 2) (pe_glob (v := .str "say") rfl T.m_SAY ⟨_, rfl⟩) (nomark _))
    (pss_one (ps_ret (pe_cmpR op_eq (pv 5) (pe_call G_caller HR_caller rfl T.g_caller T.F_caller.kp T.b_caller .nil pass0 (pa_cons (pv 0) (pa_cons (pv 3) pa_nil))) (nomark _))))
    pss_nil)
  (pss_one (ps_ret (pe_cmpR op_eq (pv 2) (pe_glob (v := .str "mark") rfl T.m_MARK ⟨_, rfl⟩) (nomark _))))))))))), ?_⟩
    walk_at "rd"
    refine ⟨n, Tn, rfl, hn, fun hc => ?_, kE⟩
    obtain ⟨c, rfl, c1, c2⟩ := isW_int hc
    obtain ⟨b, hw, k⟩ := k c rfl c1 c2
    walk_at "rd"
    rcases hw with ⟨p, xs, rfl, hp, hl, hy, rfl⟩ | ⟨t, ht, hne, rfl⟩
    · refine LH.x_typ (.tup hp) ?_
      walk_at "rd"
      refine LH.br_nd (fun c => absurd rfl c) (fun _ => ?_)
      walk_at "rd"
      refine LH.x_lenT hp ?_
      walk_at "rd"
      refine LH.br_nd (fun c4 => ?_) (fun c4 => ?_)
      · walk_at "rd"
        rw [not_four (c := c) (by intro e; exact c4 (congrArg V.int e))] at k
        exact k _ (Same.refl _)
      · obtain ⟨kd, nu, ro, ho, rfl⟩ := four (by injection c4)
        walk_at "rd"
        refine LH.x_gtup hp rfl ?_
        walk_at "rd"
        obtain ⟨_, tk, htk⟩ := hy kd (by simp)
        obtain ⟨_, tn, htn⟩ := hy nu (by simp)
        obtain ⟨sr, tr, htr⟩ := hy ro (by simp)
        obtain ⟨_, th, hth⟩ := hy ho (by simp)
        refine ⟨_, tn, _, _, rfl, htn, ?_⟩
        walk_at "rd"
        cases e1 : isW nu 0 9999 with
        | false =>
          walk_at "rd"
          rw [word_num e1] at k
          exact k _ (Same.refl _)
        | true =>
          obtain ⟨m, rfl, _⟩ := isW_int e1
          walk_at "rd"
          refine ⟨_, _, th, rfl, hth, ?_⟩
          walk_at "rd"
          cases e2 : isW ho 0 (c - 1) with
          | false =>
            walk_at "rd"
            rw [word_house e2] at k
            exact k _ (Same.refl _)
          | true =>
            obtain ⟨o, rfl, _⟩ := isW_int e2
            walk_at "rd"
            refine ⟨_, tr, rfl, htr, sr, fun H1 f1 => ?_⟩
            walk_at "rd"
            cases e3 : isRow ro with
            | false =>
              walk_at "rd"
              have e : isWordL c [kd, .int m, ro, .int o] = false := by
                show (isW (.int m) 0 9999 && (isW (.int o) 0 (c - 1) && (isRow ro && isKind c kd m o))) = false
                rw [e3, Bool.false_and, Bool.and_false, Bool.and_false]
              rw [e] at k
              exact k _ f1
            | true =>
              walk_at "rd"
              have hk : isWordL c [kd, .int m, ro, .int o] = isKind c kd m o := by
                show (isW (.int m) 0 9999 && (isW (.int o) 0 (c - 1) && (isRow ro && isKind c kd m o))) = isKind c kd m o
                rw [e1, e2, e3, Bool.true_and, Bool.true_and, Bool.true_and]
              rw [hk] at k
              have htk' := LH.Same.ty f1 htk
              refine LH.x_typ htk' ?_
              walk_at "rd"
              cases htk' with
              | str z =>
                refine LH.br_nd (fun c => absurd rfl c) (fun _ => ?_)
                walk_at "rd"
                by_cases hz : z = "say"
                · refine LH.br_p (congrArg V.str hz) ?_
                  walk_at "rd"
                  refine ⟨c, m, rfl, c1, ?_⟩
                  walk_at "rd"
                  have e : isKind c (.str z) m o = decide (V.int o = V.int (m % c)) := by
                    show (if z = "say" then decide (o = m % c) else decide (z = "mark")) = _
                    rw [if_pos hz]
                    simp
                  rw [e] at k
                  exact k _ f1
                · refine LH.br_n (fun q => hz (by injection q)) ?_
                  walk_at "rd"
                  have e : isKind c (.str z) m o = decide (V.str z = V.str "mark") := by
                    show (if z = "say" then decide (o = m % c) else decide (z = "mark")) = _
                    rw [if_neg hz]
                    simp
                  rw [e] at k
                  exact k _ f1
              | _ =>
                refine LH.br_nd (fun _ => ?_) (fun c => absurd c (by decide))
                walk_at "rd"
                exact k _ f1
    · refine LH.x_typ ht ?_
      walk_at "rd"
      refine LH.br_nd (fun _ => ?_) (fun c => absurd c hne)
      walk_at "rd"
      exact k _ (Same.refl _)
end
end K4
namespace K4
open PySem L2
local macro_rules | `(tactic| walk_at "rd1") => `(tactic| first
  | with_reducible refine LH.x_seq ?_
  | with_reducible refine LH.x_asg ?_
  | with_reducible refine LH.x_cons ?_
  | with_reducible refine LH.x_var (by with_unfolding_all exact rfl) ?_
  | with_reducible refine LH.x_c ?_
  | with_reducible refine LH.x_op ?_
  | with_reducible refine LH.x_gname ?_
  | with_reducible refine LH.x_nil ?_
  | with_reducible refine LH.x_I0 ?_
  | ((with_reducible refine LH.x_I ?k1 ?_); (case k1 => first | exact (by decide) | exact ⟨by decide, by decide⟩ | exact ⟨by decide, by decide, by decide⟩ | exact .inl ⟨by decide, by decide⟩ | exact .inr ⟨by decide, by decide⟩ | exact .inr ⟨by omega, by omega⟩ | exact .inl ⟨by omega, by omega⟩ | exact (by omega)))
  | with_reducible refine LH.x_ifS ?_
  | with_reducible refine LH.x_test ?_
  | with_reducible refine LH.x_tB ?_
  | with_reducible refine LH.bx ?_
  | with_reducible refine LH.x_and ?_
  | with_reducible refine LH.x_or ?_
  | with_reducible refine LH.x_not ?_
  | with_reducible refine LH.x_ret ?_
  | with_reducible refine LH.x_call ?_
  | with_reducible refine LH.x_cb ?_
  | with_reducible refine LH.x_lst ?_
  | with_reducible refine LH.x_tup ?_
  | with_reducible refine LH.x_bm ?_
  | with_reducible refine LH.x_drop ?_
  | with_reducible refine LH.x_next ?_
  | with_reducible refine LH.x_cont ?_
  | with_reducible refine LH.x_un ?_
  | with_reducible refine LH.x_U ?_
  | with_reducible refine LH.x_eq (by with_unfolding_all exact rfl) ?_
  | with_reducible refine LH.x_ne (by with_unfolding_all exact rfl) ?_
  | with_reducible refine LH.x_andV ?_
  | with_reducible refine LH.x_orV ?_
  | with_reducible refine LH.x_notV ?_
  | with_reducible refine LH.band ?_
  | with_reducible refine LH.bor ?_
  | with_reducible refine LH.x_if ?_
  | with_reducible refine LH.x_chain ?_
  | with_reducible refine LH.chk ?_
  | with_reducible refine LH.x_callS ?_
  | with_reducible refine LH.x_callE ?_
  | with_reducible refine LH.x_callV ?_
  | with_reducible refine LH.x_lrg ?_
  | with_reducible refine LH.x_lcS ?_
  | with_reducible refine LH.x_lcR1 ?_
  | with_reducible refine LH.x_forR1 ?_
  | with_reducible refine LH.x_forR3 ?_
  | with_reducible refine LH.strv ?_
  | with_reducible refine LH.x_yes ?_
  | with_reducible refine LH.x_sl ?_
  | with_reducible refine LH.x_noPart ?_
  | with_reducible refine LH.x_part ?_
  | with_reducible refine LH.pav ?_
  | with_reducible refine LH.x_jnv ?_
  | with_reducible refine LH.x_join ?_
  | with_reducible refine LH.x_inS ?_
  | with_reducible refine LH.x_niS ?_
  | with_reducible refine LH.x_isB ?_
  | with_reducible refine LH.x_isnB ?_
  | with_reducible refine LH.x_gcons ?_
  | with_reducible refine LH.x_gnil ?_
  | with_reducible refine LH.x_intB ?_
  | with_reducible refine LH.x_orT ?_
  | with_reducible refine LH.x_isTy ?_
  | with_reducible refine LH.x_niTy ?_
  | with_reducible refine LH.x_split ?_
  | with_reducible refine LH.x_spv ?_
  | with_reducible refine LH.x_gsub ?_
  | with_reducible refine LH.x_fmt ?_
  | with_reducible refine LH.x_js0 ?_
  | with_reducible refine LH.x_js ?_
  | with_reducible refine LH.x_rg1 ?_
  | with_reducible refine LH.x_forL ?_
  | with_reducible refine LH.x_abs ?_
  | with_reducible refine LH.x_rg2 ?_
  | with_reducible refine LH.rg1v ?_
  | with_reducible refine LH.rg2v ?_
  | with_reducible refine LH.x_forR2 ?_
  | with_reducible refine LH.x_lenSetG ?_
  | with_reducible refine LH.x_lc ?_
  | with_reducible refine LH.br_nt ?_
  | with_reducible refine LH.br_nf ?_
  | with_reducible refine LH.br_t ?_
  | with_reducible refine LH.br_f ?_)
local macro_rules | `(tactic| walk_at "rd") => `(tactic| repeat (walk_at "rd1"))

section
variable {P : Program} {w : World} {K : PySem.W.Frag} {mg : Str → Option Value} {base : Heap} {a : Ad}
abbrev wd (k : Str) (n : Int) (r : Str) (h : Int) : List V := [.str k, .int n, .str r, .int h]
theorem dstr {x y : Str} : decide (V.str x = V.str y) = decide (x = y) := by simp
theorem dint {x y : Int} : decide (V.int x = V.int y) = decide (x = y) := by simp
/-! ### the law's helpers -/
def spAt (K : PySem.W.Frag) : Sp := fun vs H Q _ => ∃ (p : Addr) (ns : List Int) (k : Int), vs = [.ref p, .int k] ∧ SqL K H p (ns.map V.int) ∧ 0 ≤ k ∧ ∀ z, Q (.int z) H
theorem ok__law_at (T : Txt K mg a) : FnOk P w K mg base CX0 1 a._law_at a.d__law_at ["_law_script", "_law_k"] (spAt K) := by
  refine T.F__law_at.ok sc__law_at (fun vs H Q E h => ?_) (fun cdv A outer s H vs Q E hr h => ?_)
  · obtain ⟨p, ns, k, rfl, _⟩ := h
    rfl
  · obtain ⟨p, ns, i, rfl, hp, h0, k⟩ := h
    refine ⟨_, (pss_cons (ps_if (pt_cmpR op_lt (pv 1) (pe_callB (r := LH.rLen K) LH.call_len rfl T.n_len (by decide +kernel) (pa_cons (pv 0) pa_nil)) (nomark _))
    (pss_one (ps_ret (pe_ix (r := rIxL K) ix_list (pv 0) (pv 1) (fun _ _ => rfl))))
    pss_nil)
  (pss_one (ps_ret pe_int))), ?_⟩
    walk_at "rd"
    refine LH.x_lenL hp ?_
    walk_at "rd"
    refine LH.br_d (fun c => ?_) (fun c => ?_)
    · walk_at "rd"
      obtain ⟨j, rfl⟩ : ∃ j : Nat, i = (j : Int) := ⟨i.toNat, by omega⟩
      have hj : j < (ns.map V.int).length := by omega
      refine LH.x_ixL hp (atI_nat (List.getElem?_eq_getElem hj)) ?_
      walk_at "rd"
      rw [List.getElem_map]
      exact k _
    · walk_at "rd"
      exact k _
def signsF : Str := " !\"#$&'()*+,-./0123456789:;<=>?@ABCDEFGHIJKLMNOPQRSTUVWXYZ[\\]^_`{|}~\n\t"
theorem at_mod {α : Type} {l : List α} {n : Nat} (hn : l.length = n) (h0 : 0 < n) (i : Int) : ∃ (j : Nat) (x : α), l[j]? = some x ∧ atI l (i.fmod n) = some x := by
  rw [Int.fmod_eq_emod_of_nonneg _ (by omega)]
  have h1 := Int.emod_nonneg i (show (n : Int) ≠ 0 by omega)
  have h2 := Int.emod_lt_of_pos i (show (0 : Int) < n by omega)
  obtain ⟨j, e⟩ : ∃ j : Nat, i % (n : Int) = (j : Int) := ⟨(i % (n : Int)).toNat, by omega⟩
  have hj : j < l.length := by omega
  exact ⟨j, l[j], List.getElem?_eq_getElem hj, by rw [e]; exact atI_nat (List.getElem?_eq_getElem hj)⟩
theorem sign_at (z : Str) (hz : 0 < z.length) (ha : z.cps.toList.all (· < 128) = true) (i : Int) : ∃ c, atI z.cps.toList (i.fmod z.length) = some c ∧ c < 128 := by
  obtain ⟨j, c, h1, h2⟩ := at_mod (l := z.cps.toList) (n := z.length) (by rw [Array.length_toList]; rfl) hz i
  exact ⟨c, h2, by simpa using List.all_eq_true.mp ha c (List.mem_of_getElem? h1)⟩
/-! ### the law's own look -/
theorem ok__law_is_among (T : Txt K mg a) : FnOk P w K mg base CX0 1 a._law_is_among a.d__law_is_among ["_law_thing", "_law_least", "_law_most"] (spWhole K) := by
  refine T.F__law_is_among.ok sc__law_is_among (fun vs H Q E h => ?_) (fun cdv A outer s H vs Q E hr h => ?_)
  · obtain ⟨x, t, lo, hi, rfl, _⟩ := h
    rfl
  · obtain ⟨x, t, lo, hi, rfl, ht, k⟩ := h
    refine ⟨_, (pss_one (ps_ret (pe_and (pe_callB (r := rIsi K) call_isi rfl T.n_isinstance (by decide +kernel) (pa_cons (pv 0) (pa_cons (pe_bltn (v := .ty "int") rfl T.n_int (by decide +kernel) rfl) pa_nil))) (pe_and (pe_not (pe_callB (r := rIsi K) call_isi rfl T.n_isinstance (by decide +kernel) (pa_cons (pv 0) (pa_cons (pe_bltn (v := .ty "bool") rfl T.n_bool (by decide +kernel) rfl) pa_nil)))) (pe_one (pe_chain op_le op_le (pv 1) (pv 0) (pv 2))))))), ?_⟩
    walk_at "rd"
    have ht' := ht
    cases ht with
    | int i =>
      refine LH.x_isiT (b := true) ht' (by decide +kernel) ?_
      walk_at "rd"
      refine LH.x_isiT (b := false) ht' (by decide +kernel) ?_
      walk_at "rd"
      by_cases c : lo ≤ i
      · refine LH.br_p c ?_
        walk_at "rd"
        simpa [isW, c] using k
      · refine LH.br_n c ?_
        simpa [isW, c] using k
    | bl b =>
      refine LH.x_isiT (b := true) ht' (by decide +kernel) ?_
      walk_at "rd"
      refine LH.x_isiT (b := true) ht' (by decide +kernel) ?_
      walk_at "rd"
      exact k
    | _ =>
      refine LH.x_isiT (b := false) ht' (by decide +kernel) ?_
      walk_at "rd"
      exact k
theorem str_data {H : Hp} : ∀ l : List Str, DpAll K H (l.map V.str) (l.map PyData.str)
  | [] => .nil
  | x :: l => .cons (.str x) (str_data l)
theorem lay_strs : ∀ {l : List Str}, (∀ x ∈ l, Ok x) → PyData.canLayAll0 (l.map PyData.str) = true
  | [], _ => rfl
  | x :: l, h => by
    show (PyData.canLay0 (.str x) && PyData.canLayAll0 (l.map PyData.str)) = true
    rw [lay_strs fun y hy => h y (List.mem_cons_of_mem _ hy)]
    have e : PyData.canLay0 (.str x) = true := by
      show (PyData.strOk x) = true
      exact (h x List.mem_cons_self).2
    rw [e]
    rfl
theorem shaped_strs {l : List Str} (h : ∀ x ∈ l, Ok x) : SeqAt.shaped (.list (l.map PyData.str)) = true := by
  have d : ∀ l : List Str, PyData.depthAll (l.map PyData.str) ≤ 2 := by
    intro l
    induction l with
    | nil => simp [PyData.depthAll]
    | cons x l ih => simp [PyData.depthAll, PyData.depth]; omega
  unfold SeqAt.shaped
  rw [Bool.and_eq_true]
  refine ⟨lay_strs h, decide_eq_true ?_⟩
  have := d l
  simp [PyData.depth]
  omega
/-- the signs that are no letters -/
def noLet (z : Str) : List Str := (z.cps.toList.filter fun c => !isLet c).map fun c => ⟨#[c]⟩
theorem signs_no (z : Str) : ((LH.signs z).filter fun x => !signV x).map id = (noLet z).map V.str := by
  unfold LH.signs noLet
  rw [List.map_id, List.filter_map, List.map_map]
  rfl
theorem no_ok {z : Str} (h : Ok z) : ∀ x ∈ noLet z, Ok x := fun x hx => by
  obtain ⟨c, hc, rfl⟩ := List.mem_map.mp hx
  have hm := (List.mem_filter.mp hc).1
  have h2 := h.2
  rw [← Array.all_toList] at h2
  have := List.all_eq_true.mp h2 c hm
  exact ⟨by show 1 ≤ 100000; decide, by simpa using this⟩
theorem no_eqv (z : Str) : PyData.eqv (.list ((noLet z).map PyData.str)) (.list []) = z.cps.toList.all isLet := by
  have e : ∀ l : List Nat, PyData.eqvAll (((l.filter fun c => !isLet c).map fun c => (⟨#[c]⟩ : Str)).map PyData.str) [] = l.all isLet := by
    intro l
    induction l with
    | nil => simp [PyData.eqvAll]
    | cons c l ih =>
      rw [List.all_cons, List.filter_cons]
      cases isLet c with
      | true => simpa using ih
      | false => simp [PyData.eqvAll]
  show PyData.eqvAll _ [] = _
  exact e _
theorem ok__law_is_row (T : Txt K mg a) : FnOk P w K mg base CX0 1 a._law_is_row a.d__law_is_row ["_law_thing"] (spRow K) := by
  refine T.F__law_is_row.ok sc__law_is_row (fun vs H Q E h => ?_) (fun cdv A outer s H vs Q E hr h => ?_)
  · obtain ⟨x, t, rfl, _⟩ := h
    rfl
  · obtain ⟨x, t, rfl, ht, sm, k⟩ := h
    refine ⟨_, (pss_cons (ps_if (PW.pt (pw_or (pt_not (pt_val (pe_callB (r := rIsi K) call_isi rfl T.n_isinstance (by decide +kernel) (pa_cons (pv 0) (pa_cons (pe_bltn (v := .ty "str") rfl T.n_str (by decide +kernel) rfl) pa_nil))))) (pw_or1 (pt_not (pt_chain op_le op_le pe_int (pe_callB LH.call_lenS rfl T.n_len (by decide +kernel) (pa_cons (pv 0) pa_nil)) pe_int)))))
    (pss_one (ps_ret pe_bl))
    pss_nil)
  (pss_one (ps_ret (pe_cmpR (r := rEqD K) (op_eqD hr.units) (pe_lc (own := [("_law_sign", 1)]) (g := gName 1) rfl sc__law_is_row.nd (pi_str (pv 0)) (blkOk_by (N := N__law_is_row) (sc := defScope s__law_is_row) (by decide +kernel)) (fun _ _ _ _ _ => pg_name (i := 1) sc__law_is_row.nd rfl (Or.inl rfl)) (fun _ _ _ _ _ => (pts_one (pt_cmpR (r := LH.rInS true) LH.op_niS (pv 1) pe_str (by rfl)))) (fun _ _ _ _ _ => (pv 1))) (pe_lst pa_nil) (nomark _))))), ?_⟩
    walk_at "rd"
    have ht' := ht
    cases ht with
    | str z =>
      have hz := (sm z rfl).1
      refine LH.x_isiT (b := true) ht' (by decide +kernel) ?_
      walk_at "rd"
      refine LH.x_lenS hz ?_
      walk_at "rd"
      refine LH.br_d (fun c1 => ?_) (fun c1 => ?_)
      · walk_at "rd"
        refine LH.br_eq (b' := !decide (z.length ≤ 8)) (by congr 1; exact decide_eq_decide.mpr (by omega)) ?_
        refine LH.br_nd (fun c2 => ?_) (fun c2 => ?_)
        · walk_at "rd"
          have e : isRow (.str z) = false := by simp [isRow, isRowS, c2]
          rw [e] at k
          exact k _ (Same.refl _)
        · walk_at "rd"
          refine LH.lc_S (by exact hz) (fun x => !signV x) id (fun _ => rfl) ?_ ?_ fun p1 H1 f1 e1 g1 => ?_
          · intro x hx H3 e3 Q3 q3
            obtain ⟨c, _, rfl⟩ := List.mem_map.mp hx
            walk_at "rd"
            exact q3 _ (Same.refl _)
          · intro x hx _ H3 e3 Q3 q3
            walk_at "rd"
            exact q3 _ (Same.refl _)
          walk_at "rd"
          refine LH.newl (LH.small rfl) fun p2 H2 f2 e2 g2 => ?_
          rw [signs_no] at g1
          have ok : ∀ x ∈ noLet z, Ok x := no_ok (sm z rfl)
          refine LH.x_eqD (.lst (SqL.of (e2 _ _ g1)) (str_data _)) (.lst (SqL.of g2) .nil) (shaped_strs ok) (by decide +kernel) ?_
          have e : isRow (.str z) = PyData.eqv (.list ((noLet z).map PyData.str)) (.list []) := by
            rw [no_eqv]
            have h1 : 1 ≤ z.length := by omega
            simp [isRow, isRowS, h1, c2]
          rw [e] at k
          exact k _ (e1.trans e2)
      · walk_at "rd"
        have e : isRow (.str z) = false := by
          have : ¬ 1 ≤ z.length := by omega
          simp [isRow, isRowS, this]
        rw [e] at k
        exact k _ (Same.refl _)
    | _ =>
      refine LH.x_isiT (b := false) ht' (by decide +kernel) ?_
      walk_at "rd"
      exact k _ (Same.refl _)
end
end K4
namespace K4
open PySem L2
local macro_rules | `(tactic| walk_at "rd1") => `(tactic| first
  | with_reducible refine LH.x_seq ?_
  | with_reducible refine LH.x_asg ?_
  | with_reducible refine LH.x_cons ?_
  | with_reducible refine LH.x_var (by with_unfolding_all exact rfl) ?_
  | with_reducible refine LH.x_c ?_
  | with_reducible refine LH.x_op ?_
  | with_reducible refine LH.x_gname ?_
  | with_reducible refine LH.x_nil ?_
  | with_reducible refine LH.x_I0 ?_
  | ((with_reducible refine LH.x_I ?k1 ?_); (case k1 => first | exact (by decide) | exact ⟨by decide, by decide⟩ | exact ⟨by decide, by decide, by decide⟩ | exact .inl ⟨by decide, by decide⟩ | exact .inr ⟨by decide, by decide⟩ | exact .inr ⟨by omega, by omega⟩ | exact .inl ⟨by omega, by omega⟩ | exact (by omega)))
  | with_reducible refine LH.x_ifS ?_
  | with_reducible refine LH.x_test ?_
  | with_reducible refine LH.x_tB ?_
  | with_reducible refine LH.bx ?_
  | with_reducible refine LH.x_and ?_
  | with_reducible refine LH.x_or ?_
  | with_reducible refine LH.x_not ?_
  | with_reducible refine LH.x_ret ?_
  | with_reducible refine LH.x_call ?_
  | with_reducible refine LH.x_cb ?_
  | with_reducible refine LH.x_lst ?_
  | with_reducible refine LH.x_tup ?_
  | with_reducible refine LH.x_bm ?_
  | with_reducible refine LH.x_drop ?_
  | with_reducible refine LH.x_next ?_
  | with_reducible refine LH.x_cont ?_
  | with_reducible refine LH.x_un ?_
  | with_reducible refine LH.x_U ?_
  | with_reducible refine LH.x_eq (by with_unfolding_all exact rfl) ?_
  | with_reducible refine LH.x_ne (by with_unfolding_all exact rfl) ?_
  | with_reducible refine LH.x_andV ?_
  | with_reducible refine LH.x_orV ?_
  | with_reducible refine LH.x_notV ?_
  | with_reducible refine LH.band ?_
  | with_reducible refine LH.bor ?_
  | with_reducible refine LH.x_if ?_
  | with_reducible refine LH.x_chain ?_
  | with_reducible refine LH.chk ?_
  | with_reducible refine LH.x_callS ?_
  | with_reducible refine LH.x_callE ?_
  | with_reducible refine LH.x_callV ?_
  | with_reducible refine LH.x_lrg ?_
  | with_reducible refine LH.x_lcS ?_
  | with_reducible refine LH.x_lcR1 ?_
  | with_reducible refine LH.x_forR1 ?_
  | with_reducible refine LH.x_forR3 ?_
  | with_reducible refine LH.strv ?_
  | with_reducible refine LH.x_yes ?_
  | with_reducible refine LH.x_sl ?_
  | with_reducible refine LH.x_noPart ?_
  | with_reducible refine LH.x_part ?_
  | with_reducible refine LH.pav ?_
  | with_reducible refine LH.x_jnv ?_
  | with_reducible refine LH.x_join ?_
  | with_reducible refine LH.x_inS ?_
  | with_reducible refine LH.x_niS ?_
  | with_reducible refine LH.x_isB ?_
  | with_reducible refine LH.x_isnB ?_
  | with_reducible refine LH.x_gcons ?_
  | with_reducible refine LH.x_gnil ?_
  | with_reducible refine LH.x_intB ?_
  | with_reducible refine LH.x_orT ?_
  | with_reducible refine LH.x_isTy ?_
  | with_reducible refine LH.x_niTy ?_
  | with_reducible refine LH.x_split ?_
  | with_reducible refine LH.x_spv ?_
  | with_reducible refine LH.x_gsub ?_
  | with_reducible refine LH.x_fmt ?_
  | with_reducible refine LH.x_js0 ?_
  | with_reducible refine LH.x_js ?_
  | with_reducible refine LH.x_rg1 ?_
  | with_reducible refine LH.x_forL ?_
  | with_reducible refine LH.x_abs ?_
  | with_reducible refine LH.x_rg2 ?_
  | with_reducible refine LH.rg1v ?_
  | with_reducible refine LH.rg2v ?_
  | with_reducible refine LH.x_forR2 ?_
  | with_reducible refine LH.x_lenSetG ?_
  | with_reducible refine LH.x_lc ?_
  | with_reducible refine LH.br_nt ?_
  | with_reducible refine LH.br_nf ?_
  | with_reducible refine LH.br_t ?_
  | with_reducible refine LH.br_f ?_)
local macro_rules | `(tactic| walk_at "rd") => `(tactic| repeat (walk_at "rd1"))

section
variable {P : Program} {w : World} {K : PySem.W.Frag} {mg : Str → Option Value} {base : Heap} {a : Ad}
/-! ### texts of letters -/
theorem cut_lo (z : Str) (k : Nat) : cutS z none (some (k : Int)) = ⟨(z.cps.toList.take k).toArray⟩ := by
  unfold cutS
  rw [HT.sIx_none, HT.sIx_nat, List.drop_zero, Nat.sub_zero]
  congr 2
  have : z.length = z.cps.toList.length := by rw [Array.length_toList]; rfl
  rw [this]
  exact (List.take_eq_take_min).symm
theorem cut_hi (z : Str) (k : Nat) : cutS z (some (k : Int)) none = ⟨(z.cps.toList.drop k).toArray⟩ := by
  unfold cutS
  rw [HT.sIx_none, HT.sIx_nat]
  congr 1
  have e : z.length = z.cps.toList.length := by rw [Array.length_toList]; rfl
  rw [e]
  by_cases h : k ≤ z.cps.toList.length
  · rw [Nat.min_eq_left h, List.take_of_length_le]
    rw [List.length_drop]
    exact Nat.le_refl _
  · rw [Nat.min_eq_right (by omega), List.drop_of_length_le (by omega), List.drop_of_length_le (by omega), List.take_nil]
theorem join_signs : ∀ cs : List Nat, Txt.join (Str.ofString "") (cs.map fun c => (⟨#[c]⟩ : Str)) = ⟨cs.toArray⟩ := fun cs => by
  have e0 : Str.ofString "" = SX.S [] := rfl
  have e1 : (cs.map fun c => (⟨#[c]⟩ : Str)) = (cs.map fun c => [c]).map SX.S := by rw [List.map_map]; rfl
  rw [e0, e1, SX.join_S]
  have e2 : ∀ cs : List Nat, TL.joinL [] (cs.map fun c => [c]) = cs := by
    intro cs
    induction cs with
    | nil => rfl
    | cons c cs ih =>
      cases cs with
      | nil => rfl
      | cons d cs =>
        show [c] ++ ([] ++ TL.joinL [] ((d :: cs).map fun c => [c])) = c :: d :: cs
        rw [ih]
        rfl
  rw [e2]
theorem lens1 (f : Nat → Nat) (l : List Nat) : (((l.map f).map fun c => (⟨#[c]⟩ : Str)).map (·.length)).sum = l.length := by
  induction l with
  | nil => rfl
  | cons c l ih =>
    simp only [List.map_cons, List.sum_cons, List.length_cons] at ih ⊢
    rw [ih]
    show 1 + l.length = l.length + 1
    omega
theorem let_at (u : Int) : ∃ c, atI letters.cps.toList (u % 26) = some c ∧ isLet c = true ∧ c = letters.cps.toList.getD (u % 26).toNat 0 := by
  have h1 := Int.emod_nonneg u (show (26 : Int) ≠ 0 by decide)
  have h2 := Int.emod_lt_of_pos u (show (0 : Int) < 26 by decide)
  obtain ⟨j, e⟩ : ∃ j : Nat, u % 26 = (j : Int) := ⟨(u % 26).toNat, by omega⟩
  have hj : j < letters.cps.toList.length := by
    have : letters.cps.toList.length = 26 := by decide +kernel
    omega
  refine ⟨letters.cps.toList[j], by rw [e]; exact atI_nat (List.getElem?_eq_getElem hj), decide_eq_true (List.getElem_mem _), ?_⟩
  rw [e]
  show _ = letters.cps.toList.getD j 0
  rw [List.getD_eq_getElem?_getD, List.getElem?_eq_getElem hj]
  rfl
theorem row_of {l : List Nat} (h1 : 1 ≤ l.length) (h2 : l.length ≤ 8) (h3 : ∀ c ∈ l, isLet c = true) : isRowS ⟨l.toArray⟩ = true := by
  have e : (⟨l.toArray⟩ : Str).length = l.length := List.size_toArray
  unfold isRowS
  rw [e, decide_eq_true h1, decide_eq_true h2]
  simp only [Bool.true_and]
  exact List.all_eq_true.mpr (by simpa using h3)
theorem row_ok {z : Str} (h : isRowS z = true) : Ok z := by
  unfold isRowS at h
  rw [Bool.and_eq_true, Bool.and_eq_true, decide_eq_true_eq, decide_eq_true_eq] at h
  refine ⟨by omega, ?_⟩
  rw [← Array.all_toList]
  refine List.all_eq_true.mpr fun c hc => ?_
  have := List.all_eq_true.mp h.2.2 c hc
  have hm : c ∈ letters.cps.toList := of_decide_eq_true this
  have : ∀ c ∈ letters.cps.toList, decide (c < 0x110000) = true := by decide +kernel
  exact this c hm
def letF (t : Int) (j : Nat) : Nat := letters.cps.toList.getD ((t + 5 * (j : Int) * (1 + t % 3)) % 26).toNat 0
def letV (t : Int) : V → V
  | .int j => .str ⟨#[letters.cps.toList.getD ((t + 5 * j * (1 + t % 3)) % 26).toNat 0]⟩
  | x => x
theorem lets (t : Int) (n : Nat) : ((LH.intsV 0 n).filter fun _ => true).map (letV t) = (((List.range n).map (letF t)).map fun c => (⟨#[c]⟩ : Str)).map V.str := by
  rw [List.filter_eq_self.mpr (fun _ _ => rfl)]
  unfold LH.intsV
  rw [List.map_map, List.map_map, List.map_map]
  refine List.map_congr_left fun i _ => ?_
  show V.str ⟨#[letters.cps.toList.getD ((t + 5 * (0 + (i : Int)) * (1 + t % 3)) % 26).toNat 0]⟩ = V.str ⟨#[letF t i]⟩
  rw [Int.zero_add]
  rfl
theorem let_letF (t : Int) (j : Nat) : isLet (letF t j) = true := by
  obtain ⟨c, _, h, e⟩ := let_at (t + 5 * (j : Int) * (1 + t % 3))
  unfold letF
  rw [← e]
  exact h
theorem four_at (i : Int) : ∃ z, atI [V.str "say", .str "mark", .str "by", .str "house"] (i % 4) = some (V.str z) ∧ isRowS z = true := by
  have h : i % 4 = 0 ∨ i % 4 = 1 ∨ i % 4 = 2 ∨ i % 4 = 3 := by omega
  rcases h with h | h | h | h <;> rw [h]
  · exact ⟨_, rfl, by decide +kernel⟩
  · exact ⟨_, rfl, by decide +kernel⟩
  · exact ⟨_, rfl, by decide +kernel⟩
  · exact ⟨_, rfl, by decide +kernel⟩
theorem kqxz_at (i : Int) : ∃ c, atI (Str.ofString "kqxz").cps.toList (i % 4) = some c ∧ isLet c = true := by
  have h : i % 4 = 0 ∨ i % 4 = 1 ∨ i % 4 = 2 ∨ i % 4 = 3 := by omega
  rcases h with h | h | h | h <;> rw [h]
  · exact ⟨107, by decide +kernel, by decide +kernel⟩
  · exact ⟨113, by decide +kernel, by decide +kernel⟩
  · exact ⟨120, by decide +kernel, by decide +kernel⟩
  · exact ⟨122, by decide +kernel, by decide +kernel⟩
theorem mod_at (x : Int) (n : Nat) : ∃ m : Nat, m ≤ n ∧ x.fmod ((n : Int) + 1) = (m : Int) := by
  rw [Int.fmod_eq_emod_of_nonneg _ (by omega)]
  have h1 := Int.emod_nonneg x (show (n : Int) + 1 ≠ 0 by omega)
  have h2 := Int.emod_lt_of_pos x (show (0 : Int) < (n : Int) + 1 by omega)
  exact ⟨(x % ((n : Int) + 1)).toNat, by omega, by omega⟩
def spLRow : Sp := fun vs H Q _ => ∃ b k : Int, vs = [.int b, .int k] ∧ ∀ z H', isRowS z = true → Same H H' → Q (.str z) H'
theorem ok__law_row (T : Txt K mg a) : FnOk P w K mg base CX0 1 a._law_row a.d__law_row ["_law_base", "_law_k"] spLRow := by
  refine T.F__law_row.ok sc__law_row (fun vs H Q E h => ?_) (fun cdv A outer s H vs Q E hr h => ?_)
  · obtain ⟨i, j, rfl, _⟩ := h
    rfl
  · obtain ⟨b, i, rfl, k⟩ := h
    refine ⟨_, (pss_cons (ps_set (i := 2) sc__law_row.nd rfl (Or.inr rfl) pe_str)
  (pss_cons (ps_set (i := 3) sc__law_row.nd rfl (Or.inr rfl) (pe_op op_add (pv 0) (pe_op op_mul (pe_op op_mul pe_int (pv 1)) (pe_op op_mod (pv 0) pe_int))))
  (pss_cons (ps_set (i := 4) sc__law_row.nd rfl (Or.inl rfl) (pe_op op_mod (pe_op op_fdiv (pv 3) pe_int) pe_int))
  (pss_cons (ps_set (i := 5) sc__law_row.nd rfl (Or.inl rfl) (LH.pe_joinN pe_str (pe_lc (own := [("_law_j", 6)]) (g := gName 6) (tt := tYes) rfl sc__law_row.nd (pi_range1 rfl T.n_range (pa_cons (pv 4) pa_nil)) (blkOk_by (N := N__law_row) (sc := defScope s__law_row) (by decide +kernel)) (fun _ _ _ _ _ => pg_name (i := 6) sc__law_row.nd rfl (Or.inl rfl)) (fun _ _ _ _ _ => pts_nil) (fun _ _ _ _ _ => (pe_ix ix_str (pv 2) (pe_op op_mod (pe_op op_add (pv 3) (pe_op op_mul (pe_op op_mul pe_int (pv 6)) (pe_op op_add pe_int (pe_op op_mod (pv 3) pe_int)))) pe_int) (fun _ _ => rfl))))))
  (pss_cons (ps_set (i := 7) sc__law_row.nd rfl (Or.inl rfl) (pv 4))
  (pss_cons (ps_if (pt_cmpR op_eq (pe_op op_mod (pv 0) pe_int) pe_int (nomark _))
    (pss_one (ps_set (i := 7) sc__law_row.nd rfl (Or.inl rfl) (pe_op op_modN (pe_op op_fdiv (pv 0) pe_int) (pe_op op_add (pv 4) pe_int))))
    pss_nil)
  (pss_cons (ps_if (pt_cmpR op_eq (pe_op op_mod (pv 0) pe_int) pe_int (nomark _))
    (pss_one (ps_ret (pe_ix (r := rIxL K) ix_list (pe_lst (pa_cons pe_str (pa_cons pe_str (pa_cons pe_str (pa_cons pe_str pa_nil))))) (pe_op op_mod (pv 1) pe_int) (fun _ _ => rfl))))
    pss_nil)
  (pss_one (ps_ret (pe_op LH.op_addS (pe_op LH.op_addS (pe_slice sl_str (pv 5) po_none (po_some (pv 7))) (pe_ix ix_str pe_str (pe_op op_mod (pv 1) pe_int) (fun _ _ => rfl))) (pe_slice sl_str (pv 5) (po_some (pv 7)) po_none))))))))))), ?_⟩
    walk_at "rd"
    generalize ht : b + 31 * i * (b % 2) = t
    obtain ⟨n, hn⟩ : ∃ n : Nat, t / 26 % 8 = (n : Int) := ⟨(t / 26 % 8).toNat, by omega⟩
    have hn8 : n < 8 := by omega
    rw [hn]
    refine LH.rn1v (by omega) (by omega) ?_
    refine LH.lc_R (by omega) (fun _ => true) (letV t) (fun _ => rfl) ?_ ?_ fun p1 H1 f1 e1 g1 => ?_
    · intro x hx H3 e3 Q3 q3
      walk_at "rd"
      exact q3 _ (Same.refl _)
    · intro x hx _ H3 e3 Q3 q3
      obtain ⟨j, _, rfl⟩ := List.mem_map.mp hx
      walk_at "rd"
      obtain ⟨c, h1, _, h2⟩ := let_at (t + 5 * (0 + (j : Int)) * (1 + t % 3))
      refine LH.x_ixS (by decide +kernel) h1 ?_
      have q4 := q3 H3 (Same.refl _)
      have e4 : letV t (V.int (0 + (j : Int))) = V.str ⟨#[c]⟩ := by rw [h2]; rfl
      rw [e4] at q4
      exact q4
    walk_at "rd"
    have hI : (n : Int).toNat = n := Int.toNat_natCast n
    rw [hI, lets] at g1
    refine LH.x_jnw (SqL.of g1) (by have e0 : (Str.ofString "").length = 0 := rfl; rw [lens1, List.length_range, e0, Nat.mul_zero]; omega) ?_
    rw [join_signs]
    walk_at "rd"
    have tl : ∀ (at_ : Nat) (c : Nat), at_ ≤ n → isLet c = true → isRowS (cutS ⟨((List.range n).map (letF t)).toArray⟩ none (some (at_ : Int)) ++ ⟨#[c]⟩ ++ cutS ⟨((List.range n).map (letF t)).toArray⟩ (some (at_ : Int)) none) = true := by
      intro at_ c h1 h2
      rw [cut_lo, cut_hi]
      have e : ((⟨(((List.range n).map (letF t)).take at_).toArray⟩ : Str) ++ ⟨#[c]⟩ ++ ⟨(((List.range n).map (letF t)).drop at_).toArray⟩) = (⟨(((List.range n).map (letF t)).take at_ ++ [c] ++ ((List.range n).map (letF t)).drop at_).toArray⟩ : Str) := by
        show (⟨_ ++ _ ++ _⟩ : Str) = _
        simp
      rw [e]
      refine row_of (by simp; omega) (by simp; omega) fun d hd => ?_
      rcases List.mem_append.mp hd with hd | hd
      · rcases List.mem_append.mp hd with hd | hd
        · obtain ⟨j, _, rfl⟩ := List.mem_map.mp (List.mem_of_mem_take hd)
          exact let_letF t j
        · rw [List.mem_singleton] at hd
          rw [hd]
          exact h2
      · obtain ⟨j, _, rfl⟩ := List.mem_map.mp (List.mem_of_mem_drop hd)
        exact let_letF t j
    refine LH.br_d (fun c => ?_) (fun c => ?_)
    · walk_at "rd"
      obtain ⟨at_, hat, e⟩ := mod_at (b / 4) n
      rw [e]
      walk_at "rd"
      refine LH.br_d (fun c => ?_) (fun c => ?_)
      · walk_at "rd"
        refine LH.newl (LH.small rfl) fun p2 H2 f2 e2 g2 => ?_
        walk_at "rd"
        obtain ⟨z, hz, h⟩ := four_at i
        refine LH.x_ixL (SqL.of g2) hz ?_
        exact k _ _ h (e1.trans e2)
      · walk_at "rd"
        refine LH.x_slS (by show ((List.range n).map (letF t)).toArray.size ≤ 100000; simp; omega) ?_
        walk_at "rd"
        obtain ⟨d, hd, hl⟩ := kqxz_at i
        refine LH.x_ixS (by decide +kernel) hd ?_
        refine LH.x_addS (by rw [cut_lo]; simp [Str.length]; omega) ?_
        walk_at "rd"
        refine LH.x_slS (by show ((List.range n).map (letF t)).toArray.size ≤ 100000; simp; omega) ?_
        refine LH.x_addS (by rw [cut_lo, cut_hi]; show (_ ++ _ : Array Nat).size + _ ≤ 100000; simp [Str.length]; omega) ?_
        exact k _ _ (tl at_ d hat hl) e1
    · walk_at "rd"
      have hat : n ≤ n := Nat.le_refl n
      refine LH.br_d (fun c => ?_) (fun c => ?_)
      · walk_at "rd"
        refine LH.newl (LH.small rfl) fun p2 H2 f2 e2 g2 => ?_
        walk_at "rd"
        obtain ⟨z, hz, h⟩ := four_at i
        refine LH.x_ixL (SqL.of g2) hz ?_
        exact k _ _ h (e1.trans e2)
      · walk_at "rd"
        refine LH.x_slS (by show ((List.range n).map (letF t)).toArray.size ≤ 100000; simp; omega) ?_
        walk_at "rd"
        obtain ⟨d, hd, hl⟩ := kqxz_at i
        refine LH.x_ixS (by decide +kernel) hd ?_
        refine LH.x_addS (by rw [cut_lo]; simp [Str.length]; omega) ?_
        walk_at "rd"
        refine LH.x_slS (by show ((List.range n).map (letF t)).toArray.size ≤ 100000; simp; omega) ?_
        refine LH.x_addS (by rw [cut_lo, cut_hi]; show (_ ++ _ : Array Nat).size + _ ≤ 100000; simp [Str.length]; omega) ?_
        exact k _ _ (tl n d hat hl) e1
end
end K4
namespace K4
open PySem L2
local macro_rules | `(tactic| walk_at "rd1") => `(tactic| first
  | with_reducible refine LH.x_seq ?_
  | with_reducible refine LH.x_asg ?_
  | with_reducible refine LH.x_cons ?_
  | with_reducible refine LH.x_var (by with_unfolding_all exact rfl) ?_
  | with_reducible refine LH.x_c ?_
  | with_reducible refine LH.x_op ?_
  | with_reducible refine LH.x_gname ?_
  | with_reducible refine LH.x_nil ?_
  | with_reducible refine LH.x_I0 ?_
  | ((with_reducible refine LH.x_I ?k1 ?_); (case k1 => first | exact (by decide) | exact ⟨by decide, by decide⟩ | exact ⟨by decide, by decide, by decide⟩ | exact .inl ⟨by decide, by decide⟩ | exact .inr ⟨by decide, by decide⟩ | exact .inr ⟨by omega, by omega⟩ | exact .inl ⟨by omega, by omega⟩ | exact (by omega)))
  | with_reducible refine LH.x_ifS ?_
  | with_reducible refine LH.x_test ?_
  | with_reducible refine LH.x_tB ?_
  | with_reducible refine LH.bx ?_
  | with_reducible refine LH.x_and ?_
  | with_reducible refine LH.x_or ?_
  | with_reducible refine LH.x_not ?_
  | with_reducible refine LH.x_ret ?_
  | with_reducible refine LH.x_call ?_
  | with_reducible refine LH.x_cb ?_
  | with_reducible refine LH.x_lst ?_
  | with_reducible refine LH.x_tup ?_
  | with_reducible refine LH.x_bm ?_
  | with_reducible refine LH.x_drop ?_
  | with_reducible refine LH.x_next ?_
  | with_reducible refine LH.x_cont ?_
  | with_reducible refine LH.x_un ?_
  | with_reducible refine LH.x_U ?_
  | with_reducible refine LH.x_eq (by with_unfolding_all exact rfl) ?_
  | with_reducible refine LH.x_ne (by with_unfolding_all exact rfl) ?_
  | with_reducible refine LH.x_andV ?_
  | with_reducible refine LH.x_orV ?_
  | with_reducible refine LH.x_notV ?_
  | with_reducible refine LH.band ?_
  | with_reducible refine LH.bor ?_
  | with_reducible refine LH.x_if ?_
  | with_reducible refine LH.x_chain ?_
  | with_reducible refine LH.chk ?_
  | with_reducible refine LH.x_callS ?_
  | with_reducible refine LH.x_callE ?_
  | with_reducible refine LH.x_callV ?_
  | with_reducible refine LH.x_lrg ?_
  | with_reducible refine LH.x_lcS ?_
  | with_reducible refine LH.x_lcR1 ?_
  | with_reducible refine LH.x_forR1 ?_
  | with_reducible refine LH.x_forR3 ?_
  | with_reducible refine LH.strv ?_
  | with_reducible refine LH.x_yes ?_
  | with_reducible refine LH.x_sl ?_
  | with_reducible refine LH.x_noPart ?_
  | with_reducible refine LH.x_part ?_
  | with_reducible refine LH.pav ?_
  | with_reducible refine LH.x_jnv ?_
  | with_reducible refine LH.x_join ?_
  | with_reducible refine LH.x_inS ?_
  | with_reducible refine LH.x_niS ?_
  | with_reducible refine LH.x_isB ?_
  | with_reducible refine LH.x_isnB ?_
  | with_reducible refine LH.x_gcons ?_
  | with_reducible refine LH.x_gnil ?_
  | with_reducible refine LH.x_intB ?_
  | with_reducible refine LH.x_orT ?_
  | with_reducible refine LH.x_isTy ?_
  | with_reducible refine LH.x_niTy ?_
  | with_reducible refine LH.x_split ?_
  | with_reducible refine LH.x_spv ?_
  | with_reducible refine LH.x_gsub ?_
  | with_reducible refine LH.x_fmt ?_
  | with_reducible refine LH.x_js0 ?_
  | with_reducible refine LH.x_js ?_
  | with_reducible refine LH.x_rg1 ?_
  | with_reducible refine LH.x_forL ?_
  | with_reducible refine LH.x_abs ?_
  | with_reducible refine LH.x_rg2 ?_
  | with_reducible refine LH.rg1v ?_
  | with_reducible refine LH.rg2v ?_
  | with_reducible refine LH.x_forR2 ?_
  | with_reducible refine LH.x_lenSetG ?_
  | with_reducible refine LH.x_lc ?_
  | with_reducible refine LH.br_nt ?_
  | with_reducible refine LH.br_nf ?_
  | with_reducible refine LH.br_t ?_
  | with_reducible refine LH.br_f ?_)
local macro_rules | `(tactic| walk_at "rd") => `(tactic| repeat (walk_at "rd1"))

section
variable {P : Program} {w : World} {K : PySem.W.Frag} {mg : Str → Option Value} {base : Heap} {a : Ad}
/-- a thing that may stand in a word -/
def Gd (K : PySem.W.Frag) (H : Hp) (y : V) : Prop := Sm y ∧ ∃ T, TyB K H y T
theorem Gd.up {H H' : Hp} {y : V} (e : Same H H') (g : Gd K H y) : Gd K H' y := let ⟨s, T, h⟩ := g; ⟨s, T, LH.Same.ty e h⟩
theorem gd_int {H : Hp} (i : Int) : Gd K H (.int i) := ⟨fun z e => (by cases e), _, .int i⟩
theorem gd_str {H : Hp} {z : Str} (h : Ok z) : Gd K H (.str z) := ⟨fun z' e => (by cases e; exact h), _, .str z⟩
theorem gd_bl {H : Hp} (b : Bool) : Gd K H (.bl b) := ⟨fun z e => (by cases e), _, .bl b⟩
theorem gd_non {H : Hp} : Gd K H .non := ⟨fun z e => (by cases e), _, .non⟩
theorem gd_lst {H : Hp} {p : Addr} {xs : List V} (h : SqL K H p xs) : Gd K H (.ref p) := ⟨fun z e => (by cases e), _, .lst h⟩
theorem gd_tup {H : Hp} {p : Addr} {xs : List V} (h : SqT K H p xs) : Gd K H (.ref p) := ⟨fun z e => (by cases e), _, .tup h⟩
theorem gd_dK {H : Hp} {p : Addr} {kvs : List (Key × V)} (h : H p = some (.dK kvs)) : Gd K H (.ref p) := ⟨fun z e => (by cases e), _, .dK h⟩
def spLIsWord (K : PySem.W.Frag) : Sp := fun vs H Q _ => ∃ c x b, vs = [.int c, x] ∧ 1 ≤ c ∧ Wd K H c x b ∧ ∀ H', Same H H' → Q (.bl b) H'
theorem isW_no {x : V} {lo hi : Int} (h : ∀ i, x ≠ .int i) : isW x lo hi = false := by
  cases x with
  | int i => exact absurd rfl (h i)
  | _ => rfl
theorem word_kind {c : Int} {k n r o : V} (h : ∀ z, k ≠ .str z) : isWordL c [k, n, r, o] = false := by
  cases n with
  | int m =>
    cases o with
    | int q =>
      show (isW (.int m) 0 9999 && (isW (.int q) 0 (c - 1) && (isRow r && isKind c k m q))) = false
      have e : isKind c k m q = false := by
        cases k with
        | str z => exact absurd rfl (h z)
        | _ => rfl
      rw [e, Bool.and_false, Bool.and_false, Bool.and_false]
    | _ => rfl
  | _ => rfl
theorem word_row {c : Int} {k n r o : V} (h : isRow r = false) : isWordL c [k, n, r, o] = false := by
  cases n with
  | int m =>
    cases o with
    | int q =>
      show (isW (.int m) 0 9999 && (isW (.int q) 0 (c - 1) && (isRow r && isKind c k m q))) = false
      rw [h, Bool.false_and, Bool.and_false, Bool.and_false]
    | _ => rfl
  | _ => rfl
theorem mod_eq {o m c : Int} (h1 : 0 ≤ o) (h2 : o < c) : o = m % c ↔ (m - o) % c = 0 := by
  constructor
  · intro h
    have e := Int.emod_add_mul_ediv m c
    have e2 : m - o = c * (m / c) := by omega
    rw [e2, Int.mul_emod_right]
  · intro h
    have d : c ∣ m - o := Int.dvd_of_emod_eq_zero h
    obtain ⟨q, hq⟩ := d
    have : m = o + c * q := by omega
    rw [this, Int.add_mul_emod_self_left, Int.emod_eq_of_lt h1 h2]
theorem ok__law_is_word (T : Txt K mg a) : FnOk P w K mg base CX0 2 a._law_is_word a.d__law_is_word ["_law_count", "_law_thing"] (spLIsWord K) := by
  have G__law_is_among := ok__law_is_among (P := P) (w := w) (base := base) T
  have G__law_is_row := ok__law_is_row (P := P) (w := w) (base := base) T
  refine T.F__law_is_word.ok sc__law_is_word (fun vs H Q E h => ?_) (fun cdv A outer s H vs Q E hr h => ?_)
  · obtain ⟨x, t, y, rfl, _⟩ := h
    rfl
  · obtain ⟨c, x, b, rfl, c1, hw, k⟩ := h
    have HR__law_is_row : Room 1 _ := hr.mono (by decide)
    have HR__law_is_among : Room 1 _ := hr.mono (by decide)
    refine ⟨_, (pss_cons (ps_if (PW.pt (pw_or (pt_not (pt_val (pe_callB (r := rIsi K) call_isi rfl T.n_isinstance (by decide +kernel) (pa_cons (pv 1) (pa_cons (pe_bltn (v := .ty "tuple") rfl T.n_tuple (by decide +kernel) rfl) pa_nil))))) (pw_or (pt_cmpR op_ne (pe_callB (r := LH.rLen K) LH.call_len rfl T.n_len (by decide +kernel) (pa_cons (pv 1) pa_nil)) pe_int (nomark _)) (pw_or1 (pt_not (pt_val (pe_callB (r := rIsi K) call_isi rfl T.n_isinstance (by decide +kernel) (pa_cons (pe_ix (r := rIxT K) ix_tup (pv 1) pe_int (fun _ _ => rfl)) (pa_cons (pe_bltn (v := .ty "str") rfl T.n_str (by decide +kernel) rfl) pa_nil)))))))))
    (pss_one (ps_ret pe_bl))
    pss_nil)
  (pss_cons (ps_if (PW.pt (pw_or (pt_not (pt_val (pe_call G__law_is_among HR__law_is_among rfl T.g__law_is_among T.F__law_is_among.kp T.b__law_is_among .nil pass0 (pa_cons (pe_ix (r := rIxT K) ix_tup (pv 1) pe_int (fun _ _ => rfl)) (pa_cons pe_int (pa_cons pe_int pa_nil)))))) (pw_or (pt_not (pt_val (pe_call G__law_is_row HR__law_is_row rfl T.g__law_is_row T.F__law_is_row.kp T.b__law_is_row .nil pass0 (pa_cons (pe_ix (r := rIxT K) ix_tup (pv 1) pe_int (fun _ _ => rfl)) pa_nil)))) (pw_or1 (pt_not (pt_val (pe_call G__law_is_among HR__law_is_among rfl T.g__law_is_among T.F__law_is_among.kp T.b__law_is_among .nil pass0 (pa_cons (pe_ix (r := rIxT K) ix_tup (pv 1) pe_int (fun _ _ => rfl)) (pa_cons pe_int (pa_cons (pe_op op_sub (pv 0) pe_int) pa_nil))))))))))
    (pss_one (ps_ret pe_bl))
    pss_nil)
  (pss_one (ps_ret (pe_or (pe_cmpR op_eq (pe_ix (r := rIxT K) ix_tup (pv 1) pe_int (fun _ _ => rfl)) pe_str (nomark _)) (pe_one (pe_and (pe_cmpR op_eq (pe_ix (r := rIxT K) ix_tup (pv 1) pe_int (fun _ _ => rfl)) pe_str (nomark _)) (pe_one (pe_cmpR op_eq (pe_op op_modN (pe_op op_sub (pe_ix (r := rIxT K) ix_tup (pv 1) pe_int (fun _ _ => rfl)) (pe_ix (r := rIxT K) ix_tup (pv 1) pe_int (fun _ _ => rfl))) (pv 0)) pe_int (nomark _)))))))))), ?_⟩
    walk_at "rd"
    rcases hw with ⟨p, xs, rfl, hp, hl, hy, rfl⟩ | ⟨t, ht, hne, rfl⟩
    · refine LH.x_isiT (b := true) (.tup hp) (by decide +kernel) ?_
      walk_at "rd"
      refine LH.x_lenT hp ?_
      walk_at "rd"
      refine LH.br_nd (fun c4 => ?_) (fun c4 => ?_)
      · walk_at "rd"
        rw [not_four (c := c) (by intro e; exact c4 (congrArg V.int e))] at k
        exact k _ (Same.refl _)
      · obtain ⟨kd, nu, ro, ho, rfl⟩ := four (by injection c4)
        walk_at "rd"
        refine LH.x_ixT hp rfl ?_
        walk_at "rd"
        obtain ⟨_, tk, htk⟩ := hy kd (by simp)
        obtain ⟨_, tn, htn⟩ := hy nu (by simp)
        obtain ⟨sr, tr, htr⟩ := hy ro (by simp)
        obtain ⟨_, th, hth⟩ := hy ho (by simp)
        have htk' := htk
        cases htk with
        | str z =>
          refine LH.x_isiT (b := true) htk' (by decide +kernel) ?_
          walk_at "rd"
          refine LH.x_ixT hp rfl ?_
          walk_at "rd"
          refine ⟨_, tn, _, _, rfl, htn, ?_⟩
          walk_at "rd"
          cases e1 : isW nu 0 9999 with
          | false =>
            walk_at "rd"
            rw [word_num e1] at k
            exact k _ (Same.refl _)
          | true =>
            obtain ⟨m, rfl, _⟩ := isW_int e1
            walk_at "rd"
            refine LH.x_ixT hp rfl ?_
            walk_at "rd"
            refine ⟨_, tr, rfl, htr, sr, fun H1 f1 => ?_⟩
            have hp1 := LH.Same.seqT f1 hp
            walk_at "rd"
            cases e3 : isRow ro with
            | false =>
              walk_at "rd"
              rw [word_row e3] at k
              exact k _ f1
            | true =>
              walk_at "rd"
              refine LH.x_ixT hp1 rfl ?_
              walk_at "rd"
              refine ⟨_, th, _, _, rfl, LH.Same.ty f1 hth, ?_⟩
              walk_at "rd"
              cases e2 : isW ho 0 (c - 1) with
              | false =>
                walk_at "rd"
                rw [word_house e2] at k
                exact k _ f1
              | true =>
                obtain ⟨o, rfl, o1, o2⟩ := isW_int e2
                walk_at "rd"
                have hk : isWordL c [.str z, .int m, ro, .int o] = isKind c (.str z) m o := by
                  show (isW (.int m) 0 9999 && (isW (.int o) 0 (c - 1) && (isRow ro && isKind c (.str z) m o))) = isKind c (.str z) m o
                  rw [e1, e2, e3, Bool.true_and, Bool.true_and, Bool.true_and]
                rw [hk] at k
                refine LH.x_ixT hp1 rfl ?_
                walk_at "rd"
                refine LH.br_d (fun h1 => ?_) (fun h1 => ?_)
                · have hz : z = "mark" := by injection h1
                  have e : isKind c (.str z) m o = true := by rw [hz]; rfl
                  rw [e] at k
                  exact k _ f1
                · walk_at "rd"
                  refine LH.x_ixT hp1 rfl ?_
                  walk_at "rd"
                  refine LH.br_d (fun h2 => ?_) (fun h2 => ?_)
                  · have hz : z = "say" := by injection h2
                    walk_at "rd"
                    refine LH.x_ixT hp1 rfl ?_
                    walk_at "rd"
                    refine LH.x_ixT hp1 rfl ?_
                    walk_at "rd"
                    have e : isKind c (.str z) m o = decide (V.int ((m - o).fmod c) = V.int 0) := by
                      show (if z = "say" then decide (o = m % c) else decide (z = "mark")) = _
                      rw [if_pos hz, fmod_pos c1, dint]
                      exact decide_eq_decide.mpr (mod_eq o1 (by omega))
                    rw [e] at k
                    exact k _ f1
                  · have e : isKind c (.str z) m o = false := by
                      show (if z = "say" then decide (o = m % c) else decide (z = "mark")) = false
                      rw [if_neg (fun q => h2 (congrArg V.str q)), decide_eq_false (fun q => h1 (congrArg V.str q))]
                    rw [e] at k
                    exact k _ f1
        | _ =>
          refine LH.x_isiT (b := false) htk' (by decide +kernel) ?_
          walk_at "rd"
          rw [word_kind (by intro z e; cases e)] at k
          exact k _ (Same.refl _)
    · have ht' := ht
      cases ht with
      | tup h => exact absurd rfl hne
      | _ =>
        refine LH.x_isiT (b := false) ht' (by decide +kernel) ?_
        walk_at "rd"
        exact k _ (Same.refl _)
/-! ### errors -/
def spKind (D : Addr) (x : Str) : LH.SpE := fun e cls d vs H Q => vs = [.ref e] ∧ cls = .ref D ∧ d = none ∧
  ∀ H' q, Same H H' → H' q = some (.tup [.str x]) → Q (.ref q) H'
theorem ok__law_kind (T : Txt K mg a) : LH.FnE P w K mg base 1 a._law_kind a.d__law_kind ["_law_error"] (spKind a.BadCount "count") := by
  refine LH.fnE_of T.F__law_kind sc__law_kind (fun e cls d vs H Q h => ?_) (fun cdv A outer s H vs Q p cls d hot hz hr h => ?_)
  · obtain ⟨rfl, _⟩ := h
    rfl
  · obtain ⟨rfl, rfl, rfl, k⟩ := h
    have hf : ∃ us, p.2.data = .fields us := let ⟨us, e, _⟩ := hot.2; ⟨us, e⟩
    have isP : ∀ {X : Cx}, X.K = K → X.pn = [p] → CallR X (.builtin "isinstance") (rIsE X.K a.BadCount p.1) := fun {X} e1 e2 =>
      LH.call_isP (oe := p.2) (by rw [e1]; exact T.c_BadCount) (by rw [e2]; exact List.mem_cons_self) hz.zc hf
    refine ⟨_, (pss_cons (ps_set (i := 1) sc__law_kind.nd rfl (Or.inl rfl) (pe_lst (pa_cons pe_str (pa_cons pe_str (pa_cons pe_str (pa_cons pe_str (pa_cons pe_str (pa_cons pe_str (pa_cons pe_str (pa_cons pe_str pa_nil))))))))))
  (pss_cons (ps_set (i := 2) sc__law_kind.nd rfl (Or.inl rfl) (pe_lst (pa_cons (pe_callB (isP rfl rfl) rfl T.n_isinstance (by decide +kernel) (pa_cons (pv 0) (pa_cons (pe_glob (v := .ref a.BadCount) rfl T.g_BadCount rfl) pa_nil))) (pa_cons (pe_callB (isP rfl rfl) rfl T.n_isinstance (by decide +kernel) (pa_cons (pv 0) (pa_cons (pe_glob (v := .ref a.BadHouse) rfl T.g_BadHouse rfl) pa_nil))) (pa_cons (pe_callB (isP rfl rfl) rfl T.n_isinstance (by decide +kernel) (pa_cons (pv 0) (pa_cons (pe_glob (v := .ref a.BadRow) rfl T.g_BadRow rfl) pa_nil))) pa_nil)))))
  (pss_cons (ps_set (i := 2) sc__law_kind.nd rfl (Or.inl rfl) (pe_op (r := LH.rCatS K) LH.op_catS (pv 2) (pe_lst (pa_cons (pe_callB (isP rfl rfl) rfl T.n_isinstance (by decide +kernel) (pa_cons (pv 0) (pa_cons (pe_glob (v := .ref a.BadWord) rfl T.g_BadWord rfl) pa_nil))) (pa_cons (pe_callB (isP rfl rfl) rfl T.n_isinstance (by decide +kernel) (pa_cons (pv 0) (pa_cons (pe_glob (v := .ref a.Forged) rfl T.g_Forged rfl) pa_nil))) (pa_cons (pe_callB (isP rfl rfl) rfl T.n_isinstance (by decide +kernel) (pa_cons (pv 0) (pa_cons (pe_glob (v := .ref a.NoLetter) rfl T.g_NoLetter rfl) pa_nil))) pa_nil))))))
  (pss_cons (ps_set (i := 2) sc__law_kind.nd rfl (Or.inl rfl) (pe_op (r := LH.rCatS K) LH.op_catS (pv 2) (pe_lst (pa_cons (pe_callB (isP rfl rfl) rfl T.n_isinstance (by decide +kernel) (pa_cons (pv 0) (pa_cons (pe_glob (v := .ref a.NotWritten) rfl T.g_NotWritten rfl) pa_nil))) (pa_cons (pe_callB (isP rfl rfl) rfl T.n_isinstance (by decide +kernel) (pa_cons (pv 0) (pa_cons (pe_glob (v := .ref a.NoText) rfl T.g_NoText rfl) pa_nil))) pa_nil)))))
  (pss_cons (ps_if (PW.pt (pw_or (pt_cmpR op_ne (pe_bm PySem.F.plainAttrs_list PySem.F.slot_list_count PySem.F.type_list_count LH.mt_cntV (pv 2) (pa_cons pe_bl pa_nil)) pe_int (nomark _)) (pw_or1 (pt_not (pt_val (pe_callB (isP rfl rfl) rfl T.n_isinstance (by decide +kernel) (pa_cons (pv 0) (pa_cons (pe_bltn (v := .ty "ValueError") rfl T.n_ValueError (by decide +kernel) rfl) pa_nil))))))))
    (pss_one (ps_ret (pe_tup (pa_cons pe_str pa_nil))))
    pss_nil)
  (pss_one (ps_ret (pe_tup (pa_cons (pe_ix (r := rIxL K) ix_list (pv 1) (pe_bm PySem.F.plainAttrs_list PySem.F.slot_list_index PySem.F.type_list_index mt_index (pv 2) (pa_cons pe_bl pa_nil)) (fun _ _ => rfl)) pa_nil))))))))), ?_⟩
    walk_at "rd"
    refine LH.newl (LH.small rfl) fun p1 H1 f1 e1 g1 => ?_
    walk_at "rd"
    refine LH.x_isE (fun _ e => e) T.i_BadCount ?_
    walk_at "rd"
    refine LH.x_isE (fun _ e => e) T.i_BadHouse ?_
    walk_at "rd"
    refine LH.x_isE (fun _ e => e) T.i_BadRow ?_
    walk_at "rd"
    refine LH.newl (LH.small rfl) fun p2 H2 f2 e2 g2 => ?_
    walk_at "rd"
    refine LH.x_isE (fun _ e => e) T.i_BadWord ?_
    walk_at "rd"
    refine LH.x_isE (fun _ e => e) T.i_Forged ?_
    walk_at "rd"
    refine LH.x_isE (fun _ e => e) T.i_NoLetter ?_
    walk_at "rd"
    refine LH.newl (LH.small rfl) fun p3 H3 f3 e3 g3 => ?_
    refine LH.x_catS (SqL.of (e3 _ _ g2)) (SqL.of g3) (LH.small rfl) fun p4 H4 f4 e4 g4 => ?_
    walk_at "rd"
    refine LH.x_isE (fun _ e => e) T.i_NotWritten ?_
    walk_at "rd"
    refine LH.x_isE (fun _ e => e) T.i_NoText ?_
    walk_at "rd"
    refine LH.newl (LH.small rfl) fun p5 H5 f5 e5 g5 => ?_
    refine LH.x_catS (SqL.of (e5 _ _ g4)) (SqL.of g5) (LH.small rfl) fun p6 H6 f6 e6 g6 => ?_
    walk_at "rd"
    refine LH.bm_l (SqL.of g6) ?_
    walk_at "rd"
    refine LH.x_cntV (SqL.of g6) rfl rfl ?_
    walk_at "rd"
    refine LH.br_eq (b' := false) (by decide) ?_
    walk_at "rd"
    refine LH.x_isE (fun _ e => e) T.i_ValueError ?_
    walk_at "rd"
    refine LH.bm_l (SqL.of g6) ?_
    walk_at "rd"
    refine LH.x_index (j := 0) (SqL.of g6) rfl rfl rfl rfl (fun m z h _ => absurd h (Nat.not_lt_zero _)) ?_
    refine LH.x_ixL (SqL.of (e6 _ _ (e5 _ _ (e4 _ _ (e3 _ _ (e2 _ _ g1)))))) rfl ?_
    walk_at "rd"
    refine LH.newt (LH.small rfl) fun p7 H7 f7 e7 g7 => ?_
    exact k _ _ ((((((e1.trans e2).trans e3).trans e4).trans e5).trans e6).trans e7) g7

end
end K4
namespace K4
open PySem L2
local macro_rules | `(tactic| walk_at "rd1") => `(tactic| first
  | with_reducible refine LH.x_seq ?_
  | with_reducible refine LH.x_asg ?_
  | with_reducible refine LH.x_cons ?_
  | with_reducible refine LH.x_var (by with_unfolding_all exact rfl) ?_
  | with_reducible refine LH.x_c ?_
  | with_reducible refine LH.x_op ?_
  | with_reducible refine LH.x_gname ?_
  | with_reducible refine LH.x_nil ?_
  | with_reducible refine LH.x_I0 ?_
  | ((with_reducible refine LH.x_I ?k1 ?_); (case k1 => first | exact (by decide) | exact ⟨by decide, by decide⟩ | exact ⟨by decide, by decide, by decide⟩ | exact .inl ⟨by decide, by decide⟩ | exact .inr ⟨by decide, by decide⟩ | exact .inr ⟨by omega, by omega⟩ | exact .inl ⟨by omega, by omega⟩ | exact (by omega)))
  | with_reducible refine LH.x_ifS ?_
  | with_reducible refine LH.x_test ?_
  | with_reducible refine LH.x_tB ?_
  | with_reducible refine LH.bx ?_
  | with_reducible refine LH.x_and ?_
  | with_reducible refine LH.x_or ?_
  | with_reducible refine LH.x_not ?_
  | with_reducible refine LH.x_ret ?_
  | with_reducible refine LH.x_call ?_
  | with_reducible refine LH.x_cb ?_
  | with_reducible refine LH.x_lst ?_
  | with_reducible refine LH.x_tup ?_
  | with_reducible refine LH.x_bm ?_
  | with_reducible refine LH.x_drop ?_
  | with_reducible refine LH.x_next ?_
  | with_reducible refine LH.x_cont ?_
  | with_reducible refine LH.x_un ?_
  | with_reducible refine LH.x_U ?_
  | with_reducible refine LH.x_eq (by with_unfolding_all exact rfl) ?_
  | with_reducible refine LH.x_ne (by with_unfolding_all exact rfl) ?_
  | with_reducible refine LH.x_andV ?_
  | with_reducible refine LH.x_orV ?_
  | with_reducible refine LH.x_notV ?_
  | with_reducible refine LH.band ?_
  | with_reducible refine LH.bor ?_
  | with_reducible refine LH.x_if ?_
  | with_reducible refine LH.x_chain ?_
  | with_reducible refine LH.chk ?_
  | with_reducible refine LH.x_callS ?_
  | with_reducible refine LH.x_callE ?_
  | with_reducible refine LH.x_callV ?_
  | with_reducible refine LH.x_lrg ?_
  | with_reducible refine LH.x_lcS ?_
  | with_reducible refine LH.x_lcR1 ?_
  | with_reducible refine LH.x_forR1 ?_
  | with_reducible refine LH.x_forR3 ?_
  | with_reducible refine LH.strv ?_
  | with_reducible refine LH.x_yes ?_
  | with_reducible refine LH.x_sl ?_
  | with_reducible refine LH.x_noPart ?_
  | with_reducible refine LH.x_part ?_
  | with_reducible refine LH.pav ?_
  | with_reducible refine LH.x_jnv ?_
  | with_reducible refine LH.x_join ?_
  | with_reducible refine LH.x_inS ?_
  | with_reducible refine LH.x_niS ?_
  | with_reducible refine LH.x_isB ?_
  | with_reducible refine LH.x_isnB ?_
  | with_reducible refine LH.x_gcons ?_
  | with_reducible refine LH.x_gnil ?_
  | with_reducible refine LH.x_intB ?_
  | with_reducible refine LH.x_orT ?_
  | with_reducible refine LH.x_isTy ?_
  | with_reducible refine LH.x_niTy ?_
  | with_reducible refine LH.x_split ?_
  | with_reducible refine LH.x_spv ?_
  | with_reducible refine LH.x_gsub ?_
  | with_reducible refine LH.x_fmt ?_
  | with_reducible refine LH.x_js0 ?_
  | with_reducible refine LH.x_js ?_
  | with_reducible refine LH.x_rg1 ?_
  | with_reducible refine LH.x_forL ?_
  | with_reducible refine LH.x_abs ?_
  | with_reducible refine LH.x_rg2 ?_
  | with_reducible refine LH.rg1v ?_
  | with_reducible refine LH.rg2v ?_
  | with_reducible refine LH.x_forR2 ?_
  | with_reducible refine LH.x_lenSetG ?_
  | with_reducible refine LH.x_lc ?_
  | with_reducible refine LH.br_nt ?_
  | with_reducible refine LH.br_nf ?_
  | with_reducible refine LH.br_t ?_
  | with_reducible refine LH.br_f ?_)
local macro_rules | `(tactic| walk_at "rd") => `(tactic| repeat (walk_at "rd1"))

section
variable {P : Program} {w : World} {K : PySem.W.Frag} {mg : Str → Option Value} {base : Heap} {a : Ad}
/-! ### enough, by the law -/
def en (c : Int) : Int := (c + (c - 1) / 3) / 2 + 1
def spEn : Sp := fun vs H Q _ => ∃ c : Int, vs = [.int c] ∧ 1 ≤ c ∧ c ≤ 12 ∧ Q (.int (en c)) H
theorem ok__law_enough (T : Txt K mg a) : FnOk P w K mg base CX0 1 a._law_enough a.d__law_enough ["_law_count"] spEn := by
  refine T.F__law_enough.ok sc__law_enough (fun vs H Q E h => ?_) (fun cdv A outer s H vs Q E hr h => ?_)
  · obtain ⟨c, rfl, _⟩ := h
    rfl
  · obtain ⟨c, rfl, c1, c2, k⟩ := h
    refine ⟨_, (pss_cons (ps_for PassesOwn.never rfl (pi_range2 rfl T.n_range (pa_cons pe_int (pa_cons (pe_op op_add (pv 0) pe_int) pa_nil))) (pg_name (i := 1) sc__law_enough.nd rfl (Or.inl rfl))
    (pss_one (ps_if (PW.pt (pw_and (pt_cmpR op_gt (pe_op op_mul pe_int (pe_op op_sub (pe_op op_mul pe_int (pv 1)) (pv 0))) pe_int (nomark _)) (pw_and1 (pt_cmpR op_gt (pe_op op_sub (pe_op op_mul pe_int (pv 1)) (pv 0)) (pe_op op_fdiv (pe_op op_sub (pv 0) pe_int) pe_int) (nomark _)))))
      (pss_one (ps_ret (pv 1)))
      pss_nil)))
  (pss_one (ps_ret (pv 0)))), ?_⟩
    walk_at "rd"
    refine LH.rn2v ⟨by omega, by omega⟩ ⟨by omega, by omega⟩ ?_
    refine LH.for_R1 (fun i σ H' => (∃ o, σ = [some (.int c), o]) ∧ H' = H ∧ (i : Int) < en c) ⟨⟨_, rfl⟩, rfl, by unfold en; omega⟩ ?_ ?_
    · rintro i σ H0 hi ⟨⟨o, rfl⟩, rfl, hlt⟩
      unfold en at hlt k
      walk_at "rd"
      refine LH.br_d (fun h1 => ?_) (fun h1 => ?_)
      · walk_at "rd"
        refine LH.br_d (fun h2 => ?_) (fun h2 => ?_)
        · walk_at "rd"
          have e : 1 + (i : Int) = (c + (c - 1) / 3) / 2 + 1 := by omega
          rw [e]
          exact k
        · walk_at "rd"
          exact ⟨⟨_, rfl⟩, rfl, by unfold en; omega⟩
      · walk_at "rd"
        exact ⟨⟨_, rfl⟩, rfl, by unfold en; omega⟩
    · rintro σ H0 ⟨⟨o, rfl⟩, rfl, hlt⟩
      exfalso
      unfold en at hlt
      omega
/-! ### some houses, by the law -/
theorem rg0 {c : Int} (h : 0 ≤ c) : rgV 0 c = ((List.range c.toNat).map fun i : Nat => (i : Int)).map V.int := by
  unfold rgV
  rw [List.map_map]
  simp
def spHs (K : PySem.W.Frag) : Sp := fun vs H Q _ => ∃ x c m : Int, vs = [.int x, .int c, .int m] ∧ 1 ≤ c ∧ c ≤ 12 ∧
  ∀ p H' (hs : List Int), Same H H' → H' p = some (.lst (hs.map V.int)) → hs.Nodup → (∀ h ∈ hs, 0 ≤ h ∧ h < c) → (hs.length : Int) = max 0 (min m c) → Q (.ref p) H'
theorem ok__law_houses (T : Txt K mg a) : FnOk P w K mg base CX0 1 a._law_houses a.d__law_houses ["_law_cell", "_law_count", "_law_many"] (spHs K) := by
  refine T.F__law_houses.ok sc__law_houses (fun vs H Q E h => ?_) (fun cdv A outer s H vs Q E hr h => ?_)
  · obtain ⟨c, _, _, rfl, _⟩ := h
    rfl
  · obtain ⟨x, c, m, rfl, c1, c2, k⟩ := h
    refine ⟨_, (pss_cons (ps_set (i := 3) sc__law_houses.nd rfl (Or.inl rfl) (pe_listRg rfl rfl T.n_list (prg_1 rfl T.n_range (pv 1))))
  (pss_cons (ps_set (i := 4) sc__law_houses.nd rfl (Or.inl rfl) (pe_lst pa_nil))
  (pss_cons (ps_while PassesOwn.never (pt_cmpR op_lt (pe_callB (r := LH.rLen K) LH.call_len rfl T.n_len (by decide +kernel) (pa_cons (pv 4) pa_nil)) (pe_callB (LH.call_minI rfl) rfl T.n_min (by decide +kernel) (pa_cons (pv 2) (pa_cons (pv 1) pa_nil))) (nomark _))
    (pss_cons (ps_expr (pe_bm PySem.F.plainAttrs_list PySem.F.slot_list_append PySem.F.type_list_append mt_append (pv 4) (pa_cons (pe_bm PySem.F.plainAttrs_list PySem.F.slot_list_pop PySem.F.type_list_pop mt_popAt (pv 3) (pa_cons (pe_op op_modN (pv 0) (pe_callB (r := LH.rLen K) LH.call_len rfl T.n_len (by decide +kernel) (pa_cons (pv 3) pa_nil))) pa_nil)) pa_nil)))
    (pss_one (ps_set (i := 0) sc__law_houses.nd rfl (Or.inl rfl) (pe_op op_add (pe_op op_fdiv (pv 0) pe_int) pe_int)))))
  (pss_one (ps_ret (pv 4)))))), ?_⟩
    walk_at "rd"
    refine LH.lrv ⟨by omega, by omega, by omega, by omega⟩ fun p1 H1 f1 e1 g1 => ?_
    walk_at "rd"
    refine LH.newl (LH.small rfl) fun p2 H2 f2 e2 g2 => ?_
    walk_at "rd"
    have ne : p1 ≠ p2 := fun q => by
      rw [q] at g1
      rw [f2] at g1
      cases g1
    have n2 : H p2 = none := LH.Same.none e1 f2
    have e2' : H2 p2 = some (.lst (([] : List Int).map V.int)) := g2
    refine LH.while_m (fun n σ H' => ∃ (cell : Int) (left found : List Int), σ = [some (.int cell), some (.int c), some (.int m), some (.ref p1), some (.ref p2)] ∧ H' p1 = some (.lst (left.map V.int)) ∧ H' p2 = some (.lst (found.map V.int)) ∧ Same H H' ∧ n = left.length ∧
      (found ++ left).Nodup ∧ (∀ h ∈ found ++ left, 0 ≤ h ∧ h < c) ∧ ((found ++ left).length : Int) = c ∧ (found.length : Int) ≤ max 0 (min m c)) c.toNat ?_ ?_
    · refine ⟨x, (List.range c.toNat).map fun i : Nat => (i : Int), [], rfl, ?_, e2' , e1.trans e2, by rw [List.length_map, List.length_range], ?_, ?_, ?_, by show (0 : Int) ≤ _; omega⟩
      · have := e2 _ _ g1
        rw [this, rg0]
        omega
      · rw [List.nil_append]
        exact (List.pairwise_map).mpr (List.Pairwise.imp (fun h q => h (by omega)) List.nodup_range)
      · intro h hm
        rw [List.nil_append] at hm
        obtain ⟨i, hi, rfl⟩ := List.mem_map.mp hm
        have := List.mem_range.mp hi
        omega
      · rw [List.nil_append, List.length_map, List.length_range]
        omega
    · rintro n σ H0 ⟨cell, left, found, rfl, gl, gf, e0, rfl, nd, rg, ln, le⟩
      rw [List.length_append] at ln
      walk_at "rd"
      refine LH.x_lenL (SqL.of gf) ?_
      walk_at "rd"
      refine LH.x_minI ?_
      walk_at "rd"
      refine LH.whb (fun c0 => ?_) (fun c0 => ?_)
      · have c0 := of_decide_eq_true c0
        rw [List.length_map] at c0
        have hpos : 0 < left.length := by omega
        walk_at "rd"
        refine LH.bm_l (SqL.of gf) ?_
        walk_at "rd"
        refine LH.bm_l (SqL.of gl) ?_
        walk_at "rd"
        refine LH.x_lenL (SqL.of gl) ?_
        refine LH.x_I (by rw [List.length_map]; omega) ?_
        walk_at "rd"
        obtain ⟨j, hj, ej⟩ : ∃ j : Nat, j < left.length ∧ cell.fmod (left.map V.int).length = (j : Int) := by
          rw [List.length_map, Int.fmod_eq_emod_of_nonneg _ (by omega)]
          have h1 := Int.emod_nonneg cell (show (left.length : Int) ≠ 0 by omega)
          have h2 := Int.emod_lt_of_pos cell (show (0 : Int) < left.length by omega)
          exact ⟨(cell % (left.length : Int)).toNat, by omega, by omega⟩
        rw [ej]
        refine LH.x_popAt gl (by omega) (by omega) (k := j) (y := .int left[j]) (by rw [seqIndex_of (by omega) (by rw [List.length_map]; omega)]; simp) (by rw [List.getElem?_map, List.getElem?_eq_getElem hj]; rfl) fun H3 k3 g3 => ?_
        walk_at "rd"
        refine LH.x_app (k3 _ _ gf ne.symm) (by rw [List.length_map]; omega) fun H4 k4 g4 => ?_
        walk_at "rd"
        have pm : (found ++ [left[j]] ++ left.eraseIdx j).Perm (found ++ left) := by
          rw [List.append_assoc]
          exact List.Perm.append_left found (LH.perm_erase left j hj)
        have lj : (left.eraseIdx j).length + 1 = left.length := by
          rw [List.length_eraseIdx_of_lt hj]
          omega
        refine ⟨_, ?_, _, left.eraseIdx j, found ++ [left[j]], rfl, ?_, ?_, ?_, rfl, ?_, ?_, ?_, ?_⟩
        · omega
        · rw [k4 _ _ g3 ne, LH.map_erase]
        · rw [g4, List.map_append]
          rfl
        · exact LH.Same.set (LH.Same.set e0 f1 k3) n2 k4
        · exact pm.nodup_iff.mpr nd
        · exact fun h hm => rg h (pm.mem_iff.mp hm)
        · rw [pm.length_eq, List.length_append]
          exact ln
        · rw [List.length_append, List.length_singleton]
          omega
      · have c0 := of_decide_eq_false c0
        rw [List.length_map] at c0
        walk_at "rd"
        refine k _ _ found e0 gf (List.nodup_append.mp nd).1 (fun h hm => rg h (List.mem_append.mpr (.inl hm))) ?_
        omega
end
end K4
namespace K4
open PySem L2
local macro_rules | `(tactic| walk_at "rd1") => `(tactic| first
  | with_reducible refine LH.x_seq ?_
  | with_reducible refine LH.x_asg ?_
  | with_reducible refine LH.x_cons ?_
  | with_reducible refine LH.x_var (by with_unfolding_all exact rfl) ?_
  | with_reducible refine LH.x_c ?_
  | with_reducible refine LH.x_op ?_
  | with_reducible refine LH.x_gname ?_
  | with_reducible refine LH.x_nil ?_
  | with_reducible refine LH.x_I0 ?_
  | ((with_reducible refine LH.x_I ?k1 ?_); (case k1 => first | exact (by decide) | exact ⟨by decide, by decide⟩ | exact ⟨by decide, by decide, by decide⟩ | exact .inl ⟨by decide, by decide⟩ | exact .inr ⟨by decide, by decide⟩ | exact .inr ⟨by omega, by omega⟩ | exact .inl ⟨by omega, by omega⟩ | exact (by omega)))
  | with_reducible refine LH.x_ifS ?_
  | with_reducible refine LH.x_test ?_
  | with_reducible refine LH.x_tB ?_
  | with_reducible refine LH.bx ?_
  | with_reducible refine LH.x_and ?_
  | with_reducible refine LH.x_or ?_
  | with_reducible refine LH.x_not ?_
  | with_reducible refine LH.x_ret ?_
  | with_reducible refine LH.x_call ?_
  | with_reducible refine LH.x_cb ?_
  | with_reducible refine LH.x_lst ?_
  | with_reducible refine LH.x_tup ?_
  | with_reducible refine LH.x_bm ?_
  | with_reducible refine LH.x_drop ?_
  | with_reducible refine LH.x_next ?_
  | with_reducible refine LH.x_cont ?_
  | with_reducible refine LH.x_un ?_
  | with_reducible refine LH.x_U ?_
  | with_reducible refine LH.x_eq (by with_unfolding_all exact rfl) ?_
  | with_reducible refine LH.x_ne (by with_unfolding_all exact rfl) ?_
  | with_reducible refine LH.x_andV ?_
  | with_reducible refine LH.x_orV ?_
  | with_reducible refine LH.x_notV ?_
  | with_reducible refine LH.band ?_
  | with_reducible refine LH.bor ?_
  | with_reducible refine LH.x_if ?_
  | with_reducible refine LH.x_chain ?_
  | with_reducible refine LH.chk ?_
  | with_reducible refine LH.x_callS ?_
  | with_reducible refine LH.x_callE ?_
  | with_reducible refine LH.x_callV ?_
  | with_reducible refine LH.x_lrg ?_
  | with_reducible refine LH.x_lcS ?_
  | with_reducible refine LH.x_lcR1 ?_
  | with_reducible refine LH.x_forR1 ?_
  | with_reducible refine LH.x_forR3 ?_
  | with_reducible refine LH.strv ?_
  | with_reducible refine LH.x_yes ?_
  | with_reducible refine LH.x_sl ?_
  | with_reducible refine LH.x_noPart ?_
  | with_reducible refine LH.x_part ?_
  | with_reducible refine LH.pav ?_
  | with_reducible refine LH.x_jnv ?_
  | with_reducible refine LH.x_join ?_
  | with_reducible refine LH.x_inS ?_
  | with_reducible refine LH.x_niS ?_
  | with_reducible refine LH.x_isB ?_
  | with_reducible refine LH.x_isnB ?_
  | with_reducible refine LH.x_gcons ?_
  | with_reducible refine LH.x_gnil ?_
  | with_reducible refine LH.x_intB ?_
  | with_reducible refine LH.x_orT ?_
  | with_reducible refine LH.x_isTy ?_
  | with_reducible refine LH.x_niTy ?_
  | with_reducible refine LH.x_split ?_
  | with_reducible refine LH.x_spv ?_
  | with_reducible refine LH.x_gsub ?_
  | with_reducible refine LH.x_fmt ?_
  | with_reducible refine LH.x_js0 ?_
  | with_reducible refine LH.x_js ?_
  | with_reducible refine LH.x_rg1 ?_
  | with_reducible refine LH.x_forL ?_
  | with_reducible refine LH.x_abs ?_
  | with_reducible refine LH.x_rg2 ?_
  | with_reducible refine LH.rg1v ?_
  | with_reducible refine LH.rg2v ?_
  | with_reducible refine LH.x_forR2 ?_
  | with_reducible refine LH.x_lenSetG ?_
  | with_reducible refine LH.x_lc ?_
  | with_reducible refine LH.br_nt ?_
  | with_reducible refine LH.br_nf ?_
  | with_reducible refine LH.br_t ?_
  | with_reducible refine LH.br_f ?_)
local macro_rules | `(tactic| walk_at "rd") => `(tactic| repeat (walk_at "rd1"))

section
variable {P : Program} {w : World} {K : PySem.W.Frag} {mg : Str → Option Value} {base : Heap} {a : Ad}
/-! ### lists of things that may be words -/
/-- a thing with no parts -/
inductive Fl : V → Prop
  | int (i : Int) : Fl (.int i)
  | bl (b : Bool) : Fl (.bl b)
  | str {z : Str} (h : Ok z) : Fl (.str z)
  | non : Fl .non
theorem Fl.gd {H : Hp} {y : V} (f : Fl y) : Gd K H y := by
  cases f with
  | int i => exact gd_int i
  | bl b => exact gd_bl b
  | str h => exact gd_str h
  | non => exact gd_non
mutual
theorem dp_up {H H' : Hp} (e : Same H H') {x : V} {d : PyData} (h : Dp K H x d) : Dp K H' x d := by
  cases h with
  | non => exact .non
  | bl b => exact .bl b
  | int i => exact .int i
  | str z => exact .str z
  | lst h a => exact .lst (Same.seq e h) (dps_up e a)
  | tup h a => exact .tup (LH.Same.seqT e h) (dps_up e a)
theorem dps_up {H H' : Hp} (e : Same H H') {xs : List V} {ds : List PyData} (h : DpAll K H xs ds) : DpAll K H' xs ds := by
  cases h with
  | nil => exact .nil
  | cons h t => exact .cons (dp_up e h) (dps_up e t)
end
/-- its data are plain -/
def Da (K : PySem.W.Frag) (H : Hp) (x : V) : Prop := ∃ e, Dp K H x e ∧ PyData.canLay0 e = true ∧ PyData.depth e ≤ 3
theorem Da.up {H H' : Hp} {x : V} (e : Same H H') (o : Da K H x) : Da K H' x := let ⟨d, h, r⟩ := o; ⟨d, dp_up e h, r⟩
theorem fl_data {H : Hp} {y : V} (f : Fl y) : ∃ e, Dp K H y e ∧ PyData.canLay0 e = true ∧ PyData.depth e ≤ 1 := by
  cases f with
  | int i => exact ⟨_, .int i, rfl, by simp [PyData.depth]⟩
  | bl b => exact ⟨_, .bl b, rfl, by simp [PyData.depth]⟩
  | str h => exact ⟨_, .str _, h.2, by simp [PyData.depth]⟩
  | non => exact ⟨_, .non, rfl, by simp [PyData.depth]⟩
theorem all_data {H : Hp} {b : Nat} : ∀ {xs : List V}, (∀ y ∈ xs, ∃ e, Dp K H y e ∧ PyData.canLay0 e = true ∧ PyData.depth e ≤ b) → ∃ es, DpAll K H xs es ∧ PyData.canLayAll0 es = true ∧ PyData.depthAll es ≤ b
  | [], _ => ⟨[], .nil, rfl, by simp [PyData.depthAll]⟩
  | x :: xs, h => by
    obtain ⟨e, h1, h2, h3⟩ := h x List.mem_cons_self
    obtain ⟨es, g1, g2, g3⟩ := all_data (xs := xs) fun y m => h y (List.mem_cons_of_mem _ m)
    refine ⟨e :: es, .cons h1 g1, by simp [PyData.canLayAll0, h2, g2], ?_⟩
    simp [PyData.depthAll]
    omega
theorem da_tup {H : Hp} {p : Addr} {xs : List V} (g : SqT K H p xs) (h : ∀ y ∈ xs, Fl y) : Da K H (.ref p) := by
  obtain ⟨es, g1, g2, g3⟩ := all_data (K := K) (H := H) (b := 1) fun y m => fl_data (h y m)
  exact ⟨_, .tup g g1, by simpa [PyData.canLay0] using g2, by simp [PyData.depth]; omega⟩
theorem da_lst {H : Hp} {p : Addr} {xs : List V} (g : SqL K H p xs) (h : ∀ y ∈ xs, Fl y) : Da K H (.ref p) := by
  obtain ⟨es, g1, g2, g3⟩ := all_data (K := K) (H := H) (b := 1) fun y m => fl_data (h y m)
  exact ⟨_, .lst g g1, by simpa [PyData.canLay0] using g2, by simp [PyData.depth]; omega⟩
/-- a tuple of these things, or no tuple -/
def Wi (K : PySem.W.Frag) (H : Hp) (x : V) (d : Option (List V)) : Prop := ((∃ p xs, x = .ref p ∧ SqT K H p xs ∧ xs.length ≤ 100000 ∧ (∀ y ∈ xs, Gd K H y) ∧ d = some xs) ∨ (∃ T, TyB K H x T ∧ T ≠ "tuple" ∧ d = none)) ∧ Da K H x
theorem Wi.up {H H' : Hp} {x : V} {d : Option (List V)} (e : Same H H') (o : Wi K H x d) : Wi K H' x d := by
  refine ⟨?_, o.2.up e⟩
  rcases o.1 with ⟨p, xs, rfl, h, hl, hy, rfl⟩ | ⟨t, h, ht, rfl⟩
  · exact .inl ⟨p, xs, rfl, LH.Same.seqT e h, hl, fun y m => (hy y m).up e, rfl⟩
  · exact .inr ⟨t, LH.Same.ty e h, ht, rfl⟩
def isWd (c : Int) : Option (List V) → Bool
  | some xs => isWordL c xs
  | none => false
theorem Wi.wd {H : Hp} {x : V} {d : Option (List V)} (c : Int) (o : Wi K H x d) : Wd K H c x (isWd c d) := by
  rcases o.1 with ⟨p, xs, rfl, h, hl, hy, rfl⟩ | ⟨t, h, ht, rfl⟩
  · exact .inl ⟨p, xs, rfl, h, hl, hy, rfl⟩
  · exact .inr ⟨t, h, ht, rfl⟩
def Wis (K : PySem.W.Frag) (H : Hp) (xs : List V) (ds : List (Option (List V))) : Prop := ds.length = xs.length ∧ ∀ (i : Nat) x d, xs[i]? = some x → ds[i]? = some d → Wi K H x d
theorem Wis.up {H H' : Hp} {xs : List V} {ds : List (Option (List V))} (e : Same H H') (o : Wis K H xs ds) : Wis K H' xs ds := ⟨o.1, fun i x d h1 h2 => (o.2 i x d h1 h2).up e⟩
theorem word_form {c : Int} {xs : List V} (h : isWordL c xs = true) : ∃ kd n r o, xs = wd kd n r o ∧ isRowS r = true ∧ 0 ≤ n ∧ n ≤ 9999 ∧ 0 ≤ o ∧ o ≤ c - 1 := by
  unfold isWordL at h
  split at h
  · rename_i kd n r o
    rw [Bool.and_eq_true, Bool.and_eq_true, Bool.and_eq_true] at h
    obtain ⟨h1, h2, h3, h4⟩ := h
    obtain ⟨n', en, n0, n1⟩ := isW_int h1
    obtain ⟨o', eo, o0, o1⟩ := isW_int h2
    cases en
    cases eo
    cases r with
    | str z =>
      cases kd with
      | str k => exact ⟨k, n, z, o, rfl, h3, n0, n1, o0, o1⟩
      | _ => cases h4
    | _ => cases h3
  · cases h
def mkOf (n : Int) (r : Str) : List V → Bool
  | .str k :: .int m :: .str z :: _ => decide (k = "mark") && (decide (m = n) && decide (z = r))
  | _ => false
def isMk (c n : Int) (r : Str) : Option (List V) → Bool
  | some xs => isWordL c xs && mkOf n r xs
  | none => false
def hsOf : Option (List V) → Int
  | some [_, _, _, .int h] => h
  | _ => 0
def backD (c n : Int) (r : Str) (ds : List (Option (List V))) : Bool := ds.all (isMk c n r) && (decide ((ds.map hsOf).Nodup) && decide (en c ≤ ds.length))
theorem mk_eqv {k z r : Str} {m n : Int} : PyData.eqv (.tuple [.str k, .int m, .str z]) (.tuple [.str "mark", .int n, .str r]) = (decide (k = "mark") && (decide (m = n) && decide (z = r))) := by
  have s : ∀ a b : Str, (a == b) = decide (a = b) := fun a b => by
    by_cases h : a = b
    · subst h; simp
    · rw [decide_eq_false h]
      exact beq_eq_false_iff_ne.mpr h
  have i : ∀ a b : Int, (a == b) = decide (a = b) := fun a b => by
    by_cases h : a = b
    · subst h; simp
    · rw [decide_eq_false h]
      exact beq_eq_false_iff_ne.mpr h
  simp [PyData.eqv, PyData.eqvAll, s, i]
theorem three_shaped {k z : Str} {m : Int} (h1 : Ok k) (h2 : Ok z) : SeqAt.shaped (.tuple [.str k, .int m, .str z]) = true := by
  have e1 : PyData.strOk k = true := h1.2
  have e2 : PyData.strOk z = true := h2.2
  unfold SeqAt.shaped
  rw [Bool.and_eq_true]
  refine ⟨?_, ?_⟩
  · simp [PyData.canLay0, PyData.canLayAll0, e1, e2]
  · simp [PyData.depth, PyData.depthAll]
theorem ok_mark : Ok "mark" := ⟨by decide +kernel, by decide +kernel⟩
theorem all_stop {α : Type} {f : α → Bool} {l : List α} {i : Nat} {x : α} (h : l[i]? = some x) (hf : f x = false) : l.all f = false := by
  cases hq : l.all f with
  | false => rfl
  | true => rw [List.all_eq_true.mp hq x (List.mem_of_getElem? h)] at hf; cases hf
theorem some_ints : ∀ l : List Int, (l.map fun h => some (V.int h)).filterMap id = l.map V.int
  | [] => rfl
  | h :: l => congrArg (fun z => V.int h :: z) (some_ints l)
def spLDue (K : PySem.W.Frag) : Sp := fun vs H Q _ => ∃ (c n : Int) (r : Str) (x : V), vs = [.int c, .int n, .str r, x] ∧ 1 ≤ c ∧ c ≤ 12 ∧ Ok r ∧
  ((∃ p xs ds, x = .ref p ∧ SqL K H p xs ∧ Wis K H xs ds ∧ xs.length ≤ 50 ∧ ∀ H', Same H H' → Q (.bl (backD c n r ds)) H') ∨ (∃ T, TyB K H x T ∧ T ≠ "list" ∧ ∀ H', Same H H' → Q (.bl false) H'))
theorem ok__law_due (T : Txt K mg a) : FnOk P w K mg base CX0 3 a._law_due a.d__law_due ["_law_count", "_law_number", "_law_row_here", "_law_words"] (spLDue K) := by
  have G__law_is_word := ok__law_is_word (P := P) (w := w) (base := base) T
  have G__law_enough := ok__law_enough (P := P) (w := w) (base := base) T
  refine T.F__law_due.ok sc__law_due (fun vs H Q E h => ?_) (fun cdv A outer s H vs Q E hr h => ?_)
  · obtain ⟨c, _, _, _, rfl, _⟩ := h
    rfl
  · obtain ⟨c, n, r, x, rfl, c1, c2, okr, h⟩ := h
    have HR__law_is_word : Room 2 _ := hr.mono (by decide)
    have HR__law_enough : Room 1 _ := hr.mono (by decide)
    refine ⟨_, (pss_cons (ps_if (pt_not (pt_val (pe_callB (r := rIsi K) call_isi rfl T.n_isinstance (by decide +kernel) (pa_cons (pv 3) (pa_cons (pe_bltn (v := .ty "list") rfl T.n_list (by decide +kernel) rfl) pa_nil)))))
    (pss_one (ps_ret pe_bl))
    pss_nil)
  (pss_cons (ps_for PassesOwn.never rfl (pi_list (pv 3)) (pg_name (i := 4) sc__law_due.nd rfl (Or.inl rfl))
    (pss_one (ps_if (PW.pt (pw_or (pt_not (pt_val (pe_call G__law_is_word HR__law_is_word rfl T.g__law_is_word T.F__law_is_word.kp T.b__law_is_word .nil pass0 (pa_cons (pv 0) (pa_cons (pv 4) pa_nil))))) (pw_or1 (pt_cmpR (r := rNeD K) (op_neD hr.units) (pe_slice sl_tupA (pv 4) po_none (po_some pe_int)) (pe_tup (pa_cons pe_str (pa_cons (pv 1) (pa_cons (pv 2) pa_nil)))) (nomark _)))))
      (pss_one (ps_ret pe_bl))
      pss_nil)))
  (pss_cons (ps_setLc (i := 5) (own := [("_law_word", 4)]) (g := gName 4) (tt := tYes) rfl sc__law_due.nd rfl rfl rfl (pi_list (pv 3)) (blkOk_by (N := N__law_due) (sc := defScope s__law_due) (by decide +kernel)) (fun _ _ _ _ _ => pg_name (i := 4) sc__law_due.nd rfl (Or.inl rfl)) (fun _ _ _ _ _ => pts_nil) (fun _ _ _ _ _ => (pe_ix (r := rIxT K) ix_tup (pv 4) pe_int (fun _ _ => rfl))))
  (pss_one (ps_ret (pe_and (pe_cmpR op_eq (LH.pe_lenSetG rfl rfl T.n_len rfl T.n_set (pv 5)) (pe_callB (r := LH.rLen K) LH.call_len rfl T.n_len (by decide +kernel) (pa_cons (pv 5) pa_nil)) (nomark _)) (pe_one (pe_cmpR op_ge (pe_callB (r := LH.rLen K) LH.call_len rfl T.n_len (by decide +kernel) (pa_cons (pv 5) pa_nil)) (pe_call G__law_enough HR__law_enough rfl T.g__law_enough T.F__law_enough.kp T.b__law_enough .nil pass0 (pa_cons (pv 0) pa_nil)) (nomark _))))))))), ?_⟩
    walk_at "rd"
    rcases h with ⟨p, xs, ds, rfl, hp, hw, hl, k⟩ | ⟨Tx, hx, ht, k⟩
    · refine LH.x_isiT (b := true) (.lst hp) (by decide +kernel) ?_
      walk_at "rd"
      refine LH.for_L hp (fun i σ H' => (∃ o4 o5, σ = [some (.int c), some (.int n), some (.str r), some (.ref p), o4, o5]) ∧ Same H H' ∧ (ds.take i).all (isMk c n r) = true) ⟨⟨_, _, rfl⟩, Same.refl _, rfl⟩ (fun i σ H' _ q => Same.seq q.2.1 hp) ?_ ?_
      · rintro i x σ H0 hi ⟨⟨o4, o5, rfl⟩, e0, al⟩
        have hlt : i < xs.length := (List.getElem?_eq_some_iff.mp hi).1
        obtain ⟨d, hd⟩ : ∃ d, ds[i]? = some d := ⟨_, List.getElem?_eq_getElem (by rw [hw.1]; exact hlt)⟩
        have wi := (hw.2 i x d hi hd).up e0
        have stop : isMk c n r d = false → backD c n r ds = false := fun q => by
          unfold backD
          rw [all_stop hd q, Bool.false_and]
        walk_at "rd"
        refine ⟨c, x, isWd c d, rfl, c1, wi.wd c, fun H1 e1 => ?_⟩
        have wi1 := wi.up e1
        cases hb : isWd c d with
        | false =>
          walk_at "rd"
          have e := stop (by
            cases d with
            | none => rfl
            | some ys =>
              have hb : isWordL c ys = false := hb
              show (isWordL c ys && _) = false
              rw [hb, Bool.false_and])
          rw [e] at k
          exact k _ (e0.trans e1)
        | true =>
          walk_at "rd"
          rcases wi1.1 with ⟨p1, ys, rfl, g1, yl, gy, rfl⟩ | ⟨_, _, _, rfl⟩
          · obtain ⟨kd, m, z, o, rfl, hz, _⟩ := word_form hb
            have okk : Ok kd := (gy (.str kd) (by simp)).1 kd rfl
            have hb' : isWordL c (wd kd m z o) = true := hb
            have em : isMk c n r (some (wd kd m z o)) = (decide (kd = "mark") && (decide (m = n) && decide (z = r))) := by
              show (isWordL c (wd kd m z o) && _) = _
              rw [hb', Bool.true_and]
              rfl
            refine LH.x_slA g1 fun p2 H2 e2 g2 => ?_
            walk_at "rd"
            refine LH.newt (LH.small rfl) fun p3 H3 f3 e3 g3 => ?_
            have g2' : SqT K H3 p2 [.str kd, .int m, .str z] := LH.Same.seqT e3 g2
            refine LH.x_neD (.tup g2' (.cons (.str _) (.cons (.int _) (.cons (.str _) .nil)))) (.tup (SqT.of g3) (.cons (.str _) (.cons (.int _) (.cons (.str _) .nil)))) (three_shaped okk (row_ok hz)) (three_shaped ok_mark okr) ?_
            rw [mk_eqv, ← em]
            have e03 := ((e0.trans e1).trans e2).trans e3
            cases hm : isMk c n r (some (wd kd m z o)) with
            | false =>
              walk_at "rd"
              rw [stop hm] at k
              exact k _ e03
            | true =>
              walk_at "rd"
              refine ⟨⟨_, _, rfl⟩, e03, ?_⟩
              rw [LH.take_more hd, List.all_append, al]
              simp [hm]
          · cases hb
      · rintro σ H0 ⟨⟨o4, o5, rfl⟩, e0, al⟩
        rw [← hw.1, List.take_length] at al
        walk_at "rd"
        refine LH.lc_Li (Same.seq e0 hp) (by omega) ((ds.map hsOf).map fun h => some (V.int h)) (by rw [List.length_map, List.length_map]; exact hw.1) (fun _ => rfl) ?_ ?_ fun p1 H1 f1 e1 g1 => ?_
        · intro i x o hx ho H3 e3 Q3 q3
          rw [List.getElem?_map] at ho
          obtain ⟨h, _, rfl⟩ := Option.map_eq_some_iff.mp ho
          walk_at "rd"
          exact q3 _ (Same.refl _)
        · intro i x y hx ho H3 e3 Q3 q3
          rw [List.getElem?_map, List.getElem?_map] at ho
          obtain ⟨h, h1, h2⟩ := Option.map_eq_some_iff.mp ho
          obtain ⟨d, hd, rfl⟩ := Option.map_eq_some_iff.mp h1
          injection h2 with h2
          subst h2
          have hm : isMk c n r d = true := List.all_eq_true.mp al d (List.mem_of_getElem? hd)
          rcases ((hw.2 i x d hx hd).up (e0.trans e3)).1 with ⟨p1, ys, rfl, g1, yl, gy, rfl⟩ | ⟨_, _, _, rfl⟩
          · have hb : isWordL c ys = true := by
              have hm : (isWordL c ys && mkOf n r ys) = true := hm
              rw [Bool.and_eq_true] at hm
              exact hm.1
            obtain ⟨kd, m, z, o, rfl, _⟩ := word_form hb
            walk_at "rd"
            exact LH.x_ixT g1 rfl (q3 _ (Same.refl _))
          · cases hm
        walk_at "rd"
        rw [some_ints] at g1
        have ll : (ds.map hsOf).length ≤ 50 := by rw [List.length_map, hw.1]; exact hl
        refine LH.lsv (SqL.of g1) (by omega) ?_
        walk_at "rd"
        refine LH.x_lenL (SqL.of g1) ?_
        walk_at "rd"
        have ek : backD c n r ds = (decide ((ds.map hsOf).Nodup) && decide (en c ≤ ds.length)) := by
          unfold backD
          rw [al, Bool.true_and]
        rw [ek] at k
        refine LH.br_d (fun q1 => ?_) (fun q1 => ?_)
        · walk_at "rd"
          have nd : (ds.map hsOf).Nodup := (LH.dist_eq _).mp (by injection q1 with q1; rw [List.length_map] at q1; omega)
          refine LH.x_lenL (SqL.of g1) ?_
          walk_at "rd"
          refine ⟨c, rfl, c1, c2, ?_⟩
          walk_at "rd"
          rw [decide_eq_true nd, Bool.true_and] at k
          have e : ((((ds.map hsOf).map V.int).length : Nat) : Int) = (ds.length : Int) := by rw [List.length_map, List.length_map]
          rw [e]
          exact k _ (e0.trans e1)
        · have nd : ¬ (ds.map hsOf).Nodup := fun nd => q1 (by rw [(LH.dist_eq _).mpr nd]; simp only [List.length_map])
          rw [decide_eq_false nd, Bool.false_and] at k
          exact k _ (e0.trans e1)
    · have hx' := hx
      cases hx with
      | lst h => exact absurd rfl ht
      | _ =>
        refine LH.x_isiT (b := false) hx' (by decide +kernel) ?_
        walk_at "rd"
        exact k _ (Same.refl _)
end
end K4
namespace K4
open PySem L2
local macro_rules | `(tactic| walk_at "rd1") => `(tactic| first
  | with_reducible refine LH.x_seq ?_
  | with_reducible refine LH.x_asg ?_
  | with_reducible refine LH.x_cons ?_
  | with_reducible refine LH.x_var (by with_unfolding_all exact rfl) ?_
  | with_reducible refine LH.x_c ?_
  | with_reducible refine LH.x_op ?_
  | with_reducible refine LH.x_gname ?_
  | with_reducible refine LH.x_nil ?_
  | with_reducible refine LH.x_I0 ?_
  | ((with_reducible refine LH.x_I ?k1 ?_); (case k1 => first | exact (by decide) | exact ⟨by decide, by decide⟩ | exact ⟨by decide, by decide, by decide⟩ | exact .inl ⟨by decide, by decide⟩ | exact .inr ⟨by decide, by decide⟩ | exact .inr ⟨by omega, by omega⟩ | exact .inl ⟨by omega, by omega⟩ | exact (by omega)))
  | with_reducible refine LH.x_ifS ?_
  | with_reducible refine LH.x_test ?_
  | with_reducible refine LH.x_tB ?_
  | with_reducible refine LH.bx ?_
  | with_reducible refine LH.x_and ?_
  | with_reducible refine LH.x_or ?_
  | with_reducible refine LH.x_not ?_
  | with_reducible refine LH.x_ret ?_
  | with_reducible refine LH.x_call ?_
  | with_reducible refine LH.x_cb ?_
  | with_reducible refine LH.x_lst ?_
  | with_reducible refine LH.x_tup ?_
  | with_reducible refine LH.x_bm ?_
  | with_reducible refine LH.x_drop ?_
  | with_reducible refine LH.x_next ?_
  | with_reducible refine LH.x_cont ?_
  | with_reducible refine LH.x_un ?_
  | with_reducible refine LH.x_U ?_
  | with_reducible refine LH.x_eq (by with_unfolding_all exact rfl) ?_
  | with_reducible refine LH.x_ne (by with_unfolding_all exact rfl) ?_
  | with_reducible refine LH.x_andV ?_
  | with_reducible refine LH.x_orV ?_
  | with_reducible refine LH.x_notV ?_
  | with_reducible refine LH.band ?_
  | with_reducible refine LH.bor ?_
  | with_reducible refine LH.x_if ?_
  | with_reducible refine LH.x_chain ?_
  | with_reducible refine LH.chk ?_
  | with_reducible refine LH.x_callS ?_
  | with_reducible refine LH.x_callE ?_
  | with_reducible refine LH.x_callV ?_
  | with_reducible refine LH.x_lrg ?_
  | with_reducible refine LH.x_lcS ?_
  | with_reducible refine LH.x_lcR1 ?_
  | with_reducible refine LH.x_forR1 ?_
  | with_reducible refine LH.x_forR3 ?_
  | with_reducible refine LH.strv ?_
  | with_reducible refine LH.x_yes ?_
  | with_reducible refine LH.x_sl ?_
  | with_reducible refine LH.x_noPart ?_
  | with_reducible refine LH.x_part ?_
  | with_reducible refine LH.pav ?_
  | with_reducible refine LH.x_jnv ?_
  | with_reducible refine LH.x_join ?_
  | with_reducible refine LH.x_inS ?_
  | with_reducible refine LH.x_niS ?_
  | with_reducible refine LH.x_isB ?_
  | with_reducible refine LH.x_isnB ?_
  | with_reducible refine LH.x_gcons ?_
  | with_reducible refine LH.x_gnil ?_
  | with_reducible refine LH.x_intB ?_
  | with_reducible refine LH.x_orT ?_
  | with_reducible refine LH.x_isTy ?_
  | with_reducible refine LH.x_niTy ?_
  | with_reducible refine LH.x_split ?_
  | with_reducible refine LH.x_spv ?_
  | with_reducible refine LH.x_gsub ?_
  | with_reducible refine LH.x_fmt ?_
  | with_reducible refine LH.x_js0 ?_
  | with_reducible refine LH.x_js ?_
  | with_reducible refine LH.x_rg1 ?_
  | with_reducible refine LH.x_forL ?_
  | with_reducible refine LH.x_abs ?_
  | with_reducible refine LH.x_rg2 ?_
  | with_reducible refine LH.rg1v ?_
  | with_reducible refine LH.rg2v ?_
  | with_reducible refine LH.x_forR2 ?_
  | with_reducible refine LH.x_lenSetG ?_
  | with_reducible refine LH.x_lc ?_
  | with_reducible refine LH.br_nt ?_
  | with_reducible refine LH.br_nf ?_
  | with_reducible refine LH.br_t ?_
  | with_reducible refine LH.br_f ?_)
local macro_rules | `(tactic| walk_at "rd") => `(tactic| repeat (walk_at "rd1"))

section
variable {P : Program} {w : World} {K : PySem.W.Frag} {mg : Str → Option Value} {base : Heap} {a : Ad}
def spLTruth : Sp := fun vs H Q _ => ∃ f d : Bool, vs = [.bl f, .bl d] ∧ Q (.bl (f == d)) H
theorem ok__law_truth (T : Txt K mg a) : FnOk P w K mg base CX0 1 a._law_truth a.d__law_truth ["_law_found", "_law_due_here"] spLTruth := by
  refine T.F__law_truth.ok sc__law_truth (fun vs H Q E h => ?_) (fun cdv A outer s H vs Q E hr h => ?_)
  · obtain ⟨f, d, rfl, _⟩ := h
    rfl
  · obtain ⟨f, d, rfl, k⟩ := h
    refine ⟨_, (pss_one (ps_ret (pe_and (pe_callB (r := rIsi K) call_isi rfl T.n_isinstance (by decide +kernel) (pa_cons (pv 0) (pa_cons (pe_bltn (v := .ty "bool") rfl T.n_bool (by decide +kernel) rfl) pa_nil))) (pe_one (pe_cmpR (r := rEqD K) (op_eqD hr.units) (pv 0) (pv 1) (nomark _)))))), ?_⟩
    walk_at "rd"
    refine LH.x_isiT (b := true) (.bl _) (by decide +kernel) ?_
    walk_at "rd"
    refine LH.x_eqD (.bl f) (.bl d) (by cases f <;> decide +kernel) (by cases d <;> decide +kernel) ?_
    have e : PyData.eqv (.bool f) (.bool d) = (f == d) := by cases f <;> cases d <;> decide +kernel
    rw [e]
    exact k
/-! ### lists of marks -/
theorem wi_tup {H : Hp} {p : Addr} {xs : List V} (g : SqT K H p xs) (hl : xs.length ≤ 100000) (hy : ∀ y ∈ xs, Fl y) : Wi K H (.ref p) (some xs) := ⟨.inl ⟨p, xs, rfl, g, hl, fun y m => (hy y m).gd, rfl⟩, da_tup g hy⟩
theorem wi_lst {H : Hp} {p : Addr} {xs : List V} (g : SqL K H p xs) (hy : ∀ y ∈ xs, Fl y) : Wi K H (.ref p) none := ⟨.inr ⟨_, .lst g, by decide, rfl⟩, da_lst g hy⟩
theorem wi_non {H : Hp} : Wi K H .non none := ⟨.inr ⟨_, .non, by decide, rfl⟩, ⟨_, .non, rfl, by simp [PyData.depth]⟩⟩
theorem fl4 {k r : Str} {m o : Int} (h1 : Ok k) (h2 : Ok r) : ∀ y ∈ wd k m r o, Fl y := fun y m => by
  simp only [List.mem_cons, List.not_mem_nil, or_false] at m
  rcases m with rfl | rfl | rfl | rfl
  · exact .str h1
  · exact .int _
  · exact .str h2
  · exact .int _
/-- a list of marks of one row at one number -/
def Mks (K : PySem.W.Frag) (H : Hp) (n : Int) (r : Str) (xs : List V) (hs : List Int) : Prop := hs.length = xs.length ∧ ∀ (i : Nat) x h, xs[i]? = some x → hs[i]? = some h → ∃ p, x = .ref p ∧ SqT K H p (wd "mark" n r h)
theorem Mks.up {H H' : Hp} {n : Int} {r : Str} {xs : List V} {hs : List Int} (e : Same H H') (o : Mks K H n r xs hs) : Mks K H' n r xs hs :=
  ⟨o.1, fun i x h h1 h2 => let ⟨p, e1, e2⟩ := o.2 i x h h1 h2; ⟨p, e1, LH.Same.seqT e e2⟩⟩
def mkD (n : Int) (r : Str) (h : Int) : Option (List V) := some (wd "mark" n r h)
theorem Mks.wis {H : Hp} {n : Int} {r : Str} {xs : List V} {hs : List Int} (okr : Ok r) (o : Mks K H n r xs hs) : Wis K H xs (hs.map (mkD n r)) := by
  refine ⟨by rw [List.length_map]; exact o.1, fun i x d hx hd => ?_⟩
  rw [List.getElem?_map] at hd
  obtain ⟨h, h1, rfl⟩ := Option.map_eq_some_iff.mp hd
  obtain ⟨p, rfl, g⟩ := o.2 i x h hx h1
  exact wi_tup g (LH.small rfl) (fl4 ok_mark okr)
def cutG {α : Type} (l : List α) (n : Nat) (lo hi : Option Int) : List α := (l.drop (HT.sIx n 0 lo)).take (HT.sIx n n hi - HT.sIx n 0 lo)
theorem cutG_len {α : Type} (l : List α) (n : Nat) (lo hi : Option Int) : (cutG l n lo hi).length ≤ l.length := by
  unfold cutG
  rw [List.length_take, List.length_drop]
  omega
theorem Wis.cut {H : Hp} {xs : List V} {ds : List (Option (List V))} (o : Wis K H xs ds) (lo hi : Option Int) : Wis K H (cutV xs lo hi) (cutG ds xs.length lo hi) := by
  have e : cutV xs lo hi = cutG xs xs.length lo hi := rfl
  rw [e]
  refine ⟨?_, fun i x d hx hd => ?_⟩
  · unfold cutG
    rw [List.length_take, List.length_drop, List.length_take, List.length_drop, o.1]
  · unfold cutG at hx hd
    rw [List.getElem?_take] at hx hd
    split at hx
    · rename_i hlt
      rw [if_pos hlt] at hd
      rw [List.getElem?_drop] at hx hd
      exact o.2 _ x d hx hd
    · cases hx
theorem Wis.app {H : Hp} {xs ys : List V} {ds es : List (Option (List V))} (o : Wis K H xs ds) (u : Wis K H ys es) : Wis K H (xs ++ ys) (ds ++ es) := by
  refine ⟨by rw [List.length_append, List.length_append, o.1, u.1], fun i x d hx hd => ?_⟩
  by_cases h : i < xs.length
  · rw [List.getElem?_append_left h] at hx
    rw [List.getElem?_append_left (by rw [o.1]; exact h)] at hd
    exact o.2 i x d hx hd
  · rw [List.getElem?_append_right (by omega)] at hx
    rw [List.getElem?_append_right (by rw [o.1]; omega), o.1] at hd
    exact u.2 _ x d hx hd
theorem Wis.one {H : Hp} {x : V} {d : Option (List V)} (o : Wi K H x d) : Wis K H [x] [d] :=
  ⟨rfl, fun i y e hx he => by
    cases i with
    | zero => cases hx; cases he; exact o
    | succ i => cases hx⟩
end
end K4
namespace K4
open PySem L2
local macro_rules | `(tactic| walk_at "rd1") => `(tactic| first
  | with_reducible refine LH.x_seq ?_
  | with_reducible refine LH.x_asg ?_
  | with_reducible refine LH.x_cons ?_
  | with_reducible refine LH.x_var (by with_unfolding_all exact rfl) ?_
  | with_reducible refine LH.x_c ?_
  | with_reducible refine LH.x_op ?_
  | with_reducible refine LH.x_gname ?_
  | with_reducible refine LH.x_nil ?_
  | with_reducible refine LH.x_I0 ?_
  | ((with_reducible refine LH.x_I ?k1 ?_); (case k1 => first | exact (by decide) | exact ⟨by decide, by decide⟩ | exact ⟨by decide, by decide, by decide⟩ | exact .inl ⟨by decide, by decide⟩ | exact .inr ⟨by decide, by decide⟩ | exact .inr ⟨by omega, by omega⟩ | exact .inl ⟨by omega, by omega⟩ | exact (by omega)))
  | with_reducible refine LH.x_ifS ?_
  | with_reducible refine LH.x_test ?_
  | with_reducible refine LH.x_tB ?_
  | with_reducible refine LH.bx ?_
  | with_reducible refine LH.x_and ?_
  | with_reducible refine LH.x_or ?_
  | with_reducible refine LH.x_not ?_
  | with_reducible refine LH.x_ret ?_
  | with_reducible refine LH.x_call ?_
  | with_reducible refine LH.x_cb ?_
  | with_reducible refine LH.x_lst ?_
  | with_reducible refine LH.x_tup ?_
  | with_reducible refine LH.x_bm ?_
  | with_reducible refine LH.x_drop ?_
  | with_reducible refine LH.x_next ?_
  | with_reducible refine LH.x_cont ?_
  | with_reducible refine LH.x_un ?_
  | with_reducible refine LH.x_U ?_
  | with_reducible refine LH.x_eq (by with_unfolding_all exact rfl) ?_
  | with_reducible refine LH.x_ne (by with_unfolding_all exact rfl) ?_
  | with_reducible refine LH.x_andV ?_
  | with_reducible refine LH.x_orV ?_
  | with_reducible refine LH.x_notV ?_
  | with_reducible refine LH.band ?_
  | with_reducible refine LH.bor ?_
  | with_reducible refine LH.x_if ?_
  | with_reducible refine LH.x_chain ?_
  | with_reducible refine LH.chk ?_
  | with_reducible refine LH.x_callS ?_
  | with_reducible refine LH.x_callE ?_
  | with_reducible refine LH.x_callV ?_
  | with_reducible refine LH.x_lrg ?_
  | with_reducible refine LH.x_lcS ?_
  | with_reducible refine LH.x_lcR1 ?_
  | with_reducible refine LH.x_forR1 ?_
  | with_reducible refine LH.x_forR3 ?_
  | with_reducible refine LH.strv ?_
  | with_reducible refine LH.x_yes ?_
  | with_reducible refine LH.x_sl ?_
  | with_reducible refine LH.x_noPart ?_
  | with_reducible refine LH.x_part ?_
  | with_reducible refine LH.pav ?_
  | with_reducible refine LH.x_jnv ?_
  | with_reducible refine LH.x_join ?_
  | with_reducible refine LH.x_inS ?_
  | with_reducible refine LH.x_niS ?_
  | with_reducible refine LH.x_isB ?_
  | with_reducible refine LH.x_isnB ?_
  | with_reducible refine LH.x_gcons ?_
  | with_reducible refine LH.x_gnil ?_
  | with_reducible refine LH.x_intB ?_
  | with_reducible refine LH.x_orT ?_
  | with_reducible refine LH.x_isTy ?_
  | with_reducible refine LH.x_niTy ?_
  | with_reducible refine LH.x_split ?_
  | with_reducible refine LH.x_spv ?_
  | with_reducible refine LH.x_gsub ?_
  | with_reducible refine LH.x_fmt ?_
  | with_reducible refine LH.x_js0 ?_
  | with_reducible refine LH.x_js ?_
  | with_reducible refine LH.x_rg1 ?_
  | with_reducible refine LH.x_forL ?_
  | with_reducible refine LH.x_abs ?_
  | with_reducible refine LH.x_rg2 ?_
  | with_reducible refine LH.rg1v ?_
  | with_reducible refine LH.rg2v ?_
  | with_reducible refine LH.x_forR2 ?_
  | with_reducible refine LH.x_lenSetG ?_
  | with_reducible refine LH.x_lc ?_
  | with_reducible refine LH.br_nt ?_
  | with_reducible refine LH.br_nf ?_
  | with_reducible refine LH.br_t ?_
  | with_reducible refine LH.br_f ?_)
local macro_rules | `(tactic| walk_at "rd") => `(tactic| repeat (walk_at "rd1"))

section
variable {P : Program} {w : World} {K : PySem.W.Frag} {mg : Str → Option Value} {base : Heap} {a : Ad}
theorem x_slL {H : Hp} {Q : VK} {p : Addr} {xs : List V} {lo hi : Option Int} (h : SqL K H p xs) (k : ∀ p' H2, H p' = none → Same H H2 → H2 p' = some (.lst (cutV xs lo hi)) → Q (.ref p') H2) : rSlL K (.ref p) lo hi H Q :=
  ⟨p, xs, rfl, h, fun q hq => k q _ hq (LH.Same.new hq) upd_same⟩
def mkP (n : Int) (r : Str) (h : Int) : PyData := .tuple [.str "mark", .int n, .str r, .int h]
theorem mks_data {H : Hp} {n : Int} {r : Str} : ∀ {xs : List V} {hs : List Int}, Mks K H n r xs hs → DpAll K H xs (hs.map (mkP n r))
  | [], [], _ => .nil
  | [], h :: hs, o => by cases o.1
  | x :: xs, [], o => by cases o.1
  | x :: xs, h :: hs, o => by
    obtain ⟨p, rfl, g⟩ := o.2 0 x h rfl rfl
    exact .cons (.tup g (.cons (.str _) (.cons (.int _) (.cons (.str _) (.cons (.int _) .nil))))) (mks_data ⟨by have := o.1; simpa using this, fun i x h h1 h2 => o.2 (i + 1) x h h1 h2⟩)
theorem mks_shaped {n : Int} {r : Str} (okr : Ok r) (hs : List Int) : SeqAt.shaped (.list (hs.map (mkP n r))) = true := by
  have e2 : PyData.strOk r = true := okr.2
  have e1 : PyData.strOk (Str.ofString "mark") = true := ok_mark.2
  have l : ∀ hs : List Int, PyData.canLayAll0 (hs.map (mkP n r)) = true := by
    intro hs
    induction hs with
    | nil => rfl
    | cons h hs ih => simp [PyData.canLayAll0, ih, mkP, PyData.canLay0, e1, e2]
  have d : ∀ hs : List Int, PyData.depthAll (hs.map (mkP n r)) ≤ 3 := by
    intro hs
    induction hs with
    | nil => simp [PyData.depthAll]
    | cons h hs ih => simp [PyData.depthAll, PyData.depth, mkP]; omega
  unfold SeqAt.shaped
  rw [Bool.and_eq_true]
  refine ⟨l hs, decide_eq_true ?_⟩
  have := d hs
  simp [PyData.depth]
  omega
theorem eqv_nil {l : List PyData} : PyData.eqv (.list l) (.list []) = l.isEmpty := by
  cases l <;> simp [PyData.eqv, PyData.eqvAll]
def spLSpoilt (K : PySem.W.Frag) : Sp := fun vs H Q _ => ∃ (p q : Addr) (x c n : Int) (r0 r1 : Str) (xs : List V) (hs : List Int), vs = [.ref p, .int x, .int c, .int n, .ref q] ∧ SqL K H p xs ∧ Mks K H n r0 xs hs ∧ xs.length ≤ 12 ∧
  SqL K H q [.str r0, .str r1] ∧ Ok r0 ∧ Ok r1 ∧ 1 ≤ c ∧ ∀ p' ys es H', Same H H' → H' p' = some (.lst ys) → Wis K H' ys es → ys.length ≤ 40 → Q (.ref p') H'
theorem ok_say : Ok "say" := ⟨by decide +kernel, by decide +kernel⟩
theorem eight {l : List V} (hl : l.length = 8) {i : Int} : ∃ v, atI l (i % 8) = some v ∧ v ∈ l := by
  obtain ⟨j, x, h1, h2⟩ := at_mod hl (by decide) i
  refine ⟨x, ?_, List.mem_of_getElem? h1⟩
  rw [Int.fmod_eq_emod_of_nonneg _ (by decide)] at h2
  exact h2
theorem ok__law_spoilt (T : Txt K mg a) : FnOk P w K mg base CX0 1 a._law_spoilt a.d__law_spoilt ["_law_words", "_law_cell", "_law_count", "_law_number", "_law_rows"] (spLSpoilt K) := by
  refine T.F__law_spoilt.ok sc__law_spoilt (fun vs H Q E h => ?_) (fun cdv A outer s H vs Q E hr h => ?_)
  · obtain ⟨_, _, _, _, _, _, _, _, _, rfl, _⟩ := h
    rfl
  · obtain ⟨p, q, x, c, n, r0, r1, xs, hs, rfl, hp, hm, hl, hq, ok0, ok1, c1, k⟩ := h
    refine ⟨_, (pss_cons (ps_set (i := 5) sc__law_spoilt.nd rfl (Or.inl rfl) (pe_op op_modN (pe_op op_fdiv (pv 1) pe_int) (pe_op op_add (pe_callB (r := LH.rLen K) LH.call_len rfl T.n_len (by decide +kernel) (pa_cons (pv 0) pa_nil)) pe_int)))
  (pss_cons (ps_set (i := 6) sc__law_spoilt.nd rfl (Or.inl rfl) (pe_op op_modN (pe_op op_fdiv (pv 1) pe_int) (pv 2)))
  (pss_cons (ps_if (pt_cmpR op_eq (pe_op op_mod (pv 1) pe_int) pe_int (nomark _))
    (pss_one (ps_ret (pe_op (r := LH.rCatS K) LH.op_catS (pe_slice sl_list (pv 0) po_none (po_some (pv 5))) (pe_slice sl_list (pv 0) (po_some (pe_op op_add (pv 5) pe_int)) po_none))))
    pss_nil)
  (pss_cons (ps_if (pt_cmpR op_eq (pe_op op_mod (pv 1) pe_int) pe_int (nomark _))
    (pss_one (ps_ret (pe_op (r := LH.rCatS K) LH.op_catS (pe_op (r := LH.rCatS K) LH.op_catS (pe_slice sl_list (pv 0) po_none (po_some (pv 5))) (pe_slice sl_list (pv 0) (po_some (pe_op op_sub (pv 5) pe_int)) (po_some (pv 5)))) (pe_slice sl_list (pv 0) (po_some (pv 5)) po_none))))
    pss_nil)
  (pss_cons (ps_set (i := 7) sc__law_spoilt.nd rfl (Or.inl rfl) (pe_lst (pa_cons (pe_tup (pa_cons pe_str (pa_cons (pe_op op_add (pv 3) (pv 2)) (pa_cons (pe_ix (r := rIxL K) ix_list (pv 4) pe_int (fun _ _ => rfl)) (pa_cons (pv 6) pa_nil))))) (pa_cons (pe_tup (pa_cons pe_str (pa_cons (pv 3) (pa_cons (pe_ix (r := rIxL K) ix_list (pv 4) pe_int (fun _ _ => rfl)) (pa_cons (pv 6) pa_nil))))) pa_nil))))
  (pss_cons (ps_set (i := 7) sc__law_spoilt.nd rfl (Or.inl rfl) (pe_op (r := LH.rCatS K) LH.op_catS (pv 7) (pe_lst (pa_cons (pe_tup (pa_cons pe_str (pa_cons (pv 3) (pa_cons (pe_ix (r := rIxL K) ix_list (pv 4) pe_int (fun _ _ => rfl)) (pa_cons (pe_op op_modN (pv 3) (pv 2)) pa_nil))))) (pa_cons (pe_tup (pa_cons pe_str (pa_cons (pv 3) (pa_cons (pe_ix (r := rIxL K) ix_list (pv 4) pe_int (fun _ _ => rfl)) (pa_cons (pv 2) pa_nil))))) (pa_cons pe_non (pa_cons (pe_lst (pa_cons pe_str pa_nil)) pa_nil)))))))
  (pss_cons (ps_set (i := 7) sc__law_spoilt.nd rfl (Or.inl rfl) (pe_op (r := LH.rCatS K) LH.op_catS (pv 7) (pe_lst (pa_cons (pe_lst (pa_cons pe_str (pa_cons (pv 3) (pa_cons (pe_ix (r := rIxL K) ix_list (pv 4) pe_int (fun _ _ => rfl)) (pa_cons (pv 6) pa_nil))))) (pa_cons (pe_tup (pa_cons pe_str (pa_cons (pv 3) (pa_cons (pe_ix (r := rIxL K) ix_list (pv 4) pe_int (fun _ _ => rfl)) (pa_cons (pv 6) (pa_cons pe_int pa_nil)))))) pa_nil)))))
  (pss_cons (ps_if (PW.pt (pw_and (pt_cmpR op_gt (pe_op op_mod (pv 1) pe_int) pe_int (nomark _)) (pw_and1 (pt_cmpR (r := rNeD K) (op_neD hr.units) (pv 0) (pe_lst pa_nil) (nomark _)))))
    (pss_cons (ps_set (i := 5) sc__law_spoilt.nd rfl (Or.inl rfl) (pe_op op_modN (pe_op op_fdiv (pv 1) pe_int) (pe_callB (r := LH.rLen K) LH.call_len rfl T.n_len (by decide +kernel) (pa_cons (pv 0) pa_nil))))
    (pss_cons (ps_set (i := 8) sc__law_spoilt.nd rfl (Or.inl rfl) (pe_ix (r := rIxL K) ix_list (pv 0) (pv 5) (fun _ _ => rfl)))
    (pss_cons (ps_if (PW.pt (pw_or (pt_cmpR op_lt (pe_ix (r := rIxT K) ix_tup (pv 8) pe_int (fun _ _ => rfl)) pe_int (nomark _)) (pw_or1 (pt_cmpR op_gt (pv 3) pe_int (nomark _)))))
      (pss_one (ps_ret (pe_op (r := LH.rCatS K) LH.op_catS (pe_op (r := LH.rCatS K) LH.op_catS (pe_slice sl_list (pv 0) po_none (po_some (pv 5))) (pe_lst (pa_cons (pe_op (r := rCatA K) op_catA (pe_slice sl_tupA (pv 8) po_none (po_some pe_int)) (pe_tup (pa_cons (pe_cmpR op_eq (pe_ix (r := rIxT K) ix_tup (pv 8) pe_int (fun _ _ => rfl)) pe_int (nomark _)) pa_nil))) pa_nil))) (pe_slice sl_list (pv 0) (po_some (pe_op op_add (pv 5) pe_int)) po_none))))
      pss_nil)
    (pss_one (ps_ret (pe_op (r := LH.rCatS K) LH.op_catS (pe_op (r := LH.rCatS K) LH.op_catS (pe_slice sl_list (pv 0) po_none (po_some (pv 5))) (pe_lst (pa_cons (pe_tup (pa_cons pe_str (pa_cons (pe_cmpR op_eq (pv 3) pe_int (nomark _)) (pa_cons (pe_ix (r := rIxL K) ix_list (pv 4) pe_int (fun _ _ => rfl)) (pa_cons (pe_ix (r := rIxT K) ix_tup (pv 8) pe_int (fun _ _ => rfl)) pa_nil))))) pa_nil))) (pe_slice sl_list (pv 0) (po_some (pe_op op_add (pv 5) pe_int)) po_none)))))))
    pss_nil)
  (pss_one (ps_ret (pe_op (r := LH.rCatS K) LH.op_catS (pe_op (r := LH.rCatS K) LH.op_catS (pe_slice sl_list (pv 0) po_none (po_some (pv 5))) (pe_lst (pa_cons (pe_ix (r := rIxL K) ix_list (pv 7) (pe_op op_mod (pe_op op_fdiv (pv 1) pe_int) pe_int) (fun _ _ => rfl)) pa_nil))) (pe_slice sl_list (pv 0) (po_some (pe_op op_add (pv 5) pe_int)) po_none)))))))))))), ?_⟩
    have hw := hm.wis ok0
    walk_at "rd"
    refine LH.x_lenL hp ?_
    walk_at "rd"
    obtain ⟨at_, hat, eat⟩ := mod_at (x / 8) xs.length
    rw [eat, fmod_pos c1]
    generalize x / 104 % c = ho
    refine LH.br_d (fun _ => ?_) (fun _ => ?_)
    · walk_at "rd"
      refine x_slL hp fun p1 H1 f1 e1 g1 => ?_
      walk_at "rd"
      refine x_slL (Same.seq e1 hp) fun p2 H2 f2 e2 g2 => ?_
      have l1 := cutV_length xs none (some (at_ : Int))
      have l2 := cutV_length xs (some ((at_ : Int) + 1)) none
      refine LH.x_catS (SqL.of (e2 _ _ g1)) (SqL.of g2) (by omega) fun p3 H3 f3 e3 g3 => ?_
      have e13 := (e1.trans e2).trans e3
      exact k _ _ _ _ e13 g3 (((hw.cut _ _).app (hw.cut _ _)).up e13) (by rw [List.length_append]; omega)
    walk_at "rd"
    refine LH.br_d (fun _ => ?_) (fun _ => ?_)
    · walk_at "rd"
      refine x_slL hp fun p1 H1 f1 e1 g1 => ?_
      walk_at "rd"
      refine x_slL (Same.seq e1 hp) fun p2 H2 f2 e2 g2 => ?_
      have l1 := cutV_length xs none (some (at_ : Int))
      have l2 := cutV_length xs (some ((at_ : Int) - 1)) (some (at_ : Int))
      have l3 := cutV_length xs (some (at_ : Int)) none
      refine LH.x_catS (SqL.of (e2 _ _ g1)) (SqL.of g2) (by omega) fun p3 H3 f3 e3 g3 => ?_
      walk_at "rd"
      have e13 := (e1.trans e2).trans e3
      refine x_slL (Same.seq e13 hp) fun p4 H4 f4 e4 g4 => ?_
      refine LH.x_catS (SqL.of (e4 _ _ g3)) (SqL.of g4) (by rw [List.length_append]; omega) fun p5 H5 f5 e5 g5 => ?_
      have e15 := (e13.trans e4).trans e5
      exact k _ _ _ _ e15 g5 ((((hw.cut _ _).app (hw.cut _ _)).app (hw.cut _ _)).up e15) (by rw [List.length_append, List.length_append]; omega)
    walk_at "rd"
    refine LH.x_ixL hq rfl ?_
    walk_at "rd"
    refine LH.newt (LH.small rfl) fun t1 H1 f1 e1 g1 => ?_
    walk_at "rd"
    refine LH.x_ixL (Same.seq e1 hq) rfl ?_
    walk_at "rd"
    refine LH.newt (LH.small rfl) fun t2 H2 f2 e2 g2 => ?_
    walk_at "rd"
    refine LH.newl (LH.small rfl) fun l1 H3 f3 e3 g3 => ?_
    walk_at "rd"
    have e03 := (e1.trans e2).trans e3
    refine LH.x_ixL (Same.seq e03 hq) rfl ?_
    walk_at "rd"
    refine LH.newt (LH.small rfl) fun t3 H4 f4 e4 g4 => ?_
    walk_at "rd"
    have e04 := e03.trans e4
    refine LH.x_ixL (Same.seq e04 hq) rfl ?_
    walk_at "rd"
    refine LH.newt (LH.small rfl) fun t4 H5 f5 e5 g5 => ?_
    walk_at "rd"
    refine LH.newl (LH.small rfl) fun l2 H6 f6 e6 g6 => ?_
    walk_at "rd"
    refine LH.newl (LH.small rfl) fun l3 H7 f7 e7 g7 => ?_
    have e37 := ((e4.trans e5).trans e6).trans e7
    refine LH.x_catS (SqL.of (e37 _ _ g3)) (SqL.of g7) (LH.small rfl) fun l4 H8 f8 e8 g8 => ?_
    walk_at "rd"
    have e08 := (e03.trans e37).trans e8
    refine LH.x_ixL (Same.seq e08 hq) rfl ?_
    walk_at "rd"
    refine LH.newl (LH.small rfl) fun l5 H9 f9 e9 g9 => ?_
    walk_at "rd"
    have e09 := e08.trans e9
    refine LH.x_ixL (Same.seq e09 hq) rfl ?_
    walk_at "rd"
    refine LH.newt (LH.small rfl) fun t5 H10 f10 e10 g10 => ?_
    walk_at "rd"
    refine LH.newl (LH.small rfl) fun l6 H11 f11 e11 g11 => ?_
    have e811 := (e9.trans e10).trans e11
    refine LH.x_catS (SqL.of (e811 _ _ g8)) (SqL.of g11) (LH.small rfl) fun l7 H12 f12 e12 g12 => ?_
    have e012 := (e08.trans e811).trans e12
    have hp' := Same.seq e012 hp
    have hq' := Same.seq e012 hq
    walk_at "rd"
    have odd8 : ∀ v ∈ [V.ref t1, V.ref t2] ++ [V.ref t3, V.ref t4, V.non, V.ref l2] ++ [V.ref l5, V.ref t5], ∃ d, Wi K H12 v d := fun v m => by
      have g1' := e12 _ _ (e811 _ _ (e8 _ _ (e37 _ _ (e3 _ _ (e2 _ _ g1)))))
      have g2' := e12 _ _ (e811 _ _ (e8 _ _ (e37 _ _ (e3 _ _ g2))))
      have g4' := e12 _ _ (e811 _ _ (e8 _ _ (e7 _ _ (e6 _ _ (e5 _ _ g4)))))
      have g5' := e12 _ _ (e811 _ _ (e8 _ _ (e7 _ _ (e6 _ _ g5))))
      have g6' := e12 _ _ (e811 _ _ (e8 _ _ (e7 _ _ g6)))
      have g9' := e12 _ _ (e11 _ _ (e10 _ _ g9))
      have g10' := e12 _ _ (e11 _ _ g10)
      simp only [List.cons_append, List.nil_append, List.mem_cons, List.not_mem_nil, or_false] at m
      rcases m with rfl | rfl | rfl | rfl | rfl | rfl | rfl | rfl
      · exact ⟨_, wi_tup (SqT.of g1') (LH.small rfl) (fl4 ok_mark ok0)⟩
      · exact ⟨_, wi_tup (SqT.of g2') (LH.small rfl) (fl4 ok_mark ok1)⟩
      · exact ⟨_, wi_tup (SqT.of g4') (LH.small rfl) (fl4 ok_say ok0)⟩
      · exact ⟨_, wi_tup (SqT.of g5') (LH.small rfl) (fl4 ok_mark ok0)⟩
      · exact ⟨_, wi_non⟩
      · exact ⟨_, wi_lst (SqL.of g6') (fun y m => by rw [List.mem_singleton] at m; subst m; exact .str ok_mark)⟩
      · exact ⟨_, wi_lst (SqL.of g9') (fl4 ok_mark ok0)⟩
      · exact ⟨_, wi_tup (SqT.of g10') (LH.small rfl) (fun y m => by
          rcases List.mem_append.mp (show y ∈ wd "mark" n r0 ho ++ [.int 0] from m) with m | m
          · exact fl4 ok_mark ok0 y m
          · rw [List.mem_singleton] at m
            subst m
            exact .int _)⟩
    have len1 : ∀ i, (cutV xs none (some i)).length ≤ 12 := fun i => Nat.le_trans (cutV_length _ _ _) hl
    have len2 : ∀ i, (cutV xs (some i) none).length ≤ 12 := fun i => Nat.le_trans (cutV_length _ _ _) hl
    have fin : ∀ {H5 H9 : Hp} {i : Int} {p5 : Addr} {v : V} {d : Option (List V)}, Same H H5 → Same H5 H9 → Wi K H5 v d → H9 p5 = some (.lst (cutV xs none (some i) ++ [v] ++ cutV xs (some (i + 1)) none)) → Q (.ref p5) H9 := fun {H5 H9 i p5 v d} e05 e59 wv g9 =>
      k _ _ _ _ (e05.trans e59) g9 ((((hw.cut _ _).up (e05.trans e59)).app (Wis.one (wv.up e59))).app ((hw.cut _ _).up (e05.trans e59))) (by have := len1 i; have := len2 (i + 1); rw [List.length_append, List.length_append]; show _ + 1 + _ ≤ _; omega)
    refine LH.br_d (fun _ => ?_) (fun _ => ?_)
    · walk_at "rd"
      refine LH.newl (LH.small rfl) fun b1 Hb fb eb gb => ?_
      have hmb := hm.up (e012.trans eb)
      refine LH.x_neD (.lst (Same.seq eb hp') (mks_data hmb)) (.lst (SqL.of gb) .nil) (mks_shaped ok0 hs) (by decide +kernel) ?_
      rw [eqv_nil]
      by_cases hx : xs = []
      · have hz : hs = [] := List.eq_nil_of_length_eq_zero (by rw [hm.1, hx]; rfl)
        walk_at "rd"
        refine LH.br_eq (b' := false) (by rw [hz]; rfl) (LH.br_f ?_)
        walk_at "rd"
        refine x_slL (Same.seq eb hp') fun p1 H13 f13 e13 g13 => ?_
        walk_at "rd"
        obtain ⟨v, hv, mv⟩ := eight (l := [V.ref t1, V.ref t2] ++ [V.ref t3, V.ref t4, V.non, V.ref l2] ++ [V.ref l5, V.ref t5]) rfl (i := x / 1300)
        obtain ⟨d, hd⟩ := odd8 v mv
        refine LH.x_ixL (SqL.of (e13 _ _ (eb _ _ g12))) hv ?_
        walk_at "rd"
        have we := ((hd.up eb).up e13)
        refine LH.newl (LH.small rfl) fun q2 G6 h6 d6 k6 => ?_
        refine LH.x_catS (SqL.of (d6 _ _ (g13))) (SqL.of k6) (by have := len1 (at_ : Int); show _ + 1 ≤ _; omega) fun q3 G7 h7 d7 k7 => ?_
        walk_at "rd"
        refine x_slL (Same.seq (((((e012.trans eb).trans e13)).trans d6).trans d7) hp) fun q4 G8 h8 d8 k8 => ?_
        refine LH.x_catS (SqL.of (d8 _ _ k7)) (SqL.of k8) (by have := len1 (at_ : Int); have := len2 ((at_ : Int) + 1); rw [List.length_append]; show _ + 1 + _ ≤ _; omega) fun q5 G9 h9 d9 k9 => ?_
        exact fin (((e012.trans eb).trans e13)) (((d6.trans d7).trans d8).trans d9) we k9
      · have hpos : 0 < xs.length := List.length_pos_iff.mpr hx
        have hz : hs ≠ [] := fun q => by
          have := hm.1
          rw [q] at this
          simp at this
          omega
        walk_at "rd"
        refine LH.br_eq (b' := true) (by
          cases hs with
          | nil => exact absurd rfl hz
          | cons h l => rfl) (LH.br_t ?_)
        walk_at "rd"
        refine LH.x_lenL (Same.seq eb hp') ?_
        refine LH.x_I (by omega) ?_
        walk_at "rd"
        obtain ⟨j, hjl, ej⟩ : ∃ j : Nat, j < xs.length ∧ (x / 8).fmod xs.length = (j : Int) := by
          rw [Int.fmod_eq_emod_of_nonneg _ (by omega)]
          have h1 := Int.emod_nonneg (x / 8) (show (xs.length : Int) ≠ 0 by omega)
          have h2 := Int.emod_lt_of_pos (x / 8) (show (0 : Int) < xs.length by omega)
          exact ⟨(x / 8 % (xs.length : Int)).toNat, by omega, by omega⟩
        obtain ⟨pt, ept, gpt⟩ := hmb.2 j xs[j] (hs[j]'(by rw [hm.1]; exact hjl)) (List.getElem?_eq_getElem hjl) (List.getElem?_eq_getElem (by rw [hm.1]; exact hjl))
        generalize hs[j]'(by rw [hm.1]; exact hjl) = hj at gpt
        rw [ej]
        refine LH.x_ixL (v := .ref pt) (Same.seq eb hp') (by rw [← ept]; exact atI_nat (List.getElem?_eq_getElem hjl)) ?_
        walk_at "rd"
        refine LH.x_ixT gpt rfl ?_
        walk_at "rd"
        refine LH.br_d (fun _ => ?_) (fun _ => ?_)
        · walk_at "rd"
          refine x_slL (Same.seq eb hp') fun p2 H13 f13 e13 g13 => ?_
          walk_at "rd"
          refine LH.x_slA (LH.Same.seqT e13 gpt) fun t6 H14 e14 g14 => ?_
          walk_at "rd"
          refine LH.x_ixT (LH.Same.seqT (e13.trans e14) gpt) rfl ?_
          walk_at "rd"
          refine LH.newt (LH.small rfl) fun t7 H15 f15 e15 g15 => ?_
          have lc := cutV_length (wd "mark" n r0 hj) none (some 3)
          have l4 : (wd "mark" n r0 hj).length = 4 := rfl
          refine LH.x_catA (LH.Same.seqT e15 g14) (SqT.of g15) (by show _ + 1 ≤ _; omega) fun t8 H16 e16 g16 => ?_
          walk_at "rd"
          have e1316 := (e14.trans e15).trans e16
          have wv : ∃ d, Wi K H16 (.ref t8) d := by
            refine ⟨_, wi_tup g16 (by rw [List.length_append]; show _ + 1 ≤ _; omega) fun y m => ?_⟩
            rcases List.mem_append.mp m with m | m
            · exact fl4 ok_mark ok0 y (List.mem_of_mem_drop (List.mem_of_mem_take m))
            · rw [List.mem_singleton] at m
              subst m
              exact .bl _
          obtain ⟨dv, wv⟩ := wv
          have we := wv
          refine LH.newl (LH.small rfl) fun q2 G6 h6 d6 k6 => ?_
          refine LH.x_catS (SqL.of (d6 _ _ ((e1316 _ _ g13)))) (SqL.of k6) (by have := len1 (j : Int); show _ + 1 ≤ _; omega) fun q3 G7 h7 d7 k7 => ?_
          walk_at "rd"
          refine x_slL (Same.seq (((((e012.trans eb).trans (e13.trans e1316))).trans d6).trans d7) hp) fun q4 G8 h8 d8 k8 => ?_
          refine LH.x_catS (SqL.of (d8 _ _ k7)) (SqL.of k8) (by have := len1 (j : Int); have := len2 ((j : Int) + 1); rw [List.length_append]; show _ + 1 + _ ≤ _; omega) fun q5 G9 h9 d9 k9 => ?_
          exact fin (((e012.trans eb).trans (e13.trans e1316))) (((d6.trans d7).trans d8).trans d9) we k9
        · walk_at "rd"
          refine LH.br_d (fun _ => ?_) (fun _ => ?_)
          · walk_at "rd"
            refine x_slL (Same.seq eb hp') fun p2 H13 f13 e13 g13 => ?_
            walk_at "rd"
            refine LH.x_slA (LH.Same.seqT e13 gpt) fun t6 H14 e14 g14 => ?_
            walk_at "rd"
            refine LH.x_ixT (LH.Same.seqT (e13.trans e14) gpt) rfl ?_
            walk_at "rd"
            refine LH.newt (LH.small rfl) fun t7 H15 f15 e15 g15 => ?_
            have lc := cutV_length (wd "mark" n r0 hj) none (some 3)
            have l4 : (wd "mark" n r0 hj).length = 4 := rfl
            refine LH.x_catA (LH.Same.seqT e15 g14) (SqT.of g15) (by show _ + 1 ≤ _; omega) fun t8 H16 e16 g16 => ?_
            walk_at "rd"
            have e1316 := (e14.trans e15).trans e16
            have wv : ∃ d, Wi K H16 (.ref t8) d := by
              refine ⟨_, wi_tup g16 (by rw [List.length_append]; show _ + 1 ≤ _; omega) fun y m => ?_⟩
              rcases List.mem_append.mp m with m | m
              · exact fl4 ok_mark ok0 y (List.mem_of_mem_drop (List.mem_of_mem_take m))
              · rw [List.mem_singleton] at m
                subst m
                exact .bl _
            obtain ⟨dv, wv⟩ := wv
            have we := wv
            refine LH.newl (LH.small rfl) fun q2 G6 h6 d6 k6 => ?_
            refine LH.x_catS (SqL.of (d6 _ _ ((e1316 _ _ g13)))) (SqL.of k6) (by have := len1 (j : Int); show _ + 1 ≤ _; omega) fun q3 G7 h7 d7 k7 => ?_
            walk_at "rd"
            refine x_slL (Same.seq (((((e012.trans eb).trans (e13.trans e1316))).trans d6).trans d7) hp) fun q4 G8 h8 d8 k8 => ?_
            refine LH.x_catS (SqL.of (d8 _ _ k7)) (SqL.of k8) (by have := len1 (j : Int); have := len2 ((j : Int) + 1); rw [List.length_append]; show _ + 1 + _ ≤ _; omega) fun q5 G9 h9 d9 k9 => ?_
            exact fin (((e012.trans eb).trans (e13.trans e1316))) (((d6.trans d7).trans d8).trans d9) we k9
          · walk_at "rd"
            refine x_slL (Same.seq eb hp') fun p2 H13 f13 e13 g13 => ?_
            walk_at "rd"
            refine LH.x_ixL (Same.seq (eb.trans e13) hq') rfl ?_
            walk_at "rd"
            refine LH.x_ixT (LH.Same.seqT e13 gpt) rfl ?_
            walk_at "rd"
            refine LH.newt (LH.small rfl) fun t7 H15 f15 e15 g15 => ?_
            walk_at "rd"
            have wv : ∃ d, Wi K H15 (.ref t7) d := by
              refine ⟨_, wi_tup (SqT.of g15) (LH.small rfl) fun y m => ?_⟩
              simp only [List.mem_cons, List.not_mem_nil, or_false] at m
              rcases m with rfl | rfl | rfl | rfl
              · exact .str ok_mark
              · exact .bl _
              · exact .str ok0
              · exact .int _
            obtain ⟨dv, wv⟩ := wv
            have we := wv
            refine LH.newl (LH.small rfl) fun q2 G6 h6 d6 k6 => ?_
            refine LH.x_catS (SqL.of (d6 _ _ ((e15 _ _ g13)))) (SqL.of k6) (by have := len1 (j : Int); show _ + 1 ≤ _; omega) fun q3 G7 h7 d7 k7 => ?_
            walk_at "rd"
            refine x_slL (Same.seq (((((e012.trans eb).trans (e13.trans e15))).trans d6).trans d7) hp) fun q4 G8 h8 d8 k8 => ?_
            refine LH.x_catS (SqL.of (d8 _ _ k7)) (SqL.of k8) (by have := len1 (j : Int); have := len2 ((j : Int) + 1); rw [List.length_append]; show _ + 1 + _ ≤ _; omega) fun q5 G9 h9 d9 k9 => ?_
            exact fin (((e012.trans eb).trans (e13.trans e15))) (((d6.trans d7).trans d8).trans d9) we k9
    · walk_at "rd"
      refine x_slL (Same.seq (Same.refl H12) hp') fun p1 H13 f13 e13 g13 => ?_
      walk_at "rd"
      obtain ⟨v, hv, mv⟩ := eight (l := [V.ref t1, V.ref t2] ++ [V.ref t3, V.ref t4, V.non, V.ref l2] ++ [V.ref l5, V.ref t5]) rfl (i := x / 1300)
      obtain ⟨d, hd⟩ := odd8 v mv
      refine LH.x_ixL (SqL.of (e13 _ _ ((Same.refl H12) _ _ g12))) hv ?_
      walk_at "rd"
      have we := ((hd.up (Same.refl H12)).up e13)
      refine LH.newl (LH.small rfl) fun q2 G6 h6 d6 k6 => ?_
      refine LH.x_catS (SqL.of (d6 _ _ (g13))) (SqL.of k6) (by have := len1 (at_ : Int); show _ + 1 ≤ _; omega) fun q3 G7 h7 d7 k7 => ?_
      walk_at "rd"
      refine x_slL (Same.seq (((((e012.trans (Same.refl H12)).trans e13)).trans d6).trans d7) hp) fun q4 G8 h8 d8 k8 => ?_
      refine LH.x_catS (SqL.of (d8 _ _ k7)) (SqL.of k8) (by have := len1 (at_ : Int); have := len2 ((at_ : Int) + 1); rw [List.length_append]; show _ + 1 + _ ≤ _; omega) fun q5 G9 h9 d9 k9 => ?_
      exact fin (((e012.trans (Same.refl H12)).trans e13)) (((d6.trans d7).trans d8).trans d9) we k9
end
end K4
namespace K4
open PySem L2
local macro_rules | `(tactic| walk_at "rd1") => `(tactic| first
  | with_reducible refine LH.x_seq ?_
  | with_reducible refine LH.x_asg ?_
  | with_reducible refine LH.x_cons ?_
  | with_reducible refine LH.x_var (by with_unfolding_all exact rfl) ?_
  | with_reducible refine LH.x_c ?_
  | with_reducible refine LH.x_op ?_
  | with_reducible refine LH.x_gname ?_
  | with_reducible refine LH.x_nil ?_
  | with_reducible refine LH.x_I0 ?_
  | ((with_reducible refine LH.x_I ?k1 ?_); (case k1 => first | exact (by decide) | exact ⟨by decide, by decide⟩ | exact ⟨by decide, by decide, by decide⟩ | exact .inl ⟨by decide, by decide⟩ | exact .inr ⟨by decide, by decide⟩ | exact .inr ⟨by omega, by omega⟩ | exact .inl ⟨by omega, by omega⟩ | exact (by omega)))
  | with_reducible refine LH.x_ifS ?_
  | with_reducible refine LH.x_test ?_
  | with_reducible refine LH.x_tB ?_
  | with_reducible refine LH.bx ?_
  | with_reducible refine LH.x_and ?_
  | with_reducible refine LH.x_or ?_
  | with_reducible refine LH.x_not ?_
  | with_reducible refine LH.x_ret ?_
  | with_reducible refine LH.x_call ?_
  | with_reducible refine LH.x_cb ?_
  | with_reducible refine LH.x_lst ?_
  | with_reducible refine LH.x_tup ?_
  | with_reducible refine LH.x_bm ?_
  | with_reducible refine LH.x_drop ?_
  | with_reducible refine LH.x_next ?_
  | with_reducible refine LH.x_cont ?_
  | with_reducible refine LH.x_un ?_
  | with_reducible refine LH.x_U ?_
  | with_reducible refine LH.x_eq (by with_unfolding_all exact rfl) ?_
  | with_reducible refine LH.x_ne (by with_unfolding_all exact rfl) ?_
  | with_reducible refine LH.x_andV ?_
  | with_reducible refine LH.x_orV ?_
  | with_reducible refine LH.x_notV ?_
  | with_reducible refine LH.band ?_
  | with_reducible refine LH.bor ?_
  | with_reducible refine LH.x_if ?_
  | with_reducible refine LH.x_chain ?_
  | with_reducible refine LH.chk ?_
  | with_reducible refine LH.x_callS ?_
  | with_reducible refine LH.x_callE ?_
  | with_reducible refine LH.x_callV ?_
  | with_reducible refine LH.x_lrg ?_
  | with_reducible refine LH.x_lcS ?_
  | with_reducible refine LH.x_lcR1 ?_
  | with_reducible refine LH.x_forR1 ?_
  | with_reducible refine LH.x_forR3 ?_
  | with_reducible refine LH.strv ?_
  | with_reducible refine LH.x_yes ?_
  | with_reducible refine LH.x_sl ?_
  | with_reducible refine LH.x_noPart ?_
  | with_reducible refine LH.x_part ?_
  | with_reducible refine LH.pav ?_
  | with_reducible refine LH.x_jnv ?_
  | with_reducible refine LH.x_join ?_
  | with_reducible refine LH.x_inS ?_
  | with_reducible refine LH.x_niS ?_
  | with_reducible refine LH.x_isB ?_
  | with_reducible refine LH.x_isnB ?_
  | with_reducible refine LH.x_gcons ?_
  | with_reducible refine LH.x_gnil ?_
  | with_reducible refine LH.x_intB ?_
  | with_reducible refine LH.x_orT ?_
  | with_reducible refine LH.x_isTy ?_
  | with_reducible refine LH.x_niTy ?_
  | with_reducible refine LH.x_split ?_
  | with_reducible refine LH.x_spv ?_
  | with_reducible refine LH.x_gsub ?_
  | with_reducible refine LH.x_fmt ?_
  | with_reducible refine LH.x_js0 ?_
  | with_reducible refine LH.x_js ?_
  | with_reducible refine LH.x_rg1 ?_
  | with_reducible refine LH.x_forL ?_
  | with_reducible refine LH.x_abs ?_
  | with_reducible refine LH.x_rg2 ?_
  | with_reducible refine LH.rg1v ?_
  | with_reducible refine LH.rg2v ?_
  | with_reducible refine LH.x_forR2 ?_
  | with_reducible refine LH.x_lenSetG ?_
  | with_reducible refine LH.x_lc ?_
  | with_reducible refine LH.br_nt ?_
  | with_reducible refine LH.br_nf ?_
  | with_reducible refine LH.br_t ?_
  | with_reducible refine LH.br_f ?_)
local macro_rules | `(tactic| walk_at "rd") => `(tactic| repeat (walk_at "rd1"))

section
variable {P : Program} {w : World} {K : PySem.W.Frag} {mg : Str → Option Value} {base : Heap} {a : Ad}
/-! ### what is asked of the program -/
/-- the words that are handed in: a list, or something else -/
def Hd (K : PySem.W.Frag) (H : Hp) (c n : Int) (r : Str) (x : V) (b : Bool) : Prop :=
  (∃ p xs ds, x = .ref p ∧ SqL K H p xs ∧ Wis K H xs ds ∧ xs.length ≤ 50 ∧ b = backD c n r ds) ∨ (∃ T, TyB K H x T ∧ T ≠ "list" ∧ b = false)
theorem Hd.up {H H' : Hp} {c n : Int} {r : Str} {x : V} {b : Bool} (e : Same H H') (h : Hd K H c n r x b) : Hd K H' c n r x b := by
  rcases h with ⟨p, xs, ds, h1, h2, h3, h4, h5⟩ | ⟨T, h1, h2, h3⟩
  · exact .inl ⟨p, xs, ds, h1, Same.seq e h2, h3.up e, h4, h5⟩
  · exact .inr ⟨T, LH.Same.ty e h1, h2, h3⟩
def spBack (K : PySem.W.Frag) (C : Addr) : Sp := fun vs H Q E => ∃ (nv : V) (Tn : String) (n : Int) (r : Str) (x : V), vs = [nv, .int n, .str r, x] ∧ TyB K H nv Tn ∧ Ok r ∧ (isW nv 1 12 = false → E (.ref C) none H) ∧
  ∀ c, nv = .int c → 1 ≤ c → c ≤ 12 → ∃ b, Hd K H c n r x b ∧ ∀ H', Same H H' → Q (.bl b) H'
def spNum (f : Int → Int) : Sp := fun vs H Q _ => ∃ c : Int, vs = [.int c] ∧ 1 ≤ c ∧ c ≤ 12 ∧ Q (.int (f c)) H
theorem ok_most_liars (T : Txt K mg a) : FnOk P w K mg base (L2N.CX P w) 3 a.most_liars a.d_most_liars ["count"] (spNum fun c => (c - 1) / 3) := by
  have G_check_count := ok_check_count (P := P) (w := w) (base := base) T
  refine LH.okN T.F_most_liars sc_most_liars (fun vs H Q E h => ?_) (fun cdv A outer s H vs Q E hr h => ?_)
  · obtain ⟨c, rfl, _⟩ := h
    rfl
  · obtain ⟨c, rfl, c1, c2, k⟩ := h
    have HR_check_count : Room 2 _ := hr.mono (by decide)
    refine ⟨_, (pss_cons (ps_expr (pe_call (E := E) G_check_count HR_check_count rfl T.g_check_count T.F_check_count.kp T.b_check_count .nil (L2N.passes_call (LH.tkN (E := E)) fun _ _ _ _ z => z) (pa_cons (pv 0) pa_nil)))
  (pss_one (ps_ret (pe_op op_fdiv (pe_op op_sub (pv 0) pe_int) pe_int)))), ?_⟩
    walk_at "rd"
    refine ⟨_, _, rfl, .int c, fun _ => ?_, fun e => (by rw [isW_yes c1 c2] at e; cases e)⟩
    walk_at "rd"
    exact k
theorem ok_enough (T : Txt K mg a) : FnOk P w K mg base (L2N.CX P w) 4 a.enough a.d_enough ["count"] (spNum en) := by
  have G_most_liars := ok_most_liars (P := P) (w := w) (base := base) T
  refine LH.okN T.F_enough sc_enough (fun vs H Q E h => ?_) (fun cdv A outer s H vs Q E hr h => ?_)
  · obtain ⟨c, rfl, _⟩ := h
    rfl
  · obtain ⟨c, rfl, c1, c2, k⟩ := h
    have HR_most_liars : Room 3 _ := hr.mono (by decide)
    refine ⟨_, (pss_one (ps_ret (pe_op op_add (pe_op op_fdiv (pe_op op_add (pv 0) (pe_call (E := E) G_most_liars HR_most_liars rfl T.g_most_liars T.F_most_liars.kp T.b_most_liars .nil (L2N.passes_call (LH.tkN (E := E)) fun _ _ _ _ z => z) (pa_cons (pv 0) pa_nil))) pe_int) pe_int))), ?_⟩
    walk_at "rd"
    refine ⟨c, rfl, c1, c2, ?_⟩
    walk_at "rd"
    exact k
theorem fm_some {α : Type} (f : α → Bool) : ∀ l : List α, (l.map fun d => some (V.bl (f d))).filterMap id = (l.map f).map V.bl
  | [] => rfl
  | _ :: l => congrArg (fun z => _ :: z) (fm_some f l)
theorem ok_is_backing (T : Txt K mg a) : FnOk P w K mg base (L2N.CX P w) 5 a.is_backing a.d_is_backing ["count", "number", "row", "words"] (spBack K a.BadCount) := by
  have G_check_count := ok_check_count (P := P) (w := w) (base := base) T
  have G_is_whole := ok_is_whole (P := P) (w := w) (base := base) T
  have G_is_row := ok_is_row (P := P) (w := w) (base := base) T
  have G_is_word := ok_is_word (P := P) (w := w) (base := base) T
  have G_enough := ok_enough (P := P) (w := w) (base := base) T
  refine LH.okN T.F_is_backing sc_is_backing (fun vs H Q E h => ?_) (fun cdv A outer s H vs Q E hr h => ?_)
  · obtain ⟨nv, Tn, n, r, x, rfl, _⟩ := h
    rfl
  · obtain ⟨nv, Tn, n, r, x, rfl, hnv, okr, kE, k⟩ := h
    have HR_is_whole : Room 1 _ := hr.mono (by decide)
    have HR_check_count : Room 2 _ := hr.mono (by decide)
    have HR_enough : Room 4 _ := hr.mono (by decide)
    have HR_is_row : Room 1 _ := hr.mono (by decide)
    have HR_is_word : Room 3 _ := hr.mono (by decide)
    refine ⟨_, (pss_cons (ps_expr (pe_call (E := E) G_check_count HR_check_count rfl T.g_check_count T.F_check_count.kp T.b_check_count .nil (L2N.passes_call (LH.tkN (E := E)) fun _ _ _ _ z => z) (pa_cons (pv 0) pa_nil)))
  (pss_cons (ps_if (PW.pt (pw_or (pt_not (pt_val (pe_call G_is_whole HR_is_whole rfl T.g_is_whole T.F_is_whole.kp T.b_is_whole .nil pass0 (pa_cons (pv 1) (pa_cons pe_int (pa_cons (pe_glob (v := .int 9999) rfl T.m_LAST_NUMBER ⟨_, rfl⟩) pa_nil)))))) (pw_or (pt_not (pt_val (pe_call G_is_row HR_is_row rfl T.g_is_row T.F_is_row.kp T.b_is_row .nil pass0 (pa_cons (pv 2) pa_nil)))) (pw_or1 (pt_cmpR op_notTyB (pe_callTy (r := rTyp K) call_type1 rfl T.n_type (by decide +kernel) (pa_cons (pv 3) pa_nil)) (pe_bltn (v := .ty "list") rfl T.n_list (by decide +kernel) rfl) (nomark _))))))
    (pss_one (ps_ret pe_bl))
    pss_nil)
  (pss_cons (ps_if (pt_not (pt_val (pe_callB (r := rAll K) (cr_all rfl) rfl T.n_all (by decide +kernel) (pa_cons (pe_lc (own := [("word", 4)]) (g := gName 4) (tt := tYes) rfl sc_is_backing.nd (pi_list (pv 3)) (blkOk_by (N := N_is_backing) (sc := defScope s_is_backing) (by decide +kernel)) (fun _ _ _ _ _ => pg_name (i := 4) sc_is_backing.nd rfl (Or.inl rfl)) (fun _ _ _ _ _ => pts_nil) (fun _ _ _ _ _ => (pe_call G_is_word HR_is_word rfl T.g_is_word T.F_is_word.kp T.b_is_word .nil LH.passN (pa_cons (pv 0) (pa_cons (pv 4) pa_nil))))) pa_nil))))
    (pss_one (ps_ret pe_bl))
    pss_nil)
  (pss_cons (ps_if (pt_not (pt_val (pe_callB (r := rAll K) (cr_all rfl) rfl T.n_all (by decide +kernel) (pa_cons (pe_lc (own := [("word", 4)]) (g := gName 4) (tt := tYes) rfl sc_is_backing.nd (pi_list (pv 3)) (blkOk_by (N := N_is_backing) (sc := defScope s_is_backing) (by decide +kernel)) (fun _ _ _ _ _ => pg_name (i := 4) sc_is_backing.nd rfl (Or.inl rfl)) (fun _ _ _ _ _ => pts_nil) (fun _ _ _ _ _ => (pe_cmpR (r := rEqD K) (op_eqD hr.units) (pe_slice (r := rSlA K) sl_tupA (pv 4) po_none (po_some pe_int)) (pe_tup (pa_cons (pe_glob (v := .str "mark") rfl T.m_MARK ⟨_, rfl⟩) (pa_cons (pv 1) (pa_cons (pv 2) pa_nil)))) (nomark _)))) pa_nil))))
    (pss_one (ps_ret pe_bl))
    pss_nil)
  (pss_cons (LH.ps_setScK (i := 5) (own := [("word", 4)]) (g := gName 4) (tt := tYes) rfl sc_is_backing.nd rfl rfl (LH.sw_trueS rfl rfl rfl (by decide +kernel)) (pi_list (pv 3)) (blkOk_by (N := N_is_backing) (sc := defScope s_is_backing) (by decide +kernel)) (fun _ _ _ _ _ => pg_name (i := 4) sc_is_backing.nd rfl (Or.inl rfl)) (fun _ _ _ _ _ => pts_nil) (fun _ _ _ _ _ => (pe_ix (r := rIxT K) ix_tup (pv 4) pe_int (fun _ _ => rfl))))
  (pss_one (ps_ret (pe_and (pe_cmpR op_eq (pe_callB LH.call_lenK rfl T.n_len (by decide +kernel) (pa_cons (pv 5) pa_nil)) (pe_callB (r := LH.rLen K) LH.call_len rfl T.n_len (by decide +kernel) (pa_cons (pv 3) pa_nil)) (nomark _)) (pe_one (pe_cmpR op_ge (pe_callB (r := LH.rLen K) LH.call_len rfl T.n_len (by decide +kernel) (pa_cons (pv 3) pa_nil)) (pe_call (E := E) G_enough HR_enough rfl T.g_enough T.F_enough.kp T.b_enough .nil (L2N.passes_call (LH.tkN (E := E)) fun _ _ _ _ z => z) (pa_cons (pv 0) pa_nil)) (nomark _))))))))))), ?_⟩
    walk_at "rd"
    refine ⟨nv, Tn, rfl, hnv, fun hc => ?_, kE⟩
    obtain ⟨c, rfl, c1, c2⟩ := isW_int hc
    obtain ⟨b, hb, k⟩ := k c rfl c1 c2
    walk_at "rd"
    refine ⟨_, _, _, _, rfl, .int n, ?_⟩
    -- a number or a row that is none: no word is a mark there
    have none_is : ∀ ds : List (Option (List V)), (∀ d ∈ ds, isMk c n r d = false) → backD c n r ds = false := fun ds h => by
      unfold backD
      cases ds with
      | nil =>
        have : ¬ en c ≤ 0 := by unfold en; omega
        simp [this]
      | cons d ds => simp [h d List.mem_cons_self]
    have mk_form : ∀ d, isMk c n r d = true → ∃ h, d = some (wd "mark" n r h) ∧ isRowS r = true ∧ 0 ≤ n ∧ n ≤ 9999 := fun d hd => by
      cases d with
      | none => cases hd
      | some ys =>
        have hd : (isWordL c ys && mkOf n r ys) = true := hd
        rw [Bool.and_eq_true] at hd
        obtain ⟨kd, m, z, o, rfl, hz, n0, n1, _⟩ := word_form hd.1
        have h2 : (decide (kd = "mark") && (decide (m = n) && decide (z = r))) = true := hd.2
        rw [Bool.and_eq_true, Bool.and_eq_true, decide_eq_true_eq, decide_eq_true_eq, decide_eq_true_eq] at h2
        obtain ⟨rfl, rfl, rfl⟩ := h2
        exact ⟨o, rfl, hz, n0, n1⟩
    have off : (isRowS r = false ∨ ¬ (0 ≤ n ∧ n ≤ 9999)) → b = false := fun q => by
      rcases hb with ⟨p, xs, ds, _, _, _, _, rfl⟩ | ⟨_, _, _, rfl⟩
      · refine none_is ds fun d _ => ?_
        cases e : isMk c n r d with
        | false => rfl
        | true =>
          obtain ⟨_, _, h1, h2, h3⟩ := mk_form d e
          rcases q with q | q
          · rw [h1] at q
            cases q
          · exact absurd ⟨h2, h3⟩ q
      · rfl
    cases e1 : isW (.int n) 0 9999 with
    | false =>
      walk_at "rd"
      have : b = false := off (.inr fun ⟨h1, h2⟩ => by rw [isW_yes h1 h2] at e1; cases e1)
      rw [this] at k
      exact k _ (Same.refl _)
    | true =>
      walk_at "rd"
      refine ⟨_, _, rfl, .str r, fun z e => by injection e with e; subst e; exact okr, fun H1 e01 => ?_⟩
      walk_at "rd"
      cases e2 : isRow (.str r) with
      | false =>
        walk_at "rd"
        have : b = false := off (.inl e2)
        rw [this] at k
        exact k _ e01
      | true =>
        walk_at "rd"
        rcases hb.up e01 with ⟨p, xs, ds, rfl, hp, hw, hl, rfl⟩ | ⟨Tx, hx, hne, rfl⟩
        · refine LH.x_typ (.lst hp) ?_
          walk_at "rd"
          refine LH.br_nd (fun q => absurd rfl q) (fun _ => ?_)
          walk_at "rd"
          have hd : ∀ {i : Nat} {x : V}, xs[i]? = some x → ∃ d, ds[i]? = some d ∧ Wi K H1 x d := fun {i x} h => by
            have hlt : i < xs.length := (List.getElem?_eq_some_iff.mp h).1
            have hd : ds[i]? = some (ds[i]'(by rw [hw.1]; exact hlt)) := List.getElem?_eq_getElem _
            exact ⟨_, hd, hw.2 i x _ h hd⟩
          -- all words?
          refine LH.lc_Li hp (by omega) (ds.map fun d => some (V.bl (isWd c d))) (by rw [List.length_map]; exact hw.1) (fun _ => rfl) ?_ ?_ fun p1 H2 f2 e2 g2 => ?_
          · intro i x o hx ho H3 e3 Q3 q3
            rw [List.getElem?_map] at ho
            obtain ⟨d, _, rfl⟩ := Option.map_eq_some_iff.mp ho
            walk_at "rd"
            exact q3 _ (Same.refl _)
          · intro i x y hx ho H3 e3 Q3 q3
            rw [List.getElem?_map] at ho
            obtain ⟨d, hd1, ed⟩ := Option.map_eq_some_iff.mp ho
            injection ed with ed
            subst ed
            have wi := (hw.2 i x d hx hd1).up e3
            walk_at "rd"
            refine ⟨.int c, _, x, rfl, .int c, fun e => (by rw [hc] at e; cases e), fun c' ec _ _ => ⟨isWd c d, by cases ec; exact wi.wd c, fun H5 e5 => q3 _ e5⟩⟩
          walk_at "rd"
          have g2' : H2 p1 = some (.lst ((ds.map (isWd c)).map V.bl)) := by
            rw [g2, fm_some]
          refine LH.x_all (SqL.of g2') ?_
          walk_at "rd"
          rw [List.all_map]
          have hp2 := Same.seq e2 hp
          have hw2 := hw.up e2
          cases e3 : ds.all (id ∘ isWd c) with
          | false =>
            walk_at "rd"
            have : backD c n r ds = false := by
              unfold backD
              have : ds.all (isMk c n r) = false := by
                rw [List.all_eq_false] at e3 ⊢
                obtain ⟨d, hm, hd⟩ := e3
                refine ⟨d, hm, fun q => hd ?_⟩
                cases d with
                | none => cases q
                | some ys =>
                  have q : (isWordL c ys && mkOf n r ys) = true := q
                  rw [Bool.and_eq_true] at q
                  exact q.1
              rw [this, Bool.false_and]
            rw [this] at k
            exact k _ (e01.trans e2)
          | true =>
            walk_at "rd"
            have word : ∀ {i : Nat} {x : V} {d : Option (List V)}, xs[i]? = some x → ds[i]? = some d → ∃ q kd m z o, x = .ref q ∧ SqT K H2 q (wd kd m z o) ∧ d = some (wd kd m z o) ∧ Ok kd ∧ isRowS z = true ∧ isMk c n r d = (decide (kd = "mark") && (decide (m = n) && decide (z = r))) := fun {i x d} hx hd => by
              have hb : isWd c d = true := List.all_eq_true.mp e3 d (List.mem_of_getElem? hd)
              rcases (hw2.2 i x d hx hd).1 with ⟨q, ys, rfl, g1, yl, gy, rfl⟩ | ⟨_, _, _, rfl⟩
              · obtain ⟨kd, m, z, o, rfl, hz, _⟩ := word_form hb
                have hb' : isWordL c (wd kd m z o) = true := hb
                refine ⟨q, kd, m, z, o, rfl, g1, rfl, (gy (.str kd) (by simp)).1 kd rfl, hz, ?_⟩
                show (isWordL c (wd kd m z o) && _) = _
                rw [hb', Bool.true_and]
                rfl
              · cases hb
            -- all marks of that row there?
            refine LH.lc_Li hp2 (by omega) (ds.map fun d => some (V.bl (isMk c n r d))) (by rw [List.length_map]; exact hw.1) (fun _ => rfl) ?_ ?_ fun p2 H3 f3 e4 g3 => ?_
            · intro i x o hx ho H4 e4 Q3 q3
              rw [List.getElem?_map] at ho
              obtain ⟨d, _, rfl⟩ := Option.map_eq_some_iff.mp ho
              walk_at "rd"
              exact q3 _ (Same.refl _)
            · intro i x y hx ho H4 e4 Q3 q3
              rw [List.getElem?_map] at ho
              obtain ⟨d, hd1, ed⟩ := Option.map_eq_some_iff.mp ho
              injection ed with ed
              subst ed
              obtain ⟨q, kd, m, z, o, rfl, g1, rfl, okk, hz, em⟩ := word hx hd1
              walk_at "rd"
              refine LH.x_slA (LH.Same.seqT e4 g1) fun p5 H5 e5 g5 => ?_
              walk_at "rd"
              refine LH.newt (LH.small rfl) fun p6 H6 f6 e6 g6 => ?_
              have g5' : SqT K H6 p5 [.str kd, .int m, .str z] := LH.Same.seqT e6 g5
              refine LH.x_eqD (.tup g5' (.cons (.str _) (.cons (.int _) (.cons (.str _) .nil)))) (.tup (SqT.of g6) (.cons (.str _) (.cons (.int _) (.cons (.str _) .nil)))) (three_shaped okk (row_ok hz)) (three_shaped ok_mark okr) ?_
              rw [mk_eqv, ← em]
              exact q3 _ (e5.trans e6)
            walk_at "rd"
            have g3' : H3 p2 = some (.lst ((ds.map (isMk c n r)).map V.bl)) := by
              rw [g3, fm_some]
            refine LH.x_all (SqL.of g3') ?_
            walk_at "rd"
            rw [List.all_map]
            have hp3 := Same.seq e4 hp2
            cases e5 : ds.all (id ∘ isMk c n r) with
            | false =>
              walk_at "rd"
              have : backD c n r ds = false := by
                unfold backD
                have : ds.all (isMk c n r) = false := e5
                rw [this, Bool.false_and]
              rw [this] at k
              exact k _ ((e01.trans e2).trans e4)
            | true =>
              walk_at "rd"
              refine LH.x_scK ?_
              walk_at "rd"
              have hlen : (ds.map hsOf).length = xs.length := by rw [List.length_map]; exact hw.1
              refine LH.sc_L (ns := ds.map hsOf) hp3 (by omega) hlen (fun _ => rfl) ?_ fun D H4 S m f4 e6 g4 l4 n4 => ?_
              · intro i x z hx hz H5 e6 Q3 q3
                rw [List.getElem?_map] at hz
                obtain ⟨d, hd1, rfl⟩ := Option.map_eq_some_iff.mp hz
                obtain ⟨q, kd, m, z, o, rfl, g1, rfl, _⟩ := word hx hd1
                walk_at "rd"
                refine LH.x_ixT (LH.Same.seqT (e4.trans e6) g1) rfl ?_
                exact q3 _ (Same.refl _)
              walk_at "rd"
              refine LH.x_lenK g4 ?_
              walk_at "rd"
              have hp4 := Same.seq e6 hp3
              have e04 := ((e01.trans e2).trans e4).trans e6
              have all1 : ds.all (isMk c n r) = true := e5
              refine LH.x_lenL hp4 ?_
              walk_at "rd"
              have e7 : decide (V.int (m : Nat) = V.int (xs.length : Nat)) = decide (ds.map hsOf).Nodup := by
                rw [dint]
                refine decide_eq_decide.mpr ⟨fun h => n4.mp (by omega), fun h => by have := n4.mpr h; omega⟩
              rw [e7]
              cases e8 : decide (ds.map hsOf).Nodup with
              | false =>
                walk_at "rd"
                have : backD c n r ds = false := by
                  unfold backD
                  rw [all1, e8]
                  rfl
                rw [this] at k
                exact k _ e04
              | true =>
                walk_at "rd"
                refine LH.x_lenL hp4 ?_
                walk_at "rd"
                refine ⟨c, rfl, c1, c2, ?_⟩
                walk_at "rd"
                have : backD c n r ds = decide (en c ≤ (xs.length : Nat)) := by
                  unfold backD
                  rw [all1, e8, hw.1]
                  rfl
                rw [this] at k
                exact k _ e04
        · refine LH.x_typ hx ?_
          walk_at "rd"
          refine LH.br_nd (fun _ => ?_) (fun q => absurd q hne)
          walk_at "rd"
          exact k _ e01
end
end K4
namespace K4
open PySem L2
local macro_rules | `(tactic| walk_at "rd1") => `(tactic| first
  | with_reducible refine LH.x_seq ?_
  | with_reducible refine LH.x_asg ?_
  | with_reducible refine LH.x_cons ?_
  | with_reducible refine LH.x_var (by with_unfolding_all exact rfl) ?_
  | with_reducible refine LH.x_c ?_
  | with_reducible refine LH.x_op ?_
  | with_reducible refine LH.x_gname ?_
  | with_reducible refine LH.x_nil ?_
  | with_reducible refine LH.x_I0 ?_
  | ((with_reducible refine LH.x_I ?k1 ?_); (case k1 => first | exact (by decide) | exact ⟨by decide, by decide⟩ | exact ⟨by decide, by decide, by decide⟩ | exact .inl ⟨by decide, by decide⟩ | exact .inr ⟨by decide, by decide⟩ | exact .inr ⟨by omega, by omega⟩ | exact .inl ⟨by omega, by omega⟩ | exact (by omega)))
  | with_reducible refine LH.x_ifS ?_
  | with_reducible refine LH.x_test ?_
  | with_reducible refine LH.x_tB ?_
  | with_reducible refine LH.bx ?_
  | with_reducible refine LH.x_and ?_
  | with_reducible refine LH.x_or ?_
  | with_reducible refine LH.x_not ?_
  | with_reducible refine LH.x_ret ?_
  | with_reducible refine LH.x_call ?_
  | with_reducible refine LH.x_cb ?_
  | with_reducible refine LH.x_lst ?_
  | with_reducible refine LH.x_tup ?_
  | with_reducible refine LH.x_bm ?_
  | with_reducible refine LH.x_drop ?_
  | with_reducible refine LH.x_next ?_
  | with_reducible refine LH.x_cont ?_
  | with_reducible refine LH.x_un ?_
  | with_reducible refine LH.x_U ?_
  | with_reducible refine LH.x_eq (by with_unfolding_all exact rfl) ?_
  | with_reducible refine LH.x_ne (by with_unfolding_all exact rfl) ?_
  | with_reducible refine LH.x_andV ?_
  | with_reducible refine LH.x_orV ?_
  | with_reducible refine LH.x_notV ?_
  | with_reducible refine LH.band ?_
  | with_reducible refine LH.bor ?_
  | with_reducible refine LH.x_if ?_
  | with_reducible refine LH.x_chain ?_
  | with_reducible refine LH.chk ?_
  | with_reducible refine LH.x_callS ?_
  | with_reducible refine LH.x_callE ?_
  | with_reducible refine LH.x_callV ?_
  | with_reducible refine LH.x_lrg ?_
  | with_reducible refine LH.x_lcS ?_
  | with_reducible refine LH.x_lcR1 ?_
  | with_reducible refine LH.x_forR1 ?_
  | with_reducible refine LH.x_forR3 ?_
  | with_reducible refine LH.strv ?_
  | with_reducible refine LH.x_yes ?_
  | with_reducible refine LH.x_sl ?_
  | with_reducible refine LH.x_noPart ?_
  | with_reducible refine LH.x_part ?_
  | with_reducible refine LH.pav ?_
  | with_reducible refine LH.x_jnv ?_
  | with_reducible refine LH.x_join ?_
  | with_reducible refine LH.x_inS ?_
  | with_reducible refine LH.x_niS ?_
  | with_reducible refine LH.x_isB ?_
  | with_reducible refine LH.x_isnB ?_
  | with_reducible refine LH.x_gcons ?_
  | with_reducible refine LH.x_gnil ?_
  | with_reducible refine LH.x_intB ?_
  | with_reducible refine LH.x_orT ?_
  | with_reducible refine LH.x_isTy ?_
  | with_reducible refine LH.x_niTy ?_
  | with_reducible refine LH.x_split ?_
  | with_reducible refine LH.x_spv ?_
  | with_reducible refine LH.x_gsub ?_
  | with_reducible refine LH.x_fmt ?_
  | with_reducible refine LH.x_js0 ?_
  | with_reducible refine LH.x_js ?_
  | with_reducible refine LH.x_rg1 ?_
  | with_reducible refine LH.x_forL ?_
  | with_reducible refine LH.x_abs ?_
  | with_reducible refine LH.x_rg2 ?_
  | with_reducible refine LH.rg1v ?_
  | with_reducible refine LH.rg2v ?_
  | with_reducible refine LH.x_forR2 ?_
  | with_reducible refine LH.x_lenSetG ?_
  | with_reducible refine LH.x_lc ?_
  | with_reducible refine LH.x_fld ?_
  | with_reducible refine LH.x_sfld ?_
  | with_reducible refine LH.x_afld ?_
  | with_reducible refine LH.x_meth ?_
  | with_reducible refine LH.x_make ?_
  | with_reducible refine LH.x_methSl ?_
  | with_reducible refine LH.x_makeSl ?_
  | with_reducible refine LH.x_din ?_
  | with_reducible refine LH.x_dni ?_
  | with_reducible refine LH.x_dget ?_
  | with_reducible refine LH.x_dput ?_
  | with_reducible refine LH.x_dget2 ?_
  | with_reducible refine LH.x_dpop1 ?_
  | with_reducible refine LH.x_litems ?_
  | with_reducible refine LH.br_nt ?_
  | with_reducible refine LH.br_nf ?_
  | with_reducible refine LH.br_t ?_
  | with_reducible refine LH.br_f ?_)
local macro_rules | `(tactic| walk_at "rd") => `(tactic| repeat (walk_at "rd1"))
local macro_rules | `(tactic| walk_at "rs1") => `(tactic| first
  | with_reducible refine LH.x_seq ?_
  | with_reducible refine LH.x_cons ?_
  | with_reducible refine LH.x_var (by with_unfolding_all exact rfl) ?_
  | with_reducible refine LH.x_c ?_
  | with_reducible refine LH.x_op ?_
  | with_reducible refine LH.x_gname ?_
  | with_reducible refine LH.x_nil ?_
  | with_reducible refine LH.x_I0 ?_
  | ((with_reducible refine LH.x_I ?k1 ?_); (case k1 => first | exact (by decide) | exact ⟨by decide, by decide⟩ | exact ⟨by decide, by decide, by decide⟩ | exact .inl ⟨by decide, by decide⟩ | exact .inr ⟨by decide, by decide⟩ | exact .inr ⟨by omega, by omega⟩ | exact .inl ⟨by omega, by omega⟩ | exact (by omega)))
  | with_reducible refine LH.x_test ?_
  | with_reducible refine LH.x_tB ?_
  | with_reducible refine LH.bx ?_
  | with_reducible refine LH.x_and ?_
  | with_reducible refine LH.x_or ?_
  | with_reducible refine LH.x_not ?_
  | with_reducible refine LH.x_call ?_
  | with_reducible refine LH.x_cb ?_
  | with_reducible refine LH.x_lst ?_
  | with_reducible refine LH.x_tup ?_
  | with_reducible refine LH.x_bm ?_
  | with_reducible refine LH.x_drop ?_
  | with_reducible refine LH.x_next ?_
  | with_reducible refine LH.x_cont ?_
  | with_reducible refine LH.x_un ?_
  | with_reducible refine LH.x_U ?_
  | with_reducible refine LH.x_eq (by with_unfolding_all exact rfl) ?_
  | with_reducible refine LH.x_ne (by with_unfolding_all exact rfl) ?_
  | with_reducible refine LH.x_andV ?_
  | with_reducible refine LH.x_orV ?_
  | with_reducible refine LH.x_notV ?_
  | with_reducible refine LH.band ?_
  | with_reducible refine LH.bor ?_
  | with_reducible refine LH.x_if ?_
  | with_reducible refine LH.x_chain ?_
  | with_reducible refine LH.chk ?_
  | with_reducible refine LH.x_callS ?_
  | with_reducible refine LH.x_callE ?_
  | with_reducible refine LH.x_callV ?_
  | with_reducible refine LH.x_lrg ?_
  | with_reducible refine LH.x_lcS ?_
  | with_reducible refine LH.x_lcR1 ?_
  | with_reducible refine LH.strv ?_
  | with_reducible refine LH.x_yes ?_
  | with_reducible refine LH.x_sl ?_
  | with_reducible refine LH.x_noPart ?_
  | with_reducible refine LH.x_part ?_
  | with_reducible refine LH.pav ?_
  | with_reducible refine LH.x_jnv ?_
  | with_reducible refine LH.x_join ?_
  | with_reducible refine LH.x_inS ?_
  | with_reducible refine LH.x_niS ?_
  | with_reducible refine LH.x_isB ?_
  | with_reducible refine LH.x_isnB ?_
  | with_reducible refine LH.x_gcons ?_
  | with_reducible refine LH.x_gnil ?_
  | with_reducible refine LH.x_intB ?_
  | with_reducible refine LH.x_orT ?_
  | with_reducible refine LH.x_isTy ?_
  | with_reducible refine LH.x_niTy ?_
  | with_reducible refine LH.x_split ?_
  | with_reducible refine LH.x_spv ?_
  | with_reducible refine LH.x_gsub ?_
  | with_reducible refine LH.x_fmt ?_
  | with_reducible refine LH.x_js0 ?_
  | with_reducible refine LH.x_js ?_
  | with_reducible refine LH.x_rg1 ?_
  | with_reducible refine LH.x_abs ?_
  | with_reducible refine LH.x_rg2 ?_
  | with_reducible refine LH.rg1v ?_
  | with_reducible refine LH.rg2v ?_
  | with_reducible refine LH.x_lenSetG ?_
  | with_reducible refine LH.x_lc ?_
  | with_reducible refine LH.x_fld ?_
  | with_reducible refine LH.x_sfld ?_
  | with_reducible refine LH.x_afld ?_
  | with_reducible refine LH.x_meth ?_
  | with_reducible refine LH.x_make ?_
  | with_reducible refine LH.x_methSl ?_
  | with_reducible refine LH.x_makeSl ?_
  | with_reducible refine LH.x_din ?_
  | with_reducible refine LH.x_dni ?_
  | with_reducible refine LH.x_dget ?_
  | with_reducible refine LH.x_dput ?_
  | with_reducible refine LH.x_dget2 ?_
  | with_reducible refine LH.x_dpop1 ?_
  | with_reducible refine LH.x_litems ?_
  | with_reducible refine LH.br_nt ?_
  | with_reducible refine LH.br_nf ?_
  | with_reducible refine LH.br_t ?_
  | with_reducible refine LH.br_f ?_)
local macro_rules | `(tactic| walk_at "rs") => `(tactic| repeat (walk_at "rs1"))

section
variable {P : Program} {w : World} {K : PySem.W.Frag} {mg : Str → Option Value} {base : Heap} {a : Ad}
def spLRefused (K : PySem.W.Frag) : Sp := fun vs H Q _ => ∃ x T, vs = [x] ∧ TyB K H x T ∧ isW x 1 12 = false ∧ ∀ H', Same H H' → Q (.bl true) H'
theorem ok__law_refused (T : Txt K mg a) :
    FnOk P w K mg base CX0 6 a._law_refused a.d__law_refused ["_law_count"] (spLRefused K) := by
  have G__law_kind := ok__law_kind (P := P) (w := w) (base := base) T
  have G_is_backing := ok_is_backing (P := P) (w := w) (base := base) T
  refine T.F__law_refused.ok sc__law_refused (fun vs H Q E h => ?_) (fun cdv A outer s H vs Q E hr h => ?_)
  · obtain ⟨x, t, rfl, _⟩ := h
    rfl
  · obtain ⟨x, t, rfl, ht, hx, k⟩ := h
    have HR_is_backing : Room 5 _ := hr.mono (by decide)
    have HR__law_kind : Room 1 _ := hr.mono (by decide)
    let TB : WX → TS := fun W => tDrop (tCallS (spBack K a.BadCount) (WE W) (tCons (tVar 0) (tCons (tC (.int 0)) (tCons (tC (.str "a")) (tCons (tLst tNil) tNil)))))
    let TSU : Addr → Value → Option Addr → TS := fun e cls d => tRet (tOp (rEqD K) (LH.tCallE (spKind a.BadCount "count") e cls d (tCons (tVar 1) tNil)) (tTup (tCons (tC (.str "count")) tNil)))
    refine ⟨_, (pss_cons (L2N.ps_try_as (i := 1) (Wout := fun _ _ _ _ => False) (tb := TB) (ts := TSU) rfl rfl sc__law_refused.nd rfl rfl ⟨rfl, by decide, .inl T.g_HouseError⟩ LH.takesN0
    (fun W pn xe tk _ => (by exact (pss_one (ps_expr (pe_callS G_is_backing HR_is_backing rfl T.g_is_backing T.F_is_backing.kp T.b_is_backing (fun σ => L2N.passAt tk σ) (pa_cons (pv 0) (pa_cons pe_int (pa_cons pe_str (pa_cons (pe_lst pa_nil) pa_nil)))))))))
    (fun e oe cls d pn hz hf => (by exact (pss_one (ps_ret (pe_cmpR (r := rEqD K) (op_eqD hr.units) (LH.pe_callE (p := (e, oe)) G__law_kind ⟨HR__law_kind.dp, HR__law_kind.un⟩ ⟨rfl, LH.ctx_of hz hf⟩ hz List.mem_cons_self rfl T.g__law_kind T.F__law_kind.kp T.b__law_kind (pa_cons (pv 1) pa_nil)) (pe_tup (pa_cons pe_str pa_nil)) (nomark _)))))))
  (pss_one (ps_ret pe_bl))), ?_⟩
    walk_at "rd"
    refine LH.newl (LH.small rfl) fun p0 H0 f0 e0 g0 => ?_
    walk_at "rd"
    refine ⟨x, t, 0, _, .ref p0, rfl, LH.Same.ty e0 ht, ⟨by decide +kernel, by decide +kernel⟩, fun _ => ⟨true, T.e_BadCount, fun _ e he => ?_, fun q => nomatch q⟩, fun c e h1 h2 => ?_⟩
    · show tRet _ _ _ _
      walk_at "rd"
      refine ⟨rfl, rfl, rfl, fun H1 q e1 g1 => ?_⟩
      walk_at "rd"
      refine LH.newt (LH.small rfl) fun p2 H2 f2 e2 g2 => ?_
      refine LH.x_eqD (.tup (SqT.of (e2 _ _ g1)) (.cons (.str _) .nil)) (.tup (SqT.of g2) (.cons (.str _) .nil)) (by decide +kernel) (by decide +kernel) ?_
      have e : PyData.eqv (.tuple [.str "count"]) (.tuple [.str "count"]) = true := by decide +kernel
      rw [e]
      exact k _ ((e0.trans e1).trans e2)
    · subst e
      rw [isW_yes h1 h2] at hx
      cases hx
/-! ### the law -/
theorem rgc3 {n : Int} (h0 : 0 ≤ n) (h1 : n ≤ 100) : ∃ m, RgC 0 n 3 m ∧ m ≤ 100 := by
  have e : Builtin.Range.rangeSize 0 n 3 = ((n + 2) / 3) := by
    unfold Builtin.Range.rangeSize
    rw [if_pos (by decide)]
    split <;> omega
  refine ⟨((n + 2) / 3).toNat, ⟨by decide, by decide, ?_, by rw [e]; omega⟩, by omega⟩
  unfold Builtin.Range.small
  rw [e]
  simp only [Builtin.Range.rangeFitsLong, Bool.and_eq_true, Bool.or_eq_true, decide_eq_true_eq, beq_iff_eq]
  refine ⟨⟨⟨⟨?_, ?_⟩, ?_⟩, ?_⟩, .inr ?_⟩
  · omega
  · omega
  · omega
  · omega
  · rw [if_pos (by decide)]
    simp only [Bool.and_eq_true, decide_eq_true_eq]
    omega
def spLaw (K : PySem.W.Frag) : Sp := fun vs H Q _ => ∃ (q : Addr) (ns : List Int), vs = [.ref q] ∧ SqL K H q (ns.map V.int) ∧ ns.length ≤ 63 ∧ ∀ H', Q (.bl true) H'
theorem en_le {c : Int} (h1 : 1 ≤ c) (h2 : c ≤ 12) : 1 ≤ en c ∧ en c ≤ c := by
  unfold en
  omega
/-- a list of things, or something else that is data, or an empty dict -/
def Ws (K : PySem.W.Frag) (H : Hp) (x : V) : Prop := (∃ p xs es, x = .ref p ∧ H p = some (.lst xs) ∧ Wis K H xs es ∧ xs.length ≤ 40) ∨
  (∃ T, TyB K H x T ∧ T ≠ "list" ∧ ((∃ D, Dp K H x D ∧ SeqAt.shaped D = true) ∨ ∃ p, x = .ref p ∧ H p = some (.dK [])))
/-- what is handed in for it -/
def Hn (K : PySem.W.Frag) (H : Hp) (x y : V) : Prop := (∃ p p' xs es, x = .ref p ∧ y = .ref p' ∧ H p = some (.lst xs) ∧ H p' = some (.lst xs) ∧ Wis K H xs es ∧ xs.length ≤ 40) ∨
  (y = x ∧ ∃ T, TyB K H x T ∧ T ≠ "list" ∧ ((∃ D, Dp K H x D ∧ SeqAt.shaped D = true) ∨ ∃ p, x = .ref p ∧ H p = some (.dK [])))
theorem Hn.up {H H' : Hp} {x y : V} (e : Same H H') (h : Hn K H x y) : Hn K H' x y := by
  rcases h with ⟨p, p', xs, es, h1, h2, h3, h4, h5, h6⟩ | ⟨h0, T, h1, h2, h3⟩
  · exact .inl ⟨p, p', xs, es, h1, h2, e _ _ h3, e _ _ h4, h5.up e, h6⟩
  · refine .inr ⟨h0, T, LH.Same.ty e h1, h2, ?_⟩
    rcases h3 with ⟨D, h3, h4⟩ | ⟨p, h3, h4⟩
    · exact .inl ⟨D, dp_up e h3, h4⟩
    · exact .inr ⟨p, h3, e _ _ h4⟩
theorem Wis.data {H : Hp} {xs : List V} {es : List (Option (List V))} (o : Wis K H xs es) : ∃ ds, DpAll K H xs ds ∧ SeqAt.shaped (.list ds) = true ∧ SeqAt.shaped (.tuple ds) = true := by
  have h : ∀ y ∈ xs, ∃ e, Dp K H y e ∧ PyData.canLay0 e = true ∧ PyData.depth e ≤ 3 := fun y hy => by
    obtain ⟨i, hi, e⟩ := List.mem_iff_getElem.mp hy
    have hd : es[i]? = some (es[i]'(by rw [o.1]; exact hi)) := List.getElem?_eq_getElem _
    exact (o.2 i y _ (by rw [← e]; exact List.getElem?_eq_getElem hi) hd).2
  obtain ⟨ds, h1, h2, h3⟩ := all_data h
  refine ⟨ds, h1, ?_, ?_⟩
  · unfold SeqAt.shaped
    rw [Bool.and_eq_true]
    refine ⟨h2, decide_eq_true ?_⟩
    simp only [PyData.depth]
    omega
  · unfold SeqAt.shaped
    rw [Bool.and_eq_true]
    refine ⟨h2, decide_eq_true ?_⟩
    simp only [PyData.depth]
    omega
theorem ok_law (T : Txt K mg a) :
    FnOk P w K mg base CX0 7 a.law a.d_law ["_law_script"] (spLaw K) := by
  have G__law_at := ok__law_at (P := P) (w := w) (base := base) T
  have G__law_row := ok__law_row (P := P) (w := w) (base := base) T
  have G__law_enough := ok__law_enough (P := P) (w := w) (base := base) T
  have G__law_houses := ok__law_houses (P := P) (w := w) (base := base) T
  have G__law_spoilt := ok__law_spoilt (P := P) (w := w) (base := base) T
  have G__law_due := ok__law_due (P := P) (w := w) (base := base) T
  have G__law_truth := ok__law_truth (P := P) (w := w) (base := base) T
  have G__law_refused := ok__law_refused (P := P) (w := w) (base := base) T
  have G_is_backing := ok_is_backing (P := P) (w := w) (base := base) T
  refine T.F_law.ok sc_law (fun vs H Q E h => ?_) (fun cdv A outer s H vs Q E hr h => ?_)
  · obtain ⟨i, ns, rfl, _⟩ := h
    rfl
  · obtain ⟨q, ns, rfl, hS, hl, k⟩ := h
    have HR_is_backing : Room 5 _ := hr.mono (by decide)
    have HR__law_at : Room 1 _ := hr.mono (by decide)
    have HR__law_row : Room 1 _ := hr.mono (by decide)
    have HR__law_enough : Room 1 _ := hr.mono (by decide)
    have HR__law_houses : Room 1 _ := hr.mono (by decide)
    have HR__law_spoilt : Room 1 _ := hr.mono (by decide)
    have HR__law_due : Room 3 _ := hr.mono (by decide)
    have HR__law_truth : Room 1 _ := hr.mono (by decide)
    have HR__law_refused : Room 6 _ := hr.mono (by decide)
    refine ⟨_, (pss_cons (ps_for PassesOwn.never rfl (pi_range3 rfl T.n_range (pa_cons pe_int (pa_cons (pe_op op_add (pe_callB (r := LH.rLen K) LH.call_len rfl T.n_len (by decide +kernel) (pa_cons (pv 0) pa_nil)) pe_int) (pa_cons pe_int pa_nil)))) (pg_name (i := 1) sc_law.nd rfl (Or.inl rfl))
    (pss_cons (ps_set (i := 2) sc_law.nd rfl (Or.inl rfl) (pe_op op_add (pe_call G__law_at HR__law_at rfl T.g__law_at T.F__law_at.kp T.b__law_at .nil pass0 (pa_cons (pv 0) (pa_cons (pv 1) pa_nil))) (pv 1)))
    (pss_cons (ps_set (i := 3) sc_law.nd rfl (Or.inl rfl) (pe_call G__law_at HR__law_at rfl T.g__law_at T.F__law_at.kp T.b__law_at .nil pass0 (pa_cons (pv 0) (pa_cons (pe_op op_add (pv 1) pe_int) pa_nil))))
    (pss_cons (ps_set (i := 4) sc_law.nd rfl (Or.inl rfl) (pe_call G__law_at HR__law_at rfl T.g__law_at T.F__law_at.kp T.b__law_at .nil pass0 (pa_cons (pv 0) (pa_cons (pe_op op_add (pv 1) pe_int) pa_nil))))
    (pss_cons (ps_set (i := 5) sc_law.nd rfl (Or.inl rfl) (pe_op op_add pe_int (pe_op op_mod (pv 2) pe_int)))
    (pss_cons (ps_set (i := 6) sc_law.nd rfl (Or.inr rfl) (pe_op op_mod (pe_op op_fdiv (pv 2) pe_int) pe_int))
    (pss_cons (ps_set (i := 7) sc_law.nd rfl (Or.inr rfl) (pe_lst (pa_cons (pe_call G__law_row HR__law_row rfl T.g__law_row T.F__law_row.kp T.b__law_row .nil pass0 (pa_cons (pe_op op_mod (pe_op op_fdiv (pv 3) pe_int) pe_int) (pa_cons pe_int pa_nil))) (pa_cons (pe_call G__law_row HR__law_row rfl T.g__law_row T.F__law_row.kp T.b__law_row .nil pass0 (pa_cons (pe_op op_mod (pe_op op_fdiv (pv 3) pe_int) pe_int) (pa_cons pe_int pa_nil))) pa_nil))))
    (pss_cons (ps_set (i := 8) sc_law.nd rfl (Or.inl rfl) (pe_op op_add (pe_call G__law_enough HR__law_enough rfl T.g__law_enough T.F__law_enough.kp T.b__law_enough .nil pass0 (pa_cons (pv 5) pa_nil)) (pe_ix (r := rIxL K) ix_list (pe_lst (pa_cons pe_int (pa_cons pe_int (pa_cons pe_int (pa_cons (pe_un un_neg pe_int) (pa_cons pe_int pa_nil)))))) (pe_op op_mod (pv 3) pe_int) (fun _ _ => rfl))))
    (pss_cons (ps_setLc (i := 9) (own := [("_law_house", 10)]) (g := gName 10) (tt := tYes) rfl sc_law.nd rfl rfl rfl (pi_list (pe_call G__law_houses HR__law_houses rfl T.g__law_houses T.F__law_houses.kp T.b__law_houses .nil pass0 (pa_cons (pv 4) (pa_cons (pv 5) (pa_cons (pv 8) pa_nil))))) (blkOk_by (N := N_law) (sc := defScope s_law) (by decide +kernel)) (fun _ _ _ _ _ => pg_name (i := 10) sc_law.nd rfl (Or.inl rfl)) (fun _ _ _ _ _ => pts_nil) (fun _ _ _ _ _ => (pe_tup (pa_cons pe_str (pa_cons (pv 6) (pa_cons (pe_ix (r := rIxL K) ix_list (pv 7) pe_int (fun _ _ => rfl)) (pa_cons (pv 10) pa_nil)))))))
    (pss_cons (ps_if (pt_cmpR op_gt (pe_op op_mod (pv 4) pe_int) pe_int (nomark _))
      (pss_one (ps_set (i := 9) sc_law.nd rfl (Or.inl rfl) (pe_call G__law_spoilt HR__law_spoilt rfl T.g__law_spoilt T.F__law_spoilt.kp T.b__law_spoilt .nil pass0 (pa_cons (pv 9) (pa_cons (pe_op op_fdiv (pv 4) pe_int) (pa_cons (pv 5) (pa_cons (pv 6) (pa_cons (pv 7) pa_nil))))))))
      pss_nil)
    (pss_cons (ps_if (pt_cmpR op_eq (pe_op op_mod (pv 4) pe_int) pe_int (nomark _))
      (pss_one (ps_set (i := 9) sc_law.nd rfl (Or.inl rfl) (pe_ix (r := rIxL K) ix_list (pe_lst (pa_cons (pe_callTy (r := LH.rTupL K) LH.call_tupL rfl T.n_tuple (by decide +kernel) (pa_cons (pv 9) pa_nil)) (pa_cons pe_non (pa_cons pe_dnewK (pa_cons pe_str pa_nil))))) (pe_op op_mod (pe_op op_fdiv (pv 4) pe_int) pe_int) (fun _ _ => rfl))))
      pss_nil)
    (pss_cons (ps_set (i := 11) sc_law.nd rfl (Or.inl rfl) (pe_ifExp (pt_val (pe_callB (r := rIsi K) call_isi rfl T.n_isinstance (by decide +kernel) (pa_cons (pv 9) (pa_cons (pe_bltn (v := .ty "list") rfl T.n_list (by decide +kernel) rfl) pa_nil)))) (pe_callTy (r := LH.rListOf K) LH.call_listOf rfl T.n_list (by decide +kernel) (pa_cons (pv 9) pa_nil)) (pv 9)))
    (pss_cons (ps_for PassesOwn.never rfl (pi_list (pe_lst (pa_cons (pe_tup (pa_cons (pv 6) (pa_cons (pe_ix (r := rIxL K) ix_list (pv 7) pe_int (fun _ _ => rfl)) pa_nil))) (pa_cons (pe_tup (pa_cons (pe_op op_add (pv 6) pe_int) (pa_cons (pe_ix (r := rIxL K) ix_list (pv 7) pe_int (fun _ _ => rfl)) pa_nil))) (pa_cons (pe_tup (pa_cons (pv 6) (pa_cons (pe_ix (r := rIxL K) ix_list (pv 7) pe_int (fun _ _ => rfl)) pa_nil))) pa_nil))))) (pg_tup rfl (pgs_cons (pg_name (i := 12) sc_law.nd rfl (Or.inl rfl)) (pgs_cons (pg_name (i := 13) sc_law.nd rfl (Or.inl rfl)) pgs_nil)))
      (pss_one (ps_if (pt_not (pt_val (pe_call G__law_truth HR__law_truth rfl T.g__law_truth T.F__law_truth.kp T.b__law_truth .nil pass0 (pa_cons (pe_call G_is_backing HR_is_backing rfl T.g_is_backing T.F_is_backing.kp T.b_is_backing .nil LH.passN (pa_cons (pv 5) (pa_cons (pv 12) (pa_cons (pv 13) (pa_cons (pv 11) pa_nil))))) (pa_cons (pe_call G__law_due HR__law_due rfl T.g__law_due T.F__law_due.kp T.b__law_due .nil pass0 (pa_cons (pv 5) (pa_cons (pv 12) (pa_cons (pv 13) (pa_cons (pv 9) pa_nil))))) pa_nil)))))
        (pss_one (ps_ret pe_bl))
        pss_nil)))
    (pss_one (ps_if (pt_cmpR (r := LH.rNeX K) (LH.op_neX hr.units) (pv 11) (pv 9) (nomark _))
      (pss_one (ps_ret pe_bl))
      pss_nil)))))))))))))))
  (pss_one (ps_ret (pe_call G__law_refused HR__law_refused rfl T.g__law_refused T.F__law_refused.kp T.b__law_refused .nil pass0 (pa_cons (pe_ix (r := rIxL K) ix_list (pe_lst (pa_cons pe_int (pa_cons pe_int (pa_cons pe_bl (pa_cons pe_non (pa_cons pe_str pa_nil)))))) (pe_op op_mod (pe_call G__law_at HR__law_at rfl T.g__law_at T.F__law_at.kp T.b__law_at .nil pass0 (pa_cons (pv 0) (pa_cons pe_int pa_nil))) pe_int) (fun _ _ => rfl)) pa_nil))))), ?_⟩
    walk_at "rd"
    refine LH.x_lenL hS ?_
    walk_at "rd"
    obtain ⟨m, hm, _⟩ := rgc3 (n := ((ns.map V.int).length : Int) + 1) (by omega) (by rw [List.length_map]; omega)
    refine LH.rn3v hm ?_
    refine LH.for_R3 (fun i σ H' => (∃ o1 o2 o3 o4 o5 o6 o7 o8 o9 o10 o11 o12 o13, σ = [some (.ref q), o1, o2, o3, o4, o5, o6, o7, o8, o9, o10, o11, o12, o13]) ∧ Same H H')
      ⟨⟨_, _, _, _, _, _, _, _, _, _, _, _, _, rfl⟩, Same.refl _⟩ ?_ ?_
    · rintro i σ H0 hi ⟨⟨o1, o2, o3, o4, o5, o6, o7, o8, o9, o10, o11, o12, o13, rfl⟩, e0⟩
      have hS0 := Same.seq e0 hS
      walk_at "rd"
      refine ⟨q, ns, _, rfl, hS0, by omega, fun z1 => ?_⟩
      walk_at "rd"
      refine ⟨q, ns, _, rfl, hS0, by omega, fun more => ?_⟩
      walk_at "rd"
      refine ⟨q, ns, _, rfl, hS0, by omega, fun last => ?_⟩
      walk_at "rd"
      generalize hcell : z1 + (0 + (i : Int) * 3) = cell
      obtain ⟨c, hc⟩ : ∃ c, c = 1 + cell % 12 := ⟨_, rfl⟩
      have c1 : 1 ≤ c := by omega
      have c2 : c ≤ 12 := by omega
      rw [← hc]
      generalize cell / 12 % 40 = n
      refine ⟨_, _, rfl, fun r0 H1 hz0 e1 => ?_⟩
      walk_at "rd"
      refine ⟨_, _, rfl, fun r1 H2 hz1 e2 => ?_⟩
      walk_at "rd"
      refine LH.newl (LH.small rfl) fun p3 H3 f3 e3 g3 => ?_
      walk_at "rd"
      refine ⟨c, rfl, c1, c2, ?_⟩
      walk_at "rd"
      refine LH.newl (LH.small rfl) fun p4 H4 f4 e4 g4 => ?_
      walk_at "rd"
      obtain ⟨v, hv, hvb⟩ : ∃ v : Int, atI [V.int 0, .int 0, .int 1, .int (-1), .int 12] (more % 5) = some (.int v) ∧ -1 ≤ v ∧ v ≤ 12 := by
        have h : more % 5 = 0 ∨ more % 5 = 1 ∨ more % 5 = 2 ∨ more % 5 = 3 ∨ more % 5 = 4 := by omega
        rcases h with h | h | h | h | h <;> rw [h]
        · exact ⟨_, rfl, by decide, by decide⟩
        · exact ⟨_, rfl, by decide, by decide⟩
        · exact ⟨_, rfl, by decide, by decide⟩
        · exact ⟨_, rfl, by decide, by decide⟩
        · exact ⟨_, rfl, by decide, by decide⟩
      refine LH.x_ixL (SqL.of g4) hv ?_
      walk_at "rd"
      refine ⟨_, c, _, rfl, c1, c2, fun p5 H5 hs e5 g5 nd rg ln => ?_⟩
      have g3' : SqL K H5 p3 [.str r0, .str r1] := SqL.of (e5 _ _ (e4 _ _ g3))
      have ok0 := row_ok hz0
      have ok1 := row_ok hz1
      have hl12 : hs.length ≤ 12 := by omega
      walk_at "rd"
      refine LH.lc_N (SqL.of g5) (by rw [List.length_map]; omega) (fun i => .tup (wd "mark" n r0 (hs.getD i 0))) (fun i l h => by cases h) (fun _ => rfl) ?_ ?_ fun p6 H6 ys f6 e6 g6 ly hy => ?_
      · intro x hx Hx ex Q3 q3
        walk_at "rd"
        exact q3 _ (Same.refl _)
      · intro j x hx Hx ex Q3 q3
        rw [List.getElem?_map] at hx
        obtain ⟨h, hj, rfl⟩ := Option.map_eq_some_iff.mp hx
        walk_at "rd"
        refine LH.x_ixL (Same.seq ex g3') rfl ?_
        walk_at "rd"
        refine LH.newt (LH.small rfl) fun p7 H7 f7 e7 g7 => ?_
        refine q3 _ _ e7 ?_
        rw [g7, List.getD_eq_getElem?_getD, hj]
        rfl
      rw [List.length_map] at ly
      have mks : Mks K H6 n r0 ys hs := ⟨ly.symm, fun j x h hx hj => by
        obtain ⟨p, e, g⟩ := hy j x hx
        refine ⟨p, e, SqT.of ?_⟩
        rw [g, List.getD_eq_getElem?_getD, hj]
        rfl⟩
      walk_at "rd"
      apply LH.join (α := Addr) (fun p H' => Same H6 H' ∧ ∃ xs es, H' p = some (.lst xs) ∧ Wis K H' xs es ∧ xs.length ≤ 40)
      · intro kk
        refine LH.br_d (fun _ => ?_) (fun _ => ?_)
        · refine LH.x_asg (LH.x_call ?_)
          walk_at "rd"
          refine ⟨p6, p3, _, c, n, r0, r1, ys, hs, rfl, SqL.of g6, mks, by omega, Same.seq e6 g3', ok0, ok1, c1, fun p' xs es H' eq gq wq lq => ?_⟩
          refine LH.x_gname ?_
          exact kk p' H' ⟨eq, xs, es, gq, wq, lq⟩
        · exact kk p6 H6 ⟨Same.refl _, ys, _, g6, mks.wis ok0, by omega⟩
      rintro p H7 ⟨e7, xs, es, g7, w7, l7⟩
      walk_at "rs"
      have e07 : Same H H7 := ((((((e0.trans e1).trans e2).trans e3).trans e4).trans e5).trans e6).trans e7
      have g37 : SqL K H7 p3 [.str r0, .str r1] := Same.seq (e6.trans e7) g3'
      -- a list of things, or something else
      refine LH.cutS (fun σ' H' => ∃ x, σ' = [some (.ref q), some (.int (0 + (i : Int) * 3)), some (.int cell), some (.int more), some (.int last), some (.int c), some (.int n), some (.ref p3), some (.int (en c + v)), some x, o10, o11, o12, o13] ∧ Same H7 H' ∧ Ws K H' x) (fun N hN => ?_) ?_
      · walk_at "rd"
        refine LH.br_d (fun _ => ?_) (fun _ => ?_)
        · walk_at "rd"
          refine LH.x_tupL (SqL.of g7) fun q1 G1 h1 d1 k1 => ?_
          walk_at "rd"
          refine LH.x_dnew fun q2 G2 h2 d2 k2 => ?_
          walk_at "rd"
          refine LH.newl (LH.small rfl) fun q3 G3 h3 d3 k3 => ?_
          walk_at "rd"
          have d13 := (d1.trans d2).trans d3
          have k1' := (d2.trans d3) _ _ k1
          have w3 := w7.up d13
          obtain ⟨ds, hd, _, hs⟩ := w3.data
          have hj : last / 64 % 4 = 0 ∨ last / 64 % 4 = 1 ∨ last / 64 % 4 = 2 ∨ last / 64 % 4 = 3 := by omega
          rcases hj with hj | hj | hj | hj <;> rw [hj]
          · refine LH.x_ixL (v := .ref q1) (SqL.of k3) rfl ?_
            walk_at "rd"
            exact hN _ _ ⟨_, rfl, d13, .inr ⟨_, .tup (SqT.of k1'), by decide, .inl ⟨.tuple ds, .tup (SqT.of k1') hd, hs⟩⟩⟩
          · refine LH.x_ixL (v := .non) (SqL.of k3) rfl ?_
            walk_at "rd"
            exact hN _ _ ⟨_, rfl, d13, .inr ⟨_, .non, by decide, .inl ⟨_, .non, by decide +kernel⟩⟩⟩
          · refine LH.x_ixL (v := .ref q2) (SqL.of k3) rfl ?_
            walk_at "rd"
            exact hN _ _ ⟨_, rfl, d13, .inr ⟨_, .dK (d3 _ _ k2), by decide, .inr ⟨q2, rfl, d3 _ _ k2⟩⟩⟩
          · refine LH.x_ixL (v := .str "mark") (SqL.of k3) rfl ?_
            walk_at "rd"
            exact hN _ _ ⟨_, rfl, d13, .inr ⟨_, .str _, by decide, .inl ⟨_, .str _, by decide +kernel⟩⟩⟩
        · walk_at "rd"
          exact hN _ _ ⟨_, rfl, Same.refl _, .inl ⟨p, xs, es, rfl, g7, w7, l7⟩⟩
      rintro σ' H8 ⟨x, rfl, e8, wx⟩
      walk_at "rs"
      refine LH.x_asg ?_
      refine LH.cut (fun y H' => Same H8 H' ∧ Hn K H' x y) (fun N hN => ?_) ?_
      · walk_at "rd"
        rcases wx with ⟨p', xs', es', rfl, g8, w8, l8⟩ | ⟨Tx, hx, hne, hd⟩
        · refine LH.x_isiT (b := true) (.lst (SqL.of g8)) (by decide +kernel) ?_
          walk_at "rd"
          refine LH.x_listOf (.inl (SqL.of g8)) fun p2 H9 f9 e9 g9 => ?_
          exact hN _ _ ⟨e9, .inl ⟨p', p2, xs', es', rfl, rfl, e9 _ _ g8, g9, w8.up e9, l8⟩⟩
        · have hx' := hx
          cases hx with
          | lst h => exact absurd rfl hne
          | _ =>
            refine LH.x_isiT (b := false) hx' (by decide +kernel) ?_
            walk_at "rd"
            exact hN _ _ ⟨Same.refl _, .inr ⟨rfl, _, hx', hne, hd⟩⟩
      rintro y H9 ⟨e9, hn⟩
      walk_at "rd"
      refine LH.x_ixL (Same.seq (e8.trans e9) g37) rfl ?_
      walk_at "rd"
      refine LH.newt (LH.small rfl) fun t1 H10 f10 e10 g10 => ?_
      walk_at "rd"
      refine LH.x_ixL (Same.seq ((e8.trans e9).trans e10) g37) rfl ?_
      walk_at "rd"
      refine LH.newt (LH.small rfl) fun t2 H11 f11 e11 g11 => ?_
      walk_at "rd"
      refine LH.x_ixL (Same.seq (((e8.trans e9).trans e10).trans e11) g37) rfl ?_
      walk_at "rd"
      refine LH.newt (LH.small rfl) fun t3 H12 f12 e12 g12 => ?_
      walk_at "rd"
      refine LH.newl (LH.small rfl) fun L H13 f13 e13 g13 => ?_
      have e913 := ((e10.trans e11).trans e12).trans e13
      have hn13 := hn.up e913
      have items : ∀ (j : Nat) t, [V.ref t1, .ref t2, .ref t3][j]? = some t → ∃ (s : Addr) (m : Int) (z : Str), t = .ref s ∧ Ok z ∧ H13 s = some (.tup [.int m, .str z]) := fun j t ht => by
        rcases j with _ | _ | _ | j
        · injection ht with ht
          exact ⟨t1, _, _, ht.symm, ok0, ((e11.trans e12).trans e13) _ _ g10⟩
        · injection ht with ht
          exact ⟨t2, _, _, ht.symm, ok0, (e12.trans e13) _ _ g11⟩
        · injection ht with ht
          exact ⟨t3, _, _, ht.symm, ok1, e13 _ _ g12⟩
        · cases ht
      walk_at "rd"
      refine LH.for_Lg (SqL.of g13) (fun j σ H' => (∃ o12 o13, σ = [some (.ref q), some (.int (0 + (i : Int) * 3)), some (.int cell), some (.int more), some (.int last), some (.int c), some (.int n), some (.ref p3), some (.int (en c + v)), some x, o10, some y, o12, o13]) ∧ Same H13 H')
        ⟨⟨_, _, rfl⟩, Same.refl _⟩ (fun j σ H' _ p => SqL.of (p.2 _ _ g13)) ?_ ?_
      · rintro j t σ Ha ht ⟨⟨o12', o13', rfl⟩, ea⟩
        obtain ⟨s', m', z', rfl, okz, gs⟩ := items j t ht
        refine LH.x_gtup (SqT.of (ea _ _ gs)) rfl ?_
        walk_at "rd"
        have hna := hn13.up ea
        have same : ∀ b : Bool, (!(b == b)) = false := fun b => by cases b <;> rfl
        rcases hna with ⟨p', p2, xs', es', rfl, rfl, g1, g2, w1, l1⟩ | ⟨rfl, Tx, hx, hne, _⟩
        · refine ⟨.int c, _, m', z', _, rfl, .int c, okz, fun e => (by rw [isW_yes c1 c2] at e; cases e), fun c' ec _ _ => ⟨backD c m' z' es', .inl ⟨p2, xs', es', rfl, SqL.of g2, w1, by omega, by cases ec; rfl⟩, fun Hb eb => ?_⟩⟩
          walk_at "rd"
          refine ⟨c, m', z', _, rfl, c1, c2, okz, .inl ⟨p', xs', es', rfl, SqL.of (eb _ _ g1), w1.up eb, by omega, fun Hc ec => ?_⟩⟩
          walk_at "rd"
          refine ⟨_, _, rfl, ?_⟩
          walk_at "rd"
          rw [same]
          walk_at "rd"
          exact ⟨⟨_, _, rfl⟩, (ea.trans eb).trans ec⟩
        · refine ⟨.int c, _, m', z', _, rfl, .int c, okz, fun e => (by rw [isW_yes c1 c2] at e; cases e), fun c' ec _ _ => ⟨false, .inr ⟨Tx, hx, hne, rfl⟩, fun Hb eb => ?_⟩⟩
          walk_at "rd"
          refine ⟨c, m', z', _, rfl, c1, c2, okz, .inr ⟨Tx, LH.Same.ty eb hx, hne, fun Hc ec => ?_⟩⟩
          walk_at "rd"
          refine ⟨_, _, rfl, ?_⟩
          walk_at "rd"
          rw [same]
          walk_at "rd"
          exact ⟨⟨_, _, rfl⟩, (ea.trans eb).trans ec⟩
      · rintro σ Ha ⟨⟨o12', o13', rfl⟩, ea⟩
        walk_at "rd"
        have end_ : Same H Ha := (((e07.trans e8).trans e9).trans e913).trans ea
        rcases hn13.up ea with ⟨p', p2, xs', es', rfl, rfl, g1, g2, w1, l1⟩ | ⟨rfl, Tx, hx, hne, hd⟩
        · obtain ⟨ds, hds, hs, _⟩ := w1.data
          refine LH.x_neX (.lst (SqL.of g2) hds) hs (.lst (SqL.of g1) hds) ?_
          walk_at "rd"
          exact ⟨⟨_, _, _, _, _, _, _, _, _, _, _, _, _, rfl⟩, end_⟩
        · rcases hd with ⟨D, hD, hs⟩ | ⟨p', rfl, g1⟩
          · refine LH.x_neX hD hs hD ?_
            walk_at "rd"
            exact ⟨⟨_, _, _, _, _, _, _, _, _, _, _, _, _, rfl⟩, end_⟩
          · refine LH.x_neX0 g1 ?_
            walk_at "rd"
            exact ⟨⟨_, _, _, _, _, _, _, _, _, _, _, _, _, rfl⟩, end_⟩
    · rintro σ H' ⟨⟨o1, o2, o3, o4, o5, o6, o7, o8, o9, o10, o11, o12, o13, rfl⟩, e0⟩
      walk_at "rd"
      refine LH.newl (LH.small rfl) fun p1 H1 f1 e1 g1 => ?_
      walk_at "rd"
      refine ⟨q, ns, _, rfl, Same.seq (e0.trans e1) hS, by omega, fun z1 => ?_⟩
      walk_at "rd"
      obtain ⟨v, t, hv, ty, bad⟩ : ∃ v t, atI [V.int 0, .int 13, .bl true, .non, .str "2"] (z1 % 5) = some v ∧ TyB K H1 v t ∧ isW v 1 12 = false := by
        have h : z1 % 5 = 0 ∨ z1 % 5 = 1 ∨ z1 % 5 = 2 ∨ z1 % 5 = 3 ∨ z1 % 5 = 4 := by omega
        rcases h with h | h | h | h | h <;> rw [h]
        · exact ⟨_, _, rfl, .int _, rfl⟩
        · exact ⟨_, _, rfl, .int _, rfl⟩
        · exact ⟨_, _, rfl, .bl _, rfl⟩
        · exact ⟨_, _, rfl, .non, rfl⟩
        · exact ⟨_, _, rfl, .str _, rfl⟩
      refine LH.x_ixL (SqL.of g1) hv ?_
      walk_at "rd"
      exact ⟨v, t, rfl, ty, bad, fun H' _ => k H'⟩
end
end K4
namespace K4
open PySem L2
theorem all_mk {l : PySem.W.OpenLaw} {w : World} {K : PySem.W.Frag} {h : Heap} {mg : Str → Option Value} {fa f0 f1 f2 f3 f4 f5 f6 f7 f8 f9 f10 f11 f12 f13 f14 f15 f16 f17 f18 f19 f20 f21 c0 c1 c2 c3 c4 c5 c6 c7 c8 : Addr} (X : K.In h) (G : h.Ns mainGlobals mg) (hfa : mg "law" = some (.ref fa))
    {od0 an0 : Option Addr} {sl0 : Array (Option Value)} {oc0 kV0 dc0 pm0 cd0 ct0 : Value} {od1 an1 : Option Addr} {sl1 : Array (Option Value)} {oc1 kV1 dc1 pm1 cd1 ct1 : Value} {od2 an2 : Option Addr} {sl2 : Array (Option Value)} {oc2 kV2 dc2 pm2 cd2 ct2 : Value} {od3 an3 : Option Addr} {sl3 : Array (Option Value)} {oc3 kV3 dc3 pm3 cd3 ct3 : Value} {od4 an4 : Option Addr} {sl4 : Array (Option Value)} {oc4 kV4 dc4 pm4 cd4 ct4 : Value} {od5 an5 : Option Addr} {sl5 : Array (Option Value)} {oc5 kV5 dc5 pm5 cd5 ct5 : Value} {od6 an6 : Option Addr} {sl6 : Array (Option Value)} {oc6 kV6 dc6 pm6 cd6 ct6 : Value} {od7 an7 : Option Addr} {sl7 : Array (Option Value)} {oc7 kV7 dc7 pm7 cd7 ct7 : Value} {od8 an8 : Option Addr} {sl8 : Array (Option Value)} {oc8 kV8 dc8 pm8 cd8 ct8 : Value} {od9 an9 : Option Addr} {sl9 : Array (Option Value)} {oc9 kV9 dc9 pm9 cd9 ct9 : Value} {od10 an10 : Option Addr} {sl10 : Array (Option Value)} {oc10 kV10 dc10 pm10 cd10 ct10 : Value} {od11 an11 : Option Addr} {sl11 : Array (Option Value)} {oc11 kV11 dc11 pm11 cd11 ct11 : Value} {od12 an12 : Option Addr} {sl12 : Array (Option Value)} {oc12 kV12 dc12 pm12 cd12 ct12 : Value} {od13 an13 : Option Addr} {sl13 : Array (Option Value)} {oc13 kV13 dc13 pm13 cd13 ct13 : Value} {od14 an14 : Option Addr} {sl14 : Array (Option Value)} {oc14 kV14 dc14 pm14 cd14 ct14 : Value} {od15 an15 : Option Addr} {sl15 : Array (Option Value)} {oc15 kV15 dc15 pm15 cd15 ct15 : Value} {od16 an16 : Option Addr} {sl16 : Array (Option Value)} {oc16 kV16 dc16 pm16 cd16 ct16 : Value} {od17 an17 : Option Addr} {sl17 : Array (Option Value)} {oc17 kV17 dc17 pm17 cd17 ct17 : Value} {od18 an18 : Option Addr} {sl18 : Array (Option Value)} {oc18 kV18 dc18 pm18 cd18 ct18 : Value} {od19 an19 : Option Addr} {sl19 : Array (Option Value)} {oc19 kV19 dc19 pm19 cd19 ct19 : Value} {od20 an20 : Option Addr} {sl20 : Array (Option Value)} {oc20 kV20 dc20 pm20 cd20 ct20 : Value} {od21 an21 : Option Addr} {sl21 : Array (Option Value)} {oc21 kV21 dc21 pm21 cd21 ct21 : Value}
    (g0 : PySem.W.nsIn K mainGlobals "HouseError" = some (some (.ref c0)))
    (g1 : PySem.W.nsIn K mainGlobals "BadCount" = some (some (.ref c1)))
    (g2 : PySem.W.nsIn K mainGlobals "BadHouse" = some (some (.ref c2)))
    (g3 : PySem.W.nsIn K mainGlobals "BadRow" = some (some (.ref c3)))
    (g4 : PySem.W.nsIn K mainGlobals "BadWord" = some (some (.ref c4)))
    (g5 : PySem.W.nsIn K mainGlobals "Forged" = some (some (.ref c5)))
    (g6 : PySem.W.nsIn K mainGlobals "NoLetter" = some (some (.ref c6)))
    (g7 : PySem.W.nsIn K mainGlobals "NotWritten" = some (some (.ref c7)))
    (g8 : PySem.W.nsIn K mainGlobals "NoText" = some (some (.ref c8)))
    (a0 : PySem.W.nsIn K mainGlobals "is_whole" = some (some (.ref f0)))
    (l0 : K.lookup f0 = some ⟨oc0, od0, .func (PySem.W.fnOf "is_whole" "is_whole" (defArgs s_is_whole) (defBody s_is_whole) (defScope s_is_whole) .none kV0 dc0 pm0 an0 cd0 ct0), sl0⟩)
    (c0c : PySem.W.codeIn K cd0 "is_whole" = true)
    (k0 : PySem.W.keepIn K (.ref f0) = true)
    (a1 : PySem.W.nsIn K mainGlobals "check_count" = some (some (.ref f1)))
    (l1 : K.lookup f1 = some ⟨oc1, od1, .func (PySem.W.fnOf "check_count" "check_count" (defArgs s_check_count) (defBody s_check_count) (defScope s_check_count) .none kV1 dc1 pm1 an1 cd1 ct1), sl1⟩)
    (c1c : PySem.W.codeIn K cd1 "check_count" = true)
    (k1 : PySem.W.keepIn K (.ref f1) = true)
    (a2 : PySem.W.nsIn K mainGlobals "is_house" = some (some (.ref f2)))
    (l2 : K.lookup f2 = some ⟨oc2, od2, .func (PySem.W.fnOf "is_house" "is_house" (defArgs s_is_house) (defBody s_is_house) (defScope s_is_house) .none kV2 dc2 pm2 an2 cd2 ct2), sl2⟩)
    (c2c : PySem.W.codeIn K cd2 "is_house" = true)
    (k2 : PySem.W.keepIn K (.ref f2) = true)
    (a3 : PySem.W.nsIn K mainGlobals "most_liars" = some (some (.ref f3)))
    (l3 : K.lookup f3 = some ⟨oc3, od3, .func (PySem.W.fnOf "most_liars" "most_liars" (defArgs s_most_liars) (defBody s_most_liars) (defScope s_most_liars) .none kV3 dc3 pm3 an3 cd3 ct3), sl3⟩)
    (c3c : PySem.W.codeIn K cd3 "most_liars" = true)
    (k3 : PySem.W.keepIn K (.ref f3) = true)
    (a4 : PySem.W.nsIn K mainGlobals "enough" = some (some (.ref f4)))
    (l4 : K.lookup f4 = some ⟨oc4, od4, .func (PySem.W.fnOf "enough" "enough" (defArgs s_enough) (defBody s_enough) (defScope s_enough) .none kV4 dc4 pm4 an4 cd4 ct4), sl4⟩)
    (c4c : PySem.W.codeIn K cd4 "enough" = true)
    (k4 : PySem.W.keepIn K (.ref f4) = true)
    (a5 : PySem.W.nsIn K mainGlobals "is_row" = some (some (.ref f5)))
    (l5 : K.lookup f5 = some ⟨oc5, od5, .func (PySem.W.fnOf "is_row" "is_row" (defArgs s_is_row) (defBody s_is_row) (defScope s_is_row) .none kV5 dc5 pm5 an5 cd5 ct5), sl5⟩)
    (c5c : PySem.W.codeIn K cd5 "is_row" = true)
    (k5 : PySem.W.keepIn K (.ref f5) = true)
    (a6 : PySem.W.nsIn K mainGlobals "caller" = some (some (.ref f6)))
    (l6 : K.lookup f6 = some ⟨oc6, od6, .func (PySem.W.fnOf "caller" "caller" (defArgs s_caller) (defBody s_caller) (defScope s_caller) .none kV6 dc6 pm6 an6 cd6 ct6), sl6⟩)
    (c6c : PySem.W.codeIn K cd6 "caller" = true)
    (k6 : PySem.W.keepIn K (.ref f6) = true)
    (a7 : PySem.W.nsIn K mainGlobals "is_word" = some (some (.ref f7)))
    (l7 : K.lookup f7 = some ⟨oc7, od7, .func (PySem.W.fnOf "is_word" "is_word" (defArgs s_is_word) (defBody s_is_word) (defScope s_is_word) .none kV7 dc7 pm7 an7 cd7 ct7), sl7⟩)
    (c7c : PySem.W.codeIn K cd7 "is_word" = true)
    (k7 : PySem.W.keepIn K (.ref f7) = true)
    (a8 : PySem.W.nsIn K mainGlobals "is_backing" = some (some (.ref f8)))
    (l8 : K.lookup f8 = some ⟨oc8, od8, .func (PySem.W.fnOf "is_backing" "is_backing" (defArgs s_is_backing) (defBody s_is_backing) (defScope s_is_backing) .none kV8 dc8 pm8 an8 cd8 ct8), sl8⟩)
    (c8c : PySem.W.codeIn K cd8 "is_backing" = true)
    (k8 : PySem.W.keepIn K (.ref f8) = true)
    (a9 : PySem.W.nsIn K mainGlobals "_law_at" = some (some (.ref f9)))
    (l9 : K.lookup f9 = some ⟨oc9, od9, .func (PySem.W.fnOf "_law_at" "_law_at" (defArgs s__law_at) (defBody s__law_at) (defScope s__law_at) .none kV9 dc9 pm9 an9 cd9 ct9), sl9⟩)
    (c9c : PySem.W.codeIn K cd9 "_law_at" = true)
    (k9 : PySem.W.keepIn K (.ref f9) = true)
    (a10 : PySem.W.nsIn K mainGlobals "_law_row" = some (some (.ref f10)))
    (l10 : K.lookup f10 = some ⟨oc10, od10, .func (PySem.W.fnOf "_law_row" "_law_row" (defArgs s__law_row) (defBody s__law_row) (defScope s__law_row) .none kV10 dc10 pm10 an10 cd10 ct10), sl10⟩)
    (c10c : PySem.W.codeIn K cd10 "_law_row" = true)
    (k10 : PySem.W.keepIn K (.ref f10) = true)
    (a11 : PySem.W.nsIn K mainGlobals "_law_is_row" = some (some (.ref f11)))
    (l11 : K.lookup f11 = some ⟨oc11, od11, .func (PySem.W.fnOf "_law_is_row" "_law_is_row" (defArgs s__law_is_row) (defBody s__law_is_row) (defScope s__law_is_row) .none kV11 dc11 pm11 an11 cd11 ct11), sl11⟩)
    (c11c : PySem.W.codeIn K cd11 "_law_is_row" = true)
    (k11 : PySem.W.keepIn K (.ref f11) = true)
    (a12 : PySem.W.nsIn K mainGlobals "_law_is_among" = some (some (.ref f12)))
    (l12 : K.lookup f12 = some ⟨oc12, od12, .func (PySem.W.fnOf "_law_is_among" "_law_is_among" (defArgs s__law_is_among) (defBody s__law_is_among) (defScope s__law_is_among) .none kV12 dc12 pm12 an12 cd12 ct12), sl12⟩)
    (c12c : PySem.W.codeIn K cd12 "_law_is_among" = true)
    (k12 : PySem.W.keepIn K (.ref f12) = true)
    (a13 : PySem.W.nsIn K mainGlobals "_law_is_word" = some (some (.ref f13)))
    (l13 : K.lookup f13 = some ⟨oc13, od13, .func (PySem.W.fnOf "_law_is_word" "_law_is_word" (defArgs s__law_is_word) (defBody s__law_is_word) (defScope s__law_is_word) .none kV13 dc13 pm13 an13 cd13 ct13), sl13⟩)
    (c13c : PySem.W.codeIn K cd13 "_law_is_word" = true)
    (k13 : PySem.W.keepIn K (.ref f13) = true)
    (a14 : PySem.W.nsIn K mainGlobals "_law_kind" = some (some (.ref f14)))
    (l14 : K.lookup f14 = some ⟨oc14, od14, .func (PySem.W.fnOf "_law_kind" "_law_kind" (defArgs s__law_kind) (defBody s__law_kind) (defScope s__law_kind) .none kV14 dc14 pm14 an14 cd14 ct14), sl14⟩)
    (c14c : PySem.W.codeIn K cd14 "_law_kind" = true)
    (k14 : PySem.W.keepIn K (.ref f14) = true)
    (a15 : PySem.W.nsIn K mainGlobals "_law_enough" = some (some (.ref f15)))
    (l15 : K.lookup f15 = some ⟨oc15, od15, .func (PySem.W.fnOf "_law_enough" "_law_enough" (defArgs s__law_enough) (defBody s__law_enough) (defScope s__law_enough) .none kV15 dc15 pm15 an15 cd15 ct15), sl15⟩)
    (c15c : PySem.W.codeIn K cd15 "_law_enough" = true)
    (k15 : PySem.W.keepIn K (.ref f15) = true)
    (a16 : PySem.W.nsIn K mainGlobals "_law_houses" = some (some (.ref f16)))
    (l16 : K.lookup f16 = some ⟨oc16, od16, .func (PySem.W.fnOf "_law_houses" "_law_houses" (defArgs s__law_houses) (defBody s__law_houses) (defScope s__law_houses) .none kV16 dc16 pm16 an16 cd16 ct16), sl16⟩)
    (c16c : PySem.W.codeIn K cd16 "_law_houses" = true)
    (k16 : PySem.W.keepIn K (.ref f16) = true)
    (a17 : PySem.W.nsIn K mainGlobals "_law_spoilt" = some (some (.ref f17)))
    (l17 : K.lookup f17 = some ⟨oc17, od17, .func (PySem.W.fnOf "_law_spoilt" "_law_spoilt" (defArgs s__law_spoilt) (defBody s__law_spoilt) (defScope s__law_spoilt) .none kV17 dc17 pm17 an17 cd17 ct17), sl17⟩)
    (c17c : PySem.W.codeIn K cd17 "_law_spoilt" = true)
    (k17 : PySem.W.keepIn K (.ref f17) = true)
    (a18 : PySem.W.nsIn K mainGlobals "_law_due" = some (some (.ref f18)))
    (l18 : K.lookup f18 = some ⟨oc18, od18, .func (PySem.W.fnOf "_law_due" "_law_due" (defArgs s__law_due) (defBody s__law_due) (defScope s__law_due) .none kV18 dc18 pm18 an18 cd18 ct18), sl18⟩)
    (c18c : PySem.W.codeIn K cd18 "_law_due" = true)
    (k18 : PySem.W.keepIn K (.ref f18) = true)
    (a19 : PySem.W.nsIn K mainGlobals "_law_truth" = some (some (.ref f19)))
    (l19 : K.lookup f19 = some ⟨oc19, od19, .func (PySem.W.fnOf "_law_truth" "_law_truth" (defArgs s__law_truth) (defBody s__law_truth) (defScope s__law_truth) .none kV19 dc19 pm19 an19 cd19 ct19), sl19⟩)
    (c19c : PySem.W.codeIn K cd19 "_law_truth" = true)
    (k19 : PySem.W.keepIn K (.ref f19) = true)
    (a20 : PySem.W.nsIn K mainGlobals "_law_refused" = some (some (.ref f20)))
    (l20 : K.lookup f20 = some ⟨oc20, od20, .func (PySem.W.fnOf "_law_refused" "_law_refused" (defArgs s__law_refused) (defBody s__law_refused) (defScope s__law_refused) .none kV20 dc20 pm20 an20 cd20 ct20), sl20⟩)
    (c20c : PySem.W.codeIn K cd20 "_law_refused" = true)
    (k20 : PySem.W.keepIn K (.ref f20) = true)
    (a21 : PySem.W.nsIn K mainGlobals "law" = some (some (.ref f21)))
    (l21 : K.lookup f21 = some ⟨oc21, od21, .func (PySem.W.fnOf "law" "law" (defArgs s_law) (defBody s_law) (defScope s_law) .none kV21 dc21 pm21 an21 cd21 ct21), sl21⟩)
    (c21c : PySem.W.codeIn K cd21 "law" = true)
    (k21 : PySem.W.keepIn K (.ref f21) = true)
    (x_c1 : PySem.W.excIn K c1 VEs "ValueError.__new__" = true)
    (kk_c1 : PySem.W.keepIn K (.ref c1) = true)
    (bx_c1 : PySem.W.subIn K (.ref c1) (.type "BaseException") = some true)
    (t_c1 : PySem.W.typeIn K (.ref c1) = some (.type "type"))
    (e_c1 : PySem.W.exmOne K (.ref c1) (.ref c0) = some true)
    (y1_c1 : PySem.W.findIn K (.ref c1) "__getattribute__" = some (some (.builtin "BaseException.__getattribute__")))
    (y2_c1 : PySem.W.findIn K (.ref c1) "__getattr__" = some none)
    (y4_c1 : PySem.W.hasDictIn K c1 = true)
    (y5_c1 : PySem.W.findIn K (.ref c1) "__class__" = some (some (.builtin "object.__class__")))
    (y8_c1 : PySem.W.mroIn K c1 (.type "object") = some true)
    (y6 : PySem.W.specialIn K (.builtin "object.__class__") "__get__" = some (some (.builtin "getset_descriptor.__get__")))
    (y7 : PySem.W.takesIn K (.builtin "object.__class__") = some true)
    (i_c1_c1 : PySem.W.kitOne K (.ref c1) (.ref c1) = some true)
    (i_c1_c2 : PySem.W.kitOne K (.ref c1) (.ref c2) = some false)
    (i_c1_c3 : PySem.W.kitOne K (.ref c1) (.ref c3) = some false)
    (i_c1_c4 : PySem.W.kitOne K (.ref c1) (.ref c4) = some false)
    (i_c1_c5 : PySem.W.kitOne K (.ref c1) (.ref c5) = some false)
    (i_c1_c6 : PySem.W.kitOne K (.ref c1) (.ref c6) = some false)
    (i_c1_c7 : PySem.W.kitOne K (.ref c1) (.ref c7) = some false)
    (i_c1_c8 : PySem.W.kitOne K (.ref c1) (.ref c8) = some false)
    (i_c1_ValueError : PySem.W.kitOne K (.ref c1) (.type "ValueError") = some true)
    (m_MOST_HOUSES : ∃ t, PySem.W.nsIn K mainGlobals "MOST_HOUSES" = some (some (.int 12 t)))
    (m_SAY : ∃ t, PySem.W.nsIn K mainGlobals "SAY" = some (some (.str "say" t)))
    (m_MARK : ∃ t, PySem.W.nsIn K mainGlobals "MARK" = some (some (.str "mark" t)))
    (m_LAST_NUMBER : ∃ t, PySem.W.nsIn K mainGlobals "LAST_NUMBER" = some (some (.int 9999 t)))
    (m_LONGEST_ROW : ∃ t, PySem.W.nsIn K mainGlobals "LONGEST_ROW" = some (some (.int 8 t)))
    (m_LETTERS : ∃ t, PySem.W.nsIn K mainGlobals "LETTERS" = some (some (.str "abcdefghijklmnopqrstuvwxyz" t)))
    (n_ValueError : PySem.W.nsIn K mainGlobals "ValueError" = some none)
    (n_all : PySem.W.nsIn K mainGlobals "all" = some none)
    (n_bool : PySem.W.nsIn K mainGlobals "bool" = some none)
    (n_int : PySem.W.nsIn K mainGlobals "int" = some none)
    (n_isinstance : PySem.W.nsIn K mainGlobals "isinstance" = some none)
    (n_len : PySem.W.nsIn K mainGlobals "len" = some none)
    (n_list : PySem.W.nsIn K mainGlobals "list" = some none)
    (n_min : PySem.W.nsIn K mainGlobals "min" = some none)
    (n_range : PySem.W.nsIn K mainGlobals "range" = some none)
    (n_set : PySem.W.nsIn K mainGlobals "set" = some none)
    (n_str : PySem.W.nsIn K mainGlobals "str" = some none)
    (n_tuple : PySem.W.nsIn K mainGlobals "tuple" = some none)
    (n_type : PySem.W.nsIn K mainGlobals "type" = some none) :
    ∃ fd : FuncData, (∀ (s : Shared) (v : Value), BindsTo s fd ⟨[v], []⟩ [("_law_script", v)]) ∧ ∀ base : Heap, K.In base → base.Ns mainGlobals mg → FnOk l.prog w K mg base CX0 7 fa fd ["_law_script"] (spLaw K) := by
  have e := hfa.symm.trans (PySem.W.mg_of X G a21)
  cases e
  have F0 := fun_mk (st := s_is_whole) l0 c0c k0
  have b0 := F0.binds (ps := ["thing", "least", "most"]) fun _ _ _ _ _ _ us hl => match us, hl with | [_, _, _], _ => rfl
  have F1 := fun_mk (st := s_check_count) l1 c1c k1
  have b1 := F1.binds (ps := ["count"]) fun _ _ _ _ _ _ us hl => match us, hl with | [_], _ => rfl
  have F2 := fun_mk (st := s_is_house) l2 c2c k2
  have b2 := F2.binds (ps := ["count", "thing"]) fun _ _ _ _ _ _ us hl => match us, hl with | [_, _], _ => rfl
  have F3 := fun_mk (st := s_most_liars) l3 c3c k3
  have b3 := F3.binds (ps := ["count"]) fun _ _ _ _ _ _ us hl => match us, hl with | [_], _ => rfl
  have F4 := fun_mk (st := s_enough) l4 c4c k4
  have b4 := F4.binds (ps := ["count"]) fun _ _ _ _ _ _ us hl => match us, hl with | [_], _ => rfl
  have F5 := fun_mk (st := s_is_row) l5 c5c k5
  have b5 := F5.binds (ps := ["thing"]) fun _ _ _ _ _ _ us hl => match us, hl with | [_], _ => rfl
  have F6 := fun_mk (st := s_caller) l6 c6c k6
  have b6 := F6.binds (ps := ["count", "number"]) fun _ _ _ _ _ _ us hl => match us, hl with | [_, _], _ => rfl
  have F7 := fun_mk (st := s_is_word) l7 c7c k7
  have b7 := F7.binds (ps := ["count", "thing"]) fun _ _ _ _ _ _ us hl => match us, hl with | [_, _], _ => rfl
  have F8 := fun_mk (st := s_is_backing) l8 c8c k8
  have b8 := F8.binds (ps := ["count", "number", "row", "words"]) fun _ _ _ _ _ _ us hl => match us, hl with | [_, _, _, _], _ => rfl
  have F9 := fun_mk (st := s__law_at) l9 c9c k9
  have b9 := F9.binds (ps := ["_law_script", "_law_k"]) fun _ _ _ _ _ _ us hl => match us, hl with | [_, _], _ => rfl
  have F10 := fun_mk (st := s__law_row) l10 c10c k10
  have b10 := F10.binds (ps := ["_law_base", "_law_k"]) fun _ _ _ _ _ _ us hl => match us, hl with | [_, _], _ => rfl
  have F11 := fun_mk (st := s__law_is_row) l11 c11c k11
  have b11 := F11.binds (ps := ["_law_thing"]) fun _ _ _ _ _ _ us hl => match us, hl with | [_], _ => rfl
  have F12 := fun_mk (st := s__law_is_among) l12 c12c k12
  have b12 := F12.binds (ps := ["_law_thing", "_law_least", "_law_most"]) fun _ _ _ _ _ _ us hl => match us, hl with | [_, _, _], _ => rfl
  have F13 := fun_mk (st := s__law_is_word) l13 c13c k13
  have b13 := F13.binds (ps := ["_law_count", "_law_thing"]) fun _ _ _ _ _ _ us hl => match us, hl with | [_, _], _ => rfl
  have F14 := fun_mk (st := s__law_kind) l14 c14c k14
  have b14 := F14.binds (ps := ["_law_error"]) fun _ _ _ _ _ _ us hl => match us, hl with | [_], _ => rfl
  have F15 := fun_mk (st := s__law_enough) l15 c15c k15
  have b15 := F15.binds (ps := ["_law_count"]) fun _ _ _ _ _ _ us hl => match us, hl with | [_], _ => rfl
  have F16 := fun_mk (st := s__law_houses) l16 c16c k16
  have b16 := F16.binds (ps := ["_law_cell", "_law_count", "_law_many"]) fun _ _ _ _ _ _ us hl => match us, hl with | [_, _, _], _ => rfl
  have F17 := fun_mk (st := s__law_spoilt) l17 c17c k17
  have b17 := F17.binds (ps := ["_law_words", "_law_cell", "_law_count", "_law_number", "_law_rows"]) fun _ _ _ _ _ _ us hl => match us, hl with | [_, _, _, _, _], _ => rfl
  have F18 := fun_mk (st := s__law_due) l18 c18c k18
  have b18 := F18.binds (ps := ["_law_count", "_law_number", "_law_row_here", "_law_words"]) fun _ _ _ _ _ _ us hl => match us, hl with | [_, _, _, _], _ => rfl
  have F19 := fun_mk (st := s__law_truth) l19 c19c k19
  have b19 := F19.binds (ps := ["_law_found", "_law_due_here"]) fun _ _ _ _ _ _ us hl => match us, hl with | [_, _], _ => rfl
  have F20 := fun_mk (st := s__law_refused) l20 c20c k20
  have b20 := F20.binds (ps := ["_law_count"]) fun _ _ _ _ _ _ us hl => match us, hl with | [_], _ => rfl
  have F21 := fun_mk (st := s_law) l21 c21c k21
  obtain ⟨t_MOST_HOUSES, m_MOST_HOUSES⟩ := m_MOST_HOUSES
  obtain ⟨t_SAY, m_SAY⟩ := m_SAY
  obtain ⟨t_MARK, m_MARK⟩ := m_MARK
  obtain ⟨t_LAST_NUMBER, m_LAST_NUMBER⟩ := m_LAST_NUMBER
  obtain ⟨t_LONGEST_ROW, m_LONGEST_ROW⟩ := m_LONGEST_ROW
  obtain ⟨t_LETTERS, m_LETTERS⟩ := m_LETTERS
  let a : Ad := ⟨f0, f1, f2, f3, f4, f5, f6, f7, f8, f9, f10, f11, f12, f13, f14, f15, f16, f17, f18, f19, f20, fa, PySem.W.fnOf "is_whole" "is_whole" (defArgs s_is_whole) (defBody s_is_whole) (defScope s_is_whole) .none kV0 dc0 pm0 an0 cd0 ct0, PySem.W.fnOf "check_count" "check_count" (defArgs s_check_count) (defBody s_check_count) (defScope s_check_count) .none kV1 dc1 pm1 an1 cd1 ct1, PySem.W.fnOf "is_house" "is_house" (defArgs s_is_house) (defBody s_is_house) (defScope s_is_house) .none kV2 dc2 pm2 an2 cd2 ct2, PySem.W.fnOf "most_liars" "most_liars" (defArgs s_most_liars) (defBody s_most_liars) (defScope s_most_liars) .none kV3 dc3 pm3 an3 cd3 ct3, PySem.W.fnOf "enough" "enough" (defArgs s_enough) (defBody s_enough) (defScope s_enough) .none kV4 dc4 pm4 an4 cd4 ct4, PySem.W.fnOf "is_row" "is_row" (defArgs s_is_row) (defBody s_is_row) (defScope s_is_row) .none kV5 dc5 pm5 an5 cd5 ct5, PySem.W.fnOf "caller" "caller" (defArgs s_caller) (defBody s_caller) (defScope s_caller) .none kV6 dc6 pm6 an6 cd6 ct6, PySem.W.fnOf "is_word" "is_word" (defArgs s_is_word) (defBody s_is_word) (defScope s_is_word) .none kV7 dc7 pm7 an7 cd7 ct7, PySem.W.fnOf "is_backing" "is_backing" (defArgs s_is_backing) (defBody s_is_backing) (defScope s_is_backing) .none kV8 dc8 pm8 an8 cd8 ct8, PySem.W.fnOf "_law_at" "_law_at" (defArgs s__law_at) (defBody s__law_at) (defScope s__law_at) .none kV9 dc9 pm9 an9 cd9 ct9, PySem.W.fnOf "_law_row" "_law_row" (defArgs s__law_row) (defBody s__law_row) (defScope s__law_row) .none kV10 dc10 pm10 an10 cd10 ct10, PySem.W.fnOf "_law_is_row" "_law_is_row" (defArgs s__law_is_row) (defBody s__law_is_row) (defScope s__law_is_row) .none kV11 dc11 pm11 an11 cd11 ct11, PySem.W.fnOf "_law_is_among" "_law_is_among" (defArgs s__law_is_among) (defBody s__law_is_among) (defScope s__law_is_among) .none kV12 dc12 pm12 an12 cd12 ct12, PySem.W.fnOf "_law_is_word" "_law_is_word" (defArgs s__law_is_word) (defBody s__law_is_word) (defScope s__law_is_word) .none kV13 dc13 pm13 an13 cd13 ct13, PySem.W.fnOf "_law_kind" "_law_kind" (defArgs s__law_kind) (defBody s__law_kind) (defScope s__law_kind) .none kV14 dc14 pm14 an14 cd14 ct14, PySem.W.fnOf "_law_enough" "_law_enough" (defArgs s__law_enough) (defBody s__law_enough) (defScope s__law_enough) .none kV15 dc15 pm15 an15 cd15 ct15, PySem.W.fnOf "_law_houses" "_law_houses" (defArgs s__law_houses) (defBody s__law_houses) (defScope s__law_houses) .none kV16 dc16 pm16 an16 cd16 ct16, PySem.W.fnOf "_law_spoilt" "_law_spoilt" (defArgs s__law_spoilt) (defBody s__law_spoilt) (defScope s__law_spoilt) .none kV17 dc17 pm17 an17 cd17 ct17, PySem.W.fnOf "_law_due" "_law_due" (defArgs s__law_due) (defBody s__law_due) (defScope s__law_due) .none kV18 dc18 pm18 an18 cd18 ct18, PySem.W.fnOf "_law_truth" "_law_truth" (defArgs s__law_truth) (defBody s__law_truth) (defScope s__law_truth) .none kV19 dc19 pm19 an19 cd19 ct19, PySem.W.fnOf "_law_refused" "_law_refused" (defArgs s__law_refused) (defBody s__law_refused) (defScope s__law_refused) .none kV20 dc20 pm20 an20 cd20 ct20, PySem.W.fnOf "law" "law" (defArgs s_law) (defBody s_law) (defScope s_law) .none kV21 dc21 pm21 an21 cd21 ct21, c0, c1, c2, c3, c4, c5, c6, c7, c8, t_MOST_HOUSES, t_SAY, t_MARK, t_LAST_NUMBER, t_LONGEST_ROW, t_LETTERS⟩
  have T : Txt K mg a := {
    F_is_whole := F0,
    g_is_whole := PySem.W.mg_of X G a0,
    b_is_whole := b0,
    F_check_count := F1,
    g_check_count := PySem.W.mg_of X G a1,
    b_check_count := b1,
    F_is_house := F2,
    g_is_house := PySem.W.mg_of X G a2,
    b_is_house := b2,
    F_most_liars := F3,
    g_most_liars := PySem.W.mg_of X G a3,
    b_most_liars := b3,
    F_enough := F4,
    g_enough := PySem.W.mg_of X G a4,
    b_enough := b4,
    F_is_row := F5,
    g_is_row := PySem.W.mg_of X G a5,
    b_is_row := b5,
    F_caller := F6,
    g_caller := PySem.W.mg_of X G a6,
    b_caller := b6,
    F_is_word := F7,
    g_is_word := PySem.W.mg_of X G a7,
    b_is_word := b7,
    F_is_backing := F8,
    g_is_backing := PySem.W.mg_of X G a8,
    b_is_backing := b8,
    F__law_at := F9,
    g__law_at := PySem.W.mg_of X G a9,
    b__law_at := b9,
    F__law_row := F10,
    g__law_row := PySem.W.mg_of X G a10,
    b__law_row := b10,
    F__law_is_row := F11,
    g__law_is_row := PySem.W.mg_of X G a11,
    b__law_is_row := b11,
    F__law_is_among := F12,
    g__law_is_among := PySem.W.mg_of X G a12,
    b__law_is_among := b12,
    F__law_is_word := F13,
    g__law_is_word := PySem.W.mg_of X G a13,
    b__law_is_word := b13,
    F__law_kind := F14,
    g__law_kind := PySem.W.mg_of X G a14,
    b__law_kind := b14,
    F__law_enough := F15,
    g__law_enough := PySem.W.mg_of X G a15,
    b__law_enough := b15,
    F__law_houses := F16,
    g__law_houses := PySem.W.mg_of X G a16,
    b__law_houses := b16,
    F__law_spoilt := F17,
    g__law_spoilt := PySem.W.mg_of X G a17,
    b__law_spoilt := b17,
    F__law_due := F18,
    g__law_due := PySem.W.mg_of X G a18,
    b__law_due := b18,
    F__law_truth := F19,
    g__law_truth := PySem.W.mg_of X G a19,
    b__law_truth := b19,
    F__law_refused := F20,
    g__law_refused := PySem.W.mg_of X G a20,
    b__law_refused := b20,
    F_law := F21,
    g_HouseError := PySem.W.mg_of X G g0,
    g_BadCount := PySem.W.mg_of X G g1,
    g_BadHouse := PySem.W.mg_of X G g2,
    g_BadRow := PySem.W.mg_of X G g3,
    g_BadWord := PySem.W.mg_of X G g4,
    g_Forged := PySem.W.mg_of X G g5,
    g_NoLetter := PySem.W.mg_of X G g6,
    g_NotWritten := PySem.W.mg_of X G g7,
    g_NoText := PySem.W.mg_of X G g8,
    x_BadCount := x_c1,
    k_BadCount := kk_c1,
    bx_BadCount := bx_c1,
    t_BadCount := t_c1,
    e_BadCount := e_c1,
    c_BadCount := ⟨y1_c1, y2_c1, bx_c1, y4_c1, y5_c1, y6, y7, y8_c1⟩,
    i_BadCount := i_c1_c1,
    i_BadHouse := i_c1_c2,
    i_BadRow := i_c1_c3,
    i_BadWord := i_c1_c4,
    i_Forged := i_c1_c5,
    i_NoLetter := i_c1_c6,
    i_NotWritten := i_c1_c7,
    i_NoText := i_c1_c8,
    i_ValueError := i_c1_ValueError,
    m_MOST_HOUSES := PySem.W.mg_of X G m_MOST_HOUSES,
    m_SAY := PySem.W.mg_of X G m_SAY,
    m_MARK := PySem.W.mg_of X G m_MARK,
    m_LAST_NUMBER := PySem.W.mg_of X G m_LAST_NUMBER,
    m_LONGEST_ROW := PySem.W.mg_of X G m_LONGEST_ROW,
    m_LETTERS := PySem.W.mg_of X G m_LETTERS,
    n_ValueError := PySem.W.mg_none_of X G n_ValueError,
    n_all := PySem.W.mg_none_of X G n_all,
    n_bool := PySem.W.mg_none_of X G n_bool,
    n_int := PySem.W.mg_none_of X G n_int,
    n_isinstance := PySem.W.mg_none_of X G n_isinstance,
    n_len := PySem.W.mg_none_of X G n_len,
    n_list := PySem.W.mg_none_of X G n_list,
    n_min := PySem.W.mg_none_of X G n_min,
    n_range := PySem.W.mg_none_of X G n_range,
    n_set := PySem.W.mg_none_of X G n_set,
    n_str := PySem.W.mg_none_of X G n_str,
    n_tuple := PySem.W.mg_none_of X G n_tuple,
    n_type := PySem.W.mg_none_of X G n_type }
  exact ⟨_, fun s v => .of_eq rfl, fun base _ _ => ok_law T⟩
end K4
open PySem PySem.W PyProof.Rows
set_option maxRecDepth 100000 in
set_option maxHeartbeats 0 in
theorem PySem.Challenge.cw_latehouse_k04_backings_holds : PySem.Challenge.rw_latehouse_k04_backings.Holds := by
  w_on; o_law; k_head; (case hw => w_witness2)
  k_fill
  refine L2.walk_of (l := PySem.Challenge.rw_latehouse_k04_backings) (n := 63) (k := 7) (x := "_law_script") (CX := fun _ => L2.CX0) (sp := fun w => K4.spLaw _) rfl (by decide) rfl ⟨rfl, by decide, by decide⟩ (fun w h Y => PySem.W.kIn_of Y) ?F (fun _ _ a ns hl _ hS => ⟨a, ns, rfl, hS, hl, fun _ => rfl⟩) (fun _ _ _ _ _ h => h)
  case F =>
    intro w mg fa h KX G hmg
    refine' K4.all_mk KX G hmg ?zq_g0 ?zq_g1 ?zq_g2 ?zq_g3 ?zq_g4 ?zq_g5 ?zq_g6 ?zq_g7 ?zq_g8 ?zq_a0 ?zq_l0 ?zq_c0c ?zq_k0 ?zq_a1 ?zq_l1 ?zq_c1c ?zq_k1 ?zq_a2 ?zq_l2 ?zq_c2c ?zq_k2 ?zq_a3 ?zq_l3 ?zq_c3c ?zq_k3 ?zq_a4 ?zq_l4 ?zq_c4c ?zq_k4 ?zq_a5 ?zq_l5 ?zq_c5c ?zq_k5 ?zq_a6 ?zq_l6 ?zq_c6c ?zq_k6 ?zq_a7 ?zq_l7 ?zq_c7c ?zq_k7 ?zq_a8 ?zq_l8 ?zq_c8c ?zq_k8 ?zq_a9 ?zq_l9 ?zq_c9c ?zq_k9 ?zq_a10 ?zq_l10 ?zq_c10c ?zq_k10 ?zq_a11 ?zq_l11 ?zq_c11c ?zq_k11 ?zq_a12 ?zq_l12 ?zq_c12c ?zq_k12 ?zq_a13 ?zq_l13 ?zq_c13c ?zq_k13 ?zq_a14 ?zq_l14 ?zq_c14c ?zq_k14 ?zq_a15 ?zq_l15 ?zq_c15c ?zq_k15 ?zq_a16 ?zq_l16 ?zq_c16c ?zq_k16 ?zq_a17 ?zq_l17 ?zq_c17c ?zq_k17 ?zq_a18 ?zq_l18 ?zq_c18c ?zq_k18 ?zq_a19 ?zq_l19 ?zq_c19c ?zq_k19 ?zq_a20 ?zq_l20 ?zq_c20c ?zq_k20 ?zq_a21 ?zq_l21 ?zq_c21c ?zq_k21 ?zq_x_c1 ?zq_kk_c1 ?zq_bx_c1 ?zq_t_c1 ?zq_e_c1 ?zq_y1_c1 ?zq_y2_c1 ?zq_y4_c1 ?zq_y5_c1 ?zq_y8_c1 ?zq_y6 ?zq_y7 ?zq_i_c1_c1 ?zq_i_c1_c2 ?zq_i_c1_c3 ?zq_i_c1_c4 ?zq_i_c1_c5 ?zq_i_c1_c6 ?zq_i_c1_c7 ?zq_i_c1_c8 ?zq_i_c1_ValueError ?zq_m_MOST_HOUSES ?zq_m_SAY ?zq_m_MARK ?zq_m_LAST_NUMBER ?zq_m_LONGEST_ROW ?zq_m_LETTERS ?zq_n_ValueError ?zq_n_all ?zq_n_bool ?zq_n_int ?zq_n_isinstance ?zq_n_len ?zq_n_list ?zq_n_min ?zq_n_range ?zq_n_set ?zq_n_str ?zq_n_tuple ?zq_n_type
    (case zq_g0 => first | k_is | rfl)
    (case zq_g1 => first | k_is | rfl)
    (case zq_g2 => first | k_is | rfl)
    (case zq_g3 => first | k_is | rfl)
    (case zq_g4 => first | k_is | rfl)
    (case zq_g5 => first | k_is | rfl)
    (case zq_g6 => first | k_is | rfl)
    (case zq_g7 => first | k_is | rfl)
    (case zq_g8 => first | k_is | rfl)
    (case zq_a0 => first | k_is | rfl)
    (case zq_l0 => first | k_is | rfl)
    (case zq_c0c => first | k_is | rfl)
    (case zq_k0 => first | k_is | rfl)
    (case zq_a1 => first | k_is | rfl)
    (case zq_l1 => first | k_is | rfl)
    (case zq_c1c => first | k_is | rfl)
    (case zq_k1 => first | k_is | rfl)
    (case zq_a2 => first | k_is | rfl)
    (case zq_l2 => first | k_is | rfl)
    (case zq_c2c => first | k_is | rfl)
    (case zq_k2 => first | k_is | rfl)
    (case zq_a3 => first | k_is | rfl)
    (case zq_l3 => first | k_is | rfl)
    (case zq_c3c => first | k_is | rfl)
    (case zq_k3 => first | k_is | rfl)
    (case zq_a4 => first | k_is | rfl)
    (case zq_l4 => first | k_is | rfl)
    (case zq_c4c => first | k_is | rfl)
    (case zq_k4 => first | k_is | rfl)
    (case zq_a5 => first | k_is | rfl)
    (case zq_l5 => first | k_is | rfl)
    (case zq_c5c => first | k_is | rfl)
    (case zq_k5 => first | k_is | rfl)
    (case zq_a6 => first | k_is | rfl)
    (case zq_l6 => first | k_is | rfl)
    (case zq_c6c => first | k_is | rfl)
    (case zq_k6 => first | k_is | rfl)
    (case zq_a7 => first | k_is | rfl)
    (case zq_l7 => first | k_is | rfl)
    (case zq_c7c => first | k_is | rfl)
    (case zq_k7 => first | k_is | rfl)
    (case zq_a8 => first | k_is | rfl)
    (case zq_l8 => first | k_is | rfl)
    (case zq_c8c => first | k_is | rfl)
    (case zq_k8 => first | k_is | rfl)
    (case zq_a9 => first | k_is | rfl)
    (case zq_l9 => first | k_is | rfl)
    (case zq_c9c => first | k_is | rfl)
    (case zq_k9 => first | k_is | rfl)
    (case zq_a10 => first | k_is | rfl)
    (case zq_l10 => first | k_is | rfl)
    (case zq_c10c => first | k_is | rfl)
    (case zq_k10 => first | k_is | rfl)
    (case zq_a11 => first | k_is | rfl)
    (case zq_l11 => first | k_is | rfl)
    (case zq_c11c => first | k_is | rfl)
    (case zq_k11 => first | k_is | rfl)
    (case zq_a12 => first | k_is | rfl)
    (case zq_l12 => first | k_is | rfl)
    (case zq_c12c => first | k_is | rfl)
    (case zq_k12 => first | k_is | rfl)
    (case zq_a13 => first | k_is | rfl)
    (case zq_l13 => first | k_is | rfl)
    (case zq_c13c => first | k_is | rfl)
    (case zq_k13 => first | k_is | rfl)
    (case zq_a14 => first | k_is | rfl)
    (case zq_l14 => first | k_is | rfl)
    (case zq_c14c => first | k_is | rfl)
    (case zq_k14 => first | k_is | rfl)
    (case zq_a15 => first | k_is | rfl)
    (case zq_l15 => first | k_is | rfl)
    (case zq_c15c => first | k_is | rfl)
    (case zq_k15 => first | k_is | rfl)
    (case zq_a16 => first | k_is | rfl)
    (case zq_l16 => first | k_is | rfl)
    (case zq_c16c => first | k_is | rfl)
    (case zq_k16 => first | k_is | rfl)
    (case zq_a17 => first | k_is | rfl)
    (case zq_l17 => first | k_is | rfl)
    (case zq_c17c => first | k_is | rfl)
    (case zq_k17 => first | k_is | rfl)
    (case zq_a18 => first | k_is | rfl)
    (case zq_l18 => first | k_is | rfl)
    (case zq_c18c => first | k_is | rfl)
    (case zq_k18 => first | k_is | rfl)
    (case zq_a19 => first | k_is | rfl)
    (case zq_l19 => first | k_is | rfl)
    (case zq_c19c => first | k_is | rfl)
    (case zq_k19 => first | k_is | rfl)
    (case zq_a20 => first | k_is | rfl)
    (case zq_l20 => first | k_is | rfl)
    (case zq_c20c => first | k_is | rfl)
    (case zq_k20 => first | k_is | rfl)
    (case zq_a21 => first | k_is | rfl)
    (case zq_l21 => first | k_is | rfl)
    (case zq_c21c => first | k_is | rfl)
    (case zq_k21 => first | k_is | rfl)
    (case zq_x_c1 => k_exc)
    (case zq_kk_c1 => first | k_is | rfl)
    (case zq_bx_c1 => first | k_is | rfl)
    (case zq_t_c1 => first | k_is | rfl)
    (case zq_e_c1 => first | k_is | rfl)
    (case zq_y1_c1 => first | k_is | rfl)
    (case zq_y2_c1 => first | k_is | rfl)
    (case zq_y4_c1 => first | k_is | rfl)
    (case zq_y5_c1 => first | k_is | rfl)
    (case zq_y8_c1 => first | k_is | rfl)
    (case zq_y6 => first | k_is | rfl)
    (case zq_y7 => first | k_is | rfl)
    (case zq_i_c1_c1 => first | k_is | rfl)
    (case zq_i_c1_c2 => first | k_is | rfl)
    (case zq_i_c1_c3 => first | k_is | rfl)
    (case zq_i_c1_c4 => first | k_is | rfl)
    (case zq_i_c1_c5 => first | k_is | rfl)
    (case zq_i_c1_c6 => first | k_is | rfl)
    (case zq_i_c1_c7 => first | k_is | rfl)
    (case zq_i_c1_c8 => first | k_is | rfl)
    (case zq_i_c1_ValueError => first | k_is | rfl)
    (case zq_m_MOST_HOUSES => exact ⟨_, by k_is⟩)
    (case zq_m_SAY => exact ⟨_, by k_is⟩)
    (case zq_m_MARK => exact ⟨_, by k_is⟩)
    (case zq_m_LAST_NUMBER => exact ⟨_, by k_is⟩)
    (case zq_m_LONGEST_ROW => exact ⟨_, by k_is⟩)
    (case zq_m_LETTERS => exact ⟨_, by k_is⟩)
    (case zq_n_ValueError => first | k_is | rfl)
    (case zq_n_all => first | k_is | rfl)
    (case zq_n_bool => first | k_is | rfl)
    (case zq_n_int => first | k_is | rfl)
    (case zq_n_isinstance => first | k_is | rfl)
    (case zq_n_len => first | k_is | rfl)
    (case zq_n_list => first | k_is | rfl)
    (case zq_n_min => first | k_is | rfl)
    (case zq_n_range => first | k_is | rfl)
    (case zq_n_set => first | k_is | rfl)
    (case zq_n_str => first | k_is | rfl)
    (case zq_n_tuple => first | k_is | rfl)
    (case zq_n_type => first | k_is | rfl)
