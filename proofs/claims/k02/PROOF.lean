import PyProof.Rows.All
import Wide.All
import OpenK.AllK
import Wide.FinOn
import HandS.ForMost
import HandS.Exc
import HandS.TryOnly
import HandS.ExcOwn
import HandS.WordsExc
import HandS.IsInst
import HandS.ExcIs
import HandS.ExcCtx
import HandS.HotCalls
import HandS.SetFor
import HandS.More
import HandS.Conv
import HandS.FStr
import HandS.Walk
import HandS.Flow
import HandS.TupAny
import HandS.TupLe
import HandS.Codes
import PySem.Challenge.RW_latehouse_k02_words
set_option Elab.async false
set_option linter.all false
set_option maxRecDepth 100000
set_option maxHeartbeats 4000000
/-! own rules beside the layer's: a caught error handed to a def, its isinstance, count, value calls -/
namespace LH
open PySem PySem.Spec PyProof.Rows L2
abbrev St := L2.St

/-! ### isinstance of the error that a context bears -/
theorem call_isP {X : Cx} {a D : Addr} {oe : Obj} (C : ExcC X.K D) (hp : (a, oe) ∈ X.pn) (hz : Zc (.ref D) none oe)
    (hf : ∃ vs, oe.data = .fields vs) : CallR X (.builtin "isinstance") (rIsE X.K D a) := by
  intro pins s σ H xs us Q I r h
  obtain ⟨c, cv, b, rfl, hcv, e, q⟩ := h
  match us, r with
  | [_, _], .cons rx (.cons rt .nil) =>
    cases rx
    have ec := hcv _ rt
    subst ec
    have hget := (I.pin (a, oe) (List.mem_append_left _ hp)).1
    obtain ⟨vs, hv⟩ := hf
    have J : PySem.W.InstAt s.heap a oe D none := by
      refine ⟨hget, hz.1, ?_, ?_⟩
      · unfold PySem.W.notCls; rw [hv] <;> rfl
      · rw [hz.2]; trivial
    exact PySem.W.kia_one (PySem.W.handS_kitx_exc C.hg C.hk C.hs C.hd C.ha C.hn C.ht C.hm) I.kIn J e
      (fun z => nomatch z) fun tk => ⟨.bl b, H, I.kept (t' := tk) fun _ _ z => z, rfl, q⟩

/-! ### a def that is handed the error that is handled -/
/-- the error's address, its class, its dict, then as Sp -/
abbrev SpE := Addr → Value → Option Addr → List V → Hp → VK → Prop
structure FnE (P : Program) (w : World) (K : PySem.W.Frag) (mg : Str → Option Value) (base : Heap) (k : Nat) (f : Addr)
    (fd : FuncData) (ps : List Str) (sp : SpE) : Prop where
  len : ∀ e cls d vs H Q, sp e cls d vs H Q → vs.length = ps.length
  run : ∀ (A : Around) (outer : List Env) (s : Shared) (H : Hp) (us : List Value) (vs : List V) (Q : VK) (p : Addr × Obj) (cls : Value) (d : Option Addr),
    L2H.RoomH k A → L2H.Hot1 A p → L2N.Zn cls d p.2 → L2H.PinOk outer H s p → Env0 P w K mg base A outer s H → BindsTo s fd ⟨us, []⟩ (ps.zip us) →
    Vals vs us → sp p.1 cls d vs H Q → codeAny (model P w) A (.call (.ref f) ⟨us, []⟩) (CR CX0 outer P w H s Q E0) s

theorem fnE_of {P : Program} {w : World} {K : PySem.W.Frag} {mg : Str → Option Value} {base : Heap} {x qual : Str} {st : Stmt}
    {f : Addr} {fd : FuncData} {N ps : List Str} {k : Nat} {sp : SpE} (F : Fun K x qual st f fd) (S : FnScope N ps (defScope st))
    (len : ∀ e cls d vs H Q, sp e cls d vs H Q → vs.length = ps.length)
    (hbody : ∀ (cdv : Value) (A : Around) (outer : List Env) (s : Shared) (H : Hp) (vs : List V) (Q : VK) (p : Addr × Obj) (cls : Value) (d : Option Addr),
      L2H.Hot1 A p → L2N.Zn cls d p.2 → L2H.RoomH k (A.deeper (envOfC qual (defScope st) s.heap.objs.size f cdv)) → sp p.1 cls d vs H Q →
      ∃ t, PSs (L2H.cxH CX0 P w K mg base N qual (defScope st) f cdv A outer s H E0 p) (defBody st) t ∧
        t { nx := fun _ H' => Q .non H', rt := Q } (L2.start N vs) H) :
    FnE P w K mg base (k + 1) f fd ps sp := by
  obtain ⟨oc, od, kV, doc, pm, an, cdv, ct, osl, rfl, lk, hcd⟩ := F.ex
  refine ⟨len, ?_⟩
  intro A outer s H us vs Q p cls d hr hot hz hpin e0 hb r hsp
  have inS : K.In s.heap := e0.mod.kin.keeps fun b o e => (e0.bs b o e).1
  have lim : s.heap.NoLimit := e0.mod.nolimit.keeps fun b o e => (e0.bs b o e).1
  have hkd : ∀ y ∈ ps.zip us, (defScope st).names.lookup y.1 = some .local ∨ ((defScope st).names.lookup y.1 = some .cell ∧
      ((cellsFrom (s.heap.objs.size + 1) (defScope st).names []).lookup y.1).isSome = true) := by
    rintro ⟨n, v⟩ hy
    rcases S.par n (List.of_mem_zip hy).1 with q | q
    · exact Or.inl q
    · exact Or.inr ⟨q, PySem.W.cellsFrom_some _ _ _ (Or.inl q)⟩
  refine codeAny_call_function hr.depth (inS _ _ lk) rfl S.co S.gen rfl
    (PySem.W.codeRec_of inS hcd) (hb _ _ _ _ ?_)
  refine wpAny_newFunctionEnv_cells S.kind hkd ?_
  intro env he s1 x
  subst he
  refine ⟨lim.keeps x.toInCall.keep, codeAny_func ?_⟩
  obtain ⟨t, ht, hq⟩ := hbody cdv A outer s H vs Q p cls d hot hz (hr.deeper _) hsp
  have I := L2H.inv_startH (CX := CX0) (E := E0) S hpin e0 (len _ _ _ _ _ _ hsp) r x
  refine wpAny_mono (ht.run [] s1 (L2.start N vs) H _ I hq) ?_ (fun _ _ z => z)
  intro fl s' hs
  cases fl with
  | ret u =>
    obtain ⟨v, σ', H', J, rv, q⟩ := hs
    exact ⟨v, H', J.os, J.bare, J.base, J.hok, rv, q⟩
  | next =>
    obtain ⟨σ', H', J, q⟩ := hs
    exact ⟨V.non, H', J.os, J.bare, J.base, J.hok, rfl, q⟩
  | brk =>
    obtain ⟨_, _, _, q⟩ := hs
    exact False.elim q
  | cont =>
    obtain ⟨_, _, _, q⟩ := hs
    exact False.elim q

def tCallE (sp : SpE) (e : Addr) (cls : Value) (d : Option Addr) (t : TA) : TE := fun σ H Q => t σ H fun vs H1 => sp e cls d vs H1 Q
theorem pe_callE {X : Cx} {k : Nat} {f : Addr} {fd : FuncData} {ps : List Str} {sp : SpE} {x : Str} {q pos : Pos} {e : Expr}
    {es : List Expr} {t : TA} {p : Addr × Obj} {cls : Value} {d : Option Addr} (F : FnE X.prog X.w X.K X.mg X.base k f fd ps sp) (hr : L2H.RoomH k X.A)
    (hot : L2H.Hot1 X.A p) (hz : L2N.Zn cls d p.2) (hp : p ∈ X.pn) (hg : Gl X x) (hm : X.mg x = some (.ref f)) (hk : PySem.W.keepIn X.K (.ref f) = true)
    (hb : Binds X.K fd ps []) (ha : PA X (e :: es) t) (hdb : (x == ("__debug__" : Str)) = false := by decide)
    (he : starEach (e :: es) X.env = (false, eval e X.env) :: starEach es X.env := by rfl)
    (hpl : (backTo pos (starEach es X.env)).any (·.1) = false := by rfl) : PE X (.Call (.Name x q) (e :: es) [] pos) (tCallE sp p.1 cls d t) := by
  refine ⟨fun pins s σ H Q I h => ?_⟩
  refine wpAny_Call_Name_kw (ld_glob I hg hm ?_ hdb)
  refine PySem.W.callWith_K (h₀ := X.base) I.ok.mod.kin hk (thn (ha.run pos pins s σ H _ I h) ?_) he hpl
  rintro us s1 ⟨vs, H1, I1, r, h1⟩
  refine ⟨I1.kIn, ?_⟩
  have hl : us.length = ps.length := by rw [← r.length]; exact F.len _ _ _ _ _ _ h1
  have b := hb s1 us I1.kIn (by rw [List.append_nil]; exact hl)
  rw [List.append_nil] at b
  have P1 := I1.pin p (List.mem_append_left _ hp)
  have hpin : L2H.PinOk X.stack H1 s1 p :=
    ⟨P1.1, P1.2.1, fun hm => (List.mem_cons.mp (I1.stkSub p.1 hm)).elim P1.2.2.1 P1.2.2.2.1, P1.2.2.2.2⟩
  refine wpAny_call (codeAny_mono (F.run X.A X.stack s1 H1 us vs Q p cls d hr hot hz hpin I1.env0 b r h1) ?_)
  intro rr s' hq
  cases rr with
  | error e => exact False.elim hq
  | ok fl =>
    cases fl with
    | ret u => exact I1.after hq
    | next => exact False.elim hq
    | brk => exact False.elim hq
    | cont => exact False.elim hq

/-! ### xs.count(y), flat things -/
theorem cnt_eqU {x : V} {xs : List V} {us : List Value} (r : Vals xs us) (f : xs.all flatV = true) :
    us.countP (eqU x) = xs.countP fun y => eqV y x := by
  induction r with
  | nil => rfl
  | cons ry rt ih =>
    rw [List.all_cons, Bool.and_eq_true] at f
    rw [List.countP_cons, List.countP_cons, ih f.2, eqU_of ry f.1]
def rCntV (K : PySem.W.Frag) : V → List V → Hp → VK → Prop := fun x vs H Q => ∃ (a : Addr) (ys : List V) (y : V), x = .ref a ∧ vs = [y] ∧
  SqL K H a ys ∧ flatV y = true ∧ ys.all flatV = true ∧ Q (.int (ys.countP fun z => eqV z y : Nat)) H
theorem mt_cntV {X : Cx} : MtR X "list.count" (rCntV X.K) := by
  intro pins s σ H x xs v us Q I rx rxs h
  obtain ⟨p, ys, y, rfl, rfl, hs, fy, fys, q⟩ := h
  cases rx
  obtain ⟨u, rfl, ru⟩ := rxs.one
  obtain ⟨its, rv, ⟨⟨cls, dd, data, sl⟩, n, ho, hc, hdn, hd⟩, hlen⟩ := I.list hs
  simp only at hc hd
  subst hc hd
  refine call_meets PySem.F.slot_list_count ⟨_, ho, rfl⟩ PySem.F.entry_list_count (PySem.F.args_list_count_2 _ _)
    (SeqAt.list_countAt p its.toArray n dd sl u (eqU y)) ⟨ho, fun w hw => mem_eqAt ru fy rv fys w (by simpa using hw), ?_⟩
  have ec : its.toArray.toList.countP (eqU y) = ys.countP fun z => eqV z y := cnt_eqU rv fys
  refine ⟨.int (ys.countP fun z => eqV z y : Nat), H, I.tok _, ⟨s.toks, ?_⟩, q⟩
  show Value.int ((its.toArray.toList.countP (eqU y) : Nat) : Int) s.toks = _
  rw [ec]

/-! ### a list and a list, the left one perhaps the script -/
def rCatS (K : PySem.W.Frag) : R2 := fun x y H Q => ∃ l b xs zs, x = .ref l ∧ y = .ref b ∧ SqL K H l xs ∧ SqL K H b zs ∧
  xs.length + zs.length ≤ sizeLine ∧ ∀ p, H p = none → Q (.ref p) (upd H p (.lst (xs ++ zs)))
theorem op_catS {X : Cx} : OpR X (binaryOp .Add) (rCatS X.K) := by
  intro pins s σ H x y v u Q I rx ry h
  obtain ⟨l, b, xs, zs, rfl, rfl, hl, hb, hz, q⟩ := h
  cases rx
  cases ry
  obtain ⟨its, r, pl, _⟩ := I.list hl
  obtain ⟨its2, r2, pl2, _⟩ := I.list hb
  have n1 := r.length
  have n2 := r2.length
  obtain ⟨⟨c1, d1, da1, sl1⟩, m1, ho1, hc1, _, hd1⟩ := pl
  obtain ⟨⟨c2, d2, da2, sl2⟩, m2, ho2, hc2, _, hd2⟩ := pl2
  simp only at hc1 hd1 hc2 hd2
  subst hc1 hd1 hc2 hd2
  have ea : its.toArray ++ its2.toArray = (its ++ its2).toArray := by simp
  refine concat_meets ⟨_, ho1, rfl⟩ ⟨_, ho2, rfl⟩ noFill_list_add seq_list_add PySem.F.slot_list_add PySem.F.entry_list_add
    (PySem.F.args_list_add_2 _ _) (list_addW l b its.toArray its2.toArray m1 m2 d1 d2 sl1 sl2
      (by rw [List.size_toArray, List.size_toArray]; omega)) ⟨ho1, ho2, ?_⟩
  rw [ea]
  exact ⟨.ref _, _, I.lnew (t' := s.toks) (r.append r2) (by rw [List.length_append]; omega), rfl, q _ I.fresh⟩

/-! ### e(..), the value of e one of some defs of one promise -/
def tCallV (S : Addr → Prop) (sp : Sp) (E : St → XK) (te : TE) (t : TA) : TE := fun σ H Q => te σ H fun x H1 => ∃ f, x = .ref f ∧ S f ∧ t σ H1 fun vs H2 => sp vs H2 Q (E σ)
theorem pe_callV {X : Cx} {CX : CXT} {k : Nat} {S : Addr → Prop} {sp : Sp} {E : St → XK} {g e : Expr} {es : List Expr} {te : TE} {t : TA} {pos : Pos}
    (F : ∀ f, S f → ∃ (fd : FuncData) (ps : List Str), FnOk X.prog X.w X.K X.mg X.base CX k f fd ps sp ∧ PySem.W.keepIn X.K (.ref f) = true ∧ Binds X.K fd ps [])
    (hr : Room k X.A) (hx : ∀ σ, PassesAt CX X σ (E σ)) (hg : PE X g te) (ha : PA X (e :: es) t)
    (hev : eval (.Call g (e :: es) [] pos) X.env = (do callWith pos (← eval g X.env) [] (backTo pos (starEach (e :: es) X.env)) (backToKw pos (keywordEach [] X.env))) := by rfl)
    (he : starEach (e :: es) X.env = (false, eval e X.env) :: starEach es X.env := by rfl)
    (hpl : (backTo pos (starEach es X.env)).any (·.1) = false := by rfl) : PE X (.Call g (e :: es) [] pos) (tCallV S sp E te t) := by
  refine ⟨fun pins s σ H Q I h => ?_⟩
  refine PyProof.Rows.Call_ (thn (hg.run pins s σ H _ I h) ?_) hev
  rintro u s1 ⟨x, H1, I1, rx, f, rfl, hS, h1⟩
  obtain rfl : u = Value.ref f := rx
  obtain ⟨fd, ps, F1, hk, hb⟩ := F f hS
  refine PySem.W.callWith_K (h₀ := X.base) I.ok.mod.kin hk (thn (ha.run pos pins s1 σ H1 _ I1 h1) ?_) he hpl
  rintro us s2 ⟨vs, H2, I2, r, h2⟩
  exact ⟨I2.kIn, run_fnS F1 hr hb (hx σ) I2 r h2⟩

/-! ### a def that may raise, with the errors' context told -/
theorem okN {P : Program} {w : World} {K : PySem.W.Frag} {mg : Str → Option Value} {base : Heap} {x qual : Str} {st : Stmt} {f : Addr} {fd : FuncData}
    {N ps : List Str} {k : Nat} {sp : Sp} (F : Fun K x qual st f fd) (S : FnScope N ps (defScope st)) (len : ∀ vs H Q E, sp vs H Q E → vs.length = ps.length)
    (hbody : ∀ (cdv : Value) (A : Around) (outer : List Env) (s : Shared) (H : Hp) (vs : List V) (Q : VK) (E : XK), Room k (A.deeper (envOfC qual (defScope st) s.heap.objs.size f cdv)) →
      sp vs H Q E → ∃ t, PSs (cxOf (L2N.CX P w) P w K mg base N qual (defScope st) f cdv A outer s H E) (defBody st) t ∧
        t { nx := fun _ H' => Q .non H', rt := Q } (start N vs) H) : FnOk P w K mg base (L2N.CX P w) (k + 1) f fd ps sp := by
  obtain ⟨oc, od, kV, doc, pm, an, cdv, ct, osl, rfl, lk, hcd⟩ := F.ex
  exact fn_of lk hcd S len fun A outer s H vs Q E hr hsp => hbody cdv A outer s H vs Q E hr hsp
/-- X(e, ..), X an own error class without its own __init__; its context told -/
theorem pmkN {X : Cx} {C : Addr} {bmB : List Value} {B newId initId : String} {x : Str} {p pos : Pos} {e : Expr} {es : List Expr} {t : TA}
    (F : ExcBaseFacts B newId initId bmB) (q : PySem.W.excIn X.K C bmB newId = true) (gC : X.mg x = some (.ref C))
    (kC : PySem.W.keepIn X.K (.ref C) = true) (r : Raises X (.ref C)) (hg : Gl X x) (ha : PA X (e :: es) t)
    (hdb : (x == ("__debug__" : Str)) = false := by decide)
    (he : starEach (e :: es) X.env = (false, eval e X.env) :: starEach es X.env := by rfl)
    (hpl : (backTo pos (starEach es X.env)).any (·.1) = false := by rfl) :
    L2N.PMk X (.Call (.Name x p) (e :: es) [] pos) (fun σ H Q => t σ H fun vs H1 => vs.length ≤ sizeLine ∧ Q (.ref C) none H1) := by
  intro pins s σ H Q I h
  refine wpAny_Call_Name_kw (ld_glob I hg gC ?_ hdb)
  refine PySem.W.callWith_K (h₀ := X.base) I.ok.mod.kin kC (thn (ha.run pos pins s σ H _ I h) ?_) he hpl
  rintro us s1 ⟨vs, H1, I1, r1, hz, q1⟩
  refine ⟨I1.kIn, ?_⟩
  show wpAny _ _ (call (.ref C) us) _ _ _
  obtain ⟨bm, N, nm, qn, bs, hdct, sn, sub, ab, col, dd, k0, k1, k2, k3, k5, mN, hC, hN, hni, T⟩ := exc_obj I1.kIn q
  refine wpAny_call_exc_subT F T hC hN hni ?_ (by rw [← r1.length]; exact hz)
  intro h' e' hm
  exact L2N.mk_of I1 hm r q1 (I1.hok.gone hm.new)
theorem tkN {X : Cx} {E : XK} (hs : X.stack = X.env :: X.outer := by rfl) (hf : X.env.frame = some X.env.locals := by rfl) (hex : X.ex = [] := by rfl) {E₁ : Value → Shared → Prop}
    (hx : X.xe = fun e s' => wpAny (model X.prog X.w) X.A (leaving X.env e) (fun _ s'' => L2N.CX X.prog X.w X.outer X.H_0 X.s_0 E e s'') E₁ s' := by rfl) : L2N.Takes X (fun cls d _ H => E cls d H) := L2N.takes_of hs hf hex hx
/-- nothing is let out where the wish is none -/
theorem passN {X : Cx} : Passes (L2N.CX X.prog X.w) X E0 := by
  intro _ _ _ _ _ _ _ h
  obtain ⟨_, _, _, _, _, _, _, _, _, _, _, _, z⟩ := h
  exact z.elim
/-! ### heaps -/
theorem get_new {H : Hp} {p q : Addr} {o x : HO} (h : H p = none) (e : H q = some x) : upd H p o q = some x := by
  rw [upd_ne (ne_of_none e h)]
  exact e
theorem sq_new {K : PySem.W.Frag} {H : Hp} {p q : Addr} {o : HO} {xs : List V} (h : H p = none) (e : SqL K H q xs) : SqL K (upd H p o) q xs := by
  rcases e with (e | ⟨ob, e⟩) | e
  · exact .inl (.inl (get_new h e))
  · exact .inl (.inr ⟨ob, get_new h e⟩)
  · exact .inr e
theorem st_new {K : PySem.W.Frag} {H : Hp} {p q : Addr} {o : HO} {xs : List V} (h : H p = none) (e : SqT K H q xs) : SqT K (upd H p o) q xs := by
  rcases e with (e | ⟨ob, e⟩) | e
  · exact .inl (.inl (get_new h e))
  · exact .inl (.inr ⟨ob, get_new h e⟩)
  · exact .inr e
theorem same_new {H H' : Hp} {p : Addr} {o : HO} (h : H' p = none) (e : Same H H') : Same H (upd H' p o) := fun b x q => get_new h (e b x q)
theorem Same.new {H : Hp} {p : Addr} {o : HO} (h : H p = none) : Same H (upd H p o) := fun b x q => get_new h q
/-- a new object: from then on the heap is told by what it keeps and holds -/
theorem nw {H : Hp} {o : HO} {Q : VK} (k : ∀ (p : Addr) (H2 : Hp), H p = none → Same H H2 → H2 p = some o → Q (.ref p) H2) : ∀ p : Addr, H p = none → Q (.ref p) (upd H p o) :=
  fun p hp => k p _ hp (Same.new hp) upd_same
theorem takesN0 {X : Cx} : L2N.Takes X (fun _ _ _ _ => False) := by
  intro _ _ x
  obtain ⟨_, _, _, _, _, _, _, _, _, _, _, _, _, _, _, _, z⟩ := x
  exact z.elim
theorem ctx_of {cls : Value} {d : Option Addr} {oe : Obj} (hz : L2N.Zn cls d oe) (hf : ∃ vs, oe.data = .fields vs) : ∃ vs : Array Value, oe.data = .fields vs ∧ vs[2]? = some .none := by
  obtain ⟨vs, e⟩ := hf
  exact ⟨vs, e, hz.2.2 vs e⟩
theorem Same.seqT {K : PySem.W.Frag} {H H' : Hp} {a : Addr} {xs : List V} (e : Same H H') (h : SqT K H a xs) : SqT K H' a xs := by
  rcases h with (h | ⟨o, h⟩) | h
  · exact .inl (.inl (e _ _ h))
  · exact .inl (.inr ⟨o, e _ _ h⟩)
  · exact .inr h
theorem Same.ty {K : PySem.W.Frag} {H H' : Hp} {x : V} {T : String} (e : Same H H') (h : TyB K H x T) : TyB K H' x T := by
  cases h with
  | non => exact .non
  | bl b => exact .bl b
  | int i => exact .int i
  | str x => exact .str x
  | byt b => exact .byt b
  | lst h => exact .lst (Same.seq e h)
  | tup h => exact .tup (Same.seqT e h)
  | dK h => exact .dK (e _ _ h)
theorem small {n : Nat} (h : n.ble 100000 = true) : n ≤ 100000 := Nat.le_of_ble_eq_true h
end LH
/-! the reader: a reading, step by step, what follows kept as a letter -/
namespace LH
open PySem L2
variable {K : PySem.W.Frag} {σ : L2.St} {H : Hp} {Q : VK} {D : Ends} {ta tb te tc : TE} {t u : TS} {c c' : TT} {x y v : V} {r r' : R2} {tr : TA} {g : TG}
def Br (b : Bool) (A B : Prop) : Prop := if b = true then A else B
theorem br_t {A B : Prop} (h : A) : Br true A B := by unfold Br; rw [if_pos rfl]; exact h
theorem br_f {A B : Prop} (h : B) : Br false A B := by unfold Br; rw [if_neg Bool.false_ne_true]; exact h
theorem br {b : Bool} {A B : Prop} (h1 : b = true → A) (h2 : b = false → B) : Br b A B := by
  cases b
  · exact br_f (h2 rfl)
  · exact br_t (h1 rfl)
theorem br_p {p A B : Prop} [Decidable p] (h : p) (k : A) : Br (decide p) A B := by rw [decide_eq_true h]; exact br_t k
theorem br_n {p A B : Prop} [Decidable p] (h : ¬ p) (k : B) : Br (decide p) A B := by rw [decide_eq_false h]; exact br_f k
theorem br_d {p A B : Prop} [Decidable p] (h1 : p → A) (h2 : ¬ p → B) : Br (decide p) A B := br (fun e => h1 (of_decide_eq_true e)) (fun e => h2 (of_decide_eq_false e))
theorem br_nd {p A B : Prop} [Decidable p] (h1 : ¬ p → A) (h2 : p → B) : Br (!decide p) A B := br (fun e => h1 (by simpa using e)) (fun e => h2 (by simpa using e))
theorem br_nt {A B : Prop} (h : B) : Br (!true) A B := br_f h
theorem br_nf {A B : Prop} (h : A) : Br (!false) A B := br_t h
theorem br_eq {b b' : Bool} {A B : Prop} (e : b = b') (h : Br b' A B) : Br b A B := by rw [e]; exact h
def Bx (x : V) (H : Hp) (Q : Bool → Hp → Prop) : Prop := ∃ k, x = .bl k ∧ Q k H
theorem bx {k : Bool} {Q : Bool → Hp → Prop} (q : Q k H) : Bx (.bl k) H Q := ⟨k, rfl, q⟩
def BAnd (x : V) (H : Hp) (Q : VK) (R : Hp → VK → Prop) : Prop := ∃ c, x = .bl c ∧ if c = true then R H Q else Q (.bl false) H
def BOr (x : V) (H : Hp) (Q : VK) (R : Hp → VK → Prop) : Prop := ∃ c, x = .bl c ∧ if c = true then Q (.bl true) H else R H Q
theorem band {k : Bool} {R : Hp → VK → Prop} (q : Br k (R H Q) (Q (.bl false) H)) : BAnd (.bl k) H Q R := ⟨k, rfl, q⟩
theorem bor {k : Bool} {R : Hp → VK → Prop} (q : Br k (Q (.bl true) H) (R H Q)) : BOr (.bl k) H Q R := ⟨k, rfl, q⟩
def NewL (xs : List V) (H : Hp) (Q : VK) : Prop := xs.length ≤ sizeLine ∧ ∀ p, H p = none → Q (.ref p) (upd H p (.lst xs))
def NewT (xs : List V) (H : Hp) (Q : VK) : Prop := xs.length ≤ sizeLine ∧ ∀ p, H p = none → Q (.ref p) (upd H p (.tup xs))
theorem sz {n : Nat} (h : n ≤ 100000) : n ≤ sizeLine := Nat.le_trans h (by decide)
theorem sz' {n : Nat} (h : n ≤ 100000) : n < sizeLine := Nat.lt_of_le_of_lt h (by decide)
theorem newl {xs : List V} (hl : xs.length ≤ 100000) (k : ∀ p H2, H p = none → Same H H2 → H2 p = some (.lst xs) → Q (.ref p) H2) : NewL xs H Q :=
  ⟨sz hl, fun p hp => k p _ hp (Same.new hp) upd_same⟩
theorem newt {xs : List V} (hl : xs.length ≤ 100000) (k : ∀ p H2, H p = none → Same H H2 → H2 p = some (.tup xs) → Q (.ref p) H2) : NewT xs H Q :=
  ⟨sz hl, fun p hp => k p _ hp (Same.new hp) upd_same⟩
def NewO (o : HO) (H : Hp) (Q : VK) : Prop := ∀ p, H p = none → Q (.ref p) (upd H p o)
theorem newo {o : HO} (k : ∀ p H2, H p = none → Same H H2 → H2 p = some o → Q (.ref p) H2) : NewO o H Q := fun p hp => k p _ hp (Same.new hp) upd_same
/-! statements -/
theorem x_seq (h : t { D with nx := u D } σ H) : tSeq t u D σ H := h
theorem x_asg (h : te σ H fun x H1 => g x σ H1 D.nx) : tAsg te g D σ H := h
theorem x_gname {i : Nat} {Q : L2.St → Hp → Prop} (h : Q (σ.set i (some v)) H) : gName i v σ H Q := h
theorem x_ret (h : te σ H D.rt) : tRet te D σ H := h
theorem x_drop (h : te σ H fun _ H1 => D.nx σ H1) : tDrop te D σ H := h
theorem x_ifS (h : c σ H fun b H1 => Br b (t D σ H1) (u D σ H1)) : tIfS c t u D σ H := h
theorem x_next (h : D.nx σ H) : tNext D σ H := h
theorem x_cont (h : D.ct σ H) : tCont D σ H := h
/-! expressions -/
theorem x_var {i : Nat} (h : σ[i]? = some (some v)) (q : Q v H) : tVar i σ H Q := ⟨v, h, q⟩
theorem x_c (q : Q v H) : tC v σ H Q := q
theorem x_op (h : ta σ H fun x H1 => tb σ H1 fun y H2 => r x y H2 Q) : tOp r ta tb σ H Q := h
theorem x_un {r : V → Hp → VK → Prop} (h : ta σ H fun x H1 => r x H1 Q) : tUn r ta σ H Q := h
theorem x_U {f : Int → V} {i : Int} (q : Q (f i) H) : rU f (.int i) H Q := ⟨i, rfl, q⟩
theorem x_I0 {f : Int → Int → V} {i j : Int} (q : Q (f i j) H) : rI0 f (.int i) (.int j) H Q := ⟨i, j, rfl, rfl, q⟩
theorem x_I {C : Int → Int → Prop} {f : Int → Int → V} {i j : Int} (h : C i j) (q : Q (f i j) H) : rI C f (.int i) (.int j) H Q := ⟨i, j, rfl, rfl, h, q⟩
theorem x_eq (h : scal x y = true) (q : Q (.bl (decide (x = y))) H) : rEq x y H Q := ⟨h, q⟩
theorem x_ne (h : scal x y = true) (q : Q (.bl (!decide (x = y))) H) : rNe x y H Q := ⟨h, q⟩
theorem x_test {Q : Bool → Hp → Prop} (h : te σ H fun x H1 => Bx x H1 Q) : tTest te σ H Q := h
theorem x_tB {Q : Bool → Hp → Prop} (h : te σ H fun x H1 => Bx x H1 Q) : tB te σ H Q := h
theorem x_and {Q : Bool → Hp → Prop} (h : c σ H fun b H1 => Br b (c' σ H1 Q) (Q false H1)) : tAnd c c' σ H Q := h
theorem x_or {Q : Bool → Hp → Prop} (h : c σ H fun b H1 => Br b (Q true H1) (c' σ H1 Q)) : tOr c c' σ H Q := h
theorem x_not {Q : Bool → Hp → Prop} (h : c σ H fun b H1 => Q (!b) H1) : tNot c σ H Q := h
theorem x_andV (h : ta σ H fun x H1 => BAnd x H1 Q (tb σ)) : tAndV ta tb σ H Q := h
theorem x_orV (h : ta σ H fun x H1 => BOr x H1 Q (tb σ)) : tOrV ta tb σ H Q := h
theorem x_notV (h : ta σ H fun x H1 => Bx x H1 fun b H2 => Q (.bl (!b)) H2) : tNotV ta σ H Q := h
theorem x_if (h : c σ H fun b H1 => Br b (ta σ H1 Q) (tb σ H1 Q)) : tIf c ta tb σ H Q := h
def ChK (z : V) (σ : L2.St) (H : Hp) (Q : VK) (tc : TE) (r' : R2) (y : V) : Prop := ∃ k, z = .bl k ∧ if k = true then tc σ H fun w' H4 => r' y w' H4 Q else Q (.bl false) H
theorem x_chain (h : ta σ H fun x H1 => tb σ H1 fun y H2 => r x y H2 fun z H3 => ChK z σ H3 Q tc r' y) : tChain r r' ta tb tc σ H Q := h
theorem chk {k : Bool} (h : Br k (tc σ H fun w' H4 => r' y w' H4 Q) (Q (.bl false) H)) : ChK (.bl k) σ H Q tc r' y := ⟨k, rfl, h⟩
theorem x_nil {Q : List V → Hp → Prop} (q : Q [] H) : tNil σ H Q := q
theorem x_cons {Q : List V → Hp → Prop} (h : ta σ H fun x H1 => tr σ H1 fun xs H2 => Q (x :: xs) H2) : tCons ta tr σ H Q := h
theorem x_lst (h : tr σ H fun xs H1 => NewL xs H1 Q) : tLst tr σ H Q := h
theorem x_tup (h : tr σ H fun xs H1 => NewT xs H1 Q) : tTup tr σ H Q := h
theorem x_call {sp : Sp} {dvs : List V} {E : XK} (h : tr σ H fun vs H1 => sp (vs ++ dvs) H1 Q E) : tCall sp dvs E tr σ H Q := h
theorem x_callS {sp : Sp} {E : L2.St → XK} (h : tr σ H fun vs H1 => sp vs H1 Q (E σ)) : tCallS sp E tr σ H Q := h
theorem x_callE {sp : SpE} {e : Addr} {cls : Value} {d : Option Addr} (h : tr σ H fun vs H1 => sp e cls d vs H1 Q) : tCallE sp e cls d tr σ H Q := h
theorem x_cb {r : List V → Hp → VK → Prop} (h : tr σ H fun vs H1 => r vs H1 Q) : tCB r tr σ H Q := h
def BmV (K : PySem.W.Frag) (T : String) (r : V → List V → Hp → VK → Prop) (tr : TA) (σ : L2.St) (x : V) (H : Hp) (Q : VK) : Prop := tyV K T x H ∧ tr σ H fun xs H2 => r x xs H2 Q
theorem x_bm {T : String} {r : V → List V → Hp → VK → Prop} (h : te σ H fun x H1 => BmV K T r tr σ x H1 Q) : tBM K T r te tr σ H Q := h
theorem bm_l {r : V → List V → Hp → VK → Prop} {p : Addr} {xs : List V} (h : SqL K H p xs) (q : tr σ H fun ys H2 => r (.ref p) ys H2 Q) : BmV K "list" r tr σ (.ref p) H Q := ⟨.inl ⟨rfl, _, h⟩, q⟩
def CvV (S : Addr → Prop) (sp : Sp) (E : L2.St → XK) (tr : TA) (σ : L2.St) (x : V) (H : Hp) (Q : VK) : Prop := ∃ f, x = .ref f ∧ S f ∧ tr σ H fun vs H2 => sp vs H2 Q (E σ)
theorem x_callV {S : Addr → Prop} {sp : Sp} {E : L2.St → XK} (h : te σ H fun x H1 => CvV S sp E tr σ x H1 Q) : tCallV S sp E te tr σ H Q := h
theorem cvv {S : Addr → Prop} {sp : Sp} {E : L2.St → XK} {f : Addr} (h : S f) (q : tr σ H fun vs H2 => sp vs H2 Q (E σ)) : CvV S sp E tr σ (.ref f) H Q := ⟨f, rfl, h, q⟩
/-! values -/
theorem x_ixL {p : Addr} {xs : List V} {i : Int} (h : SqL K H p xs) (e : atI xs i = some v) (q : Q v H) : rIxL K (.ref p) (.int i) H Q := ⟨p, xs, i, v, rfl, rfl, h, e, q⟩
theorem x_ixT {p : Addr} {xs : List V} {i : Int} (h : SqT K H p xs) (e : atI xs i = some v) (q : Q v H) : rIxT K (.ref p) (.int i) H Q := ⟨p, xs, i, v, rfl, rfl, h, e, q⟩
theorem x_isi {t : Value} {n : Value} {b : Bool} {cv : V} (k : ClsV cv n) (ty : TyX K H x t) (e : PySem.W.kitOne K t n = some b) (q : Q (.bl b) H) : rIsi K [x, cv] H Q := ⟨x, cv, t, n, b, rfl, k, ty, e, q⟩
theorem x_isE {C a : Addr} {b : Bool} {cv : V} {n : Value} (hc : ∀ u, RelV cv u → u = n) (e : PySem.W.kitOne K (.ref C) n = some b) (q : Q (.bl b) H) : rIsE K C a [.ref a, cv] H Q := ⟨cv, n, b, rfl, hc, e, q⟩
theorem x_cntV {p : Addr} {ys : List V} (h : SqL K H p ys) (fy : flatV y = true) (fys : ys.all flatV = true) (q : Q (.int (ys.countP fun z => eqV z y : Nat)) H) : rCntV K (.ref p) [y] H Q := ⟨p, ys, y, rfl, rfl, h, fy, fys, q⟩
theorem x_index {p : Addr} {ys : List V} {j : Nat} {z : V} (h : SqL K H p ys) (fy : flatV y = true) (fys : ys.all flatV = true) (e : ys[j]? = some z) (ez : eqV z y = true)
    (hn : ∀ (m : Nat) (z' : V), m < j → ys[m]? = some z' → eqV z' y = false) (q : Q (.int (j : Nat)) H) : rIndex K (.ref p) [y] H Q := ⟨p, ys, y, j, z, rfl, rfl, h, fy, fys, e, ez, hn, q⟩
theorem x_catS {p q : Addr} {xs ys : List V} (h1 : SqL K H p xs) (h2 : SqL K H q ys) (hl : xs.length + ys.length ≤ 100000)
    (k : ∀ p H2, H p = none → Same H H2 → H2 p = some (.lst (xs ++ ys)) → Q (.ref p) H2) : rCatS K (.ref p) (.ref q) H Q :=
  ⟨p, q, xs, ys, rfl, rfl, h1, h2, sz hl, fun p hp => k p _ hp (Same.new hp) upd_same⟩
theorem x_in {neg : Bool} {p : Addr} {xs : List V} (h : SqL K H p xs) (hx : flatV x = true) (ha : xs.all flatV = true) (q : Q (.bl (if neg then !inV x xs else inV x xs)) H) : rIn K neg x (.ref p) H Q := ⟨p, xs, rfl, Or.inl h, hx, ha, q⟩
theorem x_typ {T : String} (h : TyB K H x T) (q : Q (.ty T) H) : rTyp K [x] H Q := ⟨x, T, rfl, h, q⟩
theorem x_neD {d e : PyData} (hx : Dp K H x d) (hy : Dp K H y e) (sd : SeqAt.shaped d = true) (se : SeqAt.shaped e = true) (q : Q (.bl (!PyData.eqv d e)) H) : rNeD K x y H Q := ⟨d, e, hx, hy, sd, se, q⟩
theorem x_eqD {d e : PyData} (hx : Dp K H x d) (hy : Dp K H y e) (sd : SeqAt.shaped d = true) (se : SeqAt.shaped e = true) (q : Q (.bl (PyData.eqv d e)) H) : rEqD K x y H Q := ⟨d, e, hx, hy, sd, se, q⟩
def LrV (a b : Int) (H : Hp) (Q : VK) : Prop := RgOk a b ∧ NewO (.lst (rgV a b)) H Q
theorem lrv {a b : Int} (h : RgOk a b) (k : ∀ p H2, H p = none → Same H H2 → H2 p = some (.lst (rgV a b)) → Q (.ref p) H2) : LrV a b H Q := ⟨h, newo k⟩
theorem x_lrg {te : L2.St → Hp → (Int → Int → Hp → Prop) → Prop} (h : te σ H fun a b H1 => LrV a b H1 Q) : tLstRg te σ H Q := h
end LH
namespace LH
open PySem L2
section
variable {K : PySem.W.Frag} {σ : L2.St} {H : Hp} {Q : VK} {te tl : TE} {t : TT} {g : TG}
/-! comprehensions over a list -/
def LcV (K : PySem.W.Frag) (g : TG) (t : TT) (te : TE) (vs : List Nat) (σ : L2.St) (x : V) (H1 : Hp) (Q : VK) : Prop :=
  ∃ a, x = .ref a ∧ (∃ xs, SqL K H1 a xs) ∧ ∀ D, H1 D = none → ∃ W : Nat → Nat → Hp → Prop, (∃ m, W 0 m (upd H1 D (.lst []))) ∧ ∀ i m H, W i m H →
  ((Itl K a).stop i H ∧ Q (.ref D) H) ∨ ((Itl K a).go i H ∧ ∃ Nx : Hp → Prop, (∀ H', Nx H' → ∃ m', m' < m ∧ W (i + 1) m' H') ∧ ∀ x H', (Itl K a).yld i H x H' → g x (wipe σ vs) H' fun σ2 H2 => wipe σ2 vs = wipe σ vs ∧ t σ2 H2 fun b H3 =>
    if b = true then te σ2 H3 fun y H4 => ∃ acc, H4 D = some (.lst acc) ∧ acc.length < sizeLine ∧ Nx (upd H4 D (.lst (acc ++ [y]))) else Nx H3)
theorem x_lc {vs : List Nat} (h : tl σ H fun x H1 => LcV K g t te vs σ x H1 Q) : tLc (iList K tl) g t te vs σ H Q := h
theorem take_more {α : Type} {l : List α} {i : Nat} {x : α} (h : l[i]? = some x) : l.take (i + 1) = l.take i ++ [x] := by
  rw [List.take_add_one, h]
  rfl
theorem Same.mut {H H' : Hp} {p : Addr} {o : HO} (e : Same H H') (h : H p = none) : Same H (upd H' p o) := fun a u ha => by
  rw [upd_ne (ne_of_none ha h)]
  exact e a u ha
/-- each item kept where f says so, and turned by v; tests and elements may make things of their own -/
theorem lc_L {a : Addr} {xs : List V} {j : Nat} {vs : List Nat} (hx : SqL K H a xs) (hz : xs.length ≤ 100000) (f : V → Bool) (v : V → V)
    (hw : ∀ x, wipe ((wipe σ vs).set j (some x)) vs = wipe σ vs)
    (ht : ∀ x, x ∈ xs → ∀ H1, Same H H1 → ∀ Q : Bool → Hp → Prop, (∀ H2, Same H1 H2 → Q (f x) H2) → t ((wipe σ vs).set j (some x)) H1 Q)
    (he : ∀ x, x ∈ xs → f x = true → ∀ H1, Same H H1 → ∀ Q : VK, (∀ H2, Same H1 H2 → Q (v x) H2) → te ((wipe σ vs).set j (some x)) H1 Q)
    (k : ∀ p H2, H p = none → Same H H2 → H2 p = some (.lst ((xs.filter f).map v)) → Q (.ref p) H2) : LcV K (gName j) t te vs σ (.ref a) H Q := by
  refine ⟨a, rfl, ⟨xs, hx⟩, fun D hD => ?_⟩
  refine lc_list (xs := xs) (fun i H' => Same H H' ∧ H' D = some (.lst (((xs.take i).filter f).map v))) ⟨Same.new hD, upd_same⟩ (fun i H' _ p => Same.seq p.1 hx) ?_ ?_
  · intro i x H' hi p
    have hm : x ∈ xs := List.mem_of_getElem? hi
    have hlt : i < xs.length := (List.getElem?_eq_some_iff.mp hi).1
    have et := take_more hi
    refine ⟨hw x, ht x hm H' p.1 _ fun H2 e2 => ?_⟩
    cases hf : f x with
    | true =>
      rw [if_pos rfl]
      refine he x hm hf H2 (p.1.trans e2) _ fun H3 e3 => ⟨_, e3 _ _ (e2 _ _ p.2), ?_, ?_, ?_⟩
      · have z1 := List.length_filter_le f (xs.take i)
        rw [List.length_map]
        rw [List.length_take] at z1
        exact sz' (by omega)
      · exact Same.mut ((p.1.trans e2).trans e3) hD
      · rw [et, List.filter_append, List.map_append, upd_same]
        simp [List.filter, hf]
    | false =>
      rw [if_neg Bool.false_ne_true]
      refine ⟨p.1.trans e2, ?_⟩
      rw [et, List.filter_append, List.map_append]
      simp [List.filter, hf]
      exact e2 _ _ p.2
  · intro H' p
    rw [List.take_length] at p
    exact k D H' hD p.1 p.2
/-- len(..) -/
def rLen (K : PySem.W.Frag) : List V → Hp → VK → Prop := fun xs H Q => ∃ p ys, xs = [.ref p] ∧ (SqL K H p ys ∨ SqT K H p ys) ∧ Q (.int ys.length) H
theorem call_len {X : Cx} : CallR X (.builtin "len") (rLen X.K) := call_len_seq
theorem x_lenL {p : Addr} {xs : List V} (h : SqL K H p xs) (q : Q (.int xs.length) H) : rLen K [.ref p] H Q := ⟨p, xs, rfl, .inl h, q⟩
theorem x_lenT {p : Addr} {xs : List V} (h : SqT K H p xs) (q : Q (.int xs.length) H) : rLen K [.ref p] H Q := ⟨p, xs, rfl, .inr h, q⟩
def rAbs : List V → Hp → VK → Prop := fun xs H Q => ∃ i, xs = [.int i] ∧ Q (.int (if i < 0 then -i else i)) H
theorem call_absI {X : Cx} : CallR X (.builtin "abs") rAbs := call_abs
theorem x_abs {i : Int} (q : Q (.int (if i < 0 then -i else i)) H) : rAbs [.int i] H Q := ⟨i, rfl, q⟩
def ForL (K : PySem.W.Frag) (g : TG) (tb : TS) (D : Ends) (σ : L2.St) (x : V) (H1 : Hp) : Prop := ∃ a, x = .ref a ∧ (∃ xs, SqL K H1 a xs) ∧ ∃ W : Nat → Nat → L2.St → Hp → Prop, (∃ m, W 0 m σ H1) ∧ ∀ i m σ H, W i m σ H →
  ((Itl K a).stop i H ∧ D.nx σ H) ∨ ((Itl K a).go i H ∧ ∃ N : L2.St → Hp → Prop, (∀ σ' H', N σ' H' → ∃ m', m' < m ∧ W (i + 1) m' σ' H') ∧ ∀ x H', (Itl K a).yld i H x H' → g x σ H' fun σ2 H2 => tb { D with nx := N, ct := N, bk := D.nx } σ2 H2)
theorem x_forL {tb : TS} {D : Ends} (h : tl σ H fun x H1 => ForL K g tb D σ x H1) : tFor (iList K tl) g tb D σ H := h
/-- a for over a list by what holds between two turns; the turn's item is x -/
theorem for_L {tb : TS} {D : Ends} {j : Nat} {a : Addr} {xs : List V} (hx : SqL K H a xs) (Pv : Nat → L2.St → Hp → Prop) (h0 : Pv 0 σ H) (hl : ∀ i σ H, i ≤ xs.length → Pv i σ H → SqL K H a xs)
    (hs : ∀ i x σ H, xs[i]? = some x → Pv i σ H → tb { nx := Pv (i + 1), rt := D.rt, ct := Pv (i + 1), bk := D.nx } (σ.set j (some x)) H) (hd : ∀ σ H, Pv xs.length σ H → D.nx σ H) : ForL K (gName j) tb D σ (.ref a) H :=
  ⟨a, rfl, ⟨xs, hx⟩, for_list (xs := xs) Pv h0 hl (fun i x σ H e p => hs i x σ H e p) hd⟩
def Rg1V (x : V) (H : Hp) (Q : Int → Int → Hp → Prop) : Prop := ∃ n, x = .int n ∧ Q 0 n H
def Rg2V (x y : V) (H : Hp) (Q : Int → Int → Hp → Prop) : Prop := ∃ i j, x = .int i ∧ y = .int j ∧ Q i j H
theorem x_rg1 {Q : Int → Int → Hp → Prop} (h : te σ H fun x H1 => Rg1V x H1 Q) : tRg1 te σ H Q := h
theorem x_rg2 {tb : TE} {Q : Int → Int → Hp → Prop} (h : te σ H fun x H1 => tb σ H1 fun y H2 => Rg2V x y H2 Q) : tRg2 te tb σ H Q := h
theorem rg1v {n : Int} {Q : Int → Int → Hp → Prop} (q : Q 0 n H) : Rg1V (.int n) H Q := ⟨n, rfl, q⟩
theorem rg2v {i j : Int} {Q : Int → Int → Hp → Prop} (q : Q i j H) : Rg2V (.int i) (.int j) H Q := ⟨i, j, rfl, rfl, q⟩
end
end LH
namespace LH
open PySem L2
section
variable {K : PySem.W.Frag} {σ : L2.St} {H : Hp} {Q : VK} {D : Ends} {te tl ta tb : TE} {tr : TA} {t : TT} {g : TG} {x y : V}
/-! walks of any kind -/
def LcJ (J : It) (g : TG) (t : TT) (te : TE) (vs : List Nat) (σ : L2.St) (H1 : Hp) (Q : VK) : Prop :=
  ∀ D, H1 D = none → ∃ W : Nat → Nat → Hp → Prop, (∃ m, W 0 m (upd H1 D (.lst []))) ∧ ∀ i m H, W i m H →
  (J.stop i H ∧ Q (.ref D) H) ∨ (J.go i H ∧ ∃ Nx : Hp → Prop, (∀ H', Nx H' → ∃ m', m' < m ∧ W (i + 1) m' H') ∧ ∀ x H', J.yld i H x H' → g x (wipe σ vs) H' fun σ2 H2 => wipe σ2 vs = wipe σ vs ∧ t σ2 H2 fun b H3 =>
    if b = true then te σ2 H3 fun y H4 => ∃ acc, H4 D = some (.lst acc) ∧ acc.length < sizeLine ∧ Nx (upd H4 D (.lst (acc ++ [y]))) else Nx H3)
def ForJ (J : It) (g : TG) (tb : TS) (D : Ends) (σ : L2.St) (H1 : Hp) : Prop := ∃ W : Nat → Nat → L2.St → Hp → Prop, (∃ m, W 0 m σ H1) ∧ ∀ i m σ H, W i m σ H →
  (J.stop i H ∧ D.nx σ H) ∨ (J.go i H ∧ ∃ N : L2.St → Hp → Prop, (∀ σ' H', N σ' H' → ∃ m', m' < m ∧ W (i + 1) m' σ' H') ∧ ∀ x H', J.yld i H x H' → g x σ H' fun σ2 H2 => tb { D with nx := N, ct := N, bk := D.nx } σ2 H2)
def StrV (v : V) (H : Hp) (R : It → Hp → Prop) : Prop := ∃ x, v = .str x ∧ R (Its x) H
theorem strv {z : Str} {R : It → Hp → Prop} (h : R (Its z) H) : StrV (.str z) H R := ⟨z, rfl, h⟩
def Rn1V (vs : List V) (H : Hp) (R : It → Hp → Prop) : Prop := ∃ j : Int, vs = [.int j] ∧ -(2 ^ 62) ≤ j ∧ j < 2 ^ 62 ∧ R (Itr 0 j.toNat) H
theorem rn1v {j : Int} {R : It → Hp → Prop} (h1 : -100000 ≤ j) (h2 : j ≤ 100000) (h : R (Itr 0 j.toNat) H) : Rn1V [.int j] H R := ⟨j, rfl, by omega, by omega, h⟩
def Rn3V (vs : List V) (H : Hp) (R : It → Hp → Prop) : Prop := ∃ (i j c : Int) (n : Nat), vs = [.int i, .int j, .int c] ∧ RgC i j c n ∧ R (Itc i c n) H
theorem rn3v {i j c : Int} {n : Nat} {R : It → Hp → Prop} (h1 : RgC i j c n) (h : R (Itc i c n) H) : Rn3V [.int i, .int j, .int c] H R := ⟨i, j, c, n, rfl, h1, h⟩
def TupV (K : PySem.W.Frag) (x : V) (H : Hp) (R : It → Hp → Prop) : Prop := ∃ a, x = .ref a ∧ (∃ xs, SqT K H a xs) ∧ R (Itt K a) H
theorem x_lcS {vs : List Nat} (h : tl σ H fun v H1 => StrV v H1 fun J H2 => LcJ J g t te vs σ H2 Q) : tLc (iStr tl) g t te vs σ H Q := h
theorem x_lcR1 {vs : List Nat} (h : tr σ H fun v H1 => Rn1V v H1 fun J H2 => LcJ J g t te vs σ H2 Q) : tLc (iRng1 tr) g t te vs σ H Q := h
theorem x_forR1 {tb : TS} (h : tr σ H fun v H1 => Rn1V v H1 fun J H2 => ForJ J g tb D σ H2) : tFor (iRng1 tr) g tb D σ H := h
theorem x_forR3 {tb : TS} (h : tr σ H fun v H1 => Rn3V v H1 fun J H2 => ForJ J g tb D σ H2) : tFor (iRng3 tr) g tb D σ H := h
theorem for_R3 {tb : TS} {lo c : Int} {n : Nat} {j : Nat} (Pv : Nat → L2.St → Hp → Prop) (h0 : Pv 0 σ H)
    (hs : ∀ i σ H, i < n → Pv i σ H → tb { nx := Pv (i + 1), rt := D.rt, ct := Pv (i + 1), bk := D.nx } (σ.set j (some (.int (lo + (i : Nat) * c)))) H) (hd : ∀ σ H, Pv n σ H → D.nx σ H) : ForJ (Itc lo c n) (gName j) tb D σ H :=
  for_rangeC Pv h0 (fun i σ H hi p => hs i σ H hi p) hd
theorem for_R1 {tb : TS} {lo : Int} {n : Nat} {j : Nat} (Pv : Nat → L2.St → Hp → Prop) (h0 : Pv 0 σ H)
    (hs : ∀ i σ H, i < n → Pv i σ H → tb { nx := Pv (i + 1), rt := D.rt, ct := Pv (i + 1), bk := D.nx } (σ.set j (some (.int (lo + (i : Nat))))) H) (hd : ∀ σ H, Pv n σ H → D.nx σ H) : ForJ (Itr lo n) (gName j) tb D σ H :=
  for_range Pv h0 (fun i σ H hi p => hs i σ H hi p) hd
/-- a comprehension whose walk gives the items xs, the heap as it was -/
theorem lc_J {J : It} {n : Nat} {Y : Nat → Hp → V → Hp → Prop} (w : Walk J n (fun _ => True) Y) {xs : List V} (hn : xs.length = n) (hY : ∀ i H x H', Y i H x H' → H' = H ∧ xs[i]? = some x) {j : Nat} {vs : List Nat} (hz : xs.length ≤ 100000)
    (f : V → Bool) (v : V → V) (hw : ∀ x, wipe ((wipe σ vs).set j (some x)) vs = wipe σ vs)
    (ht : ∀ x, x ∈ xs → ∀ H1, Same H H1 → ∀ Q : Bool → Hp → Prop, (∀ H2, Same H1 H2 → Q (f x) H2) → t ((wipe σ vs).set j (some x)) H1 Q)
    (he : ∀ x, x ∈ xs → f x = true → ∀ H1, Same H H1 → ∀ Q : VK, (∀ H2, Same H1 H2 → Q (v x) H2) → te ((wipe σ vs).set j (some x)) H1 Q)
    (k : ∀ p H2, H p = none → Same H H2 → H2 p = some (.lst ((xs.filter f).map v)) → Q (.ref p) H2) : LcJ J (gName j) t te vs σ H Q := by
  intro D hD
  refine lc_it w (fun i H' => Same H H' ∧ H' D = some (.lst (((xs.take i).filter f).map v))) ⟨Same.new hD, upd_same⟩ (fun _ _ _ _ => trivial) ?_ ?_
  · intro i x H' H'' hi p y
    obtain ⟨rfl, hx⟩ := hY _ _ _ _ y
    have hm : x ∈ xs := List.mem_of_getElem? hx
    have et := take_more hx
    refine ⟨hw x, ht x hm _ p.1 _ fun H2 e2 => ?_⟩
    cases hf : f x with
    | true =>
      rw [if_pos rfl]
      refine he x hm hf H2 (p.1.trans e2) _ fun H3 e3 => ⟨_, e3 _ _ (e2 _ _ p.2), ?_, ?_, ?_⟩
      · have z1 := List.length_filter_le f (xs.take i)
        rw [List.length_map]
        rw [List.length_take] at z1
        exact sz' (by omega)
      · exact Same.mut ((p.1.trans e2).trans e3) hD
      · rw [et, List.filter_append, List.map_append, upd_same]
        simp [List.filter, hf]
    | false =>
      rw [if_neg Bool.false_ne_true]
      refine ⟨p.1.trans e2, ?_⟩
      rw [et, List.filter_append, List.map_append]
      simp [List.filter, hf]
      exact e2 _ _ p.2
  · intro H' p
    rw [← hn, List.take_length] at p
    exact k D H' hD p.1 p.2
def signs (z : Str) : List V := z.cps.toList.map fun c => .str ⟨#[c]⟩
theorem signs_len (z : Str) : (signs z).length = z.cps.size := by unfold signs; rw [List.length_map, Array.length_toList]
/-- .. over a text's signs -/
theorem lc_S {z : Str} {j : Nat} {vs : List Nat} (hz : z.cps.size ≤ 100000) (f : V → Bool) (v : V → V) (hw : ∀ x, wipe ((wipe σ vs).set j (some x)) vs = wipe σ vs)
    (ht : ∀ x, x ∈ signs z → ∀ H1, Same H H1 → ∀ Q : Bool → Hp → Prop, (∀ H2, Same H1 H2 → Q (f x) H2) → t ((wipe σ vs).set j (some x)) H1 Q)
    (he : ∀ x, x ∈ signs z → f x = true → ∀ H1, Same H H1 → ∀ Q : VK, (∀ H2, Same H1 H2 → Q (v x) H2) → te ((wipe σ vs).set j (some x)) H1 Q)
    (k : ∀ p H2, H p = none → Same H H2 → H2 p = some (.lst (((signs z).filter f).map v)) → Q (.ref p) H2) : LcJ (Its z) (gName j) t te vs σ H Q :=
  lc_J walk_str (signs_len z) (fun i H x H' ⟨e, c, hc, hx⟩ => ⟨e, by unfold signs; rw [List.getElem?_map, Array.getElem?_toList, hc, hx]; rfl⟩) (by rw [signs_len]; exact hz) f v hw ht he k
theorem walk_rg {lo : Int} {n : Nat} : Walk (Itr lo n) n (fun _ => True) (fun i H x H' => H' = H ∧ x = .int (lo + (i : Nat)) ∧ i < n) :=
  ⟨fun _ _ h _ => h, fun _ _ => Nat.le_refl _, fun i H x H' h _ y => ⟨y.1, y.2, h⟩⟩
def intsV (lo : Int) (n : Nat) : List V := (List.range n).map fun i => V.int (lo + (i : Nat))
/-- .. over a range -/
theorem lc_R {lo : Int} {n : Nat} {j : Nat} {vs : List Nat} (hz : n ≤ 100000) (f : V → Bool) (v : V → V) (hw : ∀ x, wipe ((wipe σ vs).set j (some x)) vs = wipe σ vs)
    (ht : ∀ x, x ∈ intsV lo n → ∀ H1, Same H H1 → ∀ Q : Bool → Hp → Prop, (∀ H2, Same H1 H2 → Q (f x) H2) → t ((wipe σ vs).set j (some x)) H1 Q)
    (he : ∀ x, x ∈ intsV lo n → f x = true → ∀ H1, Same H H1 → ∀ Q : VK, (∀ H2, Same H1 H2 → Q (v x) H2) → te ((wipe σ vs).set j (some x)) H1 Q)
    (k : ∀ p H2, H p = none → Same H H2 → H2 p = some (.lst (((intsV lo n).filter f).map v)) → Q (.ref p) H2) : LcJ (Itr lo n) (gName j) t te vs σ H Q :=
  lc_J walk_rg (by unfold intsV; rw [List.length_map, List.length_range]) (fun i H x H' ⟨e, hx, hi⟩ => ⟨e, by unfold intsV; rw [List.getElem?_map, List.getElem?_range hi, hx]; rfl⟩) (by unfold intsV; rw [List.length_map, List.length_range]; exact hz) f v hw ht he k
theorem x_yes {Q : Bool → Hp → Prop} (q : Q true H) : tYes σ H Q := q
/-! texts -/
def rLenS : List V → Hp → VK → Prop := fun xs H Q => ∃ z, xs = [.str z] ∧ z.length ≤ sizeLine ∧ Q (.int z.length) H
theorem call_lenS {X : Cx} : CallR X (.builtin "len") rLenS := call_len_str
theorem x_lenS {z : Str} (h : z.length ≤ 100000) (q : Q (.int z.length) H) : rLenS [.str z] H Q := ⟨z, rfl, sz h, q⟩
def rAddS : R2 := fun x y H Q => ∃ i j, x = .str i ∧ y = .str j ∧ i.length + j.length ≤ sizeLine ∧ Q (.str (i ++ j)) H
theorem op_addS {X : Cx} : OpR X (binaryOp .Add) rAddS := op_add_str
theorem x_addS {a b : Str} (h : a.length + b.length ≤ 100000) (q : Q (.str (a ++ b)) H) : rAddS (.str a) (.str b) H Q := ⟨a, b, rfl, rfl, sz h, q⟩
def rInS (neg : Bool) : R2 := fun x y H Q => ∃ (c : Nat) (z : Str), x = .str ⟨#[c]⟩ ∧ y = .str z ∧ Q (.bl (if neg then !decide (c ∈ z.cps.toList) else decide (c ∈ z.cps.toList))) H
theorem op_inS {X : Cx} : OpR X (compareOp .In) (rInS false) := op_in_sign
theorem op_niS {X : Cx} : OpR X (compareOp .NotIn) (rInS true) := op_notIn_sign
theorem x_inS {c : Nat} {z : Str} (q : Q (.bl (decide (c ∈ z.cps.toList))) H) : rInS false (.str ⟨#[c]⟩) (.str z) H Q := ⟨c, z, rfl, rfl, q⟩
theorem x_niS {c : Nat} {z : Str} (q : Q (.bl (!decide (c ∈ z.cps.toList))) H) : rInS true (.str ⟨#[c]⟩) (.str z) H Q := ⟨c, z, rfl, rfl, q⟩
theorem x_ixS {z : Str} {i : Int} {c : Nat} (h : z.length ≤ 100000) (e : atI z.cps.toList i = some c) (q : Q (.str ⟨#[c]⟩) H) : rIxS (.str z) (.int i) H Q := ⟨z, i, c, rfl, rfl, sz h, e, q⟩
theorem x_sl {r : V → Option Int → Option Int → Hp → VK → Prop} {lo hi : TO} (h : te σ H fun x H1 => lo σ H1 fun l H2 => hi σ H2 fun u H3 => r x l u H3 Q) : tSl r te lo hi σ H Q := h
theorem x_noPart {Q : Option Int → Hp → Prop} (q : Q none H) : tNoPart σ H Q := q
def PaV (x : V) (H : Hp) (Q : Option Int → Hp → Prop) : Prop := ∃ i, x = .int i ∧ Q (some i) H
theorem pav {i : Int} {Q : Option Int → Hp → Prop} (q : Q (some i) H) : PaV (.int i) H Q := ⟨i, rfl, q⟩
theorem x_part {Q : Option Int → Hp → Prop} (h : te σ H fun x H1 => PaV x H1 Q) : tPart te σ H Q := h
theorem x_slS {z : Str} {lo hi : Option Int} (h : z.length ≤ 100000) (q : Q (.str (cutS z lo hi)) H) : rSlS (.str z) lo hi H Q := ⟨z, rfl, sz h, q⟩
def JnV (K : PySem.W.Frag) (te : TE) (σ : L2.St) (x : V) (H : Hp) (Q : VK) : Prop := (∃ a, x = .str a) ∧ te σ H fun y H2 => ∃ a p, ∃ ys : List Str, x = .str a ∧ [y] = [.ref p] ∧ (SqL K H2 p (ys.map V.str) ∨ SqT K H2 p (ys.map V.str)) ∧
  (ys.map (·.length)).sum + ys.length * a.length ≤ 16777216 ∧ Q (.str (Txt.join a ys)) H2
def JnW (K : PySem.W.Frag) (a : Str) (y : V) (H2 : Hp) (Q : VK) : Prop := ∃ a' p, ∃ ys : List Str, V.str a = .str a' ∧ [y] = [.ref p] ∧ (SqL K H2 p (ys.map V.str) ∨ SqT K H2 p (ys.map V.str)) ∧
  (ys.map (·.length)).sum + ys.length * a'.length ≤ 16777216 ∧ Q (.str (Txt.join a' ys)) H2
theorem x_jnv {a : Str} (h : te σ H fun y H2 => JnW K a y H2 Q) : JnV K te σ (.str a) H Q := ⟨⟨a, rfl⟩, h⟩
theorem x_jnw {a : Str} {p : Addr} {ys : List Str} (h : SqL K H p (ys.map V.str)) (hz : (ys.map (·.length)).sum + ys.length * a.length ≤ 100000) (q : Q (.str (Txt.join a ys)) H) : JnW K a (.ref p) H Q := ⟨a, p, ys, rfl, rfl, .inl h, Nat.le_trans hz (by decide), q⟩
def tJoin (K : PySem.W.Frag) (to te : TE) : TE := fun σ H Q => to σ H fun x H1 => JnV K te σ x H1 Q
theorem x_join {to : TE} (h : to σ H fun x H1 => JnV K te σ x H1 Q) : tJoin K to te σ H Q := h
theorem pe_joinN {X : Cx} {o e : Expr} {to te : TE} {apos pos : Pos} (ho : PE X o to) (he : PE X e te) (hs : starEach [e] X.env = [(false, eval e X.env)] := by rfl) (hbase : attributeBase o "join" X.env (eval o X.env) = eval o X.env := by rfl) (hline : (apos.endLine == pos.line) = true := by rfl) :
    PE X (.Call (.Attribute o "join" apos) [e] [] pos) (tJoin X.K to te) := pe_join ho he hs hbase hline
/-! tuples, bools, lists of, unpacking -/
theorem x_slA {p : Addr} {xs : List V} {lo hi : Option Int} (h : SqT K H p xs) (k : ∀ p' H2, Same H H2 → SqT K H2 p' (cutV xs lo hi) → Q (.ref p') H2) : rSlA K (.ref p) lo hi H Q := by
  refine ⟨p, xs, rfl, h, fun hw => ?_, fun hw q hq => k q _ (Same.new hq) (SqT.of upd_same)⟩
  have e : cutV xs lo hi = xs := by
    unfold cutV
    rw [hw.1, hw.2, List.drop_zero, Nat.sub_zero, List.take_length]
  exact k p H (Same.refl H) (by rw [e]; exact h)
theorem x_catA {p q : Addr} {xs ys : List V} (h1 : SqT K H p xs) (h2 : SqT K H q ys) (hl : xs.length + ys.length ≤ 100000) (k : ∀ p' H2, Same H H2 → SqT K H2 p' (xs ++ ys) → Q (.ref p') H2) : rCatA K (.ref p) (.ref q) H Q := by
  refine ⟨p, q, xs, ys, rfl, rfl, h1, h2, sz hl, fun e => ?_, fun _ e => ?_, fun _ _ r hr => k r _ (Same.new hr) (SqT.of upd_same)⟩
  · exact k q H (Same.refl H) (by rw [e]; exact h2)
  · exact k p H (Same.refl H) (by rw [e, List.append_nil]; exact h1)
def rIsB (neg : Bool) : R2 := fun x y H Q => ∃ a b, x = .bl a ∧ y = .bl b ∧ Q (.bl (if neg then !decide (a = b) else decide (a = b))) H
theorem op_isB {X : Cx} : OpR X (compareOp .Is) (rIsB false) := op_is_bl
theorem op_isnB {X : Cx} : OpR X (compareOp .IsNot) (rIsB true) := op_isnot_bl
theorem x_isB {b c : Bool} (q : Q (.bl (decide (b = c))) H) : rIsB false (.bl b) (.bl c) H Q := ⟨b, c, rfl, rfl, q⟩
theorem x_isnB {b c : Bool} (q : Q (.bl (!decide (b = c))) H) : rIsB true (.bl b) (.bl c) H Q := ⟨b, c, rfl, rfl, q⟩
theorem x_gtup {n : Nat} {tg : TGs} {a : Addr} {xs : List V} {Q : L2.St → Hp → Prop} (h : SqT K H a xs) (e : xs.length = n) (q : tg xs σ H Q) : gTup K n tg (.ref a) σ H Q := ⟨a, xs, rfl, h, e, q⟩
theorem x_gcons {tg : TGs} {v : V} {r : List V} {Q : L2.St → Hp → Prop} (q : g v σ H fun σ' H' => tg r σ' H' Q) : gCons g tg (v :: r) σ H Q := ⟨v, r, rfl, q⟩
theorem x_gnil {Q : L2.St → Hp → Prop} (q : Q σ H) : gNil [] σ H Q := ⟨rfl, q⟩
def rInt1 : List V → Hp → VK → Prop := fun xs H Q => (∃ i, xs = [.int i] ∧ Q (.int i) H) ∨ ∃ k, xs = [.bl k] ∧ Q (.int (if k then 1 else 0)) H
theorem call_intB {X : Cx} : CallR X (.type "int") rInt1 := call_int1
theorem x_intB {b : Bool} (q : Q (.int (if b then 1 else 0)) H) : rInt1 [.bl b] H Q := .inr ⟨b, rfl, q⟩
theorem x_dnew (k : ∀ p H2, H p = none → Same H H2 → H2 p = some (.dK []) → Q (.ref p) H2) : tDNewK σ H Q := fun p hp => k p _ hp (Same.new hp) upd_same
def rListOf (K : PySem.W.Frag) : List V → Hp → VK → Prop := fun xs H Q => ∃ p ys, xs = [.ref p] ∧ (SqL K H p ys ∨ SqT K H p ys) ∧ ∀ l, H l = none → Q (.ref l) (upd H l (.lst ys))
theorem call_listOf {X : Cx} : CallR X (.type "list") (rListOf X.K) := call_list_of
theorem x_listOf {p : Addr} {ys : List V} (h : SqL K H p ys ∨ SqT K H p ys) (k : ∀ l H2, H l = none → Same H H2 → H2 l = some (.lst ys) → Q (.ref l) H2) : rListOf K [.ref p] H Q := ⟨p, ys, rfl, h, fun l hl => k l _ hl (Same.new hl) upd_same⟩
theorem x_all {p : Addr} {bs : List Bool} (h : SqL K H p (bs.map V.bl)) (q : Q (.bl (bs.all id)) H) : rAll K [.ref p] H Q := ⟨p, bs, rfl, h, q⟩
theorem x_any {p : Addr} {bs : List Bool} (h : SqL K H p (bs.map V.bl)) (q : Q (.bl (bs.any id)) H) : rAny K [.ref p] H Q := ⟨p, bs, rfl, h, q⟩
theorem x_ixQ {p : Addr} {xs : List V} {i : Int} {v : V} (h : SqT K H p xs) (e : atI xs i = some v) (q : Q v H) : rIx K (.ref p) (.int i) H Q := .inr (.inl ⟨p, xs, i, v, rfl, rfl, h, e, q⟩)
def OrV (K : PySem.W.Frag) (x : V) (H : Hp) (Q : VK) (R : Hp → VK → Prop) : Prop := ∃ k, TruV K x H k ∧ if k = true then Q x H else R H Q
theorem x_orT (h : ta σ H fun x H1 => OrV K x H1 Q (tb σ)) : tOrT K ta tb σ H Q := h
theorem orv {k : Bool} {R : Hp → VK → Prop} (h : TruV K x H k) (q : Br k (Q x H) (R H Q)) : OrV K x H Q R := ⟨k, h, q⟩
def rIsTy : R2 := fun x y H Q => ∃ a b, x = .ty a ∧ y = .ty b ∧ Q (.bl (decide (a = b))) H
theorem op_isTy {X : Cx} : OpR X (compareOp .Is) rIsTy := op_isTyB
theorem x_isTy {a b : String} (q : Q (.bl (decide (a = b))) H) : rIsTy (.ty a) (.ty b) H Q := ⟨a, b, rfl, rfl, q⟩
theorem x_niTy {a b : String} (q : Q (.bl (!decide (a = b))) H) : rNT (.ty a) (.ty b) H Q := ⟨a, b, rfl, rfl, q⟩
def rIntS : List V → Hp → VK → Prop := fun xs H Q => ∃ a n, xs = [.str a] ∧ PySem.intText? a = some n ∧ a.length ≤ 640 ∧ Q (.int n) H
theorem call_intS {X : Cx} : CallR X (.type "int") rIntS := call_int_str
theorem x_intS {z : Str} {n : Int} (e : PySem.intText? z = some n) (h : z.length ≤ 640) (q : Q (.int n) H) : rIntS [.str z] H Q := ⟨z, n, rfl, e, h, q⟩
def rStrI : List V → Hp → VK → Prop := fun xs H Q => ∃ i, xs = [.int i] ∧ i.natAbs.log2 < 1920 ∧ Q (.str (toString i)) H
theorem call_strI {X : Cx} : CallR X (.type "str") rStrI := call_str_int
theorem x_strI {i : Int} (h : i.natAbs.log2 < 1920) (q : Q (.str (toString i)) H) : rStrI [.int i] H Q := ⟨i, rfl, h, q⟩
theorem x_glst {n : Nat} {tg : TGs} {a : Addr} {xs : List V} {Q : L2.St → Hp → Prop} (h : SqL K H a xs) (e : xs.length = n) (q : tg xs σ H Q) : gLst K n tg (.ref a) σ H Q := ⟨a, xs, rfl, h, e, q⟩
def SpV (te : TE) (σ : L2.St) (x : V) (H : Hp) (Q : VK) : Prop := (∃ a, x = .str a) ∧ te σ H fun y H2 => ∃ a b, x = .str a ∧ [y] = [.str b] ∧ (b.length == 0) = false ∧ a.length + 2 ≤ sizeLine ∧ rNewStrs (Txt.split a b) H2 Q
def SpW (a : Str) (y : V) (H2 : Hp) (Q : VK) : Prop := ∃ a' b, V.str a = .str a' ∧ [y] = [.str b] ∧ (b.length == 0) = false ∧ a'.length + 2 ≤ sizeLine ∧ rNewStrs (Txt.split a' b) H2 Q
def tSplit (to te : TE) : TE := fun σ H Q => to σ H fun x H1 => SpV te σ x H1 Q
theorem x_split {to : TE} (h : to σ H fun x H1 => SpV te σ x H1 Q) : tSplit to te σ H Q := h
theorem x_spv {a : Str} (h : te σ H fun y H2 => SpW a y H2 Q) : SpV te σ (.str a) H Q := ⟨⟨a, rfl⟩, h⟩
theorem x_spw {a b : Str} (hb : (b.length == 0) = false) (hz : a.length ≤ 100000) (k : ∀ p H2, H p = none → Same H H2 → H2 p = some (.lst ((Txt.split a b).map V.str)) → Q (.ref p) H2) : SpW a (.str b) H Q :=
  ⟨a, b, rfl, rfl, hb, Nat.le_trans (Nat.add_le_add_right hz 2) (by decide), fun p hp => k p _ hp (Same.new hp) upd_same⟩
theorem pe_splitN {X : Cx} {o e : Expr} {to te : TE} {apos pos : Pos} (ho : PE X o to) (he : PE X e te) (hs : starEach [e] X.env = [(false, eval e X.env)] := by rfl) (hbase : attributeBase o "split" X.env (eval o X.env) = eval o X.env := by rfl) (hline : (apos.endLine == pos.line) = true := by rfl) :
    PE X (.Call (.Attribute o "split" apos) [e] [] pos) (tSplit to te) := pe_split ho he hs hbase hline
def SetLV (v o i : V) (H : Hp) (Q : Hp → Prop) : Prop := rSetL o i v H Q
theorem x_gsub {to ti : TE} {v : V} {Q : L2.St → Hp → Prop} (h : to σ H fun o H1 => ti σ H1 fun i H2 => SetLV v o i H2 fun H3 => Q σ H3) : gSub to ti rSetL v σ H Q := h
/-- xs[j] = v of a list of one's own: nothing else changes -/
theorem setLV {p : Addr} {xs : List V} {i : Int} {j : Nat} {v : V} {Q : Hp → Prop} (h : H p = some (.lst xs)) (e : ixN xs.length i = some j) (k : ∀ H', (∀ b o, H b = some o → b ≠ p → H' b = some o) → H' p = some (.lst (xs.set j v)) → Q H') : SetLV v (.ref p) (.int i) H Q :=
  ⟨p, xs, i, j, rfl, rfl, h, e, k _ (fun b o q hb => by rw [upd_ne hb]; exact q) upd_same⟩
def tFmt2 (te : TE) : TE := fun σ H Q => te σ H fun x H1 => (∃ y : Str, x = .str y ∧ y.length ≤ sizeLine ∧ Q (.str y) H1) ∨ ∃ i : Int, x = .int i ∧ i.natAbs.log2 < 1920 ∧ Q (.str (toString i)) H1
def FmV (x : V) (H1 : Hp) (Q : VK) : Prop := (∃ y : Str, x = .str y ∧ y.length ≤ sizeLine ∧ Q (.str y) H1) ∨ ∃ i : Int, x = .int i ∧ i.natAbs.log2 < 1920 ∧ Q (.str (toString i)) H1
theorem x_fmt (h : te σ H fun x H1 => FmV x H1 Q) : tFmt te σ H Q := h
theorem fm_s {y : Str} (h : y.length ≤ 100000) (q : Q (.str y) H) : FmV (.str y) H Q := .inl ⟨y, rfl, sz h, q⟩
theorem fm_i {i : Int} (h : i.natAbs.log2 < 1920) (q : Q (.str (toString i)) H) : FmV (.int i) H Q := .inr ⟨i, rfl, h, q⟩
def JsV (ts : List TE) (acc : Str) (σ : L2.St) (x : V) (H1 : Hp) (Q : Str → Hp → Prop) : Prop := ∃ y : Str, x = .str y ∧ (acc ++ y).length ≤ sizeLine ∧ tJs ts (acc ++ y) σ H1 Q
theorem x_js0 {acc : Str} {Q : Str → Hp → Prop} (q : Q acc H) : tJs [] acc σ H Q := q
theorem x_js {ts : List TE} {acc : Str} {Q : Str → Hp → Prop} (h : te σ H fun x H1 => JsV ts acc σ x H1 Q) : tJs (te :: ts) acc σ H Q := h
theorem jsv {ts : List TE} {acc y : Str} {Q : Str → Hp → Prop} (h : (acc ++ y).length ≤ 100000) (q : tJs ts (acc ++ y) σ H Q) : JsV ts acc σ (.str y) H Q := ⟨y, rfl, sz h, q⟩
/-- a for over a list whose target is any -/
theorem for_Lg {tb : TS} {D : Ends} {a : Addr} {xs : List V} (hx : SqL K H a xs) (Pv : Nat → L2.St → Hp → Prop) (h0 : Pv 0 σ H) (hl : ∀ i σ H, i ≤ xs.length → Pv i σ H → SqL K H a xs)
    (hs : ∀ i x σ H, xs[i]? = some x → Pv i σ H → g x σ H fun σ2 H2 => tb { nx := Pv (i + 1), rt := D.rt, ct := Pv (i + 1), bk := D.nx } σ2 H2) (hd : ∀ σ H, Pv xs.length σ H → D.nx σ H) : ForL K g tb D σ (.ref a) H :=
  ⟨a, rfl, ⟨xs, hx⟩, for_list (xs := xs) Pv h0 hl (fun i x σ H e p => hs i x σ H e p) hd⟩
/-- a value's type by isinstance -/
theorem ty_x {T : String} (h : TyB K H x T) : TyX K H x (.type T) := by
  cases h with
  | non => exact .base .non
  | bl b => exact .base (.bl b)
  | int i => exact .base (.int i)
  | str z => exact .base (.str z)
  | byt b => exact .byt b
  | lst h =>
    rcases h with (h | ⟨o, h⟩) | ⟨o, its, n, hk, hc, _⟩
    · exact .base (.lst h)
    · exact .base (.frz h)
    · exact .kList hk hc
  | tup h =>
    rcases h with (h | ⟨o, h⟩) | ⟨o, its, n, hk, hc, _⟩
    · exact .base (.tup h)
    · exact .fTuple h
    · exact .kTuple hk hc
  | dK h => exact .base (.dK h)
theorem x_isiT {T n : String} {b : Bool} (h : TyB K H x T) (e : kitB T n = some b) (q : Q (.bl b) H) : rIsi K [x, .ty n] H Q := x_isi (.ty n) (ty_x h) (kit_ty e) q
end
end LH
namespace K2
open PySem L2
def top (i : Nat) : Stmt := PySem.Challenge.pw_latehouse_k02_words.main.body.getD i (.Pass ⟨0, 0, 0, 0⟩)
abbrev s_is_whole : Stmt := top 12
abbrev N_is_whole : List Str := ["thing", "least", "most"]
theorem sc_is_whole : FnScope N_is_whole ["thing", "least", "most"] (defScope s_is_whole) := ⟨rfl, rfl, rfl, by decide +kernel, rfl, by decide +kernel, by decide +kernel⟩
abbrev s_check_count : Stmt := top 13
abbrev N_check_count : List Str := ["count"]
theorem sc_check_count : FnScope N_check_count ["count"] (defScope s_check_count) := ⟨rfl, rfl, rfl, by decide +kernel, rfl, by decide +kernel, by decide +kernel⟩
abbrev s_is_house : Stmt := top 14
abbrev N_is_house : List Str := ["count", "thing"]
theorem sc_is_house : FnScope N_is_house ["count", "thing"] (defScope s_is_house) := ⟨rfl, rfl, rfl, by decide +kernel, rfl, by decide +kernel, by decide +kernel⟩
abbrev s_is_row : Stmt := top 21
abbrev N_is_row : List Str := ["thing", "letter"]
theorem sc_is_row : FnScope N_is_row ["thing"] (defScope s_is_row) := ⟨rfl, rfl, rfl, by decide +kernel, rfl, by decide +kernel, by decide +kernel⟩
abbrev s_caller : Stmt := top 22
abbrev N_caller : List Str := ["count", "number"]
theorem sc_caller : FnScope N_caller ["count", "number"] (defScope s_caller) := ⟨rfl, rfl, rfl, by decide +kernel, rfl, by decide +kernel, by decide +kernel⟩
abbrev s_is_word : Stmt := top 23
abbrev N_is_word : List Str := ["count", "thing", "kind", "number", "row", "house"]
theorem sc_is_word : FnScope N_is_word ["count", "thing"] (defScope s_is_word) := ⟨rfl, rfl, rfl, by decide +kernel, rfl, by decide +kernel, by decide +kernel⟩
abbrev s_place : Stmt := top 24
abbrev N_place : List Str := ["word", "kind", "number", "row", "house"]
theorem sc_place : FnScope N_place ["word"] (defScope s_place) := ⟨rfl, rfl, rfl, by decide +kernel, rfl, by decide +kernel, by decide +kernel⟩
abbrev s_are_unlike : Stmt := top 25
abbrev N_are_unlike : List Str := ["one", "other"]
theorem sc_are_unlike : FnScope N_are_unlike ["one", "other"] (defScope s_are_unlike) := ⟨rfl, rfl, rfl, by decide +kernel, rfl, by decide +kernel, by decide +kernel⟩
abbrev s__law_at : Stmt := top 27
abbrev N__law_at : List Str := ["_law_script", "_law_k"]
theorem sc__law_at : FnScope N__law_at ["_law_script", "_law_k"] (defScope s__law_at) := ⟨rfl, rfl, rfl, by decide +kernel, rfl, by decide +kernel, by decide +kernel⟩
abbrev s__law_whole : Stmt := top 28
abbrev N__law_whole : List Str := ["_law_thing"]
theorem sc__law_whole : FnScope N__law_whole ["_law_thing"] (defScope s__law_whole) := ⟨rfl, rfl, rfl, by decide +kernel, rfl, by decide +kernel, by decide +kernel⟩
abbrev s__law_sign : Stmt := top 29
abbrev N__law_sign : List Str := ["_law_cell", "_law_signs"]
theorem sc__law_sign : FnScope N__law_sign ["_law_cell"] (defScope s__law_sign) := ⟨rfl, rfl, rfl, by decide +kernel, rfl, by decide +kernel, by decide +kernel⟩
abbrev s__law_row : Stmt := top 30
abbrev N__law_row : List Str := ["_law_base", "_law_k", "_law_letters", "_law_turned", "_law_size", "_law_tail", "_law_j", "_law_at_here"]
theorem sc__law_row : FnScope N__law_row ["_law_base", "_law_k"] (defScope s__law_row) := ⟨rfl, rfl, rfl, by decide +kernel, rfl, by decide +kernel, by decide +kernel⟩
abbrev s__law_is_row : Stmt := top 31
abbrev N__law_is_row : List Str := ["_law_thing", "_law_sign_here"]
theorem sc__law_is_row : FnScope N__law_is_row ["_law_thing"] (defScope s__law_is_row) := ⟨rfl, rfl, rfl, by decide +kernel, rfl, by decide +kernel, by decide +kernel⟩
abbrev s__law_is_among : Stmt := top 32
abbrev N__law_is_among : List Str := ["_law_thing", "_law_least", "_law_most"]
theorem sc__law_is_among : FnScope N__law_is_among ["_law_thing", "_law_least", "_law_most"] (defScope s__law_is_among) := ⟨rfl, rfl, rfl, by decide +kernel, rfl, by decide +kernel, by decide +kernel⟩
abbrev s__law_is_word : Stmt := top 33
abbrev N__law_is_word : List Str := ["_law_count", "_law_thing"]
theorem sc__law_is_word : FnScope N__law_is_word ["_law_count", "_law_thing"] (defScope s__law_is_word) := ⟨rfl, rfl, rfl, by decide +kernel, rfl, by decide +kernel, by decide +kernel⟩
abbrev s__law_kind : Stmt := top 34
abbrev N__law_kind : List Str := ["_law_error", "_law_words", "_law_found"]
theorem sc__law_kind : FnScope N__law_kind ["_law_error"] (defScope s__law_kind) := ⟨rfl, rfl, rfl, by decide +kernel, rfl, by decide +kernel, by decide +kernel⟩
abbrev s__law_word : Stmt := top 35
abbrev N__law_word : List Str := ["_law_cell", "_law_count", "_law_base", "_law_number", "_law_row_here"]
theorem sc__law_word : FnScope N__law_word ["_law_cell", "_law_count", "_law_base"] (defScope s__law_word) := ⟨rfl, rfl, rfl, by decide +kernel, rfl, by decide +kernel, by decide +kernel⟩
abbrev s__law_other : Stmt := top 36
abbrev N__law_other : List Str := ["_law_word_here", "_law_cell", "_law_count", "_law_at_here", "_law_text", "_law_things"]
theorem sc__law_other : FnScope N__law_other ["_law_word_here", "_law_cell", "_law_count"] (defScope s__law_other) := ⟨rfl, rfl, rfl, by decide +kernel, rfl, by decide +kernel, by decide +kernel⟩
abbrev s__law_second : Stmt := top 37
abbrev N__law_second : List Str := ["_law_word_here", "_law_count", "_law_row_here", "_law_near", "_law_some"]
theorem sc__law_second : FnScope N__law_second ["_law_word_here", "_law_count", "_law_row_here"] (defScope s__law_second) := ⟨rfl, rfl, rfl, by decide +kernel, rfl, by decide +kernel, by decide +kernel⟩
abbrev s__law_refused : Stmt := top 38
abbrev N__law_refused : List Str := ["_law_count", "_law_error"]
theorem sc__law_refused : FnScope N__law_refused ["_law_count"] (defScope s__law_refused) := ⟨rfl, rfl, rfl, by decide +kernel, rfl, by decide +kernel, by decide +kernel⟩
abbrev s_law : Stmt := top 39
abbrev N_law : List Str := ["_law_script", "_law_k", "_law_cell", "_law_more", "_law_count", "_law_base", "_law_word_here", "_law_other_here", "_law_found", "_law_part", "_law_second_here", "_law_due", "_law_at_here"]
theorem sc_law : FnScope N_law ["_law_script"] (defScope s_law) := ⟨rfl, rfl, rfl, by decide +kernel, rfl, by decide +kernel, by decide +kernel⟩
structure Ad where
  (is_whole check_count is_house is_row caller is_word place are_unlike _law_at _law_whole _law_sign _law_row _law_is_row _law_is_among _law_is_word _law_kind _law_word _law_other _law_second _law_refused law : Addr)
  (d_is_whole d_check_count d_is_house d_is_row d_caller d_is_word d_place d_are_unlike d__law_at d__law_whole d__law_sign d__law_row d__law_is_row d__law_is_among d__law_is_word d__law_kind d__law_word d__law_other d__law_second d__law_refused d_law : FuncData)
  (HouseError BadCount BadHouse BadRow BadWord Forged NoLetter NotWritten NoText : Addr)
  (t_MOST_HOUSES t_SAY t_MARK t_LAST_NUMBER t_LONGEST_ROW t_LETTERS : Tok)
abbrev VEs : List Value := [.type "ValueError", .type "Exception", .type "BaseException", .type "object"]
structure Txt (K : PySem.W.Frag) (mg : Str → Option Value) (a : Ad) : Prop where
  F_is_whole : Fun K "is_whole" "is_whole" s_is_whole a.is_whole a.d_is_whole
  g_is_whole : mg "is_whole" = some (.ref a.is_whole)
  b_is_whole : Binds K a.d_is_whole ["thing", "least", "most"] []
  F_check_count : Fun K "check_count" "check_count" s_check_count a.check_count a.d_check_count
  g_check_count : mg "check_count" = some (.ref a.check_count)
  b_check_count : Binds K a.d_check_count ["count"] []
  F_is_house : Fun K "is_house" "is_house" s_is_house a.is_house a.d_is_house
  g_is_house : mg "is_house" = some (.ref a.is_house)
  b_is_house : Binds K a.d_is_house ["count", "thing"] []
  F_is_row : Fun K "is_row" "is_row" s_is_row a.is_row a.d_is_row
  g_is_row : mg "is_row" = some (.ref a.is_row)
  b_is_row : Binds K a.d_is_row ["thing"] []
  F_caller : Fun K "caller" "caller" s_caller a.caller a.d_caller
  g_caller : mg "caller" = some (.ref a.caller)
  b_caller : Binds K a.d_caller ["count", "number"] []
  F_is_word : Fun K "is_word" "is_word" s_is_word a.is_word a.d_is_word
  g_is_word : mg "is_word" = some (.ref a.is_word)
  b_is_word : Binds K a.d_is_word ["count", "thing"] []
  F_place : Fun K "place" "place" s_place a.place a.d_place
  g_place : mg "place" = some (.ref a.place)
  b_place : Binds K a.d_place ["word"] []
  F_are_unlike : Fun K "are_unlike" "are_unlike" s_are_unlike a.are_unlike a.d_are_unlike
  g_are_unlike : mg "are_unlike" = some (.ref a.are_unlike)
  b_are_unlike : Binds K a.d_are_unlike ["one", "other"] []
  F__law_at : Fun K "_law_at" "_law_at" s__law_at a._law_at a.d__law_at
  g__law_at : mg "_law_at" = some (.ref a._law_at)
  b__law_at : Binds K a.d__law_at ["_law_script", "_law_k"] []
  F__law_whole : Fun K "_law_whole" "_law_whole" s__law_whole a._law_whole a.d__law_whole
  g__law_whole : mg "_law_whole" = some (.ref a._law_whole)
  b__law_whole : Binds K a.d__law_whole ["_law_thing"] []
  F__law_sign : Fun K "_law_sign" "_law_sign" s__law_sign a._law_sign a.d__law_sign
  g__law_sign : mg "_law_sign" = some (.ref a._law_sign)
  b__law_sign : Binds K a.d__law_sign ["_law_cell"] []
  F__law_row : Fun K "_law_row" "_law_row" s__law_row a._law_row a.d__law_row
  g__law_row : mg "_law_row" = some (.ref a._law_row)
  b__law_row : Binds K a.d__law_row ["_law_base", "_law_k"] []
  F__law_is_row : Fun K "_law_is_row" "_law_is_row" s__law_is_row a._law_is_row a.d__law_is_row
  g__law_is_row : mg "_law_is_row" = some (.ref a._law_is_row)
  b__law_is_row : Binds K a.d__law_is_row ["_law_thing"] []
  F__law_is_among : Fun K "_law_is_among" "_law_is_among" s__law_is_among a._law_is_among a.d__law_is_among
  g__law_is_among : mg "_law_is_among" = some (.ref a._law_is_among)
  b__law_is_among : Binds K a.d__law_is_among ["_law_thing", "_law_least", "_law_most"] []
  F__law_is_word : Fun K "_law_is_word" "_law_is_word" s__law_is_word a._law_is_word a.d__law_is_word
  g__law_is_word : mg "_law_is_word" = some (.ref a._law_is_word)
  b__law_is_word : Binds K a.d__law_is_word ["_law_count", "_law_thing"] []
  F__law_kind : Fun K "_law_kind" "_law_kind" s__law_kind a._law_kind a.d__law_kind
  g__law_kind : mg "_law_kind" = some (.ref a._law_kind)
  b__law_kind : Binds K a.d__law_kind ["_law_error"] []
  F__law_word : Fun K "_law_word" "_law_word" s__law_word a._law_word a.d__law_word
  g__law_word : mg "_law_word" = some (.ref a._law_word)
  b__law_word : Binds K a.d__law_word ["_law_cell", "_law_count", "_law_base"] []
  F__law_other : Fun K "_law_other" "_law_other" s__law_other a._law_other a.d__law_other
  g__law_other : mg "_law_other" = some (.ref a._law_other)
  b__law_other : Binds K a.d__law_other ["_law_word_here", "_law_cell", "_law_count"] []
  F__law_second : Fun K "_law_second" "_law_second" s__law_second a._law_second a.d__law_second
  g__law_second : mg "_law_second" = some (.ref a._law_second)
  b__law_second : Binds K a.d__law_second ["_law_word_here", "_law_count", "_law_row_here"] []
  F__law_refused : Fun K "_law_refused" "_law_refused" s__law_refused a._law_refused a.d__law_refused
  g__law_refused : mg "_law_refused" = some (.ref a._law_refused)
  b__law_refused : Binds K a.d__law_refused ["_law_count"] []
  F_law : Fun K "law" "law" s_law a.law a.d_law
  g_HouseError : mg "HouseError" = some (.ref a.HouseError)
  g_BadCount : mg "BadCount" = some (.ref a.BadCount)
  g_BadHouse : mg "BadHouse" = some (.ref a.BadHouse)
  g_BadRow : mg "BadRow" = some (.ref a.BadRow)
  g_BadWord : mg "BadWord" = some (.ref a.BadWord)
  g_Forged : mg "Forged" = some (.ref a.Forged)
  g_NoLetter : mg "NoLetter" = some (.ref a.NoLetter)
  g_NotWritten : mg "NotWritten" = some (.ref a.NotWritten)
  g_NoText : mg "NoText" = some (.ref a.NoText)
  x_BadCount : PySem.W.excIn K a.BadCount VEs "ValueError.__new__" = true
  k_BadCount : PySem.W.keepIn K (.ref a.BadCount) = true
  bx_BadCount : PySem.W.subIn K (.ref a.BadCount) (.type "BaseException") = some true
  t_BadCount : PySem.W.typeIn K (.ref a.BadCount) = some (.type "type")
  e_BadCount : PySem.W.exmOne K (.ref a.BadCount) (.ref a.HouseError) = some true
  c_BadCount : ExcC K a.BadCount
  i_BadCount : PySem.W.kitOne K (.ref a.BadCount) (.ref a.BadCount) = some true
  i_BadHouse : PySem.W.kitOne K (.ref a.BadCount) (.ref a.BadHouse) = some false
  i_BadRow : PySem.W.kitOne K (.ref a.BadCount) (.ref a.BadRow) = some false
  i_BadWord : PySem.W.kitOne K (.ref a.BadCount) (.ref a.BadWord) = some false
  i_Forged : PySem.W.kitOne K (.ref a.BadCount) (.ref a.Forged) = some false
  i_NoLetter : PySem.W.kitOne K (.ref a.BadCount) (.ref a.NoLetter) = some false
  i_NotWritten : PySem.W.kitOne K (.ref a.BadCount) (.ref a.NotWritten) = some false
  i_NoText : PySem.W.kitOne K (.ref a.BadCount) (.ref a.NoText) = some false
  i_ValueError : PySem.W.kitOne K (.ref a.BadCount) (.type "ValueError") = some true
  m_MOST_HOUSES : mg "MOST_HOUSES" = some (.int 12 a.t_MOST_HOUSES)
  m_SAY : mg "SAY" = some (.str "say" a.t_SAY)
  m_MARK : mg "MARK" = some (.str "mark" a.t_MARK)
  m_LAST_NUMBER : mg "LAST_NUMBER" = some (.int 9999 a.t_LAST_NUMBER)
  m_LONGEST_ROW : mg "LONGEST_ROW" = some (.int 8 a.t_LONGEST_ROW)
  m_LETTERS : mg "LETTERS" = some (.str "abcdefghijklmnopqrstuvwxyz" a.t_LETTERS)
  n_ValueError : mg "ValueError" = none
  n_all : mg "all" = none
  n_bool : mg "bool" = none
  n_int : mg "int" = none
  n_isinstance : mg "isinstance" = none
  n_len : mg "len" = none
  n_list : mg "list" = none
  n_range : mg "range" = none
  n_str : mg "str" = none
  n_tuple : mg "tuple" = none
  n_type : mg "type" = none

local macro_rules | `(tactic| walk_at "rd1") => `(tactic| first
  | with_reducible refine LH.x_seq ?_
  | with_reducible refine LH.x_asg ?_
  | with_reducible refine LH.x_cons ?_
  | with_reducible refine LH.x_var (by with_unfolding_all exact rfl) ?_
  | with_reducible refine LH.x_c ?_
  | with_reducible refine LH.x_op ?_
  | with_reducible refine LH.x_gname ?_
  | with_reducible refine LH.x_nil ?_
  | with_reducible refine LH.x_I0 ?_
  | ((with_reducible refine LH.x_I ?k1 ?_); (case k1 => first | exact (by decide) | exact ⟨by decide, by decide⟩ | exact ⟨by decide, by decide, by decide⟩ | exact .inl ⟨by decide, by decide⟩ | exact .inr ⟨by decide, by decide⟩ | exact .inr ⟨by omega, by omega⟩ | exact .inl ⟨by omega, by omega⟩ | exact (by omega)))
  | with_reducible refine LH.x_ifS ?_
  | with_reducible refine LH.x_test ?_
  | with_reducible refine LH.x_tB ?_
  | with_reducible refine LH.bx ?_
  | with_reducible refine LH.x_and ?_
  | with_reducible refine LH.x_or ?_
  | with_reducible refine LH.x_not ?_
  | with_reducible refine LH.x_ret ?_
  | with_reducible refine LH.x_call ?_
  | with_reducible refine LH.x_cb ?_
  | with_reducible refine LH.x_lst ?_
  | with_reducible refine LH.x_tup ?_
  | with_reducible refine LH.x_bm ?_
  | with_reducible refine LH.x_drop ?_
  | with_reducible refine LH.x_next ?_
  | with_reducible refine LH.x_cont ?_
  | with_reducible refine LH.x_un ?_
  | with_reducible refine LH.x_U ?_
  | with_reducible refine LH.x_eq (by with_unfolding_all exact rfl) ?_
  | with_reducible refine LH.x_ne (by with_unfolding_all exact rfl) ?_
  | with_reducible refine LH.x_andV ?_
  | with_reducible refine LH.x_orV ?_
  | with_reducible refine LH.x_notV ?_
  | with_reducible refine LH.band ?_
  | with_reducible refine LH.bor ?_
  | with_reducible refine LH.x_if ?_
  | with_reducible refine LH.x_chain ?_
  | with_reducible refine LH.chk ?_
  | with_reducible refine LH.x_callS ?_
  | with_reducible refine LH.x_callE ?_
  | with_reducible refine LH.x_callV ?_
  | with_reducible refine LH.x_lrg ?_
  | with_reducible refine LH.x_lcS ?_
  | with_reducible refine LH.x_lcR1 ?_
  | with_reducible refine LH.x_forR1 ?_
  | with_reducible refine LH.x_forR3 ?_
  | with_reducible refine LH.strv ?_
  | with_reducible refine LH.x_yes ?_
  | with_reducible refine LH.x_sl ?_
  | with_reducible refine LH.x_noPart ?_
  | with_reducible refine LH.x_part ?_
  | with_reducible refine LH.pav ?_
  | with_reducible refine LH.x_jnv ?_
  | with_reducible refine LH.x_join ?_
  | with_reducible refine LH.x_inS ?_
  | with_reducible refine LH.x_niS ?_
  | with_reducible refine LH.x_isB ?_
  | with_reducible refine LH.x_isnB ?_
  | with_reducible refine LH.x_gcons ?_
  | with_reducible refine LH.x_gnil ?_
  | with_reducible refine LH.x_intB ?_
  | with_reducible refine LH.x_orT ?_
  | with_reducible refine LH.x_isTy ?_
  | with_reducible refine LH.x_niTy ?_
  | with_reducible refine LH.x_split ?_
  | with_reducible refine LH.x_spv ?_
  | with_reducible refine LH.x_gsub ?_
  | with_reducible refine LH.x_fmt ?_
  | with_reducible refine LH.x_js0 ?_
  | with_reducible refine LH.x_js ?_
  | with_reducible refine LH.x_rg1 ?_
  | with_reducible refine LH.x_forL ?_
  | with_reducible refine LH.x_abs ?_
  | with_reducible refine LH.x_rg2 ?_
  | with_reducible refine LH.rg1v ?_
  | with_reducible refine LH.rg2v ?_
  | with_reducible refine LH.x_forR2 ?_
  | with_reducible refine LH.x_lenSetG ?_
  | with_reducible refine LH.x_lc ?_
  | with_reducible refine LH.br_nt ?_
  | with_reducible refine LH.br_nf ?_
  | with_reducible refine LH.br_t ?_
  | with_reducible refine LH.br_f ?_)
local macro_rules | `(tactic| walk_at "rd") => `(tactic| repeat (walk_at "rd1"))

section
variable {P : Program} {w : World} {K : PySem.W.Frag} {mg : Str → Option Value} {base : Heap} {a : Ad}
/-! ### counts -/
def isW : V → Int → Int → Bool
  | .int i, lo, hi => decide (lo ≤ i) && decide (i ≤ hi)
  | _, _, _ => false
theorem isW_int {x : V} {lo hi : Int} (h : isW x lo hi = true) : ∃ i, x = .int i ∧ lo ≤ i ∧ i ≤ hi := by
  cases x <;> simp [isW] at h
  exact ⟨_, rfl, h.1, h.2⟩
theorem isW_yes {i lo hi : Int} (h1 : lo ≤ i) (h2 : i ≤ hi) : isW (.int i) lo hi = true := by simp [isW, h1, h2]
def spWhole (K : PySem.W.Frag) : Sp := fun vs H Q _ => ∃ x T lo hi, vs = [x, .int lo, .int hi] ∧ TyB K H x T ∧ Q (.bl (isW x lo hi)) H
theorem ok_is_whole (T : Txt K mg a) : FnOk P w K mg base CX0 1 a.is_whole a.d_is_whole ["thing", "least", "most"] (spWhole K) := by
  refine T.F_is_whole.ok sc_is_whole (fun vs H Q E h => ?_) (fun cdv A outer s H vs Q E hr h => ?_)
  · obtain ⟨x, t, lo, hi, rfl, _⟩ := h
    rfl
  · obtain ⟨x, t, lo, hi, rfl, ht, k⟩ := h
    refine ⟨_, (pss_one (ps_ret (pe_and (pe_cmpR LH.op_isTy (pe_callTy (r := rTyp K) call_type1 rfl T.n_type (by decide +kernel) (pa_cons (pv 0) pa_nil)) (pe_bltn (v := .ty "int") rfl T.n_int (by decide +kernel) rfl) (nomark _)) (pe_one (pe_chain op_le op_le (pv 1) (pv 0) (pv 2)))))), ?_⟩
    walk_at "rd"
    refine LH.x_typ ht ?_
    walk_at "rd"
    cases ht with
    | int i =>
      refine LH.br_p rfl ?_
      walk_at "rd"
      by_cases c : lo ≤ i
      · refine LH.br_p c ?_
        walk_at "rd"
        simpa [isW, c] using k
      · refine LH.br_n c ?_
        simpa [isW, c] using k
    | _ => exact LH.br_n (by decide) k
def spCheck (K : PySem.W.Frag) (C : Addr) : Sp := fun vs H Q E => ∃ x T, vs = [x] ∧ TyB K H x T ∧ (isW x 1 12 = true → Q .non H) ∧ (isW x 1 12 = false → E (.ref C) none H)
theorem ok_check_count (T : Txt K mg a) : FnOk P w K mg base (L2N.CX P w) 2 a.check_count a.d_check_count ["count"] (spCheck K a.BadCount) := by
  have G_is_whole := ok_is_whole (P := P) (w := w) (base := base) T
  refine LH.okN T.F_check_count sc_check_count (fun vs H Q E h => ?_) (fun cdv A outer s H vs Q E hr h => ?_)
  · obtain ⟨x, t, rfl, _⟩ := h
    rfl
  · obtain ⟨x, t, rfl, ht, k1, k2⟩ := h
    have HR_is_whole : Room 1 _ := hr.mono (by decide)
    refine ⟨_, (pss_one (ps_if (pt_not (pt_val (pe_call G_is_whole HR_is_whole rfl T.g_is_whole T.F_is_whole.kp T.b_is_whole .nil pass0 (pa_cons (pv 0) (pa_cons pe_int (pa_cons (pe_glob (v := .int 12) rfl T.m_MOST_HOUSES ⟨_, rfl⟩) pa_nil))))))
    (pss_one (L2N.ps_raise rfl (LH.tkN (E := E)) (LH.pmkN PySem.F.excBase_ValueError T.x_BadCount T.g_BadCount T.k_BadCount (raises_own T.bx_BadCount T.t_BadCount) rfl (pa_cons (pe_joined (.cons pe_str (.cons (pe_fmt (pe_glob (v := .int 12) rfl T.m_MOST_HOUSES ⟨_, rfl⟩)) .nil))) pa_nil))))
    pss_nil)), ?_⟩
    walk_at "rd"
    refine ⟨x, t, 1, 12, rfl, ht, ?_⟩
    walk_at "rd"
    cases e : isW x 1 12 with
    | true =>
      refine LH.br_nt ?_
      walk_at "rd"
      exact k1 e
    | false =>
      refine LH.br_nf ?_
      refine ⟨_, rfl, by decide +kernel, Or.inr ⟨12, rfl, by decide, _, rfl, by decide +kernel, ?_⟩⟩
      exact ⟨by show 1 ≤ sizeLine; decide, k2 e⟩
/-! ### rows -/
def letters : Str := "abcdefghijklmnopqrstuvwxyz"
def isLet (c : Nat) : Bool := decide (c ∈ letters.cps.toList)
def isRowS (z : Str) : Bool := decide (1 ≤ z.length) && (decide (z.length ≤ 8) && z.cps.toList.all isLet)
def isRow : V → Bool
  | .str z => isRowS z
  | _ => false
/-- no text beyond a hundred thousand signs -/
def Ok (z : Str) : Prop := z.length ≤ 100000 ∧ z.cps.all (· < 0x110000) = true
def Sm (x : V) : Prop := ∀ z, x = .str z → Ok z
def spRow (K : PySem.W.Frag) : Sp := fun vs H Q _ => ∃ x T, vs = [x] ∧ TyB K H x T ∧ Sm x ∧ ∀ H', Same H H' → Q (.bl (isRow x)) H'
def signV : V → Bool
  | .str z => match z.cps.toList with
    | [c] => isLet c
    | _ => false
  | _ => false
theorem signs_let (z : Str) : ((LH.signs z).filter fun _ => true).map (fun x => V.bl (signV x)) = (z.cps.toList.map isLet).map V.bl := by
  rw [List.filter_eq_self.mpr (fun _ _ => rfl)]
  unfold LH.signs
  rw [List.map_map, List.map_map]
  rfl
theorem all_id (l : List Nat) : (l.map isLet).all id = l.all isLet := by
  rw [List.all_map]
  rfl
theorem ok_is_row (T : Txt K mg a) : FnOk P w K mg base CX0 1 a.is_row a.d_is_row ["thing"] (spRow K) := by
  refine T.F_is_row.ok sc_is_row (fun vs H Q E h => ?_) (fun cdv A outer s H vs Q E hr h => ?_)
  · obtain ⟨x, t, rfl, _⟩ := h
    rfl
  · obtain ⟨x, t, rfl, ht, sm, k⟩ := h
    refine ⟨_, (pss_cons (ps_if (pt_cmpR op_notTyB (pe_callTy (r := rTyp K) call_type1 rfl T.n_type (by decide +kernel) (pa_cons (pv 0) pa_nil)) (pe_bltn (v := .ty "str") rfl T.n_str (by decide +kernel) rfl) (nomark _))
    (pss_one (ps_ret pe_bl))
    pss_nil)
  (pss_cons (ps_if (PW.pt (pw_or (pt_cmpR op_lt (pe_callB LH.call_lenS rfl T.n_len (by decide +kernel) (pa_cons (pv 0) pa_nil)) pe_int (nomark _)) (pw_or1 (pt_cmpR op_gt (pe_callB LH.call_lenS rfl T.n_len (by decide +kernel) (pa_cons (pv 0) pa_nil)) (pe_glob (v := .int 8) rfl T.m_LONGEST_ROW ⟨_, rfl⟩) (nomark _)))))
    (pss_one (ps_ret pe_bl))
    pss_nil)
  (pss_one (ps_ret (pe_callB (r := rAll K) (cr_all rfl) rfl T.n_all (by decide +kernel) (pa_cons (pe_lc (own := [("letter", 1)]) (g := gName 1) (tt := tYes) rfl sc_is_row.nd (pi_str (pv 0)) (blkOk_by (N := N_is_row) (sc := defScope s_is_row) (by decide +kernel)) (fun _ _ _ _ _ => pg_name (i := 1) sc_is_row.nd rfl (Or.inl rfl)) (fun _ _ _ _ _ => pts_nil) (fun _ _ _ _ _ => (pe_cmpR (r := LH.rInS false) LH.op_inS (pv 1) (pe_glob (v := .str "abcdefghijklmnopqrstuvwxyz") rfl T.m_LETTERS ⟨_, rfl⟩) (by rfl)))) pa_nil)))))), ?_⟩
    walk_at "rd"
    refine LH.x_typ ht ?_
    walk_at "rd"
    cases ht with
    | str z =>
      have hz := (sm z rfl).1
      refine LH.br_nd (fun c => absurd rfl c) (fun _ => ?_)
      walk_at "rd"
      refine LH.x_lenS hz ?_
      walk_at "rd"
      refine LH.br_d (fun c => ?_) (fun c1 => ?_)
      · walk_at "rd"
        have e : isRow (.str z) = false := by
          have : ¬ 1 ≤ z.length := by omega
          simp [isRow, isRowS, this]
        rw [e] at k
        exact k _ (Same.refl _)
      · walk_at "rd"
        refine LH.x_lenS hz ?_
        walk_at "rd"
        refine LH.br_d (fun c => ?_) (fun c2 => ?_)
        · walk_at "rd"
          have e : isRow (.str z) = false := by
            have : ¬ z.length ≤ 8 := by omega
            simp [isRow, isRowS, this]
          rw [e] at k
          exact k _ (Same.refl _)
        · walk_at "rd"
          refine LH.lc_S (by exact hz) (fun _ => true) (fun x => V.bl (signV x)) (fun _ => rfl) ?_ ?_ fun p1 H1 f1 e1 g1 => ?_
          · intro x hx H3 e3 Q3 q3
            walk_at "rd"
            exact q3 _ (Same.refl _)
          · intro x hx _ H3 e3 Q3 q3
            obtain ⟨c, _, rfl⟩ := List.mem_map.mp hx
            walk_at "rd"
            exact q3 _ (Same.refl _)
          walk_at "rd"
          rw [signs_let] at g1
          refine LH.x_all (SqL.of g1) ?_
          walk_at "rd"
          have e : isRow (.str z) = (z.cps.toList.map isLet).all id := by
            have h1 : 1 ≤ z.length := by omega
            have h2 : z.length ≤ 8 := by omega
            rw [all_id]
            simp [isRow, isRowS, h1, h2]
          rw [e] at k
          exact k _ e1
    | _ =>
      refine LH.br_nd (fun _ => ?_) (fun c => absurd c (by decide))
      walk_at "rd"
      exact k _ (Same.refl _)
end
end K2
namespace K2
open PySem L2
local macro_rules | `(tactic| walk_at "rd1") => `(tactic| first
  | with_reducible refine LH.x_seq ?_
  | with_reducible refine LH.x_asg ?_
  | with_reducible refine LH.x_cons ?_
  | with_reducible refine LH.x_var (by with_unfolding_all exact rfl) ?_
  | with_reducible refine LH.x_c ?_
  | with_reducible refine LH.x_op ?_
  | with_reducible refine LH.x_gname ?_
  | with_reducible refine LH.x_nil ?_
  | with_reducible refine LH.x_I0 ?_
  | ((with_reducible refine LH.x_I ?k1 ?_); (case k1 => first | exact (by decide) | exact ⟨by decide, by decide⟩ | exact ⟨by decide, by decide, by decide⟩ | exact .inl ⟨by decide, by decide⟩ | exact .inr ⟨by decide, by decide⟩ | exact .inr ⟨by omega, by omega⟩ | exact .inl ⟨by omega, by omega⟩ | exact (by omega)))
  | with_reducible refine LH.x_ifS ?_
  | with_reducible refine LH.x_test ?_
  | with_reducible refine LH.x_tB ?_
  | with_reducible refine LH.bx ?_
  | with_reducible refine LH.x_and ?_
  | with_reducible refine LH.x_or ?_
  | with_reducible refine LH.x_not ?_
  | with_reducible refine LH.x_ret ?_
  | with_reducible refine LH.x_call ?_
  | with_reducible refine LH.x_cb ?_
  | with_reducible refine LH.x_lst ?_
  | with_reducible refine LH.x_tup ?_
  | with_reducible refine LH.x_bm ?_
  | with_reducible refine LH.x_drop ?_
  | with_reducible refine LH.x_next ?_
  | with_reducible refine LH.x_cont ?_
  | with_reducible refine LH.x_un ?_
  | with_reducible refine LH.x_U ?_
  | with_reducible refine LH.x_eq (by with_unfolding_all exact rfl) ?_
  | with_reducible refine LH.x_ne (by with_unfolding_all exact rfl) ?_
  | with_reducible refine LH.x_andV ?_
  | with_reducible refine LH.x_orV ?_
  | with_reducible refine LH.x_notV ?_
  | with_reducible refine LH.band ?_
  | with_reducible refine LH.bor ?_
  | with_reducible refine LH.x_if ?_
  | with_reducible refine LH.x_chain ?_
  | with_reducible refine LH.chk ?_
  | with_reducible refine LH.x_callS ?_
  | with_reducible refine LH.x_callE ?_
  | with_reducible refine LH.x_callV ?_
  | with_reducible refine LH.x_lrg ?_
  | with_reducible refine LH.x_lcS ?_
  | with_reducible refine LH.x_lcR1 ?_
  | with_reducible refine LH.x_forR1 ?_
  | with_reducible refine LH.x_forR3 ?_
  | with_reducible refine LH.strv ?_
  | with_reducible refine LH.x_yes ?_
  | with_reducible refine LH.x_sl ?_
  | with_reducible refine LH.x_noPart ?_
  | with_reducible refine LH.x_part ?_
  | with_reducible refine LH.pav ?_
  | with_reducible refine LH.x_jnv ?_
  | with_reducible refine LH.x_join ?_
  | with_reducible refine LH.x_inS ?_
  | with_reducible refine LH.x_niS ?_
  | with_reducible refine LH.x_isB ?_
  | with_reducible refine LH.x_isnB ?_
  | with_reducible refine LH.x_gcons ?_
  | with_reducible refine LH.x_gnil ?_
  | with_reducible refine LH.x_intB ?_
  | with_reducible refine LH.x_orT ?_
  | with_reducible refine LH.x_isTy ?_
  | with_reducible refine LH.x_niTy ?_
  | with_reducible refine LH.x_split ?_
  | with_reducible refine LH.x_spv ?_
  | with_reducible refine LH.x_gsub ?_
  | with_reducible refine LH.x_fmt ?_
  | with_reducible refine LH.x_js0 ?_
  | with_reducible refine LH.x_js ?_
  | with_reducible refine LH.x_rg1 ?_
  | with_reducible refine LH.x_forL ?_
  | with_reducible refine LH.x_abs ?_
  | with_reducible refine LH.x_rg2 ?_
  | with_reducible refine LH.rg1v ?_
  | with_reducible refine LH.rg2v ?_
  | with_reducible refine LH.x_forR2 ?_
  | with_reducible refine LH.x_lenSetG ?_
  | with_reducible refine LH.x_lc ?_
  | with_reducible refine LH.br_nt ?_
  | with_reducible refine LH.br_nf ?_
  | with_reducible refine LH.br_t ?_
  | with_reducible refine LH.br_f ?_)
local macro_rules | `(tactic| walk_at "rd") => `(tactic| repeat (walk_at "rd1"))

section
variable {P : Program} {w : World} {K : PySem.W.Frag} {mg : Str → Option Value} {base : Heap} {a : Ad}
/-! ### words -/
def spCaller : Sp := fun vs H Q _ => ∃ c n : Int, vs = [.int c, .int n] ∧ 1 ≤ c ∧ Q (.int (n % c)) H
theorem fmod_pos {n c : Int} (h : 1 ≤ c) : n.fmod c = n % c := Int.fmod_eq_emod_of_nonneg _ (by omega)
theorem ok_caller (T : Txt K mg a) : FnOk P w K mg base CX0 1 a.caller a.d_caller ["count", "number"] spCaller := by
  refine T.F_caller.ok sc_caller (fun vs H Q E h => ?_) (fun cdv A outer s H vs Q E hr h => ?_)
  · obtain ⟨c, n, rfl, _⟩ := h
    rfl
  · obtain ⟨c, n, rfl, hc, k⟩ := h
    refine ⟨_, (pss_one (ps_ret (pe_op op_modN (pv 1) (pv 0)))), ?_⟩
    walk_at "rd"
    rw [fmod_pos hc]
    exact k
def isKind (c : Int) : V → Int → Int → Bool
  | .str z, n, h => if z = "say" then decide (h = n % c) else decide (z = "mark")
  | _, _, _ => false
/-- is a tuple of these things a word of a town of c houses -/
def isWordL (c : Int) : List V → Bool
  | [k, .int n, r, .int h] => isW (.int n) 0 9999 && (isW (.int h) 0 (c - 1) && (isRow r && isKind c k n h))
  | _ => false
/-- what may be handed in as a word: w tells whether it is one -/
def Wd (K : PySem.W.Frag) (H : Hp) (c : Int) (x : V) (w : Bool) : Prop :=
  (∃ p xs, x = .ref p ∧ SqT K H p xs ∧ xs.length ≤ 100000 ∧ (∀ y ∈ xs, Sm y ∧ ∃ T, TyB K H y T) ∧ w = isWordL c xs) ∨ (∃ T, TyB K H x T ∧ T ≠ "tuple" ∧ w = false)
def spIsWord (K : PySem.W.Frag) (C : Addr) : Sp := fun vs H Q E => ∃ n Tn x, vs = [n, x] ∧ TyB K H n Tn ∧ (isW n 1 12 = false → E (.ref C) none H) ∧
  ∀ c, n = .int c → 1 ≤ c → c ≤ 12 → ∃ b, Wd K H c x b ∧ ∀ H', Same H H' → Q (.bl b) H'
theorem four {xs : List V} (h : (xs.length : Int) = 4) : ∃ k n r o, xs = [k, n, r, o] := by
  match xs, h with
  | [k, n, r, o], _ => exact ⟨k, n, r, o, rfl⟩
  | [], h => simp at h
  | [_], h => simp at h
  | [_, _], h => simp at h
  | [_, _, _], h => simp at h
  | _ :: _ :: _ :: _ :: _ :: l, h => simp at h; omega
theorem not_four {c : Int} {xs : List V} (h : ¬ (xs.length : Int) = 4) : isWordL c xs = false := by
  unfold isWordL
  split
  · exact absurd rfl h
  · rfl
theorem word_num {c : Int} {k n r o : V} (h : isW n 0 9999 = false) : isWordL c [k, n, r, o] = false := by
  unfold isWordL
  split
  · rename_i e
    injection e with _ e
    injection e with e1 e
    injection e with _ e
    injection e with e2 _
    subst e1 e2
    rw [h]
    rfl
  · rfl
theorem word_house {c : Int} {k n r o : V} (h : isW o 0 (c - 1) = false) : isWordL c [k, n, r, o] = false := by
  unfold isWordL
  split
  · rename_i e
    injection e with _ e
    injection e with e1 e
    injection e with _ e
    injection e with e2 _
    subst e1 e2
    rw [h, Bool.false_and, Bool.and_false]
  · rfl
def spHouse (K : PySem.W.Frag) : Sp := fun vs H Q _ => ∃ (c : Int) (x : V) (T : String), vs = [.int c, x] ∧ TyB K H x T ∧ Q (.bl (isW x 0 (c - 1))) H
theorem ok_is_house (T : Txt K mg a) : FnOk P w K mg base CX0 2 a.is_house a.d_is_house ["count", "thing"] (spHouse K) := by
  have G_is_whole := ok_is_whole (P := P) (w := w) (base := base) T
  refine T.F_is_house.ok sc_is_house (fun vs H Q E h => ?_) (fun cdv A outer s H vs Q E hr h => ?_)
  · obtain ⟨c, x, t, rfl, _⟩ := h
    rfl
  · obtain ⟨c, x, t, rfl, ht, k⟩ := h
    have HR_is_whole : Room 1 _ := hr.mono (by decide)
    refine ⟨_, (pss_one (ps_ret (pe_call G_is_whole HR_is_whole rfl T.g_is_whole T.F_is_whole.kp T.b_is_whole .nil pass0 (pa_cons (pv 1) (pa_cons pe_int (pa_cons (pe_op op_sub (pv 0) pe_int) pa_nil)))))), ?_⟩
    walk_at "rd"
    refine ⟨x, t, _, _, rfl, ht, ?_⟩
    exact k
theorem ok_is_word (T : Txt K mg a) : FnOk P w K mg base (L2N.CX P w) 3 a.is_word a.d_is_word ["count", "thing"] (spIsWord K a.BadCount) := by
  have G_is_whole := ok_is_whole (P := P) (w := w) (base := base) T
  have G_check_count := ok_check_count (P := P) (w := w) (base := base) T
  have G_is_house := ok_is_house (P := P) (w := w) (base := base) T
  have G_is_row := ok_is_row (P := P) (w := w) (base := base) T
  have G_caller := ok_caller (P := P) (w := w) (base := base) T
  refine LH.okN T.F_is_word sc_is_word (fun vs H Q E h => ?_) (fun cdv A outer s H vs Q E hr h => ?_)
  · obtain ⟨x, t, y, rfl, _⟩ := h
    rfl
  · obtain ⟨n, Tn, x, rfl, hn, kE, k⟩ := h
    have HR_is_whole : Room 1 _ := hr.mono (by decide)
    have HR_check_count : Room 2 _ := hr.mono (by decide)
    have HR_is_house : Room 2 _ := hr.mono (by decide)
    have HR_is_row : Room 1 _ := hr.mono (by decide)
    have HR_caller : Room 1 _ := hr.mono (by decide)
    refine ⟨_, (pss_cons (ps_expr (pe_call (E := E) G_check_count HR_check_count rfl T.g_check_count T.F_check_count.kp T.b_check_count .nil (L2N.passes_call (LH.tkN (E := E)) fun _ _ _ _ z => z) (pa_cons (pv 0) pa_nil)))
  (pss_cons (ps_if (PW.pt (pw_or (pt_cmpR op_notTyB (pe_callTy (r := rTyp K) call_type1 rfl T.n_type (by decide +kernel) (pa_cons (pv 1) pa_nil)) (pe_bltn (v := .ty "tuple") rfl T.n_tuple (by decide +kernel) rfl) (nomark _)) (pw_or1 (pt_cmpR op_ne (pe_callB (r := LH.rLen K) LH.call_len rfl T.n_len (by decide +kernel) (pa_cons (pv 1) pa_nil)) pe_int (nomark _)))))
    (pss_one (ps_ret pe_bl))
    pss_nil)
  (pss_cons (ps_asg (pv 1) (pg_tup rfl (pgs_cons (pg_name (i := 2) sc_is_word.nd rfl (Or.inl rfl)) (pgs_cons (pg_name (i := 3) sc_is_word.nd rfl (Or.inl rfl)) (pgs_cons (pg_name (i := 4) sc_is_word.nd rfl (Or.inl rfl)) (pgs_cons (pg_name (i := 5) sc_is_word.nd rfl (Or.inl rfl)) pgs_nil))))))
  (pss_cons (ps_if (PW.pt (pw_or (pt_not (pt_val (pe_call G_is_whole HR_is_whole rfl T.g_is_whole T.F_is_whole.kp T.b_is_whole .nil pass0 (pa_cons (pv 3) (pa_cons pe_int (pa_cons (pe_glob (v := .int 9999) rfl T.m_LAST_NUMBER ⟨_, rfl⟩) pa_nil)))))) (pw_or1 (pt_not (pt_val (pe_call G_is_house HR_is_house rfl T.g_is_house T.F_is_house.kp T.b_is_house .nil pass0 (pa_cons (pv 0) (pa_cons (pv 5) pa_nil))))))))
    (pss_one (ps_ret pe_bl))
    pss_nil)
  (pss_cons (ps_if (pt_not (pt_val (pe_call G_is_row HR_is_row rfl T.g_is_row T.F_is_row.kp T.b_is_row .nil pass0 (pa_cons (pv 4) pa_nil))))
    (pss_one (ps_ret pe_bl))
    pss_nil)
  (pss_cons (ps_if (pt_cmpR op_notTyB (pe_callTy (r := rTyp K) call_type1 rfl T.n_type (by decide +kernel) (pa_cons (pv 2) pa_nil)) (pe_bltn (v := .ty "str") rfl T.n_str (by decide +kernel) rfl) (nomark _))
    (pss_one (ps_ret pe_bl))
    pss_nil)
  (pss_cons (ps_if (pt_cmpR op_eq (pv 2) (pe_glob (v := .str "say") rfl T.m_SAY ⟨_, rfl⟩) (nomark _))
    (pss_one (ps_ret (pe_cmpR op_eq (pv 5) (pe_call G_caller HR_caller rfl T.g_caller T.F_caller.kp T.b_caller .nil pass0 (pa_cons (pv 0) (pa_cons (pv 3) pa_nil))) (nomark _))))
    pss_nil)
  (pss_one (ps_ret (pe_cmpR op_eq (pv 2) (pe_glob (v := .str "mark") rfl T.m_MARK ⟨_, rfl⟩) (nomark _))))))))))), ?_⟩
    walk_at "rd"
    refine ⟨n, Tn, rfl, hn, fun hc => ?_, kE⟩
    obtain ⟨c, rfl, c1, c2⟩ := isW_int hc
    obtain ⟨b, hw, k⟩ := k c rfl c1 c2
    walk_at "rd"
    rcases hw with ⟨p, xs, rfl, hp, hl, hy, rfl⟩ | ⟨t, ht, hne, rfl⟩
    · refine LH.x_typ (.tup hp) ?_
      walk_at "rd"
      refine LH.br_nd (fun c => absurd rfl c) (fun _ => ?_)
      walk_at "rd"
      refine LH.x_lenT hp ?_
      walk_at "rd"
      refine LH.br_nd (fun c4 => ?_) (fun c4 => ?_)
      · walk_at "rd"
        rw [not_four (c := c) (by intro e; exact c4 (congrArg V.int e))] at k
        exact k _ (Same.refl _)
      · obtain ⟨kd, nu, ro, ho, rfl⟩ := four (by injection c4)
        walk_at "rd"
        refine LH.x_gtup hp rfl ?_
        walk_at "rd"
        obtain ⟨_, tk, htk⟩ := hy kd (by simp)
        obtain ⟨_, tn, htn⟩ := hy nu (by simp)
        obtain ⟨sr, tr, htr⟩ := hy ro (by simp)
        obtain ⟨_, th, hth⟩ := hy ho (by simp)
        refine ⟨_, tn, _, _, rfl, htn, ?_⟩
        walk_at "rd"
        cases e1 : isW nu 0 9999 with
        | false =>
          walk_at "rd"
          rw [word_num e1] at k
          exact k _ (Same.refl _)
        | true =>
          obtain ⟨m, rfl, _⟩ := isW_int e1
          walk_at "rd"
          refine ⟨_, _, th, rfl, hth, ?_⟩
          walk_at "rd"
          cases e2 : isW ho 0 (c - 1) with
          | false =>
            walk_at "rd"
            rw [word_house e2] at k
            exact k _ (Same.refl _)
          | true =>
            obtain ⟨o, rfl, _⟩ := isW_int e2
            walk_at "rd"
            refine ⟨_, tr, rfl, htr, sr, fun H1 f1 => ?_⟩
            walk_at "rd"
            cases e3 : isRow ro with
            | false =>
              walk_at "rd"
              have e : isWordL c [kd, .int m, ro, .int o] = false := by
                show (isW (.int m) 0 9999 && (isW (.int o) 0 (c - 1) && (isRow ro && isKind c kd m o))) = false
                rw [e3, Bool.false_and, Bool.and_false, Bool.and_false]
              rw [e] at k
              exact k _ f1
            | true =>
              walk_at "rd"
              have hk : isWordL c [kd, .int m, ro, .int o] = isKind c kd m o := by
                show (isW (.int m) 0 9999 && (isW (.int o) 0 (c - 1) && (isRow ro && isKind c kd m o))) = isKind c kd m o
                rw [e1, e2, e3, Bool.true_and, Bool.true_and, Bool.true_and]
              rw [hk] at k
              have htk' := LH.Same.ty f1 htk
              refine LH.x_typ htk' ?_
              walk_at "rd"
              cases htk' with
              | str z =>
                refine LH.br_nd (fun c => absurd rfl c) (fun _ => ?_)
                walk_at "rd"
                by_cases hz : z = "say"
                · refine LH.br_p (congrArg V.str hz) ?_
                  walk_at "rd"
                  refine ⟨c, m, rfl, c1, ?_⟩
                  walk_at "rd"
                  have e : isKind c (.str z) m o = decide (V.int o = V.int (m % c)) := by
                    show (if z = "say" then decide (o = m % c) else decide (z = "mark")) = _
                    rw [if_pos hz]
                    simp
                  rw [e] at k
                  exact k _ f1
                · refine LH.br_n (fun q => hz (by injection q)) ?_
                  walk_at "rd"
                  have e : isKind c (.str z) m o = decide (V.str z = V.str "mark") := by
                    show (if z = "say" then decide (o = m % c) else decide (z = "mark")) = _
                    rw [if_neg hz]
                    simp
                  rw [e] at k
                  exact k _ f1
              | _ =>
                refine LH.br_nd (fun _ => ?_) (fun c => absurd c (by decide))
                walk_at "rd"
                exact k _ f1
    · refine LH.x_typ ht ?_
      walk_at "rd"
      refine LH.br_nd (fun _ => ?_) (fun c => absurd c hne)
      walk_at "rd"
      exact k _ (Same.refl _)
end
end K2
namespace K2
open PySem L2
local macro_rules | `(tactic| walk_at "rd1") => `(tactic| first
  | with_reducible refine LH.x_seq ?_
  | with_reducible refine LH.x_asg ?_
  | with_reducible refine LH.x_cons ?_
  | with_reducible refine LH.x_var (by with_unfolding_all exact rfl) ?_
  | with_reducible refine LH.x_c ?_
  | with_reducible refine LH.x_op ?_
  | with_reducible refine LH.x_gname ?_
  | with_reducible refine LH.x_nil ?_
  | with_reducible refine LH.x_I0 ?_
  | ((with_reducible refine LH.x_I ?k1 ?_); (case k1 => first | exact (by decide) | exact ⟨by decide, by decide⟩ | exact ⟨by decide, by decide, by decide⟩ | exact .inl ⟨by decide, by decide⟩ | exact .inr ⟨by decide, by decide⟩ | exact .inr ⟨by omega, by omega⟩ | exact .inl ⟨by omega, by omega⟩ | exact (by omega)))
  | with_reducible refine LH.x_ifS ?_
  | with_reducible refine LH.x_test ?_
  | with_reducible refine LH.x_tB ?_
  | with_reducible refine LH.bx ?_
  | with_reducible refine LH.x_and ?_
  | with_reducible refine LH.x_or ?_
  | with_reducible refine LH.x_not ?_
  | with_reducible refine LH.x_ret ?_
  | with_reducible refine LH.x_call ?_
  | with_reducible refine LH.x_cb ?_
  | with_reducible refine LH.x_lst ?_
  | with_reducible refine LH.x_tup ?_
  | with_reducible refine LH.x_bm ?_
  | with_reducible refine LH.x_drop ?_
  | with_reducible refine LH.x_next ?_
  | with_reducible refine LH.x_cont ?_
  | with_reducible refine LH.x_un ?_
  | with_reducible refine LH.x_U ?_
  | with_reducible refine LH.x_eq (by with_unfolding_all exact rfl) ?_
  | with_reducible refine LH.x_ne (by with_unfolding_all exact rfl) ?_
  | with_reducible refine LH.x_andV ?_
  | with_reducible refine LH.x_orV ?_
  | with_reducible refine LH.x_notV ?_
  | with_reducible refine LH.band ?_
  | with_reducible refine LH.bor ?_
  | with_reducible refine LH.x_if ?_
  | with_reducible refine LH.x_chain ?_
  | with_reducible refine LH.chk ?_
  | with_reducible refine LH.x_callS ?_
  | with_reducible refine LH.x_callE ?_
  | with_reducible refine LH.x_callV ?_
  | with_reducible refine LH.x_lrg ?_
  | with_reducible refine LH.x_lcS ?_
  | with_reducible refine LH.x_lcR1 ?_
  | with_reducible refine LH.x_forR1 ?_
  | with_reducible refine LH.x_forR3 ?_
  | with_reducible refine LH.strv ?_
  | with_reducible refine LH.x_yes ?_
  | with_reducible refine LH.x_sl ?_
  | with_reducible refine LH.x_noPart ?_
  | with_reducible refine LH.x_part ?_
  | with_reducible refine LH.pav ?_
  | with_reducible refine LH.x_jnv ?_
  | with_reducible refine LH.x_join ?_
  | with_reducible refine LH.x_inS ?_
  | with_reducible refine LH.x_niS ?_
  | with_reducible refine LH.x_isB ?_
  | with_reducible refine LH.x_isnB ?_
  | with_reducible refine LH.x_gcons ?_
  | with_reducible refine LH.x_gnil ?_
  | with_reducible refine LH.x_intB ?_
  | with_reducible refine LH.x_orT ?_
  | with_reducible refine LH.x_isTy ?_
  | with_reducible refine LH.x_niTy ?_
  | with_reducible refine LH.x_split ?_
  | with_reducible refine LH.x_spv ?_
  | with_reducible refine LH.x_gsub ?_
  | with_reducible refine LH.x_fmt ?_
  | with_reducible refine LH.x_js0 ?_
  | with_reducible refine LH.x_js ?_
  | with_reducible refine LH.x_rg1 ?_
  | with_reducible refine LH.x_forL ?_
  | with_reducible refine LH.x_abs ?_
  | with_reducible refine LH.x_rg2 ?_
  | with_reducible refine LH.rg1v ?_
  | with_reducible refine LH.rg2v ?_
  | with_reducible refine LH.x_forR2 ?_
  | with_reducible refine LH.x_lenSetG ?_
  | with_reducible refine LH.x_lc ?_
  | with_reducible refine LH.br_nt ?_
  | with_reducible refine LH.br_nf ?_
  | with_reducible refine LH.br_t ?_
  | with_reducible refine LH.br_f ?_)
local macro_rules | `(tactic| walk_at "rd") => `(tactic| repeat (walk_at "rd1"))

section
variable {P : Program} {w : World} {K : PySem.W.Frag} {mg : Str → Option Value} {base : Heap} {a : Ad}
/-- two words, told apart by their rows alone -/
def unlike (k1 : Str) (n1 : Int) (r1 : Str) (h1 : Int) (k2 : Str) (n2 : Int) (r2 : Str) (h2 : Int) : Bool := (decide (k1 = k2) && (decide (n1 = n2) && decide (h1 = h2))) && !decide (r1 = r2)
abbrev wd (k : Str) (n : Int) (r : Str) (h : Int) : List V := [.str k, .int n, .str r, .int h]
def spUnlike (K : PySem.W.Frag) : Sp := fun vs H Q _ => ∃ p q k1 n1 r1 h1 k2 n2 r2 h2, vs = [.ref p, .ref q] ∧ SqT K H p (wd k1 n1 r1 h1) ∧ SqT K H q (wd k2 n2 r2 h2) ∧ Ok k1 ∧ Ok k2 ∧ ∀ H', Same H H' → Q (.bl (unlike k1 n1 r1 h1 k2 n2 r2 h2)) H'
theorem dstr {x y : Str} : decide (V.str x = V.str y) = decide (x = y) := by simp
theorem dint {x y : Int} : decide (V.int x = V.int y) = decide (x = y) := by simp
def spPlace (K : PySem.W.Frag) : Sp := fun vs H Q _ => ∃ p k n r h, vs = [.ref p] ∧ SqT K H p (wd k n r h) ∧ ∀ q H', Same H H' → H' q = some (.tup [.str k, .int n, .int h]) → Q (.ref q) H'
theorem ok_place (T : Txt K mg a) : FnOk P w K mg base CX0 1 a.place a.d_place ["word"] (spPlace K) := by
  refine T.F_place.ok sc_place (fun vs H Q E h => ?_) (fun cdv A outer s H vs Q E hr h => ?_)
  · obtain ⟨p, k, n, r, h, rfl, _⟩ := h
    rfl
  · obtain ⟨p, kd, n, r, h, rfl, hp, k⟩ := h
    refine ⟨_, (pss_cons (ps_asg (pv 0) (pg_tup rfl (pgs_cons (pg_name (i := 1) sc_place.nd rfl (Or.inl rfl)) (pgs_cons (pg_name (i := 2) sc_place.nd rfl (Or.inl rfl)) (pgs_cons (pg_name (i := 3) sc_place.nd rfl (Or.inl rfl)) (pgs_cons (pg_name (i := 4) sc_place.nd rfl (Or.inl rfl)) pgs_nil))))))
  (pss_one (ps_ret (pe_tup (pa_cons (pv 1) (pa_cons (pv 2) (pa_cons (pv 4) pa_nil))))))), ?_⟩
    walk_at "rd"
    refine LH.x_gtup hp rfl ?_
    walk_at "rd"
    refine LH.newt (LH.small rfl) fun q H1 f1 e1 g1 => ?_
    exact k q H1 e1 g1
theorem shaped3 {k : Str} {n h : Int} (ok : Ok k) : SeqAt.shaped (.tuple [.str k, .int n, .int h]) = true := by
  unfold SeqAt.shaped
  rw [Bool.and_eq_true]
  refine ⟨?_, decide_eq_true ?_⟩
  · have e : PyData.canLay0 (.str k) = true := ok.2
    show (PyData.canLay0 (.str k) && (PyData.canLay0 (.int n) && (PyData.canLay0 (.int h) && true))) = true
    rw [e]
    rfl
  · simp [PyData.depth, PyData.depthAll]
theorem place_eq {k1 k2 : Str} {n1 n2 h1 h2 : Int} : PyData.eqv (.tuple [.str k1, .int n1, .int h1]) (.tuple [.str k2, .int n2, .int h2]) = (decide (k1 = k2) && (decide (n1 = n2) && decide (h1 = h2))) := by
  show PyData.eqvAll _ _ = _
  simp only [PyData.eqvAll, PyData.eqv, Bool.and_true]
  first | rfl | simp
theorem ok_are_unlike (T : Txt K mg a) : FnOk P w K mg base CX0 2 a.are_unlike a.d_are_unlike ["one", "other"] (spUnlike K) := by
  have G_place := ok_place (P := P) (w := w) (base := base) T
  refine T.F_are_unlike.ok sc_are_unlike (fun vs H Q E h => ?_) (fun cdv A outer s H vs Q E hr h => ?_)
  · obtain ⟨p, q, k1, n1, r1, h1, k2, n2, r2, h2, rfl, _⟩ := h
    rfl
  · obtain ⟨p, q, k1, n1, r1, h1, k2, n2, r2, h2, rfl, hp, hq, o1, o2, k⟩ := h
    have HR_place : Room 1 _ := hr.mono (by decide)
    refine ⟨_, (pss_one (ps_ret (pe_and (pe_cmpR (r := rEqD K) (op_eqD hr.units) (pe_call G_place HR_place rfl T.g_place T.F_place.kp T.b_place .nil pass0 (pa_cons (pv 0) pa_nil)) (pe_call G_place HR_place rfl T.g_place T.F_place.kp T.b_place .nil pass0 (pa_cons (pv 1) pa_nil)) (nomark _)) (pe_one (pe_cmpR op_ne (pe_ix (r := rIxT K) ix_tup (pv 0) pe_int (fun _ _ => rfl)) (pe_ix (r := rIxT K) ix_tup (pv 1) pe_int (fun _ _ => rfl)) (nomark _)))))), ?_⟩
    walk_at "rd"
    refine ⟨p, k1, n1, r1, h1, rfl, hp, fun q1 H1 e1 g1 => ?_⟩
    walk_at "rd"
    have hq1 := LH.Same.seqT e1 hq
    refine ⟨q, k2, n2, r2, h2, rfl, hq1, fun q2 H2 e2 g2 => ?_⟩
    have e02 := e1.trans e2
    refine LH.x_eqD (.tup (SqT.of (e2 _ _ g1)) (.cons (.str _) (.cons (.int _) (.cons (.int _) .nil)))) (.tup (SqT.of g2) (.cons (.str _) (.cons (.int _) (.cons (.int _) .nil)))) (shaped3 o1) (shaped3 o2) ?_
    rw [place_eq]
    walk_at "rd"
    have e : unlike k1 n1 r1 h1 k2 n2 r2 h2 = ((decide (k1 = k2) && (decide (n1 = n2) && decide (h1 = h2))) && !decide (r1 = r2)) := rfl
    cases c : (decide (k1 = k2) && (decide (n1 = n2) && decide (h1 = h2))) with
    | true =>
      walk_at "rd"
      refine LH.x_ixT (LH.Same.seqT e02 hp) rfl ?_
      walk_at "rd"
      refine LH.x_ixT (LH.Same.seqT e02 hq) rfl ?_
      walk_at "rd"
      rw [dstr]
      rw [e, c, Bool.true_and] at k
      exact k _ e02
    | false =>
      walk_at "rd"
      rw [e, c, Bool.false_and] at k
      exact k _ e02
/-! ### the law's helpers -/
def spAt (K : PySem.W.Frag) : Sp := fun vs H Q _ => ∃ (p : Addr) (ns : List Int) (k : Int), vs = [.ref p, .int k] ∧ SqL K H p (ns.map V.int) ∧ 0 ≤ k ∧ ∀ z, Q (.int z) H
theorem ok__law_at (T : Txt K mg a) : FnOk P w K mg base CX0 1 a._law_at a.d__law_at ["_law_script", "_law_k"] (spAt K) := by
  refine T.F__law_at.ok sc__law_at (fun vs H Q E h => ?_) (fun cdv A outer s H vs Q E hr h => ?_)
  · obtain ⟨p, ns, k, rfl, _⟩ := h
    rfl
  · obtain ⟨p, ns, i, rfl, hp, h0, k⟩ := h
    refine ⟨_, (pss_cons (ps_if (pt_cmpR op_lt (pv 1) (pe_callB (r := LH.rLen K) LH.call_len rfl T.n_len (by decide +kernel) (pa_cons (pv 0) pa_nil)) (nomark _))
    (pss_one (ps_ret (pe_ix (r := rIxL K) ix_list (pv 0) (pv 1) (fun _ _ => rfl))))
    pss_nil)
  (pss_one (ps_ret pe_int))), ?_⟩
    walk_at "rd"
    refine LH.x_lenL hp ?_
    walk_at "rd"
    refine LH.br_d (fun c => ?_) (fun c => ?_)
    · walk_at "rd"
      obtain ⟨j, rfl⟩ : ∃ j : Nat, i = (j : Int) := ⟨i.toNat, by omega⟩
      have hj : j < (ns.map V.int).length := by omega
      refine LH.x_ixL hp (atI_nat (List.getElem?_eq_getElem hj)) ?_
      walk_at "rd"
      rw [List.getElem_map]
      exact k _
    · walk_at "rd"
      exact k _
def spLWhole : Sp := fun vs H Q _ => ∃ i, vs = [.int i] ∧ Q (.bl true) H
theorem ok__law_whole (T : Txt K mg a) : FnOk P w K mg base CX0 1 a._law_whole a.d__law_whole ["_law_thing"] spLWhole := by
  refine T.F__law_whole.ok sc__law_whole (fun vs H Q E h => ?_) (fun cdv A outer s H vs Q E hr h => ?_)
  · obtain ⟨i, rfl, _⟩ := h
    rfl
  · obtain ⟨i, rfl, k⟩ := h
    refine ⟨_, (pss_one (ps_ret (pe_and (pe_callB (r := rIsi K) call_isi rfl T.n_isinstance (by decide +kernel) (pa_cons (pv 0) (pa_cons (pe_bltn (v := .ty "int") rfl T.n_int (by decide +kernel) rfl) pa_nil))) (pe_one (pe_not (pe_callB (r := rIsi K) call_isi rfl T.n_isinstance (by decide +kernel) (pa_cons (pv 0) (pa_cons (pe_bltn (v := .ty "bool") rfl T.n_bool (by decide +kernel) rfl) pa_nil)))))))), ?_⟩
    walk_at "rd"
    refine LH.x_isiT (b := true) (.int i) (by decide +kernel) ?_
    walk_at "rd"
    refine LH.x_isiT (b := false) (.int i) (by decide +kernel) ?_
    walk_at "rd"
    exact k
def signsF : Str := " !\"#$&'()*+,-./0123456789:;<=>?@ABCDEFGHIJKLMNOPQRSTUVWXYZ[\\]^_`{|}~\n\t"
theorem at_mod {α : Type} {l : List α} {n : Nat} (hn : l.length = n) (h0 : 0 < n) (i : Int) : ∃ (j : Nat) (x : α), l[j]? = some x ∧ atI l (i.fmod n) = some x := by
  rw [Int.fmod_eq_emod_of_nonneg _ (by omega)]
  have h1 := Int.emod_nonneg i (show (n : Int) ≠ 0 by omega)
  have h2 := Int.emod_lt_of_pos i (show (0 : Int) < n by omega)
  obtain ⟨j, e⟩ : ∃ j : Nat, i % (n : Int) = (j : Int) := ⟨(i % (n : Int)).toNat, by omega⟩
  have hj : j < l.length := by omega
  exact ⟨j, l[j], List.getElem?_eq_getElem hj, by rw [e]; exact atI_nat (List.getElem?_eq_getElem hj)⟩
theorem sign_at (z : Str) (hz : 0 < z.length) (ha : z.cps.toList.all (· < 128) = true) (i : Int) : ∃ c, atI z.cps.toList (i.fmod z.length) = some c ∧ c < 128 := by
  obtain ⟨j, c, h1, h2⟩ := at_mod (l := z.cps.toList) (n := z.length) (by rw [Array.length_toList]; rfl) hz i
  exact ⟨c, h2, by simpa using List.all_eq_true.mp ha c (List.mem_of_getElem? h1)⟩
/-- a sign -/
def spSign : Sp := fun vs H Q _ => ∃ n : Int, vs = [.int n] ∧ ∀ c : Nat, c < 128 → Q (.str ⟨#[c]⟩) H
theorem ok__law_sign (T : Txt K mg a) : FnOk P w K mg base CX0 1 a._law_sign a.d__law_sign ["_law_cell"] spSign := by
  refine T.F__law_sign.ok sc__law_sign (fun vs H Q E h => ?_) (fun cdv A outer s H vs Q E hr h => ?_)
  · obtain ⟨i, rfl, _⟩ := h
    rfl
  · obtain ⟨i, rfl, k⟩ := h
    refine ⟨_, (pss_cons (ps_set (i := 1) sc__law_sign.nd rfl (Or.inl rfl) pe_str)
  (pss_one (ps_ret (pe_ix ix_str (pv 1) (pe_op op_modN (pv 0) (pe_callB LH.call_lenS rfl T.n_len (by decide +kernel) (pa_cons (pv 1) pa_nil))) (fun _ _ => rfl))))), ?_⟩
    walk_at "rd"
    refine LH.x_lenS (by decide +kernel) ?_
    refine LH.x_I (by decide +kernel) ?_
    obtain ⟨c, e, hc⟩ := sign_at signsF (by decide +kernel) (by decide +kernel) i
    refine LH.x_ixS (by decide +kernel) e ?_
    exact k c hc
/-! ### the law's own look -/
theorem ok__law_is_among (T : Txt K mg a) : FnOk P w K mg base CX0 1 a._law_is_among a.d__law_is_among ["_law_thing", "_law_least", "_law_most"] (spWhole K) := by
  refine T.F__law_is_among.ok sc__law_is_among (fun vs H Q E h => ?_) (fun cdv A outer s H vs Q E hr h => ?_)
  · obtain ⟨x, t, lo, hi, rfl, _⟩ := h
    rfl
  · obtain ⟨x, t, lo, hi, rfl, ht, k⟩ := h
    refine ⟨_, (pss_one (ps_ret (pe_and (pe_callB (r := rIsi K) call_isi rfl T.n_isinstance (by decide +kernel) (pa_cons (pv 0) (pa_cons (pe_bltn (v := .ty "int") rfl T.n_int (by decide +kernel) rfl) pa_nil))) (pe_and (pe_not (pe_callB (r := rIsi K) call_isi rfl T.n_isinstance (by decide +kernel) (pa_cons (pv 0) (pa_cons (pe_bltn (v := .ty "bool") rfl T.n_bool (by decide +kernel) rfl) pa_nil)))) (pe_one (pe_chain op_le op_le (pv 1) (pv 0) (pv 2))))))), ?_⟩
    walk_at "rd"
    have ht' := ht
    cases ht with
    | int i =>
      refine LH.x_isiT (b := true) ht' (by decide +kernel) ?_
      walk_at "rd"
      refine LH.x_isiT (b := false) ht' (by decide +kernel) ?_
      walk_at "rd"
      by_cases c : lo ≤ i
      · refine LH.br_p c ?_
        walk_at "rd"
        simpa [isW, c] using k
      · refine LH.br_n c ?_
        simpa [isW, c] using k
    | bl b =>
      refine LH.x_isiT (b := true) ht' (by decide +kernel) ?_
      walk_at "rd"
      refine LH.x_isiT (b := true) ht' (by decide +kernel) ?_
      walk_at "rd"
      exact k
    | _ =>
      refine LH.x_isiT (b := false) ht' (by decide +kernel) ?_
      walk_at "rd"
      exact k
theorem str_data {H : Hp} : ∀ l : List Str, DpAll K H (l.map V.str) (l.map PyData.str)
  | [] => .nil
  | x :: l => .cons (.str x) (str_data l)
theorem lay_strs : ∀ {l : List Str}, (∀ x ∈ l, Ok x) → PyData.canLayAll0 (l.map PyData.str) = true
  | [], _ => rfl
  | x :: l, h => by
    show (PyData.canLay0 (.str x) && PyData.canLayAll0 (l.map PyData.str)) = true
    rw [lay_strs fun y hy => h y (List.mem_cons_of_mem _ hy)]
    have e : PyData.canLay0 (.str x) = true := by
      show (PyData.strOk x) = true
      exact (h x List.mem_cons_self).2
    rw [e]
    rfl
theorem shaped_strs {l : List Str} (h : ∀ x ∈ l, Ok x) : SeqAt.shaped (.list (l.map PyData.str)) = true := by
  have d : ∀ l : List Str, PyData.depthAll (l.map PyData.str) ≤ 2 := by
    intro l
    induction l with
    | nil => simp [PyData.depthAll]
    | cons x l ih => simp [PyData.depthAll, PyData.depth]; omega
  unfold SeqAt.shaped
  rw [Bool.and_eq_true]
  refine ⟨lay_strs h, decide_eq_true ?_⟩
  have := d l
  simp [PyData.depth]
  omega
/-- the signs that are no letters -/
def noLet (z : Str) : List Str := (z.cps.toList.filter fun c => !isLet c).map fun c => ⟨#[c]⟩
theorem signs_no (z : Str) : ((LH.signs z).filter fun x => !signV x).map id = (noLet z).map V.str := by
  unfold LH.signs noLet
  rw [List.map_id, List.filter_map, List.map_map]
  rfl
theorem no_ok {z : Str} (h : Ok z) : ∀ x ∈ noLet z, Ok x := fun x hx => by
  obtain ⟨c, hc, rfl⟩ := List.mem_map.mp hx
  have hm := (List.mem_filter.mp hc).1
  have h2 := h.2
  rw [← Array.all_toList] at h2
  have := List.all_eq_true.mp h2 c hm
  exact ⟨by show 1 ≤ 100000; decide, by simpa using this⟩
theorem no_eqv (z : Str) : PyData.eqv (.list ((noLet z).map PyData.str)) (.list []) = z.cps.toList.all isLet := by
  have e : ∀ l : List Nat, PyData.eqvAll (((l.filter fun c => !isLet c).map fun c => (⟨#[c]⟩ : Str)).map PyData.str) [] = l.all isLet := by
    intro l
    induction l with
    | nil => simp [PyData.eqvAll]
    | cons c l ih =>
      rw [List.all_cons, List.filter_cons]
      cases isLet c with
      | true => simpa using ih
      | false => simp [PyData.eqvAll]
  show PyData.eqvAll _ [] = _
  exact e _
theorem ok__law_is_row (T : Txt K mg a) : FnOk P w K mg base CX0 1 a._law_is_row a.d__law_is_row ["_law_thing"] (spRow K) := by
  refine T.F__law_is_row.ok sc__law_is_row (fun vs H Q E h => ?_) (fun cdv A outer s H vs Q E hr h => ?_)
  · obtain ⟨x, t, rfl, _⟩ := h
    rfl
  · obtain ⟨x, t, rfl, ht, sm, k⟩ := h
    refine ⟨_, (pss_cons (ps_if (PW.pt (pw_or (pt_not (pt_val (pe_callB (r := rIsi K) call_isi rfl T.n_isinstance (by decide +kernel) (pa_cons (pv 0) (pa_cons (pe_bltn (v := .ty "str") rfl T.n_str (by decide +kernel) rfl) pa_nil))))) (pw_or1 (pt_not (pt_chain op_le op_le pe_int (pe_callB LH.call_lenS rfl T.n_len (by decide +kernel) (pa_cons (pv 0) pa_nil)) pe_int)))))
    (pss_one (ps_ret pe_bl))
    pss_nil)
  (pss_one (ps_ret (pe_cmpR (r := rEqD K) (op_eqD hr.units) (pe_lc (own := [("_law_sign_here", 1)]) (g := gName 1) rfl sc__law_is_row.nd (pi_str (pv 0)) (blkOk_by (N := N__law_is_row) (sc := defScope s__law_is_row) (by decide +kernel)) (fun _ _ _ _ _ => pg_name (i := 1) sc__law_is_row.nd rfl (Or.inl rfl)) (fun _ _ _ _ _ => (pts_one (pt_cmpR (r := LH.rInS true) LH.op_niS (pv 1) pe_str (by rfl)))) (fun _ _ _ _ _ => (pv 1))) (pe_lst pa_nil) (nomark _))))), ?_⟩
    walk_at "rd"
    have ht' := ht
    cases ht with
    | str z =>
      have hz := (sm z rfl).1
      refine LH.x_isiT (b := true) ht' (by decide +kernel) ?_
      walk_at "rd"
      refine LH.x_lenS hz ?_
      walk_at "rd"
      refine LH.br_d (fun c1 => ?_) (fun c1 => ?_)
      · walk_at "rd"
        refine LH.br_eq (b' := !decide (z.length ≤ 8)) (by congr 1; exact decide_eq_decide.mpr (by omega)) ?_
        refine LH.br_nd (fun c2 => ?_) (fun c2 => ?_)
        · walk_at "rd"
          have e : isRow (.str z) = false := by simp [isRow, isRowS, c2]
          rw [e] at k
          exact k _ (Same.refl _)
        · walk_at "rd"
          refine LH.lc_S (by exact hz) (fun x => !signV x) id (fun _ => rfl) ?_ ?_ fun p1 H1 f1 e1 g1 => ?_
          · intro x hx H3 e3 Q3 q3
            obtain ⟨c, _, rfl⟩ := List.mem_map.mp hx
            walk_at "rd"
            exact q3 _ (Same.refl _)
          · intro x hx _ H3 e3 Q3 q3
            walk_at "rd"
            exact q3 _ (Same.refl _)
          walk_at "rd"
          refine LH.newl (LH.small rfl) fun p2 H2 f2 e2 g2 => ?_
          rw [signs_no] at g1
          have ok : ∀ x ∈ noLet z, Ok x := no_ok (sm z rfl)
          refine LH.x_eqD (.lst (SqL.of (e2 _ _ g1)) (str_data _)) (.lst (SqL.of g2) .nil) (shaped_strs ok) (by decide +kernel) ?_
          have e : isRow (.str z) = PyData.eqv (.list ((noLet z).map PyData.str)) (.list []) := by
            rw [no_eqv]
            have h1 : 1 ≤ z.length := by omega
            simp [isRow, isRowS, h1, c2]
          rw [e] at k
          exact k _ (e1.trans e2)
      · walk_at "rd"
        have e : isRow (.str z) = false := by
          have : ¬ 1 ≤ z.length := by omega
          simp [isRow, isRowS, this]
        rw [e] at k
        exact k _ (Same.refl _)
    | _ =>
      refine LH.x_isiT (b := false) ht' (by decide +kernel) ?_
      walk_at "rd"
      exact k _ (Same.refl _)
end
end K2
namespace K2
open PySem L2
local macro_rules | `(tactic| walk_at "rd1") => `(tactic| first
  | with_reducible refine LH.x_seq ?_
  | with_reducible refine LH.x_asg ?_
  | with_reducible refine LH.x_cons ?_
  | with_reducible refine LH.x_var (by with_unfolding_all exact rfl) ?_
  | with_reducible refine LH.x_c ?_
  | with_reducible refine LH.x_op ?_
  | with_reducible refine LH.x_gname ?_
  | with_reducible refine LH.x_nil ?_
  | with_reducible refine LH.x_I0 ?_
  | ((with_reducible refine LH.x_I ?k1 ?_); (case k1 => first | exact (by decide) | exact ⟨by decide, by decide⟩ | exact ⟨by decide, by decide, by decide⟩ | exact .inl ⟨by decide, by decide⟩ | exact .inr ⟨by decide, by decide⟩ | exact .inr ⟨by omega, by omega⟩ | exact .inl ⟨by omega, by omega⟩ | exact (by omega)))
  | with_reducible refine LH.x_ifS ?_
  | with_reducible refine LH.x_test ?_
  | with_reducible refine LH.x_tB ?_
  | with_reducible refine LH.bx ?_
  | with_reducible refine LH.x_and ?_
  | with_reducible refine LH.x_or ?_
  | with_reducible refine LH.x_not ?_
  | with_reducible refine LH.x_ret ?_
  | with_reducible refine LH.x_call ?_
  | with_reducible refine LH.x_cb ?_
  | with_reducible refine LH.x_lst ?_
  | with_reducible refine LH.x_tup ?_
  | with_reducible refine LH.x_bm ?_
  | with_reducible refine LH.x_drop ?_
  | with_reducible refine LH.x_next ?_
  | with_reducible refine LH.x_cont ?_
  | with_reducible refine LH.x_un ?_
  | with_reducible refine LH.x_U ?_
  | with_reducible refine LH.x_eq (by with_unfolding_all exact rfl) ?_
  | with_reducible refine LH.x_ne (by with_unfolding_all exact rfl) ?_
  | with_reducible refine LH.x_andV ?_
  | with_reducible refine LH.x_orV ?_
  | with_reducible refine LH.x_notV ?_
  | with_reducible refine LH.band ?_
  | with_reducible refine LH.bor ?_
  | with_reducible refine LH.x_if ?_
  | with_reducible refine LH.x_chain ?_
  | with_reducible refine LH.chk ?_
  | with_reducible refine LH.x_callS ?_
  | with_reducible refine LH.x_callE ?_
  | with_reducible refine LH.x_callV ?_
  | with_reducible refine LH.x_lrg ?_
  | with_reducible refine LH.x_lcS ?_
  | with_reducible refine LH.x_lcR1 ?_
  | with_reducible refine LH.x_forR1 ?_
  | with_reducible refine LH.x_forR3 ?_
  | with_reducible refine LH.strv ?_
  | with_reducible refine LH.x_yes ?_
  | with_reducible refine LH.x_sl ?_
  | with_reducible refine LH.x_noPart ?_
  | with_reducible refine LH.x_part ?_
  | with_reducible refine LH.pav ?_
  | with_reducible refine LH.x_jnv ?_
  | with_reducible refine LH.x_join ?_
  | with_reducible refine LH.x_inS ?_
  | with_reducible refine LH.x_niS ?_
  | with_reducible refine LH.x_isB ?_
  | with_reducible refine LH.x_isnB ?_
  | with_reducible refine LH.x_gcons ?_
  | with_reducible refine LH.x_gnil ?_
  | with_reducible refine LH.x_intB ?_
  | with_reducible refine LH.x_orT ?_
  | with_reducible refine LH.x_isTy ?_
  | with_reducible refine LH.x_niTy ?_
  | with_reducible refine LH.x_split ?_
  | with_reducible refine LH.x_spv ?_
  | with_reducible refine LH.x_gsub ?_
  | with_reducible refine LH.x_fmt ?_
  | with_reducible refine LH.x_js0 ?_
  | with_reducible refine LH.x_js ?_
  | with_reducible refine LH.x_rg1 ?_
  | with_reducible refine LH.x_forL ?_
  | with_reducible refine LH.x_abs ?_
  | with_reducible refine LH.x_rg2 ?_
  | with_reducible refine LH.rg1v ?_
  | with_reducible refine LH.rg2v ?_
  | with_reducible refine LH.x_forR2 ?_
  | with_reducible refine LH.x_lenSetG ?_
  | with_reducible refine LH.x_lc ?_
  | with_reducible refine LH.br_nt ?_
  | with_reducible refine LH.br_nf ?_
  | with_reducible refine LH.br_t ?_
  | with_reducible refine LH.br_f ?_)
local macro_rules | `(tactic| walk_at "rd") => `(tactic| repeat (walk_at "rd1"))

section
variable {P : Program} {w : World} {K : PySem.W.Frag} {mg : Str → Option Value} {base : Heap} {a : Ad}
/-! ### texts of letters -/
theorem cut_lo (z : Str) (k : Nat) : cutS z none (some (k : Int)) = ⟨(z.cps.toList.take k).toArray⟩ := by
  unfold cutS
  rw [HT.sIx_none, HT.sIx_nat, List.drop_zero, Nat.sub_zero]
  congr 2
  have : z.length = z.cps.toList.length := by rw [Array.length_toList]; rfl
  rw [this]
  exact (List.take_eq_take_min).symm
theorem cut_hi (z : Str) (k : Nat) : cutS z (some (k : Int)) none = ⟨(z.cps.toList.drop k).toArray⟩ := by
  unfold cutS
  rw [HT.sIx_none, HT.sIx_nat]
  congr 1
  have e : z.length = z.cps.toList.length := by rw [Array.length_toList]; rfl
  rw [e]
  by_cases h : k ≤ z.cps.toList.length
  · rw [Nat.min_eq_left h, List.take_of_length_le]
    rw [List.length_drop]
    exact Nat.le_refl _
  · rw [Nat.min_eq_right (by omega), List.drop_of_length_le (by omega), List.drop_of_length_le (by omega), List.take_nil]
theorem join_signs : ∀ cs : List Nat, Txt.join (Str.ofString "") (cs.map fun c => (⟨#[c]⟩ : Str)) = ⟨cs.toArray⟩ := fun cs => by
  have e0 : Str.ofString "" = SX.S [] := rfl
  have e1 : (cs.map fun c => (⟨#[c]⟩ : Str)) = (cs.map fun c => [c]).map SX.S := by rw [List.map_map]; rfl
  rw [e0, e1, SX.join_S]
  have e2 : ∀ cs : List Nat, TL.joinL [] (cs.map fun c => [c]) = cs := by
    intro cs
    induction cs with
    | nil => rfl
    | cons c cs ih =>
      cases cs with
      | nil => rfl
      | cons d cs =>
        show [c] ++ ([] ++ TL.joinL [] ((d :: cs).map fun c => [c])) = c :: d :: cs
        rw [ih]
        rfl
  rw [e2]
theorem lens1 (f : Nat → Nat) (l : List Nat) : (((l.map f).map fun c => (⟨#[c]⟩ : Str)).map (·.length)).sum = l.length := by
  induction l with
  | nil => rfl
  | cons c l ih =>
    simp only [List.map_cons, List.sum_cons, List.length_cons] at ih ⊢
    rw [ih]
    show 1 + l.length = l.length + 1
    omega
theorem let_at (u : Int) : ∃ c, atI letters.cps.toList (u % 26) = some c ∧ isLet c = true ∧ c = letters.cps.toList.getD (u % 26).toNat 0 := by
  have h1 := Int.emod_nonneg u (show (26 : Int) ≠ 0 by decide)
  have h2 := Int.emod_lt_of_pos u (show (0 : Int) < 26 by decide)
  obtain ⟨j, e⟩ : ∃ j : Nat, u % 26 = (j : Int) := ⟨(u % 26).toNat, by omega⟩
  have hj : j < letters.cps.toList.length := by
    have : letters.cps.toList.length = 26 := by decide +kernel
    omega
  refine ⟨letters.cps.toList[j], by rw [e]; exact atI_nat (List.getElem?_eq_getElem hj), decide_eq_true (List.getElem_mem _), ?_⟩
  rw [e]
  show _ = letters.cps.toList.getD j 0
  rw [List.getD_eq_getElem?_getD, List.getElem?_eq_getElem hj]
  rfl
theorem row_of {l : List Nat} (h1 : 1 ≤ l.length) (h2 : l.length ≤ 8) (h3 : ∀ c ∈ l, isLet c = true) : isRowS ⟨l.toArray⟩ = true := by
  have e : (⟨l.toArray⟩ : Str).length = l.length := List.size_toArray
  unfold isRowS
  rw [e, decide_eq_true h1, decide_eq_true h2]
  simp only [Bool.true_and]
  exact List.all_eq_true.mpr (by simpa using h3)
theorem row_ok {z : Str} (h : isRowS z = true) : Ok z := by
  unfold isRowS at h
  rw [Bool.and_eq_true, Bool.and_eq_true, decide_eq_true_eq, decide_eq_true_eq] at h
  refine ⟨by omega, ?_⟩
  rw [← Array.all_toList]
  refine List.all_eq_true.mpr fun c hc => ?_
  have := List.all_eq_true.mp h.2.2 c hc
  have hm : c ∈ letters.cps.toList := of_decide_eq_true this
  have : ∀ c ∈ letters.cps.toList, decide (c < 0x110000) = true := by decide +kernel
  exact this c hm
def letF (t : Int) (j : Nat) : Nat := letters.cps.toList.getD ((t + 5 * (j : Int) * (1 + t % 3)) % 26).toNat 0
def letV (t : Int) : V → V
  | .int j => .str ⟨#[letters.cps.toList.getD ((t + 5 * j * (1 + t % 3)) % 26).toNat 0]⟩
  | x => x
theorem lets (t : Int) (n : Nat) : ((LH.intsV 0 n).filter fun _ => true).map (letV t) = (((List.range n).map (letF t)).map fun c => (⟨#[c]⟩ : Str)).map V.str := by
  rw [List.filter_eq_self.mpr (fun _ _ => rfl)]
  unfold LH.intsV
  rw [List.map_map, List.map_map, List.map_map]
  refine List.map_congr_left fun i _ => ?_
  show V.str ⟨#[letters.cps.toList.getD ((t + 5 * (0 + (i : Int)) * (1 + t % 3)) % 26).toNat 0]⟩ = V.str ⟨#[letF t i]⟩
  rw [Int.zero_add]
  rfl
theorem let_letF (t : Int) (j : Nat) : isLet (letF t j) = true := by
  obtain ⟨c, _, h, e⟩ := let_at (t + 5 * (j : Int) * (1 + t % 3))
  unfold letF
  rw [← e]
  exact h
theorem four_at (i : Int) : ∃ z, atI [V.str "say", .str "mark", .str "by", .str "house"] (i % 4) = some (V.str z) ∧ isRowS z = true := by
  have h : i % 4 = 0 ∨ i % 4 = 1 ∨ i % 4 = 2 ∨ i % 4 = 3 := by omega
  rcases h with h | h | h | h <;> rw [h]
  · exact ⟨_, rfl, by decide +kernel⟩
  · exact ⟨_, rfl, by decide +kernel⟩
  · exact ⟨_, rfl, by decide +kernel⟩
  · exact ⟨_, rfl, by decide +kernel⟩
theorem kqxz_at (i : Int) : ∃ c, atI (Str.ofString "kqxz").cps.toList (i % 4) = some c ∧ isLet c = true := by
  have h : i % 4 = 0 ∨ i % 4 = 1 ∨ i % 4 = 2 ∨ i % 4 = 3 := by omega
  rcases h with h | h | h | h <;> rw [h]
  · exact ⟨107, by decide +kernel, by decide +kernel⟩
  · exact ⟨113, by decide +kernel, by decide +kernel⟩
  · exact ⟨120, by decide +kernel, by decide +kernel⟩
  · exact ⟨122, by decide +kernel, by decide +kernel⟩
theorem mod_at (x : Int) (n : Nat) : ∃ m : Nat, m ≤ n ∧ x.fmod ((n : Int) + 1) = (m : Int) := by
  rw [Int.fmod_eq_emod_of_nonneg _ (by omega)]
  have h1 := Int.emod_nonneg x (show (n : Int) + 1 ≠ 0 by omega)
  have h2 := Int.emod_lt_of_pos x (show (0 : Int) < (n : Int) + 1 by omega)
  exact ⟨(x % ((n : Int) + 1)).toNat, by omega, by omega⟩
def spLRow : Sp := fun vs H Q _ => ∃ b k : Int, vs = [.int b, .int k] ∧ ∀ z H', isRowS z = true → Same H H' → Q (.str z) H'
theorem ok__law_row (T : Txt K mg a) : FnOk P w K mg base CX0 1 a._law_row a.d__law_row ["_law_base", "_law_k"] spLRow := by
  refine T.F__law_row.ok sc__law_row (fun vs H Q E h => ?_) (fun cdv A outer s H vs Q E hr h => ?_)
  · obtain ⟨i, j, rfl, _⟩ := h
    rfl
  · obtain ⟨b, i, rfl, k⟩ := h
    refine ⟨_, (pss_cons (ps_set (i := 2) sc__law_row.nd rfl (Or.inr rfl) pe_str)
  (pss_cons (ps_set (i := 3) sc__law_row.nd rfl (Or.inr rfl) (pe_op op_add (pv 0) (pe_op op_mul (pe_op op_mul pe_int (pv 1)) (pe_op op_mod (pv 0) pe_int))))
  (pss_cons (ps_set (i := 4) sc__law_row.nd rfl (Or.inl rfl) (pe_op op_mod (pe_op op_fdiv (pv 3) pe_int) pe_int))
  (pss_cons (ps_set (i := 5) sc__law_row.nd rfl (Or.inl rfl) (LH.pe_joinN pe_str (pe_lc (own := [("_law_j", 6)]) (g := gName 6) (tt := tYes) rfl sc__law_row.nd (pi_range1 rfl T.n_range (pa_cons (pv 4) pa_nil)) (blkOk_by (N := N__law_row) (sc := defScope s__law_row) (by decide +kernel)) (fun _ _ _ _ _ => pg_name (i := 6) sc__law_row.nd rfl (Or.inl rfl)) (fun _ _ _ _ _ => pts_nil) (fun _ _ _ _ _ => (pe_ix ix_str (pv 2) (pe_op op_mod (pe_op op_add (pv 3) (pe_op op_mul (pe_op op_mul pe_int (pv 6)) (pe_op op_add pe_int (pe_op op_mod (pv 3) pe_int)))) pe_int) (fun _ _ => rfl))))))
  (pss_cons (ps_set (i := 7) sc__law_row.nd rfl (Or.inl rfl) (pv 4))
  (pss_cons (ps_if (pt_cmpR op_eq (pe_op op_mod (pv 0) pe_int) pe_int (nomark _))
    (pss_one (ps_set (i := 7) sc__law_row.nd rfl (Or.inl rfl) (pe_op op_modN (pe_op op_fdiv (pv 0) pe_int) (pe_op op_add (pv 4) pe_int))))
    pss_nil)
  (pss_cons (ps_if (pt_cmpR op_eq (pe_op op_mod (pv 0) pe_int) pe_int (nomark _))
    (pss_one (ps_ret (pe_ix (r := rIxL K) ix_list (pe_lst (pa_cons pe_str (pa_cons pe_str (pa_cons pe_str (pa_cons pe_str pa_nil))))) (pe_op op_mod (pv 1) pe_int) (fun _ _ => rfl))))
    pss_nil)
  (pss_one (ps_ret (pe_op LH.op_addS (pe_op LH.op_addS (pe_slice sl_str (pv 5) po_none (po_some (pv 7))) (pe_ix ix_str pe_str (pe_op op_mod (pv 1) pe_int) (fun _ _ => rfl))) (pe_slice sl_str (pv 5) (po_some (pv 7)) po_none))))))))))), ?_⟩
    walk_at "rd"
    generalize ht : b + 31 * i * (b % 2) = t
    obtain ⟨n, hn⟩ : ∃ n : Nat, t / 26 % 8 = (n : Int) := ⟨(t / 26 % 8).toNat, by omega⟩
    have hn8 : n < 8 := by omega
    rw [hn]
    refine LH.rn1v (by omega) (by omega) ?_
    refine LH.lc_R (by omega) (fun _ => true) (letV t) (fun _ => rfl) ?_ ?_ fun p1 H1 f1 e1 g1 => ?_
    · intro x hx H3 e3 Q3 q3
      walk_at "rd"
      exact q3 _ (Same.refl _)
    · intro x hx _ H3 e3 Q3 q3
      obtain ⟨j, _, rfl⟩ := List.mem_map.mp hx
      walk_at "rd"
      obtain ⟨c, h1, _, h2⟩ := let_at (t + 5 * (0 + (j : Int)) * (1 + t % 3))
      refine LH.x_ixS (by decide +kernel) h1 ?_
      have q4 := q3 H3 (Same.refl _)
      have e4 : letV t (V.int (0 + (j : Int))) = V.str ⟨#[c]⟩ := by rw [h2]; rfl
      rw [e4] at q4
      exact q4
    walk_at "rd"
    have hI : (n : Int).toNat = n := Int.toNat_natCast n
    rw [hI, lets] at g1
    refine LH.x_jnw (SqL.of g1) (by have e0 : (Str.ofString "").length = 0 := rfl; rw [lens1, List.length_range, e0, Nat.mul_zero]; omega) ?_
    rw [join_signs]
    walk_at "rd"
    have tl : ∀ (at_ : Nat) (c : Nat), at_ ≤ n → isLet c = true → isRowS (cutS ⟨((List.range n).map (letF t)).toArray⟩ none (some (at_ : Int)) ++ ⟨#[c]⟩ ++ cutS ⟨((List.range n).map (letF t)).toArray⟩ (some (at_ : Int)) none) = true := by
      intro at_ c h1 h2
      rw [cut_lo, cut_hi]
      have e : ((⟨(((List.range n).map (letF t)).take at_).toArray⟩ : Str) ++ ⟨#[c]⟩ ++ ⟨(((List.range n).map (letF t)).drop at_).toArray⟩) = (⟨(((List.range n).map (letF t)).take at_ ++ [c] ++ ((List.range n).map (letF t)).drop at_).toArray⟩ : Str) := by
        show (⟨_ ++ _ ++ _⟩ : Str) = _
        simp
      rw [e]
      refine row_of (by simp; omega) (by simp; omega) fun d hd => ?_
      rcases List.mem_append.mp hd with hd | hd
      · rcases List.mem_append.mp hd with hd | hd
        · obtain ⟨j, _, rfl⟩ := List.mem_map.mp (List.mem_of_mem_take hd)
          exact let_letF t j
        · rw [List.mem_singleton] at hd
          rw [hd]
          exact h2
      · obtain ⟨j, _, rfl⟩ := List.mem_map.mp (List.mem_of_mem_drop hd)
        exact let_letF t j
    refine LH.br_d (fun c => ?_) (fun c => ?_)
    · walk_at "rd"
      obtain ⟨at_, hat, e⟩ := mod_at (b / 4) n
      rw [e]
      walk_at "rd"
      refine LH.br_d (fun c => ?_) (fun c => ?_)
      · walk_at "rd"
        refine LH.newl (LH.small rfl) fun p2 H2 f2 e2 g2 => ?_
        walk_at "rd"
        obtain ⟨z, hz, h⟩ := four_at i
        refine LH.x_ixL (SqL.of g2) hz ?_
        exact k _ _ h (e1.trans e2)
      · walk_at "rd"
        refine LH.x_slS (by show ((List.range n).map (letF t)).toArray.size ≤ 100000; simp; omega) ?_
        walk_at "rd"
        obtain ⟨d, hd, hl⟩ := kqxz_at i
        refine LH.x_ixS (by decide +kernel) hd ?_
        refine LH.x_addS (by rw [cut_lo]; simp [Str.length]; omega) ?_
        walk_at "rd"
        refine LH.x_slS (by show ((List.range n).map (letF t)).toArray.size ≤ 100000; simp; omega) ?_
        refine LH.x_addS (by rw [cut_lo, cut_hi]; show (_ ++ _ : Array Nat).size + _ ≤ 100000; simp [Str.length]; omega) ?_
        exact k _ _ (tl at_ d hat hl) e1
    · walk_at "rd"
      have hat : n ≤ n := Nat.le_refl n
      refine LH.br_d (fun c => ?_) (fun c => ?_)
      · walk_at "rd"
        refine LH.newl (LH.small rfl) fun p2 H2 f2 e2 g2 => ?_
        walk_at "rd"
        obtain ⟨z, hz, h⟩ := four_at i
        refine LH.x_ixL (SqL.of g2) hz ?_
        exact k _ _ h (e1.trans e2)
      · walk_at "rd"
        refine LH.x_slS (by show ((List.range n).map (letF t)).toArray.size ≤ 100000; simp; omega) ?_
        walk_at "rd"
        obtain ⟨d, hd, hl⟩ := kqxz_at i
        refine LH.x_ixS (by decide +kernel) hd ?_
        refine LH.x_addS (by rw [cut_lo]; simp [Str.length]; omega) ?_
        walk_at "rd"
        refine LH.x_slS (by show ((List.range n).map (letF t)).toArray.size ≤ 100000; simp; omega) ?_
        refine LH.x_addS (by rw [cut_lo, cut_hi]; show (_ ++ _ : Array Nat).size + _ ≤ 100000; simp [Str.length]; omega) ?_
        exact k _ _ (tl n d hat hl) e1
end
end K2
namespace K2
open PySem L2
local macro_rules | `(tactic| walk_at "rd1") => `(tactic| first
  | with_reducible refine LH.x_seq ?_
  | with_reducible refine LH.x_asg ?_
  | with_reducible refine LH.x_cons ?_
  | with_reducible refine LH.x_var (by with_unfolding_all exact rfl) ?_
  | with_reducible refine LH.x_c ?_
  | with_reducible refine LH.x_op ?_
  | with_reducible refine LH.x_gname ?_
  | with_reducible refine LH.x_nil ?_
  | with_reducible refine LH.x_I0 ?_
  | ((with_reducible refine LH.x_I ?k1 ?_); (case k1 => first | exact (by decide) | exact ⟨by decide, by decide⟩ | exact ⟨by decide, by decide, by decide⟩ | exact .inl ⟨by decide, by decide⟩ | exact .inr ⟨by decide, by decide⟩ | exact .inr ⟨by omega, by omega⟩ | exact .inl ⟨by omega, by omega⟩ | exact (by omega)))
  | with_reducible refine LH.x_ifS ?_
  | with_reducible refine LH.x_test ?_
  | with_reducible refine LH.x_tB ?_
  | with_reducible refine LH.bx ?_
  | with_reducible refine LH.x_and ?_
  | with_reducible refine LH.x_or ?_
  | with_reducible refine LH.x_not ?_
  | with_reducible refine LH.x_ret ?_
  | with_reducible refine LH.x_call ?_
  | with_reducible refine LH.x_cb ?_
  | with_reducible refine LH.x_lst ?_
  | with_reducible refine LH.x_tup ?_
  | with_reducible refine LH.x_bm ?_
  | with_reducible refine LH.x_drop ?_
  | with_reducible refine LH.x_next ?_
  | with_reducible refine LH.x_cont ?_
  | with_reducible refine LH.x_un ?_
  | with_reducible refine LH.x_U ?_
  | with_reducible refine LH.x_eq (by with_unfolding_all exact rfl) ?_
  | with_reducible refine LH.x_ne (by with_unfolding_all exact rfl) ?_
  | with_reducible refine LH.x_andV ?_
  | with_reducible refine LH.x_orV ?_
  | with_reducible refine LH.x_notV ?_
  | with_reducible refine LH.band ?_
  | with_reducible refine LH.bor ?_
  | with_reducible refine LH.x_if ?_
  | with_reducible refine LH.x_chain ?_
  | with_reducible refine LH.chk ?_
  | with_reducible refine LH.x_callS ?_
  | with_reducible refine LH.x_callE ?_
  | with_reducible refine LH.x_callV ?_
  | with_reducible refine LH.x_lrg ?_
  | with_reducible refine LH.x_lcS ?_
  | with_reducible refine LH.x_lcR1 ?_
  | with_reducible refine LH.x_forR1 ?_
  | with_reducible refine LH.x_forR3 ?_
  | with_reducible refine LH.strv ?_
  | with_reducible refine LH.x_yes ?_
  | with_reducible refine LH.x_sl ?_
  | with_reducible refine LH.x_noPart ?_
  | with_reducible refine LH.x_part ?_
  | with_reducible refine LH.pav ?_
  | with_reducible refine LH.x_jnv ?_
  | with_reducible refine LH.x_join ?_
  | with_reducible refine LH.x_inS ?_
  | with_reducible refine LH.x_niS ?_
  | with_reducible refine LH.x_isB ?_
  | with_reducible refine LH.x_isnB ?_
  | with_reducible refine LH.x_gcons ?_
  | with_reducible refine LH.x_gnil ?_
  | with_reducible refine LH.x_intB ?_
  | with_reducible refine LH.x_orT ?_
  | with_reducible refine LH.x_isTy ?_
  | with_reducible refine LH.x_niTy ?_
  | with_reducible refine LH.x_split ?_
  | with_reducible refine LH.x_spv ?_
  | with_reducible refine LH.x_gsub ?_
  | with_reducible refine LH.x_fmt ?_
  | with_reducible refine LH.x_js0 ?_
  | with_reducible refine LH.x_js ?_
  | with_reducible refine LH.x_rg1 ?_
  | with_reducible refine LH.x_forL ?_
  | with_reducible refine LH.x_abs ?_
  | with_reducible refine LH.x_rg2 ?_
  | with_reducible refine LH.rg1v ?_
  | with_reducible refine LH.rg2v ?_
  | with_reducible refine LH.x_forR2 ?_
  | with_reducible refine LH.x_lenSetG ?_
  | with_reducible refine LH.x_lc ?_
  | with_reducible refine LH.br_nt ?_
  | with_reducible refine LH.br_nf ?_
  | with_reducible refine LH.br_t ?_
  | with_reducible refine LH.br_f ?_)
local macro_rules | `(tactic| walk_at "rd") => `(tactic| repeat (walk_at "rd1"))

section
variable {P : Program} {w : World} {K : PySem.W.Frag} {mg : Str → Option Value} {base : Heap} {a : Ad}
/-- a thing that may stand in a word -/
def Gd (K : PySem.W.Frag) (H : Hp) (y : V) : Prop := Sm y ∧ ∃ T, TyB K H y T
theorem Gd.up {H H' : Hp} {y : V} (e : Same H H') (g : Gd K H y) : Gd K H' y := let ⟨s, T, h⟩ := g; ⟨s, T, LH.Same.ty e h⟩
theorem gd_int {H : Hp} (i : Int) : Gd K H (.int i) := ⟨fun z e => (by cases e), _, .int i⟩
theorem gd_str {H : Hp} {z : Str} (h : Ok z) : Gd K H (.str z) := ⟨fun z' e => (by cases e; exact h), _, .str z⟩
theorem gd_bl {H : Hp} (b : Bool) : Gd K H (.bl b) := ⟨fun z e => (by cases e), _, .bl b⟩
theorem gd_non {H : Hp} : Gd K H .non := ⟨fun z e => (by cases e), _, .non⟩
theorem gd_lst {H : Hp} {p : Addr} {xs : List V} (h : SqL K H p xs) : Gd K H (.ref p) := ⟨fun z e => (by cases e), _, .lst h⟩
theorem gd_tup {H : Hp} {p : Addr} {xs : List V} (h : SqT K H p xs) : Gd K H (.ref p) := ⟨fun z e => (by cases e), _, .tup h⟩
theorem gd_dK {H : Hp} {p : Addr} {kvs : List (Key × V)} (h : H p = some (.dK kvs)) : Gd K H (.ref p) := ⟨fun z e => (by cases e), _, .dK h⟩
def spLIsWord (K : PySem.W.Frag) : Sp := fun vs H Q _ => ∃ c x b, vs = [.int c, x] ∧ 1 ≤ c ∧ Wd K H c x b ∧ ∀ H', Same H H' → Q (.bl b) H'
theorem isW_no {x : V} {lo hi : Int} (h : ∀ i, x ≠ .int i) : isW x lo hi = false := by
  cases x with
  | int i => exact absurd rfl (h i)
  | _ => rfl
theorem word_kind {c : Int} {k n r o : V} (h : ∀ z, k ≠ .str z) : isWordL c [k, n, r, o] = false := by
  cases n with
  | int m =>
    cases o with
    | int q =>
      show (isW (.int m) 0 9999 && (isW (.int q) 0 (c - 1) && (isRow r && isKind c k m q))) = false
      have e : isKind c k m q = false := by
        cases k with
        | str z => exact absurd rfl (h z)
        | _ => rfl
      rw [e, Bool.and_false, Bool.and_false, Bool.and_false]
    | _ => rfl
  | _ => rfl
theorem word_row {c : Int} {k n r o : V} (h : isRow r = false) : isWordL c [k, n, r, o] = false := by
  cases n with
  | int m =>
    cases o with
    | int q =>
      show (isW (.int m) 0 9999 && (isW (.int q) 0 (c - 1) && (isRow r && isKind c k m q))) = false
      rw [h, Bool.false_and, Bool.and_false, Bool.and_false]
    | _ => rfl
  | _ => rfl
theorem mod_eq {o m c : Int} (h1 : 0 ≤ o) (h2 : o < c) : o = m % c ↔ (m - o) % c = 0 := by
  constructor
  · intro h
    have e := Int.emod_add_mul_ediv m c
    have e2 : m - o = c * (m / c) := by omega
    rw [e2, Int.mul_emod_right]
  · intro h
    have d : c ∣ m - o := Int.dvd_of_emod_eq_zero h
    obtain ⟨q, hq⟩ := d
    have : m = o + c * q := by omega
    rw [this, Int.add_mul_emod_self_left, Int.emod_eq_of_lt h1 h2]
theorem ok__law_is_word (T : Txt K mg a) : FnOk P w K mg base CX0 2 a._law_is_word a.d__law_is_word ["_law_count", "_law_thing"] (spLIsWord K) := by
  have G__law_is_among := ok__law_is_among (P := P) (w := w) (base := base) T
  have G__law_is_row := ok__law_is_row (P := P) (w := w) (base := base) T
  refine T.F__law_is_word.ok sc__law_is_word (fun vs H Q E h => ?_) (fun cdv A outer s H vs Q E hr h => ?_)
  · obtain ⟨x, t, y, rfl, _⟩ := h
    rfl
  · obtain ⟨c, x, b, rfl, c1, hw, k⟩ := h
    have HR__law_is_row : Room 1 _ := hr.mono (by decide)
    have HR__law_is_among : Room 1 _ := hr.mono (by decide)
    refine ⟨_, (pss_cons (ps_if (PW.pt (pw_or (pt_not (pt_val (pe_callB (r := rIsi K) call_isi rfl T.n_isinstance (by decide +kernel) (pa_cons (pv 1) (pa_cons (pe_bltn (v := .ty "tuple") rfl T.n_tuple (by decide +kernel) rfl) pa_nil))))) (pw_or (pt_cmpR op_ne (pe_callB (r := LH.rLen K) LH.call_len rfl T.n_len (by decide +kernel) (pa_cons (pv 1) pa_nil)) pe_int (nomark _)) (pw_or1 (pt_not (pt_val (pe_callB (r := rIsi K) call_isi rfl T.n_isinstance (by decide +kernel) (pa_cons (pe_ix (r := rIxT K) ix_tup (pv 1) pe_int (fun _ _ => rfl)) (pa_cons (pe_bltn (v := .ty "str") rfl T.n_str (by decide +kernel) rfl) pa_nil)))))))))
    (pss_one (ps_ret pe_bl))
    pss_nil)
  (pss_cons (ps_if (PW.pt (pw_or (pt_not (pt_val (pe_call G__law_is_among HR__law_is_among rfl T.g__law_is_among T.F__law_is_among.kp T.b__law_is_among .nil pass0 (pa_cons (pe_ix (r := rIxT K) ix_tup (pv 1) pe_int (fun _ _ => rfl)) (pa_cons pe_int (pa_cons pe_int pa_nil)))))) (pw_or (pt_not (pt_val (pe_call G__law_is_row HR__law_is_row rfl T.g__law_is_row T.F__law_is_row.kp T.b__law_is_row .nil pass0 (pa_cons (pe_ix (r := rIxT K) ix_tup (pv 1) pe_int (fun _ _ => rfl)) pa_nil)))) (pw_or1 (pt_not (pt_val (pe_call G__law_is_among HR__law_is_among rfl T.g__law_is_among T.F__law_is_among.kp T.b__law_is_among .nil pass0 (pa_cons (pe_ix (r := rIxT K) ix_tup (pv 1) pe_int (fun _ _ => rfl)) (pa_cons pe_int (pa_cons (pe_op op_sub (pv 0) pe_int) pa_nil))))))))))
    (pss_one (ps_ret pe_bl))
    pss_nil)
  (pss_one (ps_ret (pe_or (pe_cmpR op_eq (pe_ix (r := rIxT K) ix_tup (pv 1) pe_int (fun _ _ => rfl)) pe_str (nomark _)) (pe_one (pe_and (pe_cmpR op_eq (pe_ix (r := rIxT K) ix_tup (pv 1) pe_int (fun _ _ => rfl)) pe_str (nomark _)) (pe_one (pe_cmpR op_eq (pe_op op_modN (pe_op op_sub (pe_ix (r := rIxT K) ix_tup (pv 1) pe_int (fun _ _ => rfl)) (pe_ix (r := rIxT K) ix_tup (pv 1) pe_int (fun _ _ => rfl))) (pv 0)) pe_int (nomark _)))))))))), ?_⟩
    walk_at "rd"
    rcases hw with ⟨p, xs, rfl, hp, hl, hy, rfl⟩ | ⟨t, ht, hne, rfl⟩
    · refine LH.x_isiT (b := true) (.tup hp) (by decide +kernel) ?_
      walk_at "rd"
      refine LH.x_lenT hp ?_
      walk_at "rd"
      refine LH.br_nd (fun c4 => ?_) (fun c4 => ?_)
      · walk_at "rd"
        rw [not_four (c := c) (by intro e; exact c4 (congrArg V.int e))] at k
        exact k _ (Same.refl _)
      · obtain ⟨kd, nu, ro, ho, rfl⟩ := four (by injection c4)
        walk_at "rd"
        refine LH.x_ixT hp rfl ?_
        walk_at "rd"
        obtain ⟨_, tk, htk⟩ := hy kd (by simp)
        obtain ⟨_, tn, htn⟩ := hy nu (by simp)
        obtain ⟨sr, tr, htr⟩ := hy ro (by simp)
        obtain ⟨_, th, hth⟩ := hy ho (by simp)
        have htk' := htk
        cases htk with
        | str z =>
          refine LH.x_isiT (b := true) htk' (by decide +kernel) ?_
          walk_at "rd"
          refine LH.x_ixT hp rfl ?_
          walk_at "rd"
          refine ⟨_, tn, _, _, rfl, htn, ?_⟩
          walk_at "rd"
          cases e1 : isW nu 0 9999 with
          | false =>
            walk_at "rd"
            rw [word_num e1] at k
            exact k _ (Same.refl _)
          | true =>
            obtain ⟨m, rfl, _⟩ := isW_int e1
            walk_at "rd"
            refine LH.x_ixT hp rfl ?_
            walk_at "rd"
            refine ⟨_, tr, rfl, htr, sr, fun H1 f1 => ?_⟩
            have hp1 := LH.Same.seqT f1 hp
            walk_at "rd"
            cases e3 : isRow ro with
            | false =>
              walk_at "rd"
              rw [word_row e3] at k
              exact k _ f1
            | true =>
              walk_at "rd"
              refine LH.x_ixT hp1 rfl ?_
              walk_at "rd"
              refine ⟨_, th, _, _, rfl, LH.Same.ty f1 hth, ?_⟩
              walk_at "rd"
              cases e2 : isW ho 0 (c - 1) with
              | false =>
                walk_at "rd"
                rw [word_house e2] at k
                exact k _ f1
              | true =>
                obtain ⟨o, rfl, o1, o2⟩ := isW_int e2
                walk_at "rd"
                have hk : isWordL c [.str z, .int m, ro, .int o] = isKind c (.str z) m o := by
                  show (isW (.int m) 0 9999 && (isW (.int o) 0 (c - 1) && (isRow ro && isKind c (.str z) m o))) = isKind c (.str z) m o
                  rw [e1, e2, e3, Bool.true_and, Bool.true_and, Bool.true_and]
                rw [hk] at k
                refine LH.x_ixT hp1 rfl ?_
                walk_at "rd"
                refine LH.br_d (fun h1 => ?_) (fun h1 => ?_)
                · have hz : z = "mark" := by injection h1
                  have e : isKind c (.str z) m o = true := by rw [hz]; rfl
                  rw [e] at k
                  exact k _ f1
                · walk_at "rd"
                  refine LH.x_ixT hp1 rfl ?_
                  walk_at "rd"
                  refine LH.br_d (fun h2 => ?_) (fun h2 => ?_)
                  · have hz : z = "say" := by injection h2
                    walk_at "rd"
                    refine LH.x_ixT hp1 rfl ?_
                    walk_at "rd"
                    refine LH.x_ixT hp1 rfl ?_
                    walk_at "rd"
                    have e : isKind c (.str z) m o = decide (V.int ((m - o).fmod c) = V.int 0) := by
                      show (if z = "say" then decide (o = m % c) else decide (z = "mark")) = _
                      rw [if_pos hz, fmod_pos c1, dint]
                      exact decide_eq_decide.mpr (mod_eq o1 (by omega))
                    rw [e] at k
                    exact k _ f1
                  · have e : isKind c (.str z) m o = false := by
                      show (if z = "say" then decide (o = m % c) else decide (z = "mark")) = false
                      rw [if_neg (fun q => h2 (congrArg V.str q)), decide_eq_false (fun q => h1 (congrArg V.str q))]
                    rw [e] at k
                    exact k _ f1
        | _ =>
          refine LH.x_isiT (b := false) htk' (by decide +kernel) ?_
          walk_at "rd"
          rw [word_kind (by intro z e; cases e)] at k
          exact k _ (Same.refl _)
    · have ht' := ht
      cases ht with
      | tup h => exact absurd rfl hne
      | _ =>
        refine LH.x_isiT (b := false) ht' (by decide +kernel) ?_
        walk_at "rd"
        exact k _ (Same.refl _)
/-! ### errors -/
def spKind (D : Addr) (x : Str) : LH.SpE := fun e cls d vs H Q => vs = [.ref e] ∧ cls = .ref D ∧ d = none ∧
  ∀ H' q, Same H H' → H' q = some (.tup [.str x]) → Q (.ref q) H'
theorem ok__law_kind (T : Txt K mg a) : LH.FnE P w K mg base 1 a._law_kind a.d__law_kind ["_law_error"] (spKind a.BadCount "count") := by
  refine LH.fnE_of T.F__law_kind sc__law_kind (fun e cls d vs H Q h => ?_) (fun cdv A outer s H vs Q p cls d hot hz hr h => ?_)
  · obtain ⟨rfl, _⟩ := h
    rfl
  · obtain ⟨rfl, rfl, rfl, k⟩ := h
    have hf : ∃ us, p.2.data = .fields us := let ⟨us, e, _⟩ := hot.2; ⟨us, e⟩
    have isP : ∀ {X : Cx}, X.K = K → X.pn = [p] → CallR X (.builtin "isinstance") (rIsE X.K a.BadCount p.1) := fun {X} e1 e2 =>
      LH.call_isP (oe := p.2) (by rw [e1]; exact T.c_BadCount) (by rw [e2]; exact List.mem_cons_self) hz.zc hf
    refine ⟨_, (pss_cons (ps_set (i := 1) sc__law_kind.nd rfl (Or.inl rfl) (pe_lst (pa_cons pe_str (pa_cons pe_str (pa_cons pe_str (pa_cons pe_str (pa_cons pe_str (pa_cons pe_str (pa_cons pe_str (pa_cons pe_str pa_nil))))))))))
  (pss_cons (ps_set (i := 2) sc__law_kind.nd rfl (Or.inl rfl) (pe_lst (pa_cons (pe_callB (isP rfl rfl) rfl T.n_isinstance (by decide +kernel) (pa_cons (pv 0) (pa_cons (pe_glob (v := .ref a.BadCount) rfl T.g_BadCount rfl) pa_nil))) (pa_cons (pe_callB (isP rfl rfl) rfl T.n_isinstance (by decide +kernel) (pa_cons (pv 0) (pa_cons (pe_glob (v := .ref a.BadHouse) rfl T.g_BadHouse rfl) pa_nil))) (pa_cons (pe_callB (isP rfl rfl) rfl T.n_isinstance (by decide +kernel) (pa_cons (pv 0) (pa_cons (pe_glob (v := .ref a.BadRow) rfl T.g_BadRow rfl) pa_nil))) pa_nil)))))
  (pss_cons (ps_set (i := 2) sc__law_kind.nd rfl (Or.inl rfl) (pe_op (r := LH.rCatS K) LH.op_catS (pv 2) (pe_lst (pa_cons (pe_callB (isP rfl rfl) rfl T.n_isinstance (by decide +kernel) (pa_cons (pv 0) (pa_cons (pe_glob (v := .ref a.BadWord) rfl T.g_BadWord rfl) pa_nil))) (pa_cons (pe_callB (isP rfl rfl) rfl T.n_isinstance (by decide +kernel) (pa_cons (pv 0) (pa_cons (pe_glob (v := .ref a.Forged) rfl T.g_Forged rfl) pa_nil))) (pa_cons (pe_callB (isP rfl rfl) rfl T.n_isinstance (by decide +kernel) (pa_cons (pv 0) (pa_cons (pe_glob (v := .ref a.NoLetter) rfl T.g_NoLetter rfl) pa_nil))) pa_nil))))))
  (pss_cons (ps_set (i := 2) sc__law_kind.nd rfl (Or.inl rfl) (pe_op (r := LH.rCatS K) LH.op_catS (pv 2) (pe_lst (pa_cons (pe_callB (isP rfl rfl) rfl T.n_isinstance (by decide +kernel) (pa_cons (pv 0) (pa_cons (pe_glob (v := .ref a.NotWritten) rfl T.g_NotWritten rfl) pa_nil))) (pa_cons (pe_callB (isP rfl rfl) rfl T.n_isinstance (by decide +kernel) (pa_cons (pv 0) (pa_cons (pe_glob (v := .ref a.NoText) rfl T.g_NoText rfl) pa_nil))) pa_nil)))))
  (pss_cons (ps_if (PW.pt (pw_or (pt_cmpR op_ne (pe_bm PySem.F.plainAttrs_list PySem.F.slot_list_count PySem.F.type_list_count LH.mt_cntV (pv 2) (pa_cons pe_bl pa_nil)) pe_int (nomark _)) (pw_or1 (pt_not (pt_val (pe_callB (isP rfl rfl) rfl T.n_isinstance (by decide +kernel) (pa_cons (pv 0) (pa_cons (pe_bltn (v := .ty "ValueError") rfl T.n_ValueError (by decide +kernel) rfl) pa_nil))))))))
    (pss_one (ps_ret (pe_tup (pa_cons pe_str pa_nil))))
    pss_nil)
  (pss_one (ps_ret (pe_tup (pa_cons (pe_ix (r := rIxL K) ix_list (pv 1) (pe_bm PySem.F.plainAttrs_list PySem.F.slot_list_index PySem.F.type_list_index mt_index (pv 2) (pa_cons pe_bl pa_nil)) (fun _ _ => rfl)) pa_nil))))))))), ?_⟩
    walk_at "rd"
    refine LH.newl (LH.small rfl) fun p1 H1 f1 e1 g1 => ?_
    walk_at "rd"
    refine LH.x_isE (fun _ e => e) T.i_BadCount ?_
    walk_at "rd"
    refine LH.x_isE (fun _ e => e) T.i_BadHouse ?_
    walk_at "rd"
    refine LH.x_isE (fun _ e => e) T.i_BadRow ?_
    walk_at "rd"
    refine LH.newl (LH.small rfl) fun p2 H2 f2 e2 g2 => ?_
    walk_at "rd"
    refine LH.x_isE (fun _ e => e) T.i_BadWord ?_
    walk_at "rd"
    refine LH.x_isE (fun _ e => e) T.i_Forged ?_
    walk_at "rd"
    refine LH.x_isE (fun _ e => e) T.i_NoLetter ?_
    walk_at "rd"
    refine LH.newl (LH.small rfl) fun p3 H3 f3 e3 g3 => ?_
    refine LH.x_catS (SqL.of (e3 _ _ g2)) (SqL.of g3) (LH.small rfl) fun p4 H4 f4 e4 g4 => ?_
    walk_at "rd"
    refine LH.x_isE (fun _ e => e) T.i_NotWritten ?_
    walk_at "rd"
    refine LH.x_isE (fun _ e => e) T.i_NoText ?_
    walk_at "rd"
    refine LH.newl (LH.small rfl) fun p5 H5 f5 e5 g5 => ?_
    refine LH.x_catS (SqL.of (e5 _ _ g4)) (SqL.of g5) (LH.small rfl) fun p6 H6 f6 e6 g6 => ?_
    walk_at "rd"
    refine LH.bm_l (SqL.of g6) ?_
    walk_at "rd"
    refine LH.x_cntV (SqL.of g6) rfl rfl ?_
    walk_at "rd"
    refine LH.br_eq (b' := false) (by decide) ?_
    walk_at "rd"
    refine LH.x_isE (fun _ e => e) T.i_ValueError ?_
    walk_at "rd"
    refine LH.bm_l (SqL.of g6) ?_
    walk_at "rd"
    refine LH.x_index (j := 0) (SqL.of g6) rfl rfl rfl rfl (fun m z h _ => absurd h (Nat.not_lt_zero _)) ?_
    refine LH.x_ixL (SqL.of (e6 _ _ (e5 _ _ (e4 _ _ (e3 _ _ (e2 _ _ g1)))))) rfl ?_
    walk_at "rd"
    refine LH.newt (LH.small rfl) fun p7 H7 f7 e7 g7 => ?_
    exact k _ _ ((((((e1.trans e2).trans e3).trans e4).trans e5).trans e6).trans e7) g7
end
end K2
namespace K2
open PySem L2
local macro_rules | `(tactic| walk_at "rd1") => `(tactic| first
  | with_reducible refine LH.x_seq ?_
  | with_reducible refine LH.x_asg ?_
  | with_reducible refine LH.x_cons ?_
  | with_reducible refine LH.x_var (by with_unfolding_all exact rfl) ?_
  | with_reducible refine LH.x_c ?_
  | with_reducible refine LH.x_op ?_
  | with_reducible refine LH.x_gname ?_
  | with_reducible refine LH.x_nil ?_
  | with_reducible refine LH.x_I0 ?_
  | ((with_reducible refine LH.x_I ?k1 ?_); (case k1 => first | exact (by decide) | exact ⟨by decide, by decide⟩ | exact ⟨by decide, by decide, by decide⟩ | exact .inl ⟨by decide, by decide⟩ | exact .inr ⟨by decide, by decide⟩ | exact .inr ⟨by omega, by omega⟩ | exact .inl ⟨by omega, by omega⟩ | exact (by omega)))
  | with_reducible refine LH.x_ifS ?_
  | with_reducible refine LH.x_test ?_
  | with_reducible refine LH.x_tB ?_
  | with_reducible refine LH.bx ?_
  | with_reducible refine LH.x_and ?_
  | with_reducible refine LH.x_or ?_
  | with_reducible refine LH.x_not ?_
  | with_reducible refine LH.x_ret ?_
  | with_reducible refine LH.x_call ?_
  | with_reducible refine LH.x_cb ?_
  | with_reducible refine LH.x_lst ?_
  | with_reducible refine LH.x_tup ?_
  | with_reducible refine LH.x_bm ?_
  | with_reducible refine LH.x_drop ?_
  | with_reducible refine LH.x_next ?_
  | with_reducible refine LH.x_cont ?_
  | with_reducible refine LH.x_un ?_
  | with_reducible refine LH.x_U ?_
  | with_reducible refine LH.x_eq (by with_unfolding_all exact rfl) ?_
  | with_reducible refine LH.x_ne (by with_unfolding_all exact rfl) ?_
  | with_reducible refine LH.x_andV ?_
  | with_reducible refine LH.x_orV ?_
  | with_reducible refine LH.x_notV ?_
  | with_reducible refine LH.band ?_
  | with_reducible refine LH.bor ?_
  | with_reducible refine LH.x_if ?_
  | with_reducible refine LH.x_chain ?_
  | with_reducible refine LH.chk ?_
  | with_reducible refine LH.x_callS ?_
  | with_reducible refine LH.x_callE ?_
  | with_reducible refine LH.x_callV ?_
  | with_reducible refine LH.x_lrg ?_
  | with_reducible refine LH.x_lcS ?_
  | with_reducible refine LH.x_lcR1 ?_
  | with_reducible refine LH.x_forR1 ?_
  | with_reducible refine LH.x_forR3 ?_
  | with_reducible refine LH.strv ?_
  | with_reducible refine LH.x_yes ?_
  | with_reducible refine LH.x_sl ?_
  | with_reducible refine LH.x_noPart ?_
  | with_reducible refine LH.x_part ?_
  | with_reducible refine LH.pav ?_
  | with_reducible refine LH.x_jnv ?_
  | with_reducible refine LH.x_join ?_
  | with_reducible refine LH.x_inS ?_
  | with_reducible refine LH.x_niS ?_
  | with_reducible refine LH.x_isB ?_
  | with_reducible refine LH.x_isnB ?_
  | with_reducible refine LH.x_gcons ?_
  | with_reducible refine LH.x_gnil ?_
  | with_reducible refine LH.x_intB ?_
  | with_reducible refine LH.x_orT ?_
  | with_reducible refine LH.x_isTy ?_
  | with_reducible refine LH.x_niTy ?_
  | with_reducible refine LH.x_split ?_
  | with_reducible refine LH.x_spv ?_
  | with_reducible refine LH.x_gsub ?_
  | with_reducible refine LH.x_fmt ?_
  | with_reducible refine LH.x_js0 ?_
  | with_reducible refine LH.x_js ?_
  | with_reducible refine LH.x_rg1 ?_
  | with_reducible refine LH.x_forL ?_
  | with_reducible refine LH.x_abs ?_
  | with_reducible refine LH.x_rg2 ?_
  | with_reducible refine LH.rg1v ?_
  | with_reducible refine LH.rg2v ?_
  | with_reducible refine LH.x_forR2 ?_
  | with_reducible refine LH.x_lenSetG ?_
  | with_reducible refine LH.x_lc ?_
  | with_reducible refine LH.br_nt ?_
  | with_reducible refine LH.br_nf ?_
  | with_reducible refine LH.br_t ?_
  | with_reducible refine LH.br_f ?_)
local macro_rules | `(tactic| walk_at "rd") => `(tactic| repeat (walk_at "rd1"))

section
variable {P : Program} {w : World} {K : PySem.W.Frag} {mg : Str → Option Value} {base : Heap} {a : Ad}
def spLWord (K : PySem.W.Frag) : Sp := fun vs H Q _ => ∃ cell c b : Int, vs = [.int cell, .int c, .int b] ∧ 1 ≤ c ∧
  ∀ p H' k n z h, Same H H' → SqT K H' p (wd k n z h) → isRowS z = true → isWordL c (wd k n z h) = true → Ok k → 0 ≤ n → n ≤ 9999 → Q (.ref p) H'
theorem word_yes {c n h : Int} {k z : Str} (n0 : 0 ≤ n) (n1 : n ≤ 9999) (h0 : 0 ≤ h) (h1 : h ≤ c - 1) (hz : isRowS z = true) (hk : isKind c (.str k) n h = true) : isWordL c (wd k n z h) = true := by
  show (isW (.int n) 0 9999 && (isW (.int h) 0 (c - 1) && (isRowS z && isKind c (.str k) n h))) = true
  rw [isW_yes n0 n1, isW_yes h0 h1, hz, hk]
  rfl
theorem ok__law_word (T : Txt K mg a) : FnOk P w K mg base CX0 2 a._law_word a.d__law_word ["_law_cell", "_law_count", "_law_base"] (spLWord K) := by
  have G__law_row := ok__law_row (P := P) (w := w) (base := base) T
  refine T.F__law_word.ok sc__law_word (fun vs H Q E h => ?_) (fun cdv A outer s H vs Q E hr h => ?_)
  · obtain ⟨x, t, y, rfl, _⟩ := h
    rfl
  · obtain ⟨x, c, b, rfl, c1, k⟩ := h
    have HR__law_row : Room 1 _ := hr.mono (by decide)
    refine ⟨_, (pss_cons (ps_set (i := 3) sc__law_word.nd rfl (Or.inl rfl) (pe_ix (r := rIxL K) ix_list (pe_lst (pa_cons (pe_op op_mod (pe_op op_fdiv (pv 0) pe_int) pe_int) (pa_cons (pe_op op_sub pe_int (pe_op op_mod (pe_op op_fdiv (pv 0) pe_int) pe_int)) pa_nil))) (pe_op op_mod (pe_op op_fdiv (pv 0) pe_int) pe_int) (fun _ _ => rfl)))
  (pss_cons (ps_set (i := 4) sc__law_word.nd rfl (Or.inl rfl) (pe_call G__law_row HR__law_row rfl T.g__law_row T.F__law_row.kp T.b__law_row .nil pass0 (pa_cons (pv 2) (pa_cons (pe_op op_mod (pe_op op_fdiv (pv 0) pe_int) pe_int) pa_nil))))
  (pss_cons (ps_if (pt_cmpR op_eq (pe_op op_mod (pv 0) pe_int) pe_int (nomark _))
    (pss_one (ps_ret (pe_tup (pa_cons pe_str (pa_cons (pv 3) (pa_cons (pv 4) (pa_cons (pe_op op_modN (pv 3) (pv 1)) pa_nil)))))))
    pss_nil)
  (pss_one (ps_ret (pe_tup (pa_cons pe_str (pa_cons (pv 3) (pa_cons (pv 4) (pa_cons (pe_op op_modN (pe_op op_fdiv (pv 0) pe_int) (pv 1)) pa_nil)))))))))), ?_⟩
    walk_at "rd"
    refine LH.newl (LH.small rfl) fun p1 H1 f1 e1 g1 => ?_
    walk_at "rd"
    obtain ⟨n, hn, n0, n1⟩ : ∃ n, atI [V.int (x / 2 % 30), .int (9999 - x / 2 % 30)] (x / 60 % 2) = some (.int n) ∧ 0 ≤ n ∧ n ≤ 9999 := by
      have h : x / 60 % 2 = 0 ∨ x / 60 % 2 = 1 := by omega
      rcases h with h | h <;> rw [h]
      · exact ⟨_, rfl, by omega, by omega⟩
      · exact ⟨_, rfl, by omega, by omega⟩
    refine LH.x_ixL (SqL.of g1) hn ?_
    walk_at "rd"
    refine ⟨_, _, rfl, fun z H2 hz e2 => ?_⟩
    walk_at "rd"
    refine LH.br_d (fun _ => ?_) (fun _ => ?_)
    · walk_at "rd"
      rw [fmod_pos c1]
      refine LH.newt (LH.small rfl) fun p3 H3 f3 e3 g3 => ?_
      refine k p3 H3 "say" n z (n % c) ((e1.trans e2).trans e3) (SqT.of g3) hz ?_ ⟨by decide +kernel, by decide +kernel⟩ n0 n1
      have h1 := Int.emod_nonneg n (show c ≠ 0 by omega)
      have h2 := Int.emod_lt_of_pos n (show 0 < c by omega)
      exact word_yes n0 n1 h1 (by omega) hz (by
        show (if ("say" : Str) = "say" then decide (n % c = n % c) else decide (("say" : Str) = "mark")) = true
        rw [if_pos rfl]
        exact decide_eq_true rfl)
    · walk_at "rd"
      rw [fmod_pos c1]
      refine LH.newt (LH.small rfl) fun p3 H3 f3 e3 g3 => ?_
      refine k p3 H3 "mark" n z (x / 480 % c) ((e1.trans e2).trans e3) (SqT.of g3) hz ?_ ⟨by decide +kernel, by decide +kernel⟩ n0 n1
      have h1 := Int.emod_nonneg (x / 480) (show c ≠ 0 by omega)
      have h2 := Int.emod_lt_of_pos (x / 480) (show 0 < c by omega)
      exact word_yes n0 n1 h1 (by omega) hz rfl
/-- what the law hands in as another word -/
def Ot (K : PySem.W.Frag) (H : Hp) (x : V) : Prop := (∃ p xs, x = .ref p ∧ (SqT K H p xs ∨ SqL K H p xs) ∧ xs.length ≤ 100 ∧ ∀ y ∈ xs, Gd K H y) ∨ x = .non
theorem Ot.up {H H' : Hp} {x : V} (e : Same H H') (o : Ot K H x) : Ot K H' x := by
  rcases o with ⟨p, xs, rfl, h, hl, hy⟩ | rfl
  · exact .inl ⟨p, xs, rfl, h.imp (LH.Same.seqT e) (Same.seq e), hl, fun y m => (hy y m).up e⟩
  · exact .inr rfl
theorem Ot.wd {H : Hp} {x : V} (o : Ot K H x) (c : Int) : ∃ b, Wd K H c x b := by
  rcases o with ⟨p, xs, rfl, h | h, hl, hy⟩ | rfl
  · exact ⟨_, .inl ⟨p, xs, rfl, h, by omega, hy, rfl⟩⟩
  · exact ⟨_, .inr ⟨_, .lst h, by decide, rfl⟩⟩
  · exact ⟨_, .inr ⟨_, .non, by decide, rfl⟩⟩
def spLOther (K : PySem.W.Frag) : Sp := fun vs H Q _ => ∃ p xs, ∃ cell c : Int, vs = [.ref p, .int cell, .int c] ∧ SqT K H p xs ∧ xs.length ≤ 20 ∧ (∀ y ∈ xs, Gd K H y) ∧ ∀ x H', Same H H' → Ot K H' x → Q x H'
theorem cut_mem {xs : List V} {lo hi : Option Int} {y : V} (h : y ∈ cutV xs lo hi) : y ∈ xs := List.mem_of_mem_drop (List.mem_of_mem_take h)
theorem sixteen {l : List V} (hl : l.length = 16) {i : Int} : ∃ v, atI l (i % 16) = some v ∧ v ∈ l := by
  obtain ⟨j, x, h1, h2⟩ := at_mod hl (by decide) i
  refine ⟨x, ?_, List.mem_of_getElem? h1⟩
  rw [Int.fmod_eq_emod_of_nonneg _ (by decide)] at h2
  exact h2
theorem ix16 {p : Addr} {H : Hp} {xs : List V} {i : Int} {Q : VK} (h : SqL K H p xs) (hl : xs.length = 16) (k : ∀ v, v ∈ xs → Q v H) : rIxL K (.ref p) (.int (i % 16)) H Q :=
  let ⟨v, hv, m⟩ := sixteen hl (i := i)
  LH.x_ixL h hv (k v m)
theorem ok__law_other (T : Txt K mg a) : FnOk P w K mg base CX0 2 a._law_other a.d__law_other ["_law_word_here", "_law_cell", "_law_count"] (spLOther K) := by
  have G__law_sign := ok__law_sign (P := P) (w := w) (base := base) T
  refine T.F__law_other.ok sc__law_other (fun vs H Q E h => ?_) (fun cdv A outer s H vs Q E hr h => ?_)
  · obtain ⟨x, t, y, z, rfl, _⟩ := h
    rfl
  · obtain ⟨p, xs, x, c, rfl, hp, hl, hy, k⟩ := h
    have HR__law_sign : Room 1 _ := hr.mono (by decide)
    refine ⟨_, (pss_cons (ps_set (i := 3) sc__law_other.nd rfl (Or.inl rfl) (pe_op op_mod (pe_op op_fdiv (pv 1) pe_int) pe_int))
  (pss_cons (ps_set (i := 4) sc__law_other.nd rfl (Or.inl rfl) (pe_op LH.op_addS (pe_op LH.op_addS pe_str (pe_call G__law_sign HR__law_sign rfl T.g__law_sign T.F__law_sign.kp T.b__law_sign .nil pass0 (pa_cons (pe_op op_fdiv (pv 1) pe_int) pa_nil))) pe_str))
  (pss_cons (ps_set (i := 5) sc__law_other.nd rfl (Or.inl rfl) (pe_lst (pa_cons (pe_un un_neg pe_int) (pa_cons pe_int (pa_cons (pv 2) (pa_cons pe_bl (pa_cons pe_bl (pa_cons pe_non (pa_cons (pe_lst (pa_cons pe_int pa_nil)) (pa_cons pe_dnewK (pa_cons pe_str (pa_cons pe_str (pa_cons (pv 4) (pa_cons pe_str (pa_cons pe_str (pa_cons pe_str (pa_cons pe_int (pa_cons (pe_tup (pa_cons pe_str pa_nil)) pa_nil))))))))))))))))))
  (pss_cons (ps_if (pt_cmpR op_lt (pe_op op_mod (pv 1) pe_int) pe_int (nomark _))
    (pss_one (ps_ret (pe_op (r := rCatA K) op_catA (pe_op (r := rCatA K) op_catA (pe_slice sl_tupA (pv 0) po_none (po_some (pv 3))) (pe_tup (pa_cons (pe_ix (r := rIxL K) ix_list (pv 5) (pe_op op_mod (pe_op op_fdiv (pv 1) pe_int) pe_int) (fun _ _ => rfl)) pa_nil))) (pe_slice sl_tupA (pv 0) (po_some (pe_op op_add (pv 3) pe_int)) po_none))))
    pss_nil)
  (pss_cons (ps_if (pt_cmpR op_eq (pe_op op_mod (pv 1) pe_int) pe_int (nomark _))
    (pss_one (ps_ret (pe_ix (r := rIxL K) ix_list (pe_lst (pa_cons (pe_slice sl_tupA (pv 0) po_none (po_some pe_int)) (pa_cons (pe_op (r := rCatA K) op_catA (pv 0) (pe_tup (pa_cons pe_int pa_nil))) (pa_cons (pe_callTy (r := LH.rListOf K) LH.call_listOf rfl T.n_list (by decide +kernel) (pa_cons (pv 0) pa_nil)) (pa_cons pe_non pa_nil))))) (pe_op op_mod (pe_op op_fdiv (pv 1) pe_int) pe_int) (fun _ _ => rfl))))
    pss_nil)
  (pss_one (ps_ret (pv 0)))))))), ?_⟩
    walk_at "rd"
    refine ⟨_, rfl, fun d hd => ?_⟩
    refine LH.x_addS (by show 2 + 1 ≤ 100000; decide) ?_
    walk_at "rd"
    refine LH.x_addS (by show 3 + 1 ≤ 100000; decide) ?_
    walk_at "rd"
    refine LH.newl (LH.small rfl) fun p1 H1 f1 e1 g1 => ?_
    walk_at "rd"
    refine LH.x_dnew fun p2 H2 f2 e2 g2 => ?_
    walk_at "rd"
    refine LH.newt (LH.small rfl) fun p3 H3 f3 e3 g3 => ?_
    walk_at "rd"
    refine LH.newl (LH.small rfl) fun p4 H4 f4 e4 g4 => ?_
    walk_at "rd"
    have e14 := ((e1.trans e2).trans e3).trans e4
    have hp4 := LH.Same.seqT e14 hp
    have hy4 : ∀ y ∈ xs, Gd K H4 y := fun y m => (hy y m).up e14
    refine LH.br_d (fun _ => ?_) (fun _ => ?_)
    · walk_at "rd"
      refine LH.x_slA hp4 fun q5 H5 e5 g5 => ?_
      walk_at "rd"
      refine ix16 (SqL.of (e5 _ _ g4)) rfl fun v mv => ?_
      walk_at "rd"
      refine LH.newt (LH.small rfl) fun q6 H6 f6 e6 g6 => ?_
      refine LH.x_catA (LH.Same.seqT e6 g5) (SqT.of g6) ?_ fun q7 H7 e7 g7 => ?_
      · have := cutV_length xs none (some (x / 8 % 4))
        show _ + 1 ≤ 100000
        omega
      walk_at "rd"
      refine LH.x_slA (LH.Same.seqT ((e5.trans e6).trans e7) hp4) fun q8 H8 e8 g8 => ?_
      have l1 := cutV_length xs none (some (x / 8 % 4))
      have l2 := cutV_length xs (some (x / 8 % 4 + 1)) none
      refine LH.x_catA (LH.Same.seqT e8 g7) g8 (by rw [List.length_append]; show _ + 1 + _ ≤ 100000; omega) fun q9 H9 e9 g9 => ?_
      have e49 := (((e5.trans e6).trans e7).trans e8).trans e9
      refine k _ _ (e14.trans e49) (.inl ⟨_, _, rfl, .inl g9, by rw [List.length_append, List.length_append]; show _ + 1 + _ ≤ 100; omega, fun y m => ?_⟩)
      rcases List.mem_append.mp m with m | m
      · rcases List.mem_append.mp m with m | m
        · exact (hy4 y (cut_mem m)).up e49
        · rw [List.mem_singleton] at m
          subst m
          refine Gd.up e49 ?_
          have g3' : H4 p3 = _ := e4 _ _ g3
          have g2' : H4 p2 = _ := e4 _ _ (e3 _ _ g2)
          have g1' : H4 p1 = _ := e4 _ _ (e3 _ _ (e2 _ _ g1))
          have ok3 : Ok ((Str.ofString "ab" ++ ⟨#[d]⟩ : Str) ++ Str.ofString "c") := ⟨by show 4 ≤ 100000; decide, by
            show (((#[97, 98] ++ #[d] : Array Nat) ++ #[99]).all (· < 0x110000)) = true
            simp
            omega⟩
          simp only [List.mem_cons, List.not_mem_nil, or_false] at mv
          rcases mv with rfl | rfl | rfl | rfl | rfl | rfl | rfl | rfl | rfl | rfl | rfl | rfl | rfl | rfl | rfl | rfl
          · exact gd_int _
          · exact gd_int _
          · exact gd_int _
          · exact gd_bl _
          · exact gd_bl _
          · exact gd_non
          · exact gd_lst (SqL.of g1')
          · exact gd_dK g2'
          · exact gd_str ⟨by decide +kernel, by decide +kernel⟩
          · exact gd_str ⟨by decide +kernel, by decide +kernel⟩
          · exact gd_str ok3
          · exact gd_str ⟨by decide +kernel, by decide +kernel⟩
          · exact gd_str ⟨by decide +kernel, by decide +kernel⟩
          · exact gd_str ⟨by decide +kernel, by decide +kernel⟩
          · exact gd_int _
          · exact gd_tup (SqT.of g3')
      · exact (hy4 y (cut_mem m)).up e49
    · walk_at "rd"
      refine LH.br_d (fun _ => ?_) (fun _ => ?_)
      · walk_at "rd"
        refine LH.x_slA hp4 fun q5 H5 e5 g5 => ?_
        walk_at "rd"
        refine LH.newt (LH.small rfl) fun q6 H6 f6 e6 g6 => ?_
        refine LH.x_catA (LH.Same.seqT (e5.trans e6) hp4) (SqT.of g6) (by show _ + 1 ≤ 100000; omega) fun q7 H7 e7 g7 => ?_
        walk_at "rd"
        refine LH.x_listOf (.inr (LH.Same.seqT ((e5.trans e6).trans e7) hp4)) fun q8 H8 f8 e8 g8 => ?_
        walk_at "rd"
        refine LH.newl (LH.small rfl) fun q9 H9 f9 e9 g9 => ?_
        walk_at "rd"
        have e49 := (((e5.trans e6).trans e7).trans e8).trans e9
        have h : x / 32 % 4 = 0 ∨ x / 32 % 4 = 1 ∨ x / 32 % 4 = 2 ∨ x / 32 % 4 = 3 := by omega
        have l1 := cutV_length xs none (some 3)
        have hy9 : ∀ y ∈ xs, Gd K H9 y := fun y m => (hy4 y m).up e49
        rcases h with h | h | h | h <;> rw [h]
        · refine LH.x_ixL (SqL.of g9) rfl ?_
          exact k _ _ (e14.trans e49) (.inl ⟨_, _, rfl, .inl (LH.Same.seqT (((e6.trans e7).trans e8).trans e9) g5), by omega, fun y m => hy9 y (cut_mem m)⟩)
        · refine LH.x_ixL (SqL.of g9) rfl ?_
          refine k _ _ (e14.trans e49) (.inl ⟨_, _, rfl, .inl (LH.Same.seqT (e8.trans e9) g7), by rw [List.length_append]; show _ + 1 ≤ 100; omega, fun y m => ?_⟩)
          rcases List.mem_append.mp m with m | m
          · exact hy9 y m
          · rw [List.mem_singleton] at m
            subst m
            exact gd_int _
        · refine LH.x_ixL (SqL.of g9) rfl ?_
          exact k _ _ (e14.trans e49) (.inl ⟨_, _, rfl, .inr (SqL.of (e9 _ _ g8)), by omega, hy9⟩)
        · refine LH.x_ixL (SqL.of g9) rfl ?_
          exact k _ _ (e14.trans e49) (.inr rfl)
      · walk_at "rd"
        exact k _ _ e14 (.inl ⟨_, _, rfl, .inl hp4, by omega, hy4⟩)
end
end K2
namespace K2
open PySem L2
local macro_rules | `(tactic| walk_at "rd1") => `(tactic| first
  | with_reducible refine LH.x_seq ?_
  | with_reducible refine LH.x_asg ?_
  | with_reducible refine LH.x_cons ?_
  | with_reducible refine LH.x_var (by with_unfolding_all exact rfl) ?_
  | with_reducible refine LH.x_c ?_
  | with_reducible refine LH.x_op ?_
  | with_reducible refine LH.x_gname ?_
  | with_reducible refine LH.x_nil ?_
  | with_reducible refine LH.x_I0 ?_
  | ((with_reducible refine LH.x_I ?k1 ?_); (case k1 => first | exact (by decide) | exact ⟨by decide, by decide⟩ | exact ⟨by decide, by decide, by decide⟩ | exact .inl ⟨by decide, by decide⟩ | exact .inr ⟨by decide, by decide⟩ | exact .inr ⟨by omega, by omega⟩ | exact .inl ⟨by omega, by omega⟩ | exact (by omega)))
  | with_reducible refine LH.x_ifS ?_
  | with_reducible refine LH.x_test ?_
  | with_reducible refine LH.x_tB ?_
  | with_reducible refine LH.bx ?_
  | with_reducible refine LH.x_and ?_
  | with_reducible refine LH.x_or ?_
  | with_reducible refine LH.x_not ?_
  | with_reducible refine LH.x_ret ?_
  | with_reducible refine LH.x_call ?_
  | with_reducible refine LH.x_cb ?_
  | with_reducible refine LH.x_lst ?_
  | with_reducible refine LH.x_tup ?_
  | with_reducible refine LH.x_bm ?_
  | with_reducible refine LH.x_drop ?_
  | with_reducible refine LH.x_next ?_
  | with_reducible refine LH.x_cont ?_
  | with_reducible refine LH.x_un ?_
  | with_reducible refine LH.x_U ?_
  | with_reducible refine LH.x_eq (by with_unfolding_all exact rfl) ?_
  | with_reducible refine LH.x_ne (by with_unfolding_all exact rfl) ?_
  | with_reducible refine LH.x_andV ?_
  | with_reducible refine LH.x_orV ?_
  | with_reducible refine LH.x_notV ?_
  | with_reducible refine LH.band ?_
  | with_reducible refine LH.bor ?_
  | with_reducible refine LH.x_if ?_
  | with_reducible refine LH.x_chain ?_
  | with_reducible refine LH.chk ?_
  | with_reducible refine LH.x_callS ?_
  | with_reducible refine LH.x_callE ?_
  | with_reducible refine LH.x_callV ?_
  | with_reducible refine LH.x_lrg ?_
  | with_reducible refine LH.x_lcS ?_
  | with_reducible refine LH.x_lcR1 ?_
  | with_reducible refine LH.x_forR1 ?_
  | with_reducible refine LH.x_forR3 ?_
  | with_reducible refine LH.strv ?_
  | with_reducible refine LH.x_yes ?_
  | with_reducible refine LH.x_sl ?_
  | with_reducible refine LH.x_noPart ?_
  | with_reducible refine LH.x_part ?_
  | with_reducible refine LH.pav ?_
  | with_reducible refine LH.x_jnv ?_
  | with_reducible refine LH.x_join ?_
  | with_reducible refine LH.x_inS ?_
  | with_reducible refine LH.x_niS ?_
  | with_reducible refine LH.x_isB ?_
  | with_reducible refine LH.x_isnB ?_
  | with_reducible refine LH.x_gcons ?_
  | with_reducible refine LH.x_gnil ?_
  | with_reducible refine LH.x_intB ?_
  | with_reducible refine LH.x_orT ?_
  | with_reducible refine LH.x_isTy ?_
  | with_reducible refine LH.x_niTy ?_
  | with_reducible refine LH.x_split ?_
  | with_reducible refine LH.x_spv ?_
  | with_reducible refine LH.x_gsub ?_
  | with_reducible refine LH.x_fmt ?_
  | with_reducible refine LH.x_js0 ?_
  | with_reducible refine LH.x_js ?_
  | with_reducible refine LH.x_rg1 ?_
  | with_reducible refine LH.x_forL ?_
  | with_reducible refine LH.x_abs ?_
  | with_reducible refine LH.x_rg2 ?_
  | with_reducible refine LH.rg1v ?_
  | with_reducible refine LH.rg2v ?_
  | with_reducible refine LH.x_forR2 ?_
  | with_reducible refine LH.x_lenSetG ?_
  | with_reducible refine LH.x_lc ?_
  | with_reducible refine LH.br_nt ?_
  | with_reducible refine LH.br_nf ?_
  | with_reducible refine LH.br_t ?_
  | with_reducible refine LH.br_f ?_)
local macro_rules | `(tactic| walk_at "rd") => `(tactic| repeat (walk_at "rd1"))

section
variable {P : Program} {w : World} {K : PySem.W.Frag} {mg : Str → Option Value} {base : Heap} {a : Ad}
/-- a tuple of the shape of a word -/
def Wo (K : PySem.W.Frag) (H : Hp) (x : V) : Prop := ∃ p k n r h, x = .ref p ∧ SqT K H p (wd k n r h) ∧ Ok k
theorem Wo.up {H H' : Hp} {x : V} (e : Same H H') (o : Wo K H x) : Wo K H' x := let ⟨p, k, n, r, h, e1, h1, ok⟩ := o; ⟨p, k, n, r, h, e1, LH.Same.seqT e h1, ok⟩
def spLSecond (K : PySem.W.Frag) : Sp := fun vs H Q _ => ∃ (p : Addr) (k : Str) (n : Int) (r : Str) (h c : Int) (z : Str), vs = [.ref p, .int c, .str z] ∧ SqT K H p (wd k n r h) ∧ Ok k ∧ 1 ≤ c ∧ c ≤ 12 ∧
  ∀ (q : Addr) (H' : Hp) (xs : List V), Same H H' → SqL K H' q xs → xs.length = 6 → (∀ x ∈ xs, Wo K H' x) → Q (.ref q) H'
theorem ok__law_second (T : Txt K mg a) : FnOk P w K mg base CX0 1 a._law_second a.d__law_second ["_law_word_here", "_law_count", "_law_row_here"] (spLSecond K) := by
  refine T.F__law_second.ok sc__law_second (fun vs H Q E h => ?_) (fun cdv A outer s H vs Q E hr h => ?_)
  · obtain ⟨x, t, y, z, o, q, u, rfl, _⟩ := h
    rfl
  · obtain ⟨p, kd, n, r, h, c, z, rfl, hp, okk, c1, c2, k⟩ := h
    refine ⟨_, (pss_cons (ps_set (i := 3) sc__law_second.nd rfl (Or.inl rfl) (pe_op op_add (pe_ix (r := rIxT K) ix_tup (pv 0) pe_int (fun _ _ => rfl)) (pe_op op_mul (pv 1) (pe_op op_sub pe_int (pe_op op_mul pe_int (pe_callTy LH.call_intB rfl T.n_int (by decide +kernel) (pa_cons (pe_cmpR op_gt (pe_ix (r := rIxT K) ix_tup (pv 0) pe_int (fun _ _ => rfl)) pe_int (nomark _)) pa_nil)))))))
  (pss_cons (ps_set (i := 4) sc__law_second.nd rfl (Or.inl rfl) (pe_lst (pa_cons (pv 0) (pa_cons (pe_tup (pa_cons pe_str (pa_cons (pe_ix (r := rIxT K) ix_tup (pv 0) pe_int (fun _ _ => rfl)) (pa_cons (pv 2) (pa_cons (pe_ix (r := rIxT K) ix_tup (pv 0) pe_int (fun _ _ => rfl)) pa_nil))))) (pa_cons (pe_tup (pa_cons pe_str (pa_cons (pe_ix (r := rIxT K) ix_tup (pv 0) pe_int (fun _ _ => rfl)) (pa_cons (pv 2) (pa_cons (pe_op op_modN (pe_ix (r := rIxT K) ix_tup (pv 0) pe_int (fun _ _ => rfl)) (pv 1)) pa_nil))))) pa_nil)))))
  (pss_cons (ps_set (i := 4) sc__law_second.nd rfl (Or.inl rfl) (pe_op (r := LH.rCatS K) LH.op_catS (pv 4) (pe_lst (pa_cons (pe_tup (pa_cons (pe_ix (r := rIxT K) ix_tup (pv 0) pe_int (fun _ _ => rfl)) (pa_cons (pv 3) (pa_cons (pv 2) (pa_cons (pe_ix (r := rIxT K) ix_tup (pv 0) pe_int (fun _ _ => rfl)) pa_nil))))) (pa_cons (pe_tup (pa_cons pe_str (pa_cons (pe_ix (r := rIxT K) ix_tup (pv 0) pe_int (fun _ _ => rfl)) (pa_cons (pv 2) (pa_cons (pe_op op_modN (pe_op op_add (pe_ix (r := rIxT K) ix_tup (pv 0) pe_int (fun _ _ => rfl)) pe_int) (pv 1)) pa_nil))))) pa_nil)))))
  (pss_one (ps_ret (pe_op (r := LH.rCatS K) LH.op_catS (pv 4) (pe_lst (pa_cons (pe_tup (pa_cons (pe_ix (r := rIxT K) ix_tup (pv 0) pe_int (fun _ _ => rfl)) (pa_cons (pe_ix (r := rIxT K) ix_tup (pv 0) pe_int (fun _ _ => rfl)) (pa_cons (pv 2) (pa_cons (pe_ix (r := rIxT K) ix_tup (pv 0) pe_int (fun _ _ => rfl)) pa_nil))))) pa_nil)))))))), ?_⟩
    walk_at "rd"
    refine LH.x_ixT hp rfl ?_
    walk_at "rd"
    refine LH.x_ixT hp rfl ?_
    walk_at "rd"
    refine LH.x_ixT hp rfl ?_
    walk_at "rd"
    refine LH.x_ixT hp rfl ?_
    walk_at "rd"
    refine LH.newt (LH.small rfl) fun p1 H1 f1 e1 g1 => ?_
    walk_at "rd"
    have hp1 := LH.Same.seqT e1 hp
    refine LH.x_ixT hp1 rfl ?_
    walk_at "rd"
    refine LH.x_ixT hp1 rfl ?_
    walk_at "rd"
    rw [fmod_pos c1]
    refine LH.newt (LH.small rfl) fun p2 H2 f2 e2 g2 => ?_
    walk_at "rd"
    refine LH.newl (LH.small rfl) fun p3 H3 f3 e3 g3 => ?_
    walk_at "rd"
    have hp3 := LH.Same.seqT (e2.trans e3) hp1
    refine LH.x_ixT hp3 rfl ?_
    walk_at "rd"
    refine LH.x_ixT hp3 rfl ?_
    walk_at "rd"
    refine LH.newt (LH.small rfl) fun p4 H4 f4 e4 g4 => ?_
    walk_at "rd"
    have hp4 := LH.Same.seqT e4 hp3
    refine LH.x_ixT hp4 rfl ?_
    walk_at "rd"
    refine LH.x_ixT hp4 rfl ?_
    walk_at "rd"
    rw [fmod_pos c1]
    refine LH.newt (LH.small rfl) fun p5 H5 f5 e5 g5 => ?_
    walk_at "rd"
    refine LH.newl (LH.small rfl) fun p6 H6 f6 e6 g6 => ?_
    refine LH.x_catS (SqL.of (e6 _ _ (e5 _ _ (e4 _ _ g3)))) (SqL.of g6) (LH.small rfl) fun p7 H7 f7 e7 g7 => ?_
    walk_at "rd"
    have hp7 := LH.Same.seqT ((e5.trans e6).trans e7) hp4
    refine LH.x_ixT hp7 rfl ?_
    walk_at "rd"
    refine LH.x_ixT hp7 rfl ?_
    walk_at "rd"
    refine LH.x_ixT hp7 rfl ?_
    walk_at "rd"
    refine LH.newt (LH.small rfl) fun p8 H8 f8 e8 g8 => ?_
    walk_at "rd"
    refine LH.newl (LH.small rfl) fun p9 H9 f9 e9 g9 => ?_
    refine LH.x_catS (SqL.of (e9 _ _ (e8 _ _ g7))) (SqL.of g9) (LH.small rfl) fun q H' f' e' g' => ?_
    have e79 := ((e7.trans e8).trans e9).trans e'
    have e69 := e6.trans e79
    have e59 := e5.trans e69
    have e49 := e4.trans e59
    have e39 := e3.trans e49
    have e29 := e2.trans e39
    refine k q H' _ (e1.trans e29) (SqL.of g') rfl fun x m => ?_
    simp only [List.cons_append, List.nil_append, List.mem_cons, List.not_mem_nil, or_false] at m
    rcases m with rfl | rfl | rfl | rfl | rfl | rfl
    · exact ⟨_, _, _, _, _, rfl, LH.Same.seqT (e1.trans e29) hp, by first | exact okk | exact ⟨by decide +kernel, by decide +kernel⟩⟩
    · exact ⟨_, _, _, _, _, rfl, SqT.of (e29 _ _ g1), by first | exact okk | exact ⟨by decide +kernel, by decide +kernel⟩⟩
    · exact ⟨_, _, _, _, _, rfl, SqT.of (e39 _ _ g2), by first | exact okk | exact ⟨by decide +kernel, by decide +kernel⟩⟩
    · exact ⟨_, _, _, _, _, rfl, SqT.of (e59 _ _ g4), by first | exact okk | exact ⟨by decide +kernel, by decide +kernel⟩⟩
    · exact ⟨_, _, _, _, _, rfl, SqT.of (e69 _ _ g5), by first | exact okk | exact ⟨by decide +kernel, by decide +kernel⟩⟩
    · exact ⟨_, _, _, _, _, rfl, SqT.of ((e9.trans e') _ _ g8), by first | exact okk | exact ⟨by decide +kernel, by decide +kernel⟩⟩
def spLRefused (K : PySem.W.Frag) : Sp := fun vs H Q _ => ∃ x T, vs = [x] ∧ TyB K H x T ∧ isW x 1 12 = false ∧ ∀ H', Same H H' → Q (.bl true) H'
theorem ok__law_refused (T : Txt K mg a) : FnOk P w K mg base CX0 4 a._law_refused a.d__law_refused ["_law_count"] (spLRefused K) := by
  have G_is_word := ok_is_word (P := P) (w := w) (base := base) T
  have G__law_kind := ok__law_kind (P := P) (w := w) (base := base) T
  refine T.F__law_refused.ok sc__law_refused (fun vs H Q E h => ?_) (fun cdv A outer s H vs Q E hr h => ?_)
  · obtain ⟨x, t, rfl, _⟩ := h
    rfl
  · obtain ⟨x, t, rfl, ht, hx, k⟩ := h
    have HR_is_word : Room 3 _ := hr.mono (by decide)
    have HR__law_kind : Room 1 _ := hr.mono (by decide)
    let TB : WX → TS := fun W => tDrop (tCallS (spIsWord K a.BadCount) (WE W) (tCons (tVar 0) (tCons (tC .non) tNil)))
    let TSU : Addr → Value → Option Addr → TS := fun e cls d => tRet (tOp (rEqD K) (LH.tCallE (spKind a.BadCount "count") e cls d (tCons (tVar 1) tNil)) (tTup (tCons (tC (.str "count")) tNil)))
    refine ⟨_, (pss_cons (L2N.ps_try_as (i := 1) (Wout := fun _ _ _ _ => False) (tb := TB) (ts := TSU) rfl rfl sc__law_refused.nd rfl rfl ⟨rfl, by decide, .inl T.g_HouseError⟩ LH.takesN0
    (fun W pn xe tk _ => (by exact (pss_one (ps_expr (pe_callS G_is_word HR_is_word rfl T.g_is_word T.F_is_word.kp T.b_is_word (fun σ => L2N.passAt tk σ) (pa_cons (pv 0) (pa_cons pe_non pa_nil)))))))
    (fun e oe cls d pn hz hf => (by exact (pss_one (ps_ret (pe_cmpR (r := rEqD K) (op_eqD hr.units) (LH.pe_callE (p := (e, oe)) G__law_kind ⟨HR__law_kind.dp, HR__law_kind.un⟩ ⟨rfl, LH.ctx_of hz hf⟩ hz List.mem_cons_self rfl T.g__law_kind T.F__law_kind.kp T.b__law_kind (pa_cons (pv 1) pa_nil)) (pe_tup (pa_cons pe_str pa_nil)) (nomark _)))))))
  (pss_one (ps_ret pe_bl))), ?_⟩
    walk_at "rd"
    refine ⟨x, t, .non, rfl, ht, fun _ => ⟨true, T.e_BadCount, fun _ e he => ?_, fun q => nomatch q⟩, fun c e h1 h2 => ?_⟩
    · show tRet _ _ _ _
      walk_at "rd"
      refine ⟨rfl, rfl, rfl, fun H1 q e1 g1 => ?_⟩
      walk_at "rd"
      refine LH.newt (LH.small rfl) fun p2 H2 f2 e2 g2 => ?_
      refine LH.x_eqD (.tup (SqT.of (e2 _ _ g1)) (.cons (.str _) .nil)) (.tup (SqT.of g2) (.cons (.str _) .nil)) (by decide +kernel) (by decide +kernel) ?_
      have e : PyData.eqv (.tuple [.str "count"]) (.tuple [.str "count"]) = true := by decide +kernel
      rw [e]
      exact k _ (e1.trans e2)
    · subst e
      rw [isW_yes h1 h2] at hx
      cases hx
/-! ### the law -/
theorem rgc2 {n : Int} (h0 : 0 ≤ n) (h1 : n ≤ 100) : ∃ m, RgC 0 n 2 m ∧ m ≤ 100 := by
  have e : Builtin.Range.rangeSize 0 n 2 = ((n + 1) / 2) := by
    unfold Builtin.Range.rangeSize
    rw [if_pos (by decide)]
    split <;> omega
  refine ⟨((n + 1) / 2).toNat, ⟨by decide, by decide, ?_, by rw [e]; omega⟩, by omega⟩
  unfold Builtin.Range.small
  rw [e]
  simp only [Builtin.Range.rangeFitsLong, Bool.and_eq_true, Bool.or_eq_true, decide_eq_true_eq, beq_iff_eq]
  refine ⟨⟨⟨⟨?_, ?_⟩, ?_⟩, ?_⟩, .inr ?_⟩
  · omega
  · omega
  · omega
  · omega
  · rw [if_pos (by decide)]
    simp only [Bool.and_eq_true, decide_eq_true_eq]
    omega
theorem row_len {z : Str} (h : isRowS z = true) : z.length ≤ 8 := by
  unfold isRowS at h
  rw [Bool.and_eq_true, Bool.and_eq_true, decide_eq_true_eq, decide_eq_true_eq] at h
  exact h.2.1
theorem add_ok {z : Str} {d : Nat} (h : Ok z) (hl : z.length ≤ 8) (hd : d < 128) : Ok (z ++ ⟨#[d]⟩) := by
  refine ⟨?_, ?_⟩
  · show (z.cps ++ #[d]).size ≤ 100000
    have : z.cps.size ≤ 8 := hl
    simp
    omega
  · show (z.cps ++ #[d]).all (· < 0x110000) = true
    rw [Array.all_append, h.2]
    simp
    omega
def spLaw (K : PySem.W.Frag) : Sp := fun vs H Q _ => ∃ (q : Addr) (ns : List Int), vs = [.ref q] ∧ SqL K H q (ns.map V.int) ∧ ns.length ≤ 63 ∧ ∀ H', Q (.bl true) H'
theorem Wd.up {H H' : Hp} {c : Int} {x : V} {b : Bool} (e : Same H H') (o : Wd K H c x b) : Wd K H' c x b := by
  rcases o with ⟨p, xs, rfl, h, hl, hy, hb⟩ | ⟨t, h, ht, hb⟩
  · exact .inl ⟨p, xs, rfl, LH.Same.seqT e h, hl, fun y m => let ⟨s, t, h⟩ := hy y m; ⟨s, t, LH.Same.ty e h⟩, hb⟩
  · exact .inr ⟨t, LH.Same.ty e h, ht, hb⟩
/-- list(x or ()) -/
theorem orv_list {σ : L2.St} {H : Hp} {x : V} {Q : VK} (o : Ot K H x) (k : ∀ l H' ys, Same H H' → H' l = some (.lst ys) → ys.length ≤ 100 → (∀ y ∈ ys, Gd K H' y) → Q (.ref l) H') :
    LH.OrV K x H (fun x H1 => tNil σ H1 fun xs H2 => LH.rListOf K (x :: xs) H2 Q) (tTup tNil σ) := by
  have em : ∀ H1, Same H H1 → tTup tNil σ H1 (fun x H1 => tNil σ H1 fun xs H2 => LH.rListOf K (x :: xs) H2 Q) := fun H1 e1 => by
    walk_at "rd"
    refine LH.newt (LH.small rfl) fun p2 H2 f2 e2 g2 => ?_
    walk_at "rd"
    exact LH.x_listOf (.inr (SqT.of g2)) fun l H3 f3 e3 g3 => k l H3 [] ((e1.trans e2).trans e3) g3 (by decide) (fun y m => nomatch m)
  rcases o with ⟨p, xs, rfl, h, hl, hy⟩ | rfl
  · have go : tNil σ H fun ys H2 => LH.rListOf K (V.ref p :: ys) H2 Q := by
      walk_at "rd"
      exact LH.x_listOf h.symm fun l H3 f3 e3 g3 => k l H3 xs e3 g3 hl fun y m => (hy y m).up e3
    refine LH.orv (k := !xs.isEmpty) (by rcases h with h | h; exact .inr (.inl ⟨xs, h, rfl⟩); exact .inl ⟨xs, h, rfl⟩) ?_
    cases xs with
    | nil => exact LH.br_nt (em H (Same.refl _))
    | cons y ys => exact LH.br_nf go
  · exact LH.orv (k := false) rfl (LH.br_f (em H (Same.refl _)))
theorem ix6 {p : Addr} {H : Hp} {xs : List V} {i : Int} {Q : VK} (h : SqL K H p xs) (hl : xs.length = 6) (k : ∀ v, v ∈ xs → Q v H) : rIxL K (.ref p) (.int (i % 6)) H Q := by
  obtain ⟨j, x, h1, h2⟩ := at_mod hl (by decide) i
  rw [Int.fmod_eq_emod_of_nonneg _ (by decide)] at h2
  exact LH.x_ixL h h2 (k x (List.mem_of_getElem? h1))
def bAt (b0 b1 b2 b3 : Bool) : V → V
  | .int 0 => .bl b0
  | .int 1 => .bl b1
  | .int 2 => .bl b2
  | .int 3 => .bl b3
  | x => x
theorem in4 {x : V} (h : x ∈ LH.intsV 0 4) : x = .int 0 ∨ x = .int 1 ∨ x = .int 2 ∨ x = .int 3 := by
  have e : LH.intsV 0 4 = [.int 0, .int 1, .int 2, .int 3] := by decide
  rw [e] at h
  simpa using h
theorem bools_shaped (b0 b1 b2 b3 : Bool) : SeqAt.shaped (.list [.bool b0, .bool b1, .bool b2, .bool b3]) = true := by
  cases b0 <;> cases b1 <;> cases b2 <;> cases b3 <;> decide +kernel
theorem due_eq {k1 k2 r1 r2 : Str} {n1 n2 h1 h2 : Int} : PyData.eqv (.list [.bool (decide (k1 = k2)), .bool (decide (n1 = n2)), .bool (decide (r1 = r2)), .bool (decide (h1 = h2))]) (.list [.bool true, .bool true, .bool false, .bool true]) = unlike k1 n1 r1 h1 k2 n2 r2 h2 := by
  unfold unlike
  generalize decide (k1 = k2) = b0
  generalize decide (n1 = n2) = b1
  generalize decide (r1 = r2) = b2
  generalize decide (h1 = h2) = b3
  cases b0 <;> cases b1 <;> cases b2 <;> cases b3 <;> decide +kernel
theorem bad5 {H : Hp} {i : Int} : ∃ v t, atI [V.int 0, .int 13, .bl true, .non, .str "2"] (i % 5) = some v ∧ TyB K H v t ∧ isW v 1 12 = false := by
  have h : i % 5 = 0 ∨ i % 5 = 1 ∨ i % 5 = 2 ∨ i % 5 = 3 ∨ i % 5 = 4 := by omega
  rcases h with h | h | h | h | h <;> rw [h]
  · exact ⟨_, _, rfl, .int _, rfl⟩
  · exact ⟨_, _, rfl, .int _, rfl⟩
  · exact ⟨_, _, rfl, .bl _, rfl⟩
  · exact ⟨_, _, rfl, .non, rfl⟩
  · exact ⟨_, _, rfl, .str _, rfl⟩
theorem ok_law (T : Txt K mg a) : FnOk P w K mg base CX0 5 a.law a.d_law ["_law_script"] (spLaw K) := by
  have G__law_at := ok__law_at (P := P) (w := w) (base := base) T
  have G__law_word := ok__law_word (P := P) (w := w) (base := base) T
  have G_is_word := ok_is_word (P := P) (w := w) (base := base) T
  have G_is_row := ok_is_row (P := P) (w := w) (base := base) T
  have G__law_other := ok__law_other (P := P) (w := w) (base := base) T
  have G__law_is_word := ok__law_is_word (P := P) (w := w) (base := base) T
  have G__law_sign := ok__law_sign (P := P) (w := w) (base := base) T
  have G__law_is_row := ok__law_is_row (P := P) (w := w) (base := base) T
  have G_caller := ok_caller (P := P) (w := w) (base := base) T
  have G__law_whole := ok__law_whole (P := P) (w := w) (base := base) T
  have G__law_second := ok__law_second (P := P) (w := w) (base := base) T
  have G__law_row := ok__law_row (P := P) (w := w) (base := base) T
  have G_are_unlike := ok_are_unlike (P := P) (w := w) (base := base) T
  have G__law_refused := ok__law_refused (P := P) (w := w) (base := base) T
  refine T.F_law.ok sc_law (fun vs H Q E h => ?_) (fun cdv A outer s H vs Q E hr h => ?_)
  · obtain ⟨i, ns, rfl, _⟩ := h
    rfl
  · obtain ⟨q, ns, rfl, hS, hl, k⟩ := h
    have HR_is_row : Room 1 _ := hr.mono (by decide)
    have HR_caller : Room 1 _ := hr.mono (by decide)
    have HR_is_word : Room 3 _ := hr.mono (by decide)
    have HR_are_unlike : Room 2 _ := hr.mono (by decide)
    have HR__law_at : Room 1 _ := hr.mono (by decide)
    have HR__law_whole : Room 1 _ := hr.mono (by decide)
    have HR__law_sign : Room 1 _ := hr.mono (by decide)
    have HR__law_row : Room 1 _ := hr.mono (by decide)
    have HR__law_is_row : Room 1 _ := hr.mono (by decide)
    have HR__law_is_word : Room 2 _ := hr.mono (by decide)
    have HR__law_word : Room 2 _ := hr.mono (by decide)
    have HR__law_other : Room 2 _ := hr.mono (by decide)
    have HR__law_second : Room 1 _ := hr.mono (by decide)
    have HR__law_refused : Room 4 _ := hr.mono (by decide)
    refine ⟨_, (pss_cons (ps_for PassesOwn.never rfl (pi_range3 rfl T.n_range (pa_cons pe_int (pa_cons (pe_op op_add (pe_callB (r := LH.rLen K) LH.call_len rfl T.n_len (by decide +kernel) (pa_cons (pv 0) pa_nil)) pe_int) (pa_cons pe_int pa_nil)))) (pg_name (i := 1) sc_law.nd rfl (Or.inl rfl))
    (pss_cons (ps_set (i := 2) sc_law.nd rfl (Or.inl rfl) (pe_op op_add (pe_call G__law_at HR__law_at rfl T.g__law_at T.F__law_at.kp T.b__law_at .nil pass0 (pa_cons (pv 0) (pa_cons (pv 1) pa_nil))) (pv 1)))
    (pss_cons (ps_set (i := 3) sc_law.nd rfl (Or.inl rfl) (pe_call G__law_at HR__law_at rfl T.g__law_at T.F__law_at.kp T.b__law_at .nil pass0 (pa_cons (pv 0) (pa_cons (pe_op op_add (pv 1) pe_int) pa_nil))))
    (pss_cons (ps_set (i := 4) sc_law.nd rfl (Or.inl rfl) (pe_op op_add pe_int (pe_op op_mod (pv 3) pe_int)))
    (pss_cons (ps_set (i := 5) sc_law.nd rfl (Or.inl rfl) (pe_op op_mod (pe_op op_fdiv (pv 3) pe_int) pe_int))
    (pss_cons (ps_set (i := 6) sc_law.nd rfl (Or.inr rfl) (pe_call G__law_word HR__law_word rfl T.g__law_word T.F__law_word.kp T.b__law_word .nil pass0 (pa_cons (pv 2) (pa_cons (pv 4) (pa_cons (pv 5) pa_nil)))))
    (pss_cons (ps_if (PW.pt (pw_or (pt_cmpR LH.op_isnB (pe_call G_is_word HR_is_word rfl T.g_is_word T.F_is_word.kp T.b_is_word .nil LH.passN (pa_cons (pv 4) (pa_cons (pv 6) pa_nil))) pe_bl (nomark _)) (pw_or1 (pt_cmpR LH.op_isnB (pe_call G_is_row HR_is_row rfl T.g_is_row T.F_is_row.kp T.b_is_row .nil pass0 (pa_cons (pe_ix (r := rIxT K) ix_tup (pv 6) pe_int (fun _ _ => rfl)) pa_nil)) pe_bl (nomark _)))))
      (pss_one (ps_ret pe_bl))
      pss_nil)
    (pss_cons (ps_set (i := 7) sc_law.nd rfl (Or.inl rfl) (pe_call G__law_other HR__law_other rfl T.g__law_other T.F__law_other.kp T.b__law_other .nil pass0 (pa_cons (pv 6) (pa_cons (pe_op op_add (pe_op op_fdiv (pv 2) pe_int) (pv 3)) (pa_cons (pv 4) pa_nil)))))
    (pss_cons (ps_set (i := 8) sc_law.nd rfl (Or.inl rfl) (pe_call G_is_word HR_is_word rfl T.g_is_word T.F_is_word.kp T.b_is_word .nil LH.passN (pa_cons (pv 4) (pa_cons (pv 7) pa_nil))))
    (pss_cons (ps_if (PW.pt (pw_or (pt_not (pt_val (pe_callB (r := rIsi K) call_isi rfl T.n_isinstance (by decide +kernel) (pa_cons (pv 8) (pa_cons (pe_bltn (v := .ty "bool") rfl T.n_bool (by decide +kernel) rfl) pa_nil))))) (pw_or1 (pt_cmpR op_ne (pv 8) (pe_call G__law_is_word HR__law_is_word rfl T.g__law_is_word T.F__law_is_word.kp T.b__law_is_word .nil pass0 (pa_cons (pv 4) (pa_cons (pv 7) pa_nil))) (nomark _)))))
      (pss_one (ps_ret pe_bl))
      pss_nil)
    (pss_cons (ps_for PassesOwn.never rfl (pi_list (pe_op (r := LH.rCatS K) LH.op_catS (pe_lst (pa_cons (pe_op LH.op_addS (pe_ix (r := rIxT K) ix_tup (pv 6) pe_int (fun _ _ => rfl)) (pe_call G__law_sign HR__law_sign rfl T.g__law_sign T.F__law_sign.kp T.b__law_sign .nil pass0 (pa_cons (pv 2) pa_nil))) (pa_cons (pe_call G__law_sign HR__law_sign rfl T.g__law_sign T.F__law_sign.kp T.b__law_sign .nil pass0 (pa_cons (pv 3) pa_nil)) (pa_cons pe_str pa_nil)))) (pe_callTy (r := LH.rListOf K) LH.call_listOf rfl T.n_list (by decide +kernel) (pa_cons (pe_orT (pv 7) (pe_one (pe_tup pa_nil))) pa_nil)))) (pg_name (i := 9) sc_law.nd rfl (Or.inl rfl))
      (pss_cons (ps_set (i := 8) sc_law.nd rfl (Or.inl rfl) (pe_call G_is_row HR_is_row rfl T.g_is_row T.F_is_row.kp T.b_is_row .nil pass0 (pa_cons (pv 9) pa_nil)))
      (pss_one (ps_if (PW.pt (pw_or (pt_not (pt_val (pe_callB (r := rIsi K) call_isi rfl T.n_isinstance (by decide +kernel) (pa_cons (pv 8) (pa_cons (pe_bltn (v := .ty "bool") rfl T.n_bool (by decide +kernel) rfl) pa_nil))))) (pw_or1 (pt_cmpR op_ne (pv 8) (pe_call G__law_is_row HR__law_is_row rfl T.g__law_is_row T.F__law_is_row.kp T.b__law_is_row .nil pass0 (pa_cons (pv 9) pa_nil)) (nomark _)))))
        (pss_one (ps_ret pe_bl))
        pss_nil))))
    (pss_cons (ps_set (i := 8) sc_law.nd rfl (Or.inl rfl) (pe_call G_caller HR_caller rfl T.g_caller T.F_caller.kp T.b_caller .nil pass0 (pa_cons (pv 4) (pa_cons (pe_ix (r := rIxT K) ix_tup (pv 6) pe_int (fun _ _ => rfl)) pa_nil))))
    (pss_cons (ps_if (PW.pt (pw_or (pt_not (pt_val (pe_call G__law_whole HR__law_whole rfl T.g__law_whole T.F__law_whole.kp T.b__law_whole .nil pass0 (pa_cons (pv 8) pa_nil)))) (pw_or (pt_not (pt_chain op_le op_lt pe_int (pv 8) (pv 4))) (pw_or1 (pt_cmpR op_ne (pe_op op_modN (pe_op op_sub (pe_ix (r := rIxT K) ix_tup (pv 6) pe_int (fun _ _ => rfl)) (pv 8)) (pv 4)) pe_int (nomark _))))))
      (pss_one (ps_ret pe_bl))
      pss_nil)
    (pss_cons (ps_set (i := 10) sc_law.nd rfl (Or.inr rfl) (pe_ix (r := rIxL K) ix_list (pe_call G__law_second HR__law_second rfl T.g__law_second T.F__law_second.kp T.b__law_second .nil pass0 (pa_cons (pv 6) (pa_cons (pv 4) (pa_cons (pe_call G__law_row HR__law_row rfl T.g__law_row T.F__law_row.kp T.b__law_row .nil pass0 (pa_cons (pv 5) (pa_cons (pe_op op_add (pe_op op_mod (pe_op op_fdiv (pv 2) pe_int) pe_int) (pe_op op_mod (pe_op op_fdiv (pv 3) pe_int) pe_int)) pa_nil))) pa_nil)))) (pe_op op_mod (pe_op op_fdiv (pv 3) pe_int) pe_int) (fun _ _ => rfl)))
    (pss_cons (ps_set (i := 8) sc_law.nd rfl (Or.inl rfl) (pe_call G_are_unlike HR_are_unlike rfl T.g_are_unlike T.F_are_unlike.kp T.b_are_unlike .nil pass0 (pa_cons (pv 6) (pa_cons (pv 10) pa_nil))))
    (pss_cons (ps_set (i := 11) sc_law.nd rfl (Or.inl rfl) (pe_cmpR (r := rEqD K) (op_eqD hr.units) (pe_lc (own := [("_law_at_here", 12)]) (g := gName 12) (tt := tYes) rfl sc_law.nd (pi_range1 rfl T.n_range (pa_cons pe_int pa_nil)) (blkOk_by (N := N_law) (sc := defScope s_law) (by decide +kernel)) (fun _ _ _ _ _ => pg_name (i := 12) sc_law.nd rfl (Or.inl rfl)) (fun _ _ _ _ _ => pts_nil) (fun _ _ _ _ _ => (pe_cmpR op_eq (pe_ix (r := rIxT K) ix_tup (pv 6) (pv 12) (fun _ _ => rfl)) (pe_ix (r := rIxT K) ix_tup (pv 10) (pv 12) (fun _ _ => rfl)) (nomark _)))) (pe_lst (pa_cons pe_bl (pa_cons pe_bl (pa_cons pe_bl (pa_cons pe_bl pa_nil))))) (nomark _)))
    (pss_one (ps_if (PW.pt (pw_or (pt_not (pt_val (pe_callB (r := rIsi K) call_isi rfl T.n_isinstance (by decide +kernel) (pa_cons (pv 8) (pa_cons (pe_bltn (v := .ty "bool") rfl T.n_bool (by decide +kernel) rfl) pa_nil))))) (pw_or1 (pt_cmpR op_ne (pv 8) (pv 11) (nomark _)))))
      (pss_one (ps_ret pe_bl))
      pss_nil))))))))))))))))))
  (pss_one (ps_ret (pe_call G__law_refused HR__law_refused rfl T.g__law_refused T.F__law_refused.kp T.b__law_refused .nil pass0 (pa_cons (pe_ix (r := rIxL K) ix_list (pe_lst (pa_cons pe_int (pa_cons pe_int (pa_cons pe_bl (pa_cons pe_non (pa_cons pe_str pa_nil)))))) (pe_op op_mod (pe_call G__law_at HR__law_at rfl T.g__law_at T.F__law_at.kp T.b__law_at .nil pass0 (pa_cons (pv 0) (pa_cons pe_int pa_nil))) pe_int) (fun _ _ => rfl)) pa_nil))))), ?_⟩
    walk_at "rd"
    refine LH.x_lenL hS ?_
    walk_at "rd"
    obtain ⟨m, hm, _⟩ := rgc2 (n := ((ns.map V.int).length : Int) + 1) (by omega) (by rw [List.length_map]; omega)
    refine LH.rn3v hm ?_
    refine LH.for_R3 (fun i σ H' => (∃ o1 o2 o3 o4 o5 o6 o7 o8 o9 o10 o11 o12, σ = [some (.ref q), o1, o2, o3, o4, o5, o6, o7, o8, o9, o10, o11, o12]) ∧ Same H H')
      ⟨⟨_, _, _, _, _, _, _, _, _, _, _, _, rfl⟩, Same.refl _⟩ ?_ ?_
    · rintro i σ H0 hi ⟨⟨o1, o2, o3, o4, o5, o6, o7, o8, o9, o10, o11, o12, rfl⟩, e0⟩
      have hS0 := Same.seq e0 hS
      walk_at "rd"
      refine ⟨q, ns, _, rfl, hS0, by omega, fun z1 => ?_⟩
      walk_at "rd"
      refine ⟨q, ns, _, rfl, hS0, by omega, fun z2 => ?_⟩
      walk_at "rd"
      generalize hcell : z1 + (0 + (i : Int) * 2) = cell
      obtain ⟨c, hc⟩ : ∃ c, c = 1 + z2 % 12 := ⟨_, rfl⟩
      have c1 : 1 ≤ c := by omega
      have c2 : c ≤ 12 := by omega
      rw [← hc]
      have cW : isW (.int c) 1 12 = true := isW_yes c1 c2
      refine ⟨_, _, _, rfl, c1, fun p1 H1 kd n z h e1 g1 hz hw okk n0 n1 => ?_⟩
      have gd1 : ∀ H' : Hp, ∀ y ∈ wd kd n z h, Gd K H' y := fun H' y m => by
        simp only [List.mem_cons, List.not_mem_nil, or_false] at m
        rcases m with rfl | rfl | rfl | rfl
        · exact gd_str okk
        · exact gd_int _
        · exact gd_str (row_ok hz)
        · exact gd_int _
      walk_at "rd"
      refine ⟨.int c, "int", .ref p1, rfl, .int _, fun e => by rw [cW] at e; (cases e), fun c' ec _ _ => ⟨true, .inl ⟨p1, _, rfl, g1, LH.small rfl, gd1 _, by cases ec; exact hw.symm⟩, fun H2 e2 => ?_⟩⟩
      cases ec
      have g2 := LH.Same.seqT e2 g1
      walk_at "rd"
      refine LH.br_nd (fun b => absurd rfl b) (fun _ => ?_)
      walk_at "rd"
      refine LH.x_ixT g2 rfl ?_
      walk_at "rd"
      refine ⟨.str z, "str", rfl, .str z, fun z' e => (by cases e; exact row_ok hz), fun H3 e3 => ?_⟩
      have hR : isRow (.str z) = true := hz
      rw [hR]
      have g3 := LH.Same.seqT e3 g2
      walk_at "rd"
      refine LH.br_nd (fun b => absurd rfl b) (fun _ => ?_)
      walk_at "rd"
      refine ⟨p1, _, _, _, rfl, g3, by show 4 ≤ 20; decide, gd1 _, fun x H4 e4 ot4 => ?_⟩
      have g4 := LH.Same.seqT e4 g3
      walk_at "rd"
      obtain ⟨b, hb4⟩ := ot4.wd c
      refine ⟨.int c, "int", x, rfl, .int _, fun e => by rw [cW] at e; (cases e), fun c' ec _ _ => ⟨b, by cases ec; exact hb4, fun H5 e5 => ?_⟩⟩
      cases ec
      have g5 := LH.Same.seqT e5 g4
      have ot5 := ot4.up e5
      walk_at "rd"
      refine LH.x_isiT (b := true) (.bl _) (by decide +kernel) ?_
      walk_at "rd"
      refine ⟨c, x, b, rfl, c1, hb4.up e5, fun H6 e6 => ?_⟩
      have g6 := LH.Same.seqT e6 g5
      have ot6 := ot5.up e6
      walk_at "rd"
      refine LH.br_nd (fun b => absurd rfl b) (fun _ => ?_)
      walk_at "rd"
      refine LH.x_ixT g6 rfl ?_
      walk_at "rd"
      refine ⟨_, rfl, fun d1 hd1 => ?_⟩
      have okz := row_ok hz
      refine LH.x_addS (by show z.length + 1 ≤ 100000; have := okz.1; have := row_len hz; omega) ?_
      walk_at "rd"
      refine ⟨_, rfl, fun d2 hd2 => ?_⟩
      walk_at "rd"
      refine LH.newl (LH.small rfl) fun p7 H7 f7 e7 g7 => ?_
      walk_at "rd"
      refine orv_list (ot6.up e7) fun l8 H8 ys e8 g8 hl8 hy8 => ?_
      refine LH.x_catS (SqL.of (e8 _ _ g7)) (SqL.of g8) (by show 3 + _ ≤ 100000; omega) fun p9 H9 f9 e9 g9 => ?_
      have e69 := (e7.trans e8).trans e9
      have gd9 : ∀ y ∈ [V.str (z ++ ⟨#[d1]⟩), V.str ⟨#[d2]⟩, V.str (Str.ofString "")] ++ ys, Gd K H9 y := fun y m => by
        rcases List.mem_append.mp m with m | m
        · simp only [List.mem_cons, List.not_mem_nil, or_false] at m
          rcases m with rfl | rfl | rfl
          · exact gd_str (add_ok okz (row_len hz) hd1)
          · exact gd_str ⟨by show 1 ≤ 100000; decide, by show (#[d2] : Array Nat).all (· < 0x110000) = true; simp; omega⟩
          · exact gd_str ⟨by decide +kernel, by decide +kernel⟩
        · exact (hy8 y m).up e9
      refine LH.for_L (SqL.of g9) (fun j σ H' => (∃ o8 o9, σ = [some (.ref q), some (.int (0 + (i : Int) * 2)), some (.int cell), some (.int z2), some (.int c), some (.int (z2 / 12 % 100003)), some (.ref p1), some x, o8, o9, o10, o11, o12]) ∧ Same H9 H')
        ⟨⟨_, _, rfl⟩, Same.refl _⟩ (fun j σ H' _ p => SqL.of (p.2 _ _ g9)) ?_ ?_
      · rintro j y σ H' hy ⟨⟨u8, u9, rfl⟩, es⟩
        obtain ⟨sm, ty, hty⟩ := (gd9 y (List.mem_of_getElem? hy)).up es
        walk_at "rd"
        refine ⟨y, ty, rfl, hty, sm, fun Ha ea => ?_⟩
        walk_at "rd"
        refine LH.x_isiT (b := true) (.bl _) (by decide +kernel) ?_
        walk_at "rd"
        refine ⟨y, ty, rfl, LH.Same.ty ea hty, sm, fun Hb eb => ?_⟩
        walk_at "rd"
        refine LH.br_nd (fun b => absurd rfl b) (fun _ => ?_)
        walk_at "rd"
        exact ⟨⟨_, _, rfl⟩, (es.trans ea).trans eb⟩
      · rintro σ Ha ⟨⟨u8, u9, rfl⟩, ea⟩
        have ga := LH.Same.seqT (e69.trans ea) g6
        walk_at "rd"
        refine LH.x_ixT ga rfl ?_
        walk_at "rd"
        refine ⟨c, n, rfl, c1, ?_⟩
        walk_at "rd"
        refine ⟨_, rfl, ?_⟩
        walk_at "rd"
        have q1 := Int.emod_nonneg n (show c ≠ 0 by omega)
        have q2 := Int.emod_lt_of_pos n (show 0 < c by omega)
        refine LH.br_p q1 ?_
        walk_at "rd"
        refine LH.br_eq (b' := false) (by rw [decide_eq_true q2]; rfl) ?_
        walk_at "rd"
        refine LH.x_ixT ga rfl ?_
        walk_at "rd"
        refine LH.br_nd (fun nq => absurd (congrArg V.int (by rw [fmod_pos c1]; exact (mod_eq q1 q2).mp rfl)) nq) (fun _ => ?_)
        walk_at "rd"
        refine ⟨_, _, rfl, fun z2' Hc hz2 ec => ?_⟩
        have gc := LH.Same.seqT ec ga
        walk_at "rd"
        refine ⟨p1, kd, n, z, h, c, z2', rfl, gc, okk, c1, c2, fun q2' Hd xs ed gd_ hl6 hwo => ?_⟩
        walk_at "rd"
        refine ix6 gd_ hl6 fun v mv => ?_
        obtain ⟨p2, k2, n2, r2, h2, rfl, gp2, ok2⟩ := hwo v mv
        have gd := LH.Same.seqT ed gc
        walk_at "rd"
        refine ⟨p1, p2, kd, n, z, h, k2, n2, r2, h2, rfl, gd, gp2, okk, ok2, fun He ee => ?_⟩
        have gd := LH.Same.seqT ee gd
        have gp2 := LH.Same.seqT ee gp2
        have ed := ed.trans ee
        walk_at "rd"
        refine LH.rn1v (by decide) (by decide) ?_
        refine LH.lc_R (by decide) (fun _ => true) (bAt (decide (kd = k2)) (decide (n = n2)) (decide (z = r2)) (decide (h = h2))) (fun _ => rfl) ?_ ?_ fun p3 H3' f3' e3' g3 => ?_
        · intro y hy Hx ex Q3 q3
          walk_at "rd"
          exact q3 _ (Same.refl _)
        · intro y hy _ Hx ex Q3 q3
          have ga1 := LH.Same.seqT ex gd
          have ga2 := LH.Same.seqT ex gp2
          rcases in4 hy with rfl | rfl | rfl | rfl
          · walk_at "rd"
            refine LH.x_ixT ga1 rfl ?_
            walk_at "rd"
            refine LH.x_ixT ga2 rfl ?_
            walk_at "rd"
            rw [dstr]
            exact q3 _ (Same.refl _)
          · walk_at "rd"
            refine LH.x_ixT ga1 rfl ?_
            walk_at "rd"
            refine LH.x_ixT ga2 rfl ?_
            walk_at "rd"
            rw [dint]
            exact q3 _ (Same.refl _)
          · walk_at "rd"
            refine LH.x_ixT ga1 rfl ?_
            walk_at "rd"
            refine LH.x_ixT ga2 rfl ?_
            walk_at "rd"
            rw [dstr]
            exact q3 _ (Same.refl _)
          · walk_at "rd"
            refine LH.x_ixT ga1 rfl ?_
            walk_at "rd"
            refine LH.x_ixT ga2 rfl ?_
            walk_at "rd"
            rw [dint]
            exact q3 _ (Same.refl _)
        walk_at "rd"
        refine LH.newl (LH.small rfl) fun p4 H4' f4' e4' g4' => ?_
        have gl : H4' p3 = some (.lst [.bl (decide (kd = k2)), .bl (decide (n = n2)), .bl (decide (z = r2)), .bl (decide (h = h2))]) := e4' _ _ g3
        refine LH.x_eqD (.lst (SqL.of gl) (.cons (.bl _) (.cons (.bl _) (.cons (.bl _) (.cons (.bl _) .nil)))))
          (.lst (SqL.of g4') (.cons (.bl _) (.cons (.bl _) (.cons (.bl _) (.cons (.bl _) .nil))))) (bools_shaped _ _ _ _) (by decide +kernel) ?_
        rw [due_eq]
        walk_at "rd"
        refine LH.x_isiT (b := true) (.bl _) (by decide +kernel) ?_
        walk_at "rd"
        refine LH.br_nd (fun nq => absurd rfl nq) (fun _ => ?_)
        walk_at "rd"
        exact ⟨⟨_, _, _, _, _, _, _, _, _, _, _, _, rfl⟩, ((((((((((((e0.trans e1).trans e2).trans e3).trans e4).trans e5).trans e6).trans e69).trans ea).trans ec).trans ed).trans e3').trans e4')⟩
    · rintro σ H' ⟨⟨o1, o2, o3, o4, o5, o6, o7, o8, o9, o10, o11, o12, rfl⟩, e0⟩
      walk_at "rd"
      refine LH.newl (LH.small rfl) fun p1 H1 f1 e1 g1 => ?_
      walk_at "rd"
      refine ⟨q, ns, _, rfl, Same.seq (e0.trans e1) hS, by omega, fun z1 => ?_⟩
      walk_at "rd"
      obtain ⟨v, t, hv, ty, bad⟩ := bad5 (K := K) (H := H1) (i := z1)
      refine LH.x_ixL (SqL.of g1) hv ?_
      walk_at "rd"
      exact ⟨v, t, rfl, ty, bad, fun H' _ => k H'⟩
end
end K2
namespace K2
open PySem L2
theorem all_mk {l : PySem.W.OpenLaw} {w : World} {K : PySem.W.Frag} {h : Heap} {mg : Str → Option Value} {fa f0 f1 f2 f3 f4 f5 f6 f7 f8 f9 f10 f11 f12 f13 f14 f15 f16 f17 f18 f19 f20 c0 c1 c2 c3 c4 c5 c6 c7 c8 : Addr} (X : K.In h) (G : h.Ns mainGlobals mg) (hfa : mg "law" = some (.ref fa))
    {od0 an0 : Option Addr} {sl0 : Array (Option Value)} {oc0 kV0 dc0 pm0 cd0 ct0 : Value} {od1 an1 : Option Addr} {sl1 : Array (Option Value)} {oc1 kV1 dc1 pm1 cd1 ct1 : Value} {od2 an2 : Option Addr} {sl2 : Array (Option Value)} {oc2 kV2 dc2 pm2 cd2 ct2 : Value} {od3 an3 : Option Addr} {sl3 : Array (Option Value)} {oc3 kV3 dc3 pm3 cd3 ct3 : Value} {od4 an4 : Option Addr} {sl4 : Array (Option Value)} {oc4 kV4 dc4 pm4 cd4 ct4 : Value} {od5 an5 : Option Addr} {sl5 : Array (Option Value)} {oc5 kV5 dc5 pm5 cd5 ct5 : Value} {od6 an6 : Option Addr} {sl6 : Array (Option Value)} {oc6 kV6 dc6 pm6 cd6 ct6 : Value} {od7 an7 : Option Addr} {sl7 : Array (Option Value)} {oc7 kV7 dc7 pm7 cd7 ct7 : Value} {od8 an8 : Option Addr} {sl8 : Array (Option Value)} {oc8 kV8 dc8 pm8 cd8 ct8 : Value} {od9 an9 : Option Addr} {sl9 : Array (Option Value)} {oc9 kV9 dc9 pm9 cd9 ct9 : Value} {od10 an10 : Option Addr} {sl10 : Array (Option Value)} {oc10 kV10 dc10 pm10 cd10 ct10 : Value} {od11 an11 : Option Addr} {sl11 : Array (Option Value)} {oc11 kV11 dc11 pm11 cd11 ct11 : Value} {od12 an12 : Option Addr} {sl12 : Array (Option Value)} {oc12 kV12 dc12 pm12 cd12 ct12 : Value} {od13 an13 : Option Addr} {sl13 : Array (Option Value)} {oc13 kV13 dc13 pm13 cd13 ct13 : Value} {od14 an14 : Option Addr} {sl14 : Array (Option Value)} {oc14 kV14 dc14 pm14 cd14 ct14 : Value} {od15 an15 : Option Addr} {sl15 : Array (Option Value)} {oc15 kV15 dc15 pm15 cd15 ct15 : Value} {od16 an16 : Option Addr} {sl16 : Array (Option Value)} {oc16 kV16 dc16 pm16 cd16 ct16 : Value} {od17 an17 : Option Addr} {sl17 : Array (Option Value)} {oc17 kV17 dc17 pm17 cd17 ct17 : Value} {od18 an18 : Option Addr} {sl18 : Array (Option Value)} {oc18 kV18 dc18 pm18 cd18 ct18 : Value} {od19 an19 : Option Addr} {sl19 : Array (Option Value)} {oc19 kV19 dc19 pm19 cd19 ct19 : Value} {od20 an20 : Option Addr} {sl20 : Array (Option Value)} {oc20 kV20 dc20 pm20 cd20 ct20 : Value}
    (a0 : PySem.W.nsIn K mainGlobals "is_whole" = some (some (.ref f0)))
    (l0 : K.lookup f0 = some ⟨oc0, od0, .func (PySem.W.fnOf "is_whole" "is_whole" (defArgs s_is_whole) (defBody s_is_whole) (defScope s_is_whole) .none kV0 dc0 pm0 an0 cd0 ct0), sl0⟩)
    (c0c : PySem.W.codeIn K cd0 "is_whole" = true)
    (k0 : PySem.W.keepIn K (.ref f0) = true)
    (a1 : PySem.W.nsIn K mainGlobals "check_count" = some (some (.ref f1)))
    (l1 : K.lookup f1 = some ⟨oc1, od1, .func (PySem.W.fnOf "check_count" "check_count" (defArgs s_check_count) (defBody s_check_count) (defScope s_check_count) .none kV1 dc1 pm1 an1 cd1 ct1), sl1⟩)
    (c1c : PySem.W.codeIn K cd1 "check_count" = true)
    (k1 : PySem.W.keepIn K (.ref f1) = true)
    (a2 : PySem.W.nsIn K mainGlobals "is_house" = some (some (.ref f2)))
    (l2 : K.lookup f2 = some ⟨oc2, od2, .func (PySem.W.fnOf "is_house" "is_house" (defArgs s_is_house) (defBody s_is_house) (defScope s_is_house) .none kV2 dc2 pm2 an2 cd2 ct2), sl2⟩)
    (c2c : PySem.W.codeIn K cd2 "is_house" = true)
    (k2 : PySem.W.keepIn K (.ref f2) = true)
    (a3 : PySem.W.nsIn K mainGlobals "is_row" = some (some (.ref f3)))
    (l3 : K.lookup f3 = some ⟨oc3, od3, .func (PySem.W.fnOf "is_row" "is_row" (defArgs s_is_row) (defBody s_is_row) (defScope s_is_row) .none kV3 dc3 pm3 an3 cd3 ct3), sl3⟩)
    (c3c : PySem.W.codeIn K cd3 "is_row" = true)
    (k3 : PySem.W.keepIn K (.ref f3) = true)
    (a4 : PySem.W.nsIn K mainGlobals "caller" = some (some (.ref f4)))
    (l4 : K.lookup f4 = some ⟨oc4, od4, .func (PySem.W.fnOf "caller" "caller" (defArgs s_caller) (defBody s_caller) (defScope s_caller) .none kV4 dc4 pm4 an4 cd4 ct4), sl4⟩)
    (c4c : PySem.W.codeIn K cd4 "caller" = true)
    (k4 : PySem.W.keepIn K (.ref f4) = true)
    (a5 : PySem.W.nsIn K mainGlobals "is_word" = some (some (.ref f5)))
    (l5 : K.lookup f5 = some ⟨oc5, od5, .func (PySem.W.fnOf "is_word" "is_word" (defArgs s_is_word) (defBody s_is_word) (defScope s_is_word) .none kV5 dc5 pm5 an5 cd5 ct5), sl5⟩)
    (c5c : PySem.W.codeIn K cd5 "is_word" = true)
    (k5 : PySem.W.keepIn K (.ref f5) = true)
    (a6 : PySem.W.nsIn K mainGlobals "place" = some (some (.ref f6)))
    (l6 : K.lookup f6 = some ⟨oc6, od6, .func (PySem.W.fnOf "place" "place" (defArgs s_place) (defBody s_place) (defScope s_place) .none kV6 dc6 pm6 an6 cd6 ct6), sl6⟩)
    (c6c : PySem.W.codeIn K cd6 "place" = true)
    (k6 : PySem.W.keepIn K (.ref f6) = true)
    (a7 : PySem.W.nsIn K mainGlobals "are_unlike" = some (some (.ref f7)))
    (l7 : K.lookup f7 = some ⟨oc7, od7, .func (PySem.W.fnOf "are_unlike" "are_unlike" (defArgs s_are_unlike) (defBody s_are_unlike) (defScope s_are_unlike) .none kV7 dc7 pm7 an7 cd7 ct7), sl7⟩)
    (c7c : PySem.W.codeIn K cd7 "are_unlike" = true)
    (k7 : PySem.W.keepIn K (.ref f7) = true)
    (a8 : PySem.W.nsIn K mainGlobals "_law_at" = some (some (.ref f8)))
    (l8 : K.lookup f8 = some ⟨oc8, od8, .func (PySem.W.fnOf "_law_at" "_law_at" (defArgs s__law_at) (defBody s__law_at) (defScope s__law_at) .none kV8 dc8 pm8 an8 cd8 ct8), sl8⟩)
    (c8c : PySem.W.codeIn K cd8 "_law_at" = true)
    (k8 : PySem.W.keepIn K (.ref f8) = true)
    (a9 : PySem.W.nsIn K mainGlobals "_law_whole" = some (some (.ref f9)))
    (l9 : K.lookup f9 = some ⟨oc9, od9, .func (PySem.W.fnOf "_law_whole" "_law_whole" (defArgs s__law_whole) (defBody s__law_whole) (defScope s__law_whole) .none kV9 dc9 pm9 an9 cd9 ct9), sl9⟩)
    (c9c : PySem.W.codeIn K cd9 "_law_whole" = true)
    (k9 : PySem.W.keepIn K (.ref f9) = true)
    (a10 : PySem.W.nsIn K mainGlobals "_law_sign" = some (some (.ref f10)))
    (l10 : K.lookup f10 = some ⟨oc10, od10, .func (PySem.W.fnOf "_law_sign" "_law_sign" (defArgs s__law_sign) (defBody s__law_sign) (defScope s__law_sign) .none kV10 dc10 pm10 an10 cd10 ct10), sl10⟩)
    (c10c : PySem.W.codeIn K cd10 "_law_sign" = true)
    (k10 : PySem.W.keepIn K (.ref f10) = true)
    (a11 : PySem.W.nsIn K mainGlobals "_law_row" = some (some (.ref f11)))
    (l11 : K.lookup f11 = some ⟨oc11, od11, .func (PySem.W.fnOf "_law_row" "_law_row" (defArgs s__law_row) (defBody s__law_row) (defScope s__law_row) .none kV11 dc11 pm11 an11 cd11 ct11), sl11⟩)
    (c11c : PySem.W.codeIn K cd11 "_law_row" = true)
    (k11 : PySem.W.keepIn K (.ref f11) = true)
    (a12 : PySem.W.nsIn K mainGlobals "_law_is_row" = some (some (.ref f12)))
    (l12 : K.lookup f12 = some ⟨oc12, od12, .func (PySem.W.fnOf "_law_is_row" "_law_is_row" (defArgs s__law_is_row) (defBody s__law_is_row) (defScope s__law_is_row) .none kV12 dc12 pm12 an12 cd12 ct12), sl12⟩)
    (c12c : PySem.W.codeIn K cd12 "_law_is_row" = true)
    (k12 : PySem.W.keepIn K (.ref f12) = true)
    (a13 : PySem.W.nsIn K mainGlobals "_law_is_among" = some (some (.ref f13)))
    (l13 : K.lookup f13 = some ⟨oc13, od13, .func (PySem.W.fnOf "_law_is_among" "_law_is_among" (defArgs s__law_is_among) (defBody s__law_is_among) (defScope s__law_is_among) .none kV13 dc13 pm13 an13 cd13 ct13), sl13⟩)
    (c13c : PySem.W.codeIn K cd13 "_law_is_among" = true)
    (k13 : PySem.W.keepIn K (.ref f13) = true)
    (a14 : PySem.W.nsIn K mainGlobals "_law_is_word" = some (some (.ref f14)))
    (l14 : K.lookup f14 = some ⟨oc14, od14, .func (PySem.W.fnOf "_law_is_word" "_law_is_word" (defArgs s__law_is_word) (defBody s__law_is_word) (defScope s__law_is_word) .none kV14 dc14 pm14 an14 cd14 ct14), sl14⟩)
    (c14c : PySem.W.codeIn K cd14 "_law_is_word" = true)
    (k14 : PySem.W.keepIn K (.ref f14) = true)
    (a15 : PySem.W.nsIn K mainGlobals "_law_kind" = some (some (.ref f15)))
    (l15 : K.lookup f15 = some ⟨oc15, od15, .func (PySem.W.fnOf "_law_kind" "_law_kind" (defArgs s__law_kind) (defBody s__law_kind) (defScope s__law_kind) .none kV15 dc15 pm15 an15 cd15 ct15), sl15⟩)
    (c15c : PySem.W.codeIn K cd15 "_law_kind" = true)
    (k15 : PySem.W.keepIn K (.ref f15) = true)
    (a16 : PySem.W.nsIn K mainGlobals "_law_word" = some (some (.ref f16)))
    (l16 : K.lookup f16 = some ⟨oc16, od16, .func (PySem.W.fnOf "_law_word" "_law_word" (defArgs s__law_word) (defBody s__law_word) (defScope s__law_word) .none kV16 dc16 pm16 an16 cd16 ct16), sl16⟩)
    (c16c : PySem.W.codeIn K cd16 "_law_word" = true)
    (k16 : PySem.W.keepIn K (.ref f16) = true)
    (a17 : PySem.W.nsIn K mainGlobals "_law_other" = some (some (.ref f17)))
    (l17 : K.lookup f17 = some ⟨oc17, od17, .func (PySem.W.fnOf "_law_other" "_law_other" (defArgs s__law_other) (defBody s__law_other) (defScope s__law_other) .none kV17 dc17 pm17 an17 cd17 ct17), sl17⟩)
    (c17c : PySem.W.codeIn K cd17 "_law_other" = true)
    (k17 : PySem.W.keepIn K (.ref f17) = true)
    (a18 : PySem.W.nsIn K mainGlobals "_law_second" = some (some (.ref f18)))
    (l18 : K.lookup f18 = some ⟨oc18, od18, .func (PySem.W.fnOf "_law_second" "_law_second" (defArgs s__law_second) (defBody s__law_second) (defScope s__law_second) .none kV18 dc18 pm18 an18 cd18 ct18), sl18⟩)
    (c18c : PySem.W.codeIn K cd18 "_law_second" = true)
    (k18 : PySem.W.keepIn K (.ref f18) = true)
    (a19 : PySem.W.nsIn K mainGlobals "_law_refused" = some (some (.ref f19)))
    (l19 : K.lookup f19 = some ⟨oc19, od19, .func (PySem.W.fnOf "_law_refused" "_law_refused" (defArgs s__law_refused) (defBody s__law_refused) (defScope s__law_refused) .none kV19 dc19 pm19 an19 cd19 ct19), sl19⟩)
    (c19c : PySem.W.codeIn K cd19 "_law_refused" = true)
    (k19 : PySem.W.keepIn K (.ref f19) = true)
    (a20 : PySem.W.nsIn K mainGlobals "law" = some (some (.ref f20)))
    (l20 : K.lookup f20 = some ⟨oc20, od20, .func (PySem.W.fnOf "law" "law" (defArgs s_law) (defBody s_law) (defScope s_law) .none kV20 dc20 pm20 an20 cd20 ct20), sl20⟩)
    (c20c : PySem.W.codeIn K cd20 "law" = true)
    (k20 : PySem.W.keepIn K (.ref f20) = true)
    (g0 : PySem.W.nsIn K mainGlobals "HouseError" = some (some (.ref c0)))
    (g1 : PySem.W.nsIn K mainGlobals "BadCount" = some (some (.ref c1)))
    (g2 : PySem.W.nsIn K mainGlobals "BadHouse" = some (some (.ref c2)))
    (g3 : PySem.W.nsIn K mainGlobals "BadRow" = some (some (.ref c3)))
    (g4 : PySem.W.nsIn K mainGlobals "BadWord" = some (some (.ref c4)))
    (g5 : PySem.W.nsIn K mainGlobals "Forged" = some (some (.ref c5)))
    (g6 : PySem.W.nsIn K mainGlobals "NoLetter" = some (some (.ref c6)))
    (g7 : PySem.W.nsIn K mainGlobals "NotWritten" = some (some (.ref c7)))
    (g8 : PySem.W.nsIn K mainGlobals "NoText" = some (some (.ref c8)))
    (x_c1 : PySem.W.excIn K c1 VEs "ValueError.__new__" = true)
    (kk_c1 : PySem.W.keepIn K (.ref c1) = true)
    (bx_c1 : PySem.W.subIn K (.ref c1) (.type "BaseException") = some true)
    (t_c1 : PySem.W.typeIn K (.ref c1) = some (.type "type"))
    (e_c1 : PySem.W.exmOne K (.ref c1) (.ref c0) = some true)
    (y1_c1 : PySem.W.findIn K (.ref c1) "__getattribute__" = some (some (.builtin "BaseException.__getattribute__")))
    (y2_c1 : PySem.W.findIn K (.ref c1) "__getattr__" = some none)
    (y4_c1 : PySem.W.hasDictIn K c1 = true)
    (y5_c1 : PySem.W.findIn K (.ref c1) "__class__" = some (some (.builtin "object.__class__")))
    (y8_c1 : PySem.W.mroIn K c1 (.type "object") = some true)
    (y6 : PySem.W.specialIn K (.builtin "object.__class__") "__get__" = some (some (.builtin "getset_descriptor.__get__")))
    (y7 : PySem.W.takesIn K (.builtin "object.__class__") = some true)
    (i_c1_c1 : PySem.W.kitOne K (.ref c1) (.ref c1) = some true)
    (i_c1_c2 : PySem.W.kitOne K (.ref c1) (.ref c2) = some false)
    (i_c1_c3 : PySem.W.kitOne K (.ref c1) (.ref c3) = some false)
    (i_c1_c4 : PySem.W.kitOne K (.ref c1) (.ref c4) = some false)
    (i_c1_c5 : PySem.W.kitOne K (.ref c1) (.ref c5) = some false)
    (i_c1_c6 : PySem.W.kitOne K (.ref c1) (.ref c6) = some false)
    (i_c1_c7 : PySem.W.kitOne K (.ref c1) (.ref c7) = some false)
    (i_c1_c8 : PySem.W.kitOne K (.ref c1) (.ref c8) = some false)
    (i_c1_ValueError : PySem.W.kitOne K (.ref c1) (.type "ValueError") = some true)
    (m_MOST_HOUSES : ∃ t, PySem.W.nsIn K mainGlobals "MOST_HOUSES" = some (some (.int 12 t)))
    (m_SAY : ∃ t, PySem.W.nsIn K mainGlobals "SAY" = some (some (.str "say" t)))
    (m_MARK : ∃ t, PySem.W.nsIn K mainGlobals "MARK" = some (some (.str "mark" t)))
    (m_LAST_NUMBER : ∃ t, PySem.W.nsIn K mainGlobals "LAST_NUMBER" = some (some (.int 9999 t)))
    (m_LONGEST_ROW : ∃ t, PySem.W.nsIn K mainGlobals "LONGEST_ROW" = some (some (.int 8 t)))
    (m_LETTERS : ∃ t, PySem.W.nsIn K mainGlobals "LETTERS" = some (some (.str "abcdefghijklmnopqrstuvwxyz" t)))
    (n_ValueError : PySem.W.nsIn K mainGlobals "ValueError" = some none)
    (n_all : PySem.W.nsIn K mainGlobals "all" = some none)
    (n_bool : PySem.W.nsIn K mainGlobals "bool" = some none)
    (n_int : PySem.W.nsIn K mainGlobals "int" = some none)
    (n_isinstance : PySem.W.nsIn K mainGlobals "isinstance" = some none)
    (n_len : PySem.W.nsIn K mainGlobals "len" = some none)
    (n_list : PySem.W.nsIn K mainGlobals "list" = some none)
    (n_range : PySem.W.nsIn K mainGlobals "range" = some none)
    (n_str : PySem.W.nsIn K mainGlobals "str" = some none)
    (n_tuple : PySem.W.nsIn K mainGlobals "tuple" = some none)
    (n_type : PySem.W.nsIn K mainGlobals "type" = some none) :
    ∃ fd : FuncData, (∀ (s : Shared) (v : Value), BindsTo s fd ⟨[v], []⟩ [("_law_script", v)]) ∧ ∀ base : Heap, K.In base → base.Ns mainGlobals mg → FnOk l.prog w K mg base CX0 5 fa fd ["_law_script"] (spLaw K) := by
  have e := hfa.symm.trans (PySem.W.mg_of X G a20)
  cases e
  have F0 := fun_mk (st := s_is_whole) l0 c0c k0
  have b0 := F0.binds (ps := ["thing", "least", "most"]) fun _ _ _ _ _ _ us hl => match us, hl with | [_, _, _], _ => rfl
  have F1 := fun_mk (st := s_check_count) l1 c1c k1
  have b1 := F1.binds (ps := ["count"]) fun _ _ _ _ _ _ us hl => match us, hl with | [_], _ => rfl
  have F2 := fun_mk (st := s_is_house) l2 c2c k2
  have b2 := F2.binds (ps := ["count", "thing"]) fun _ _ _ _ _ _ us hl => match us, hl with | [_, _], _ => rfl
  have F3 := fun_mk (st := s_is_row) l3 c3c k3
  have b3 := F3.binds (ps := ["thing"]) fun _ _ _ _ _ _ us hl => match us, hl with | [_], _ => rfl
  have F4 := fun_mk (st := s_caller) l4 c4c k4
  have b4 := F4.binds (ps := ["count", "number"]) fun _ _ _ _ _ _ us hl => match us, hl with | [_, _], _ => rfl
  have F5 := fun_mk (st := s_is_word) l5 c5c k5
  have b5 := F5.binds (ps := ["count", "thing"]) fun _ _ _ _ _ _ us hl => match us, hl with | [_, _], _ => rfl
  have F6 := fun_mk (st := s_place) l6 c6c k6
  have b6 := F6.binds (ps := ["word"]) fun _ _ _ _ _ _ us hl => match us, hl with | [_], _ => rfl
  have F7 := fun_mk (st := s_are_unlike) l7 c7c k7
  have b7 := F7.binds (ps := ["one", "other"]) fun _ _ _ _ _ _ us hl => match us, hl with | [_, _], _ => rfl
  have F8 := fun_mk (st := s__law_at) l8 c8c k8
  have b8 := F8.binds (ps := ["_law_script", "_law_k"]) fun _ _ _ _ _ _ us hl => match us, hl with | [_, _], _ => rfl
  have F9 := fun_mk (st := s__law_whole) l9 c9c k9
  have b9 := F9.binds (ps := ["_law_thing"]) fun _ _ _ _ _ _ us hl => match us, hl with | [_], _ => rfl
  have F10 := fun_mk (st := s__law_sign) l10 c10c k10
  have b10 := F10.binds (ps := ["_law_cell"]) fun _ _ _ _ _ _ us hl => match us, hl with | [_], _ => rfl
  have F11 := fun_mk (st := s__law_row) l11 c11c k11
  have b11 := F11.binds (ps := ["_law_base", "_law_k"]) fun _ _ _ _ _ _ us hl => match us, hl with | [_, _], _ => rfl
  have F12 := fun_mk (st := s__law_is_row) l12 c12c k12
  have b12 := F12.binds (ps := ["_law_thing"]) fun _ _ _ _ _ _ us hl => match us, hl with | [_], _ => rfl
  have F13 := fun_mk (st := s__law_is_among) l13 c13c k13
  have b13 := F13.binds (ps := ["_law_thing", "_law_least", "_law_most"]) fun _ _ _ _ _ _ us hl => match us, hl with | [_, _, _], _ => rfl
  have F14 := fun_mk (st := s__law_is_word) l14 c14c k14
  have b14 := F14.binds (ps := ["_law_count", "_law_thing"]) fun _ _ _ _ _ _ us hl => match us, hl with | [_, _], _ => rfl
  have F15 := fun_mk (st := s__law_kind) l15 c15c k15
  have b15 := F15.binds (ps := ["_law_error"]) fun _ _ _ _ _ _ us hl => match us, hl with | [_], _ => rfl
  have F16 := fun_mk (st := s__law_word) l16 c16c k16
  have b16 := F16.binds (ps := ["_law_cell", "_law_count", "_law_base"]) fun _ _ _ _ _ _ us hl => match us, hl with | [_, _, _], _ => rfl
  have F17 := fun_mk (st := s__law_other) l17 c17c k17
  have b17 := F17.binds (ps := ["_law_word_here", "_law_cell", "_law_count"]) fun _ _ _ _ _ _ us hl => match us, hl with | [_, _, _], _ => rfl
  have F18 := fun_mk (st := s__law_second) l18 c18c k18
  have b18 := F18.binds (ps := ["_law_word_here", "_law_count", "_law_row_here"]) fun _ _ _ _ _ _ us hl => match us, hl with | [_, _, _], _ => rfl
  have F19 := fun_mk (st := s__law_refused) l19 c19c k19
  have b19 := F19.binds (ps := ["_law_count"]) fun _ _ _ _ _ _ us hl => match us, hl with | [_], _ => rfl
  have F20 := fun_mk (st := s_law) l20 c20c k20
  obtain ⟨t_MOST_HOUSES, m_MOST_HOUSES⟩ := m_MOST_HOUSES
  obtain ⟨t_SAY, m_SAY⟩ := m_SAY
  obtain ⟨t_MARK, m_MARK⟩ := m_MARK
  obtain ⟨t_LAST_NUMBER, m_LAST_NUMBER⟩ := m_LAST_NUMBER
  obtain ⟨t_LONGEST_ROW, m_LONGEST_ROW⟩ := m_LONGEST_ROW
  obtain ⟨t_LETTERS, m_LETTERS⟩ := m_LETTERS
  let a : Ad := ⟨f0, f1, f2, f3, f4, f5, f6, f7, f8, f9, f10, f11, f12, f13, f14, f15, f16, f17, f18, f19, fa, PySem.W.fnOf "is_whole" "is_whole" (defArgs s_is_whole) (defBody s_is_whole) (defScope s_is_whole) .none kV0 dc0 pm0 an0 cd0 ct0, PySem.W.fnOf "check_count" "check_count" (defArgs s_check_count) (defBody s_check_count) (defScope s_check_count) .none kV1 dc1 pm1 an1 cd1 ct1, PySem.W.fnOf "is_house" "is_house" (defArgs s_is_house) (defBody s_is_house) (defScope s_is_house) .none kV2 dc2 pm2 an2 cd2 ct2, PySem.W.fnOf "is_row" "is_row" (defArgs s_is_row) (defBody s_is_row) (defScope s_is_row) .none kV3 dc3 pm3 an3 cd3 ct3, PySem.W.fnOf "caller" "caller" (defArgs s_caller) (defBody s_caller) (defScope s_caller) .none kV4 dc4 pm4 an4 cd4 ct4, PySem.W.fnOf "is_word" "is_word" (defArgs s_is_word) (defBody s_is_word) (defScope s_is_word) .none kV5 dc5 pm5 an5 cd5 ct5, PySem.W.fnOf "place" "place" (defArgs s_place) (defBody s_place) (defScope s_place) .none kV6 dc6 pm6 an6 cd6 ct6, PySem.W.fnOf "are_unlike" "are_unlike" (defArgs s_are_unlike) (defBody s_are_unlike) (defScope s_are_unlike) .none kV7 dc7 pm7 an7 cd7 ct7, PySem.W.fnOf "_law_at" "_law_at" (defArgs s__law_at) (defBody s__law_at) (defScope s__law_at) .none kV8 dc8 pm8 an8 cd8 ct8, PySem.W.fnOf "_law_whole" "_law_whole" (defArgs s__law_whole) (defBody s__law_whole) (defScope s__law_whole) .none kV9 dc9 pm9 an9 cd9 ct9, PySem.W.fnOf "_law_sign" "_law_sign" (defArgs s__law_sign) (defBody s__law_sign) (defScope s__law_sign) .none kV10 dc10 pm10 an10 cd10 ct10, PySem.W.fnOf "_law_row" "_law_row" (defArgs s__law_row) (defBody s__law_row) (defScope s__law_row) .none kV11 dc11 pm11 an11 cd11 ct11, PySem.W.fnOf "_law_is_row" "_law_is_row" (defArgs s__law_is_row) (defBody s__law_is_row) (defScope s__law_is_row) .none kV12 dc12 pm12 an12 cd12 ct12, PySem.W.fnOf "_law_is_among" "_law_is_among" (defArgs s__law_is_among) (defBody s__law_is_among) (defScope s__law_is_among) .none kV13 dc13 pm13 an13 cd13 ct13, PySem.W.fnOf "_law_is_word" "_law_is_word" (defArgs s__law_is_word) (defBody s__law_is_word) (defScope s__law_is_word) .none kV14 dc14 pm14 an14 cd14 ct14, PySem.W.fnOf "_law_kind" "_law_kind" (defArgs s__law_kind) (defBody s__law_kind) (defScope s__law_kind) .none kV15 dc15 pm15 an15 cd15 ct15, PySem.W.fnOf "_law_word" "_law_word" (defArgs s__law_word) (defBody s__law_word) (defScope s__law_word) .none kV16 dc16 pm16 an16 cd16 ct16, PySem.W.fnOf "_law_other" "_law_other" (defArgs s__law_other) (defBody s__law_other) (defScope s__law_other) .none kV17 dc17 pm17 an17 cd17 ct17, PySem.W.fnOf "_law_second" "_law_second" (defArgs s__law_second) (defBody s__law_second) (defScope s__law_second) .none kV18 dc18 pm18 an18 cd18 ct18, PySem.W.fnOf "_law_refused" "_law_refused" (defArgs s__law_refused) (defBody s__law_refused) (defScope s__law_refused) .none kV19 dc19 pm19 an19 cd19 ct19, PySem.W.fnOf "law" "law" (defArgs s_law) (defBody s_law) (defScope s_law) .none kV20 dc20 pm20 an20 cd20 ct20, c0, c1, c2, c3, c4, c5, c6, c7, c8, t_MOST_HOUSES, t_SAY, t_MARK, t_LAST_NUMBER, t_LONGEST_ROW, t_LETTERS⟩
  have T : Txt K mg a := {
    F_is_whole := F0,
    g_is_whole := PySem.W.mg_of X G a0,
    b_is_whole := b0,
    F_check_count := F1,
    g_check_count := PySem.W.mg_of X G a1,
    b_check_count := b1,
    F_is_house := F2,
    g_is_house := PySem.W.mg_of X G a2,
    b_is_house := b2,
    F_is_row := F3,
    g_is_row := PySem.W.mg_of X G a3,
    b_is_row := b3,
    F_caller := F4,
    g_caller := PySem.W.mg_of X G a4,
    b_caller := b4,
    F_is_word := F5,
    g_is_word := PySem.W.mg_of X G a5,
    b_is_word := b5,
    F_place := F6,
    g_place := PySem.W.mg_of X G a6,
    b_place := b6,
    F_are_unlike := F7,
    g_are_unlike := PySem.W.mg_of X G a7,
    b_are_unlike := b7,
    F__law_at := F8,
    g__law_at := PySem.W.mg_of X G a8,
    b__law_at := b8,
    F__law_whole := F9,
    g__law_whole := PySem.W.mg_of X G a9,
    b__law_whole := b9,
    F__law_sign := F10,
    g__law_sign := PySem.W.mg_of X G a10,
    b__law_sign := b10,
    F__law_row := F11,
    g__law_row := PySem.W.mg_of X G a11,
    b__law_row := b11,
    F__law_is_row := F12,
    g__law_is_row := PySem.W.mg_of X G a12,
    b__law_is_row := b12,
    F__law_is_among := F13,
    g__law_is_among := PySem.W.mg_of X G a13,
    b__law_is_among := b13,
    F__law_is_word := F14,
    g__law_is_word := PySem.W.mg_of X G a14,
    b__law_is_word := b14,
    F__law_kind := F15,
    g__law_kind := PySem.W.mg_of X G a15,
    b__law_kind := b15,
    F__law_word := F16,
    g__law_word := PySem.W.mg_of X G a16,
    b__law_word := b16,
    F__law_other := F17,
    g__law_other := PySem.W.mg_of X G a17,
    b__law_other := b17,
    F__law_second := F18,
    g__law_second := PySem.W.mg_of X G a18,
    b__law_second := b18,
    F__law_refused := F19,
    g__law_refused := PySem.W.mg_of X G a19,
    b__law_refused := b19,
    F_law := F20,
    g_HouseError := PySem.W.mg_of X G g0,
    g_BadCount := PySem.W.mg_of X G g1,
    g_BadHouse := PySem.W.mg_of X G g2,
    g_BadRow := PySem.W.mg_of X G g3,
    g_BadWord := PySem.W.mg_of X G g4,
    g_Forged := PySem.W.mg_of X G g5,
    g_NoLetter := PySem.W.mg_of X G g6,
    g_NotWritten := PySem.W.mg_of X G g7,
    g_NoText := PySem.W.mg_of X G g8,
    x_BadCount := x_c1,
    k_BadCount := kk_c1,
    bx_BadCount := bx_c1,
    t_BadCount := t_c1,
    e_BadCount := e_c1,
    c_BadCount := ⟨y1_c1, y2_c1, bx_c1, y4_c1, y5_c1, y6, y7, y8_c1⟩,
    i_BadCount := i_c1_c1,
    i_BadHouse := i_c1_c2,
    i_BadRow := i_c1_c3,
    i_BadWord := i_c1_c4,
    i_Forged := i_c1_c5,
    i_NoLetter := i_c1_c6,
    i_NotWritten := i_c1_c7,
    i_NoText := i_c1_c8,
    i_ValueError := i_c1_ValueError,
    m_MOST_HOUSES := PySem.W.mg_of X G m_MOST_HOUSES,
    m_SAY := PySem.W.mg_of X G m_SAY,
    m_MARK := PySem.W.mg_of X G m_MARK,
    m_LAST_NUMBER := PySem.W.mg_of X G m_LAST_NUMBER,
    m_LONGEST_ROW := PySem.W.mg_of X G m_LONGEST_ROW,
    m_LETTERS := PySem.W.mg_of X G m_LETTERS,
    n_ValueError := PySem.W.mg_none_of X G n_ValueError,
    n_all := PySem.W.mg_none_of X G n_all,
    n_bool := PySem.W.mg_none_of X G n_bool,
    n_int := PySem.W.mg_none_of X G n_int,
    n_isinstance := PySem.W.mg_none_of X G n_isinstance,
    n_len := PySem.W.mg_none_of X G n_len,
    n_list := PySem.W.mg_none_of X G n_list,
    n_range := PySem.W.mg_none_of X G n_range,
    n_str := PySem.W.mg_none_of X G n_str,
    n_tuple := PySem.W.mg_none_of X G n_tuple,
    n_type := PySem.W.mg_none_of X G n_type }
  exact ⟨_, fun s v => .of_eq rfl, fun base _ _ => ok_law T⟩
end K2
open PySem PySem.W PyProof.Rows
set_option maxRecDepth 100000 in
set_option maxHeartbeats 0 in
theorem PySem.Challenge.cw_latehouse_k02_words_holds : PySem.Challenge.rw_latehouse_k02_words.Holds := by
  w_on; o_law; k_head; (case hw => w_witness2)
  k_fill
  refine L2.walk_of (l := PySem.Challenge.rw_latehouse_k02_words) (n := 63) (k := 5) (x := "_law_script") (CX := fun _ => L2.CX0) (sp := fun w => K2.spLaw _) rfl (by decide) rfl ⟨rfl, by decide, by decide⟩ (fun w h Y => PySem.W.kIn_of Y) ?F (fun _ _ a ns hl _ hS => ⟨a, ns, rfl, hS, hl, fun _ => rfl⟩) (fun _ _ _ _ _ h => h)
  case F =>
    intro w mg fa h KX G hmg
    refine' K2.all_mk KX G hmg ?zq_a0 ?zq_l0 ?zq_c0c ?zq_k0 ?zq_a1 ?zq_l1 ?zq_c1c ?zq_k1 ?zq_a2 ?zq_l2 ?zq_c2c ?zq_k2 ?zq_a3 ?zq_l3 ?zq_c3c ?zq_k3 ?zq_a4 ?zq_l4 ?zq_c4c ?zq_k4 ?zq_a5 ?zq_l5 ?zq_c5c ?zq_k5 ?zq_a6 ?zq_l6 ?zq_c6c ?zq_k6 ?zq_a7 ?zq_l7 ?zq_c7c ?zq_k7 ?zq_a8 ?zq_l8 ?zq_c8c ?zq_k8 ?zq_a9 ?zq_l9 ?zq_c9c ?zq_k9 ?zq_a10 ?zq_l10 ?zq_c10c ?zq_k10 ?zq_a11 ?zq_l11 ?zq_c11c ?zq_k11 ?zq_a12 ?zq_l12 ?zq_c12c ?zq_k12 ?zq_a13 ?zq_l13 ?zq_c13c ?zq_k13 ?zq_a14 ?zq_l14 ?zq_c14c ?zq_k14 ?zq_a15 ?zq_l15 ?zq_c15c ?zq_k15 ?zq_a16 ?zq_l16 ?zq_c16c ?zq_k16 ?zq_a17 ?zq_l17 ?zq_c17c ?zq_k17 ?zq_a18 ?zq_l18 ?zq_c18c ?zq_k18 ?zq_a19 ?zq_l19 ?zq_c19c ?zq_k19 ?zq_a20 ?zq_l20 ?zq_c20c ?zq_k20 ?zq_g0 ?zq_g1 ?zq_g2 ?zq_g3 ?zq_g4 ?zq_g5 ?zq_g6 ?zq_g7 ?zq_g8 ?zq_x_c1 ?zq_kk_c1 ?zq_bx_c1 ?zq_t_c1 ?zq_e_c1 ?zq_y1_c1 ?zq_y2_c1 ?zq_y4_c1 ?zq_y5_c1 ?zq_y8_c1 ?zq_y6 ?zq_y7 ?zq_i_c1_c1 ?zq_i_c1_c2 ?zq_i_c1_c3 ?zq_i_c1_c4 ?zq_i_c1_c5 ?zq_i_c1_c6 ?zq_i_c1_c7 ?zq_i_c1_c8 ?zq_i_c1_ValueError ?zq_m_MOST_HOUSES ?zq_m_SAY ?zq_m_MARK ?zq_m_LAST_NUMBER ?zq_m_LONGEST_ROW ?zq_m_LETTERS ?zq_n_ValueError ?zq_n_all ?zq_n_bool ?zq_n_int ?zq_n_isinstance ?zq_n_len ?zq_n_list ?zq_n_range ?zq_n_str ?zq_n_tuple ?zq_n_type
    (case zq_a0 => first | k_is | rfl)
    (case zq_l0 => first | k_is | rfl)
    (case zq_c0c => first | k_is | rfl)
    (case zq_k0 => first | k_is | rfl)
    (case zq_a1 => first | k_is | rfl)
    (case zq_l1 => first | k_is | rfl)
    (case zq_c1c => first | k_is | rfl)
    (case zq_k1 => first | k_is | rfl)
    (case zq_a2 => first | k_is | rfl)
    (case zq_l2 => first | k_is | rfl)
    (case zq_c2c => first | k_is | rfl)
    (case zq_k2 => first | k_is | rfl)
    (case zq_a3 => first | k_is | rfl)
    (case zq_l3 => first | k_is | rfl)
    (case zq_c3c => first | k_is | rfl)
    (case zq_k3 => first | k_is | rfl)
    (case zq_a4 => first | k_is | rfl)
    (case zq_l4 => first | k_is | rfl)
    (case zq_c4c => first | k_is | rfl)
    (case zq_k4 => first | k_is | rfl)
    (case zq_a5 => first | k_is | rfl)
    (case zq_l5 => first | k_is | rfl)
    (case zq_c5c => first | k_is | rfl)
    (case zq_k5 => first | k_is | rfl)
    (case zq_a6 => first | k_is | rfl)
    (case zq_l6 => first | k_is | rfl)
    (case zq_c6c => first | k_is | rfl)
    (case zq_k6 => first | k_is | rfl)
    (case zq_a7 => first | k_is | rfl)
    (case zq_l7 => first | k_is | rfl)
    (case zq_c7c => first | k_is | rfl)
    (case zq_k7 => first | k_is | rfl)
    (case zq_a8 => first | k_is | rfl)
    (case zq_l8 => first | k_is | rfl)
    (case zq_c8c => first | k_is | rfl)
    (case zq_k8 => first | k_is | rfl)
    (case zq_a9 => first | k_is | rfl)
    (case zq_l9 => first | k_is | rfl)
    (case zq_c9c => first | k_is | rfl)
    (case zq_k9 => first | k_is | rfl)
    (case zq_a10 => first | k_is | rfl)
    (case zq_l10 => first | k_is | rfl)
    (case zq_c10c => first | k_is | rfl)
    (case zq_k10 => first | k_is | rfl)
    (case zq_a11 => first | k_is | rfl)
    (case zq_l11 => first | k_is | rfl)
    (case zq_c11c => first | k_is | rfl)
    (case zq_k11 => first | k_is | rfl)
    (case zq_a12 => first | k_is | rfl)
    (case zq_l12 => first | k_is | rfl)
    (case zq_c12c => first | k_is | rfl)
    (case zq_k12 => first | k_is | rfl)
    (case zq_a13 => first | k_is | rfl)
    (case zq_l13 => first | k_is | rfl)
    (case zq_c13c => first | k_is | rfl)
    (case zq_k13 => first | k_is | rfl)
    (case zq_a14 => first | k_is | rfl)
    (case zq_l14 => first | k_is | rfl)
    (case zq_c14c => first | k_is | rfl)
    (case zq_k14 => first | k_is | rfl)
    (case zq_a15 => first | k_is | rfl)
    (case zq_l15 => first | k_is | rfl)
    (case zq_c15c => first | k_is | rfl)
    (case zq_k15 => first | k_is | rfl)
    (case zq_a16 => first | k_is | rfl)
    (case zq_l16 => first | k_is | rfl)
    (case zq_c16c => first | k_is | rfl)
    (case zq_k16 => first | k_is | rfl)
    (case zq_a17 => first | k_is | rfl)
    (case zq_l17 => first | k_is | rfl)
    (case zq_c17c => first | k_is | rfl)
    (case zq_k17 => first | k_is | rfl)
    (case zq_a18 => first | k_is | rfl)
    (case zq_l18 => first | k_is | rfl)
    (case zq_c18c => first | k_is | rfl)
    (case zq_k18 => first | k_is | rfl)
    (case zq_a19 => first | k_is | rfl)
    (case zq_l19 => first | k_is | rfl)
    (case zq_c19c => first | k_is | rfl)
    (case zq_k19 => first | k_is | rfl)
    (case zq_a20 => first | k_is | rfl)
    (case zq_l20 => first | k_is | rfl)
    (case zq_c20c => first | k_is | rfl)
    (case zq_k20 => first | k_is | rfl)
    (case zq_g0 => first | k_is | rfl)
    (case zq_g1 => first | k_is | rfl)
    (case zq_g2 => first | k_is | rfl)
    (case zq_g3 => first | k_is | rfl)
    (case zq_g4 => first | k_is | rfl)
    (case zq_g5 => first | k_is | rfl)
    (case zq_g6 => first | k_is | rfl)
    (case zq_g7 => first | k_is | rfl)
    (case zq_g8 => first | k_is | rfl)
    (case zq_x_c1 => k_exc)
    (case zq_kk_c1 => first | k_is | rfl)
    (case zq_bx_c1 => first | k_is | rfl)
    (case zq_t_c1 => first | k_is | rfl)
    (case zq_e_c1 => first | k_is | rfl)
    (case zq_y1_c1 => first | k_is | rfl)
    (case zq_y2_c1 => first | k_is | rfl)
    (case zq_y4_c1 => first | k_is | rfl)
    (case zq_y5_c1 => first | k_is | rfl)
    (case zq_y8_c1 => first | k_is | rfl)
    (case zq_y6 => first | k_is | rfl)
    (case zq_y7 => first | k_is | rfl)
    (case zq_i_c1_c1 => first | k_is | rfl)
    (case zq_i_c1_c2 => first | k_is | rfl)
    (case zq_i_c1_c3 => first | k_is | rfl)
    (case zq_i_c1_c4 => first | k_is | rfl)
    (case zq_i_c1_c5 => first | k_is | rfl)
    (case zq_i_c1_c6 => first | k_is | rfl)
    (case zq_i_c1_c7 => first | k_is | rfl)
    (case zq_i_c1_c8 => first | k_is | rfl)
    (case zq_i_c1_ValueError => first | k_is | rfl)
    (case zq_m_MOST_HOUSES => exact ⟨_, by k_is⟩)
    (case zq_m_SAY => exact ⟨_, by k_is⟩)
    (case zq_m_MARK => exact ⟨_, by k_is⟩)
    (case zq_m_LAST_NUMBER => exact ⟨_, by k_is⟩)
    (case zq_m_LONGEST_ROW => exact ⟨_, by k_is⟩)
    (case zq_m_LETTERS => exact ⟨_, by k_is⟩)
    (case zq_n_ValueError => first | k_is | rfl)
    (case zq_n_all => first | k_is | rfl)
    (case zq_n_bool => first | k_is | rfl)
    (case zq_n_int => first | k_is | rfl)
    (case zq_n_isinstance => first | k_is | rfl)
    (case zq_n_len => first | k_is | rfl)
    (case zq_n_list => first | k_is | rfl)
    (case zq_n_range => first | k_is | rfl)
    (case zq_n_str => first | k_is | rfl)
    (case zq_n_tuple => first | k_is | rfl)
    (case zq_n_type => first | k_is | rfl)
