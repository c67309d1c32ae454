import PyProof.Rows.All
import Wide.All
import OpenK.AllK
import Wide.FinOn
import HandS.ForMost
import HandS.Exc
import HandS.TryOnly
import HandS.ExcOwn
import HandS.WordsExc
import HandS.IsInst
import HandS.ExcIs
import HandS.ExcCtx
import HandS.HotCalls
import HandS.SetFor
import HandS.More
import HandS.Conv
import HandS.FStr
import HandS.TupAny
import HandS.TupLe
import PySem.Challenge.RW_latehouse_k01_counts
set_option Elab.async false
set_option linter.all false
set_option maxRecDepth 100000
set_option maxHeartbeats 4000000
/-! own rules beside the layer's: a caught error handed to a def, its isinstance, count, value calls -/
namespace LH
open PySem PySem.Spec PyProof.Rows L2
abbrev St := L2.St

/-! ### isinstance of the error that a context bears -/
theorem call_isP {X : Cx} {a D : Addr} {oe : Obj} (C : ExcC X.K D) (hp : (a, oe) ∈ X.pn) (hz : Zc (.ref D) none oe)
    (hf : ∃ vs, oe.data = .fields vs) : CallR X (.builtin "isinstance") (rIsE X.K D a) := by
  intro pins s σ H xs us Q I r h
  obtain ⟨c, cv, b, rfl, hcv, e, q⟩ := h
  match us, r with
  | [_, _], .cons rx (.cons rt .nil) =>
    cases rx
    have ec := hcv _ rt
    subst ec
    have hget := (I.pin (a, oe) (List.mem_append_left _ hp)).1
    obtain ⟨vs, hv⟩ := hf
    have J : PySem.W.InstAt s.heap a oe D none := by
      refine ⟨hget, hz.1, ?_, ?_⟩
      · unfold PySem.W.notCls; rw [hv] <;> rfl
      · rw [hz.2]; trivial
    exact PySem.W.kia_one (PySem.W.handS_kitx_exc C.hg C.hk C.hs C.hd C.ha C.hn C.ht C.hm) I.kIn J e
      (fun z => nomatch z) fun tk => ⟨.bl b, H, I.kept (t' := tk) fun _ _ z => z, rfl, q⟩

/-! ### a def that is handed the error that is handled -/
/-- the error's address, its class, its dict, then as Sp -/
abbrev SpE := Addr → Value → Option Addr → List V → Hp → VK → Prop
structure FnE (P : Program) (w : World) (K : PySem.W.Frag) (mg : Str → Option Value) (base : Heap) (k : Nat) (f : Addr)
    (fd : FuncData) (ps : List Str) (sp : SpE) : Prop where
  len : ∀ e cls d vs H Q, sp e cls d vs H Q → vs.length = ps.length
  run : ∀ (A : Around) (outer : List Env) (s : Shared) (H : Hp) (us : List Value) (vs : List V) (Q : VK) (p : Addr × Obj) (cls : Value) (d : Option Addr),
    L2H.RoomH k A → L2H.Hot1 A p → L2N.Zn cls d p.2 → L2H.PinOk outer H s p → Env0 P w K mg base A outer s H → BindsTo s fd ⟨us, []⟩ (ps.zip us) →
    Vals vs us → sp p.1 cls d vs H Q → codeAny (model P w) A (.call (.ref f) ⟨us, []⟩) (CR CX0 outer P w H s Q E0) s

theorem fnE_of {P : Program} {w : World} {K : PySem.W.Frag} {mg : Str → Option Value} {base : Heap} {x qual : Str} {st : Stmt}
    {f : Addr} {fd : FuncData} {N ps : List Str} {k : Nat} {sp : SpE} (F : Fun K x qual st f fd) (S : FnScope N ps (defScope st))
    (len : ∀ e cls d vs H Q, sp e cls d vs H Q → vs.length = ps.length)
    (hbody : ∀ (cdv : Value) (A : Around) (outer : List Env) (s : Shared) (H : Hp) (vs : List V) (Q : VK) (p : Addr × Obj) (cls : Value) (d : Option Addr),
      L2H.Hot1 A p → L2N.Zn cls d p.2 → L2H.RoomH k (A.deeper (envOfC qual (defScope st) s.heap.objs.size f cdv)) → sp p.1 cls d vs H Q →
      ∃ t, PSs (L2H.cxH CX0 P w K mg base N qual (defScope st) f cdv A outer s H E0 p) (defBody st) t ∧
        t { nx := fun _ H' => Q .non H', rt := Q } (L2.start N vs) H) :
    FnE P w K mg base (k + 1) f fd ps sp := by
  obtain ⟨oc, od, kV, doc, pm, an, cdv, ct, osl, rfl, lk, hcd⟩ := F.ex
  refine ⟨len, ?_⟩
  intro A outer s H us vs Q p cls d hr hot hz hpin e0 hb r hsp
  have inS : K.In s.heap := e0.mod.kin.keeps fun b o e => (e0.bs b o e).1
  have lim : s.heap.NoLimit := e0.mod.nolimit.keeps fun b o e => (e0.bs b o e).1
  have hkd : ∀ y ∈ ps.zip us, (defScope st).names.lookup y.1 = some .local ∨ ((defScope st).names.lookup y.1 = some .cell ∧
      ((cellsFrom (s.heap.objs.size + 1) (defScope st).names []).lookup y.1).isSome = true) := by
    rintro ⟨n, v⟩ hy
    rcases S.par n (List.of_mem_zip hy).1 with q | q
    · exact Or.inl q
    · exact Or.inr ⟨q, PySem.W.cellsFrom_some _ _ _ (Or.inl q)⟩
  refine codeAny_call_function hr.depth (inS _ _ lk) rfl S.co S.gen rfl
    (PySem.W.codeRec_of inS hcd) (hb _ _ _ _ ?_)
  refine wpAny_newFunctionEnv_cells S.kind hkd ?_
  intro env he s1 x
  subst he
  refine ⟨lim.keeps x.toInCall.keep, codeAny_func ?_⟩
  obtain ⟨t, ht, hq⟩ := hbody cdv A outer s H vs Q p cls d hot hz (hr.deeper _) hsp
  have I := L2H.inv_startH (CX := CX0) (E := E0) S hpin e0 (len _ _ _ _ _ _ hsp) r x
  refine wpAny_mono (ht.run [] s1 (L2.start N vs) H _ I hq) ?_ (fun _ _ z => z)
  intro fl s' hs
  cases fl with
  | ret u =>
    obtain ⟨v, σ', H', J, rv, q⟩ := hs
    exact ⟨v, H', J.os, J.bare, J.base, J.hok, rv, q⟩
  | next =>
    obtain ⟨σ', H', J, q⟩ := hs
    exact ⟨V.non, H', J.os, J.bare, J.base, J.hok, rfl, q⟩
  | brk =>
    obtain ⟨_, _, _, q⟩ := hs
    exact False.elim q
  | cont =>
    obtain ⟨_, _, _, q⟩ := hs
    exact False.elim q

def tCallE (sp : SpE) (e : Addr) (cls : Value) (d : Option Addr) (t : TA) : TE := fun σ H Q => t σ H fun vs H1 => sp e cls d vs H1 Q
theorem pe_callE {X : Cx} {k : Nat} {f : Addr} {fd : FuncData} {ps : List Str} {sp : SpE} {x : Str} {q pos : Pos} {e : Expr}
    {es : List Expr} {t : TA} {p : Addr × Obj} {cls : Value} {d : Option Addr} (F : FnE X.prog X.w X.K X.mg X.base k f fd ps sp) (hr : L2H.RoomH k X.A)
    (hot : L2H.Hot1 X.A p) (hz : L2N.Zn cls d p.2) (hp : p ∈ X.pn) (hg : Gl X x) (hm : X.mg x = some (.ref f)) (hk : PySem.W.keepIn X.K (.ref f) = true)
    (hb : Binds X.K fd ps []) (ha : PA X (e :: es) t) (hdb : (x == ("__debug__" : Str)) = false := by decide)
    (he : starEach (e :: es) X.env = (false, eval e X.env) :: starEach es X.env := by rfl)
    (hpl : (backTo pos (starEach es X.env)).any (·.1) = false := by rfl) : PE X (.Call (.Name x q) (e :: es) [] pos) (tCallE sp p.1 cls d t) := by
  refine ⟨fun pins s σ H Q I h => ?_⟩
  refine wpAny_Call_Name_kw (ld_glob I hg hm ?_ hdb)
  refine PySem.W.callWith_K (h₀ := X.base) I.ok.mod.kin hk (thn (ha.run pos pins s σ H _ I h) ?_) he hpl
  rintro us s1 ⟨vs, H1, I1, r, h1⟩
  refine ⟨I1.kIn, ?_⟩
  have hl : us.length = ps.length := by rw [← r.length]; exact F.len _ _ _ _ _ _ h1
  have b := hb s1 us I1.kIn (by rw [List.append_nil]; exact hl)
  rw [List.append_nil] at b
  have P1 := I1.pin p (List.mem_append_left _ hp)
  have hpin : L2H.PinOk X.stack H1 s1 p :=
    ⟨P1.1, P1.2.1, fun hm => (List.mem_cons.mp (I1.stkSub p.1 hm)).elim P1.2.2.1 P1.2.2.2.1, P1.2.2.2.2⟩
  refine wpAny_call (codeAny_mono (F.run X.A X.stack s1 H1 us vs Q p cls d hr hot hz hpin I1.env0 b r h1) ?_)
  intro rr s' hq
  cases rr with
  | error e => exact False.elim hq
  | ok fl =>
    cases fl with
    | ret u => exact I1.after hq
    | next => exact False.elim hq
    | brk => exact False.elim hq
    | cont => exact False.elim hq

/-! ### xs.count(y), flat things -/
theorem cnt_eqU {x : V} {xs : List V} {us : List Value} (r : Vals xs us) (f : xs.all flatV = true) :
    us.countP (eqU x) = xs.countP fun y => eqV y x := by
  induction r with
  | nil => rfl
  | cons ry rt ih =>
    rw [List.all_cons, Bool.and_eq_true] at f
    rw [List.countP_cons, List.countP_cons, ih f.2, eqU_of ry f.1]
def rCntV (K : PySem.W.Frag) : V → List V → Hp → VK → Prop := fun x vs H Q => ∃ (a : Addr) (ys : List V) (y : V), x = .ref a ∧ vs = [y] ∧
  SqL K H a ys ∧ flatV y = true ∧ ys.all flatV = true ∧ Q (.int (ys.countP fun z => eqV z y : Nat)) H
theorem mt_cntV {X : Cx} : MtR X "list.count" (rCntV X.K) := by
  intro pins s σ H x xs v us Q I rx rxs h
  obtain ⟨p, ys, y, rfl, rfl, hs, fy, fys, q⟩ := h
  cases rx
  obtain ⟨u, rfl, ru⟩ := rxs.one
  obtain ⟨its, rv, ⟨⟨cls, dd, data, sl⟩, n, ho, hc, hdn, hd⟩, hlen⟩ := I.list hs
  simp only at hc hd
  subst hc hd
  refine call_meets PySem.F.slot_list_count ⟨_, ho, rfl⟩ PySem.F.entry_list_count (PySem.F.args_list_count_2 _ _)
    (SeqAt.list_countAt p its.toArray n dd sl u (eqU y)) ⟨ho, fun w hw => mem_eqAt ru fy rv fys w (by simpa using hw), ?_⟩
  have ec : its.toArray.toList.countP (eqU y) = ys.countP fun z => eqV z y := cnt_eqU rv fys
  refine ⟨.int (ys.countP fun z => eqV z y : Nat), H, I.tok _, ⟨s.toks, ?_⟩, q⟩
  show Value.int ((its.toArray.toList.countP (eqU y) : Nat) : Int) s.toks = _
  rw [ec]

/-! ### a list and a list, the left one perhaps the script -/
def rCatS (K : PySem.W.Frag) : R2 := fun x y H Q => ∃ l b xs zs, x = .ref l ∧ y = .ref b ∧ SqL K H l xs ∧ SqL K H b zs ∧
  xs.length + zs.length ≤ sizeLine ∧ ∀ p, H p = none → Q (.ref p) (upd H p (.lst (xs ++ zs)))
theorem op_catS {X : Cx} : OpR X (binaryOp .Add) (rCatS X.K) := by
  intro pins s σ H x y v u Q I rx ry h
  obtain ⟨l, b, xs, zs, rfl, rfl, hl, hb, hz, q⟩ := h
  cases rx
  cases ry
  obtain ⟨its, r, pl, _⟩ := I.list hl
  obtain ⟨its2, r2, pl2, _⟩ := I.list hb
  have n1 := r.length
  have n2 := r2.length
  obtain ⟨⟨c1, d1, da1, sl1⟩, m1, ho1, hc1, _, hd1⟩ := pl
  obtain ⟨⟨c2, d2, da2, sl2⟩, m2, ho2, hc2, _, hd2⟩ := pl2
  simp only at hc1 hd1 hc2 hd2
  subst hc1 hd1 hc2 hd2
  have ea : its.toArray ++ its2.toArray = (its ++ its2).toArray := by simp
  refine concat_meets ⟨_, ho1, rfl⟩ ⟨_, ho2, rfl⟩ noFill_list_add seq_list_add PySem.F.slot_list_add PySem.F.entry_list_add
    (PySem.F.args_list_add_2 _ _) (list_addW l b its.toArray its2.toArray m1 m2 d1 d2 sl1 sl2
      (by rw [List.size_toArray, List.size_toArray]; omega)) ⟨ho1, ho2, ?_⟩
  rw [ea]
  exact ⟨.ref _, _, I.lnew (t' := s.toks) (r.append r2) (by rw [List.length_append]; omega), rfl, q _ I.fresh⟩

/-! ### e(..), the value of e one of some defs of one promise -/
def tCallV (S : Addr → Prop) (sp : Sp) (E : St → XK) (te : TE) (t : TA) : TE := fun σ H Q => te σ H fun x H1 => ∃ f, x = .ref f ∧ S f ∧ t σ H1 fun vs H2 => sp vs H2 Q (E σ)
theorem pe_callV {X : Cx} {CX : CXT} {k : Nat} {S : Addr → Prop} {sp : Sp} {E : St → XK} {g e : Expr} {es : List Expr} {te : TE} {t : TA} {pos : Pos}
    (F : ∀ f, S f → ∃ (fd : FuncData) (ps : List Str), FnOk X.prog X.w X.K X.mg X.base CX k f fd ps sp ∧ PySem.W.keepIn X.K (.ref f) = true ∧ Binds X.K fd ps [])
    (hr : Room k X.A) (hx : ∀ σ, PassesAt CX X σ (E σ)) (hg : PE X g te) (ha : PA X (e :: es) t)
    (hev : eval (.Call g (e :: es) [] pos) X.env = (do callWith pos (← eval g X.env) [] (backTo pos (starEach (e :: es) X.env)) (backToKw pos (keywordEach [] X.env))) := by rfl)
    (he : starEach (e :: es) X.env = (false, eval e X.env) :: starEach es X.env := by rfl)
    (hpl : (backTo pos (starEach es X.env)).any (·.1) = false := by rfl) : PE X (.Call g (e :: es) [] pos) (tCallV S sp E te t) := by
  refine ⟨fun pins s σ H Q I h => ?_⟩
  refine PyProof.Rows.Call_ (thn (hg.run pins s σ H _ I h) ?_) hev
  rintro u s1 ⟨x, H1, I1, rx, f, rfl, hS, h1⟩
  obtain rfl : u = Value.ref f := rx
  obtain ⟨fd, ps, F1, hk, hb⟩ := F f hS
  refine PySem.W.callWith_K (h₀ := X.base) I.ok.mod.kin hk (thn (ha.run pos pins s1 σ H1 _ I1 h1) ?_) he hpl
  rintro us s2 ⟨vs, H2, I2, r, h2⟩
  exact ⟨I2.kIn, run_fnS F1 hr hb (hx σ) I2 r h2⟩

/-! ### a def that may raise, with the errors' context told -/
theorem okN {P : Program} {w : World} {K : PySem.W.Frag} {mg : Str → Option Value} {base : Heap} {x qual : Str} {st : Stmt} {f : Addr} {fd : FuncData}
    {N ps : List Str} {k : Nat} {sp : Sp} (F : Fun K x qual st f fd) (S : FnScope N ps (defScope st)) (len : ∀ vs H Q E, sp vs H Q E → vs.length = ps.length)
    (hbody : ∀ (cdv : Value) (A : Around) (outer : List Env) (s : Shared) (H : Hp) (vs : List V) (Q : VK) (E : XK), Room k (A.deeper (envOfC qual (defScope st) s.heap.objs.size f cdv)) →
      sp vs H Q E → ∃ t, PSs (cxOf (L2N.CX P w) P w K mg base N qual (defScope st) f cdv A outer s H E) (defBody st) t ∧
        t { nx := fun _ H' => Q .non H', rt := Q } (start N vs) H) : FnOk P w K mg base (L2N.CX P w) (k + 1) f fd ps sp := by
  obtain ⟨oc, od, kV, doc, pm, an, cdv, ct, osl, rfl, lk, hcd⟩ := F.ex
  exact fn_of lk hcd S len fun A outer s H vs Q E hr hsp => hbody cdv A outer s H vs Q E hr hsp
/-- X(e, ..), X an own error class without its own __init__; its context told -/
theorem pmkN {X : Cx} {C : Addr} {bmB : List Value} {B newId initId : String} {x : Str} {p pos : Pos} {e : Expr} {es : List Expr} {t : TA}
    (F : ExcBaseFacts B newId initId bmB) (q : PySem.W.excIn X.K C bmB newId = true) (gC : X.mg x = some (.ref C))
    (kC : PySem.W.keepIn X.K (.ref C) = true) (r : Raises X (.ref C)) (hg : Gl X x) (ha : PA X (e :: es) t)
    (hdb : (x == ("__debug__" : Str)) = false := by decide)
    (he : starEach (e :: es) X.env = (false, eval e X.env) :: starEach es X.env := by rfl)
    (hpl : (backTo pos (starEach es X.env)).any (·.1) = false := by rfl) :
    L2N.PMk X (.Call (.Name x p) (e :: es) [] pos) (fun σ H Q => t σ H fun vs H1 => vs.length ≤ sizeLine ∧ Q (.ref C) none H1) := by
  intro pins s σ H Q I h
  refine wpAny_Call_Name_kw (ld_glob I hg gC ?_ hdb)
  refine PySem.W.callWith_K (h₀ := X.base) I.ok.mod.kin kC (thn (ha.run pos pins s σ H _ I h) ?_) he hpl
  rintro us s1 ⟨vs, H1, I1, r1, hz, q1⟩
  refine ⟨I1.kIn, ?_⟩
  show wpAny _ _ (call (.ref C) us) _ _ _
  obtain ⟨bm, N, nm, qn, bs, hdct, sn, sub, ab, col, dd, k0, k1, k2, k3, k5, mN, hC, hN, hni, T⟩ := exc_obj I1.kIn q
  refine wpAny_call_exc_subT F T hC hN hni ?_ (by rw [← r1.length]; exact hz)
  intro h' e' hm
  exact L2N.mk_of I1 hm r q1 (I1.hok.gone hm.new)
theorem tkN {X : Cx} {E : XK} (hs : X.stack = X.env :: X.outer := by rfl) (hf : X.env.frame = some X.env.locals := by rfl) (hex : X.ex = [] := by rfl) {E₁ : Value → Shared → Prop}
    (hx : X.xe = fun e s' => wpAny (model X.prog X.w) X.A (leaving X.env e) (fun _ s'' => L2N.CX X.prog X.w X.outer X.H_0 X.s_0 E e s'') E₁ s' := by rfl) : L2N.Takes X (fun cls d _ H => E cls d H) := L2N.takes_of hs hf hex hx
/-- nothing is let out where the wish is none -/
theorem passN {X : Cx} : Passes (L2N.CX X.prog X.w) X E0 := by
  intro _ _ _ _ _ _ _ h
  obtain ⟨_, _, _, _, _, _, _, _, _, _, _, _, z⟩ := h
  exact z.elim
/-! ### heaps -/
theorem get_new {H : Hp} {p q : Addr} {o x : HO} (h : H p = none) (e : H q = some x) : upd H p o q = some x := by
  rw [upd_ne (ne_of_none e h)]
  exact e
theorem sq_new {K : PySem.W.Frag} {H : Hp} {p q : Addr} {o : HO} {xs : List V} (h : H p = none) (e : SqL K H q xs) : SqL K (upd H p o) q xs := by
  rcases e with (e | ⟨ob, e⟩) | e
  · exact .inl (.inl (get_new h e))
  · exact .inl (.inr ⟨ob, get_new h e⟩)
  · exact .inr e
theorem st_new {K : PySem.W.Frag} {H : Hp} {p q : Addr} {o : HO} {xs : List V} (h : H p = none) (e : SqT K H q xs) : SqT K (upd H p o) q xs := by
  rcases e with (e | ⟨ob, e⟩) | e
  · exact .inl (.inl (get_new h e))
  · exact .inl (.inr ⟨ob, get_new h e⟩)
  · exact .inr e
theorem same_new {H H' : Hp} {p : Addr} {o : HO} (h : H' p = none) (e : Same H H') : Same H (upd H' p o) := fun b x q => get_new h (e b x q)
theorem Same.new {H : Hp} {p : Addr} {o : HO} (h : H p = none) : Same H (upd H p o) := fun b x q => get_new h q
/-- a new object: from then on the heap is told by what it keeps and holds -/
theorem nw {H : Hp} {o : HO} {Q : VK} (k : ∀ (p : Addr) (H2 : Hp), H p = none → Same H H2 → H2 p = some o → Q (.ref p) H2) : ∀ p : Addr, H p = none → Q (.ref p) (upd H p o) :=
  fun p hp => k p _ hp (Same.new hp) upd_same
theorem takesN0 {X : Cx} : L2N.Takes X (fun _ _ _ _ => False) := by
  intro _ _ x
  obtain ⟨_, _, _, _, _, _, _, _, _, _, _, _, _, _, _, _, z⟩ := x
  exact z.elim
theorem ctx_of {cls : Value} {d : Option Addr} {oe : Obj} (hz : L2N.Zn cls d oe) (hf : ∃ vs, oe.data = .fields vs) : ∃ vs : Array Value, oe.data = .fields vs ∧ vs[2]? = some .none := by
  obtain ⟨vs, e⟩ := hf
  exact ⟨vs, e, hz.2.2 vs e⟩
theorem Same.seqT {K : PySem.W.Frag} {H H' : Hp} {a : Addr} {xs : List V} (e : Same H H') (h : SqT K H a xs) : SqT K H' a xs := by
  rcases h with (h | ⟨o, h⟩) | h
  · exact .inl (.inl (e _ _ h))
  · exact .inl (.inr ⟨o, e _ _ h⟩)
  · exact .inr h
theorem Same.ty {K : PySem.W.Frag} {H H' : Hp} {x : V} {T : String} (e : Same H H') (h : TyB K H x T) : TyB K H' x T := by
  cases h with
  | non => exact .non
  | bl b => exact .bl b
  | int i => exact .int i
  | str x => exact .str x
  | byt b => exact .byt b
  | lst h => exact .lst (Same.seq e h)
  | tup h => exact .tup (Same.seqT e h)
  | dK h => exact .dK (e _ _ h)
theorem small {n : Nat} (h : n.ble 100000 = true) : n ≤ 100000 := Nat.le_of_ble_eq_true h
end LH
/-! the reader: a reading, step by step, what follows kept as a letter -/
namespace LH
open PySem L2
variable {K : PySem.W.Frag} {σ : L2.St} {H : Hp} {Q : VK} {D : Ends} {ta tb te tc : TE} {t u : TS} {c c' : TT} {x y v : V} {r r' : R2} {tr : TA} {g : TG}
def Br (b : Bool) (A B : Prop) : Prop := if b = true then A else B
theorem br_t {A B : Prop} (h : A) : Br true A B := by unfold Br; rw [if_pos rfl]; exact h
theorem br_f {A B : Prop} (h : B) : Br false A B := by unfold Br; rw [if_neg Bool.false_ne_true]; exact h
theorem br {b : Bool} {A B : Prop} (h1 : b = true → A) (h2 : b = false → B) : Br b A B := by
  cases b
  · exact br_f (h2 rfl)
  · exact br_t (h1 rfl)
theorem br_p {p A B : Prop} [Decidable p] (h : p) (k : A) : Br (decide p) A B := by rw [decide_eq_true h]; exact br_t k
theorem br_n {p A B : Prop} [Decidable p] (h : ¬ p) (k : B) : Br (decide p) A B := by rw [decide_eq_false h]; exact br_f k
theorem br_d {p A B : Prop} [Decidable p] (h1 : p → A) (h2 : ¬ p → B) : Br (decide p) A B := br (fun e => h1 (of_decide_eq_true e)) (fun e => h2 (of_decide_eq_false e))
theorem br_nd {p A B : Prop} [Decidable p] (h1 : ¬ p → A) (h2 : p → B) : Br (!decide p) A B := br (fun e => h1 (by simpa using e)) (fun e => h2 (by simpa using e))
theorem br_nt {A B : Prop} (h : B) : Br (!true) A B := br_f h
theorem br_nf {A B : Prop} (h : A) : Br (!false) A B := br_t h
theorem br_eq {b b' : Bool} {A B : Prop} (e : b = b') (h : Br b' A B) : Br b A B := by rw [e]; exact h
def Bx (x : V) (H : Hp) (Q : Bool → Hp → Prop) : Prop := ∃ k, x = .bl k ∧ Q k H
theorem bx {k : Bool} {Q : Bool → Hp → Prop} (q : Q k H) : Bx (.bl k) H Q := ⟨k, rfl, q⟩
def BAnd (x : V) (H : Hp) (Q : VK) (R : Hp → VK → Prop) : Prop := ∃ c, x = .bl c ∧ if c = true then R H Q else Q (.bl false) H
def BOr (x : V) (H : Hp) (Q : VK) (R : Hp → VK → Prop) : Prop := ∃ c, x = .bl c ∧ if c = true then Q (.bl true) H else R H Q
theorem band {k : Bool} {R : Hp → VK → Prop} (q : Br k (R H Q) (Q (.bl false) H)) : BAnd (.bl k) H Q R := ⟨k, rfl, q⟩
theorem bor {k : Bool} {R : Hp → VK → Prop} (q : Br k (Q (.bl true) H) (R H Q)) : BOr (.bl k) H Q R := ⟨k, rfl, q⟩
def NewL (xs : List V) (H : Hp) (Q : VK) : Prop := xs.length ≤ sizeLine ∧ ∀ p, H p = none → Q (.ref p) (upd H p (.lst xs))
def NewT (xs : List V) (H : Hp) (Q : VK) : Prop := xs.length ≤ sizeLine ∧ ∀ p, H p = none → Q (.ref p) (upd H p (.tup xs))
theorem sz {n : Nat} (h : n ≤ 100000) : n ≤ sizeLine := Nat.le_trans h (by decide)
theorem sz' {n : Nat} (h : n ≤ 100000) : n < sizeLine := Nat.lt_of_le_of_lt h (by decide)
theorem newl {xs : List V} (hl : xs.length ≤ 100000) (k : ∀ p H2, H p = none → Same H H2 → H2 p = some (.lst xs) → Q (.ref p) H2) : NewL xs H Q :=
  ⟨sz hl, fun p hp => k p _ hp (Same.new hp) upd_same⟩
theorem newt {xs : List V} (hl : xs.length ≤ 100000) (k : ∀ p H2, H p = none → Same H H2 → H2 p = some (.tup xs) → Q (.ref p) H2) : NewT xs H Q :=
  ⟨sz hl, fun p hp => k p _ hp (Same.new hp) upd_same⟩
def NewO (o : HO) (H : Hp) (Q : VK) : Prop := ∀ p, H p = none → Q (.ref p) (upd H p o)
theorem newo {o : HO} (k : ∀ p H2, H p = none → Same H H2 → H2 p = some o → Q (.ref p) H2) : NewO o H Q := fun p hp => k p _ hp (Same.new hp) upd_same
/-! statements -/
theorem x_seq (h : t { D with nx := u D } σ H) : tSeq t u D σ H := h
theorem x_asg (h : te σ H fun x H1 => g x σ H1 D.nx) : tAsg te g D σ H := h
theorem x_gname {i : Nat} {Q : L2.St → Hp → Prop} (h : Q (σ.set i (some v)) H) : gName i v σ H Q := h
theorem x_ret (h : te σ H D.rt) : tRet te D σ H := h
theorem x_drop (h : te σ H fun _ H1 => D.nx σ H1) : tDrop te D σ H := h
theorem x_ifS (h : c σ H fun b H1 => Br b (t D σ H1) (u D σ H1)) : tIfS c t u D σ H := h
theorem x_next (h : D.nx σ H) : tNext D σ H := h
theorem x_cont (h : D.ct σ H) : tCont D σ H := h
/-! expressions -/
theorem x_var {i : Nat} (h : σ[i]? = some (some v)) (q : Q v H) : tVar i σ H Q := ⟨v, h, q⟩
theorem x_c (q : Q v H) : tC v σ H Q := q
theorem x_op (h : ta σ H fun x H1 => tb σ H1 fun y H2 => r x y H2 Q) : tOp r ta tb σ H Q := h
theorem x_un {r : V → Hp → VK → Prop} (h : ta σ H fun x H1 => r x H1 Q) : tUn r ta σ H Q := h
theorem x_U {f : Int → V} {i : Int} (q : Q (f i) H) : rU f (.int i) H Q := ⟨i, rfl, q⟩
theorem x_I0 {f : Int → Int → V} {i j : Int} (q : Q (f i j) H) : rI0 f (.int i) (.int j) H Q := ⟨i, j, rfl, rfl, q⟩
theorem x_I {C : Int → Int → Prop} {f : Int → Int → V} {i j : Int} (h : C i j) (q : Q (f i j) H) : rI C f (.int i) (.int j) H Q := ⟨i, j, rfl, rfl, h, q⟩
theorem x_eq (h : scal x y = true) (q : Q (.bl (decide (x = y))) H) : rEq x y H Q := ⟨h, q⟩
theorem x_ne (h : scal x y = true) (q : Q (.bl (!decide (x = y))) H) : rNe x y H Q := ⟨h, q⟩
theorem x_test {Q : Bool → Hp → Prop} (h : te σ H fun x H1 => Bx x H1 Q) : tTest te σ H Q := h
theorem x_tB {Q : Bool → Hp → Prop} (h : te σ H fun x H1 => Bx x H1 Q) : tB te σ H Q := h
theorem x_and {Q : Bool → Hp → Prop} (h : c σ H fun b H1 => Br b (c' σ H1 Q) (Q false H1)) : tAnd c c' σ H Q := h
theorem x_or {Q : Bool → Hp → Prop} (h : c σ H fun b H1 => Br b (Q true H1) (c' σ H1 Q)) : tOr c c' σ H Q := h
theorem x_not {Q : Bool → Hp → Prop} (h : c σ H fun b H1 => Q (!b) H1) : tNot c σ H Q := h
theorem x_andV (h : ta σ H fun x H1 => BAnd x H1 Q (tb σ)) : tAndV ta tb σ H Q := h
theorem x_orV (h : ta σ H fun x H1 => BOr x H1 Q (tb σ)) : tOrV ta tb σ H Q := h
theorem x_notV (h : ta σ H fun x H1 => Bx x H1 fun b H2 => Q (.bl (!b)) H2) : tNotV ta σ H Q := h
theorem x_if (h : c σ H fun b H1 => Br b (ta σ H1 Q) (tb σ H1 Q)) : tIf c ta tb σ H Q := h
def ChK (z : V) (σ : L2.St) (H : Hp) (Q : VK) (tc : TE) (r' : R2) (y : V) : Prop := ∃ k, z = .bl k ∧ if k = true then tc σ H fun w' H4 => r' y w' H4 Q else Q (.bl false) H
theorem x_chain (h : ta σ H fun x H1 => tb σ H1 fun y H2 => r x y H2 fun z H3 => ChK z σ H3 Q tc r' y) : tChain r r' ta tb tc σ H Q := h
theorem chk {k : Bool} (h : Br k (tc σ H fun w' H4 => r' y w' H4 Q) (Q (.bl false) H)) : ChK (.bl k) σ H Q tc r' y := ⟨k, rfl, h⟩
theorem x_nil {Q : List V → Hp → Prop} (q : Q [] H) : tNil σ H Q := q
theorem x_cons {Q : List V → Hp → Prop} (h : ta σ H fun x H1 => tr σ H1 fun xs H2 => Q (x :: xs) H2) : tCons ta tr σ H Q := h
theorem x_lst (h : tr σ H fun xs H1 => NewL xs H1 Q) : tLst tr σ H Q := h
theorem x_tup (h : tr σ H fun xs H1 => NewT xs H1 Q) : tTup tr σ H Q := h
theorem x_call {sp : Sp} {dvs : List V} {E : XK} (h : tr σ H fun vs H1 => sp (vs ++ dvs) H1 Q E) : tCall sp dvs E tr σ H Q := h
theorem x_callS {sp : Sp} {E : L2.St → XK} (h : tr σ H fun vs H1 => sp vs H1 Q (E σ)) : tCallS sp E tr σ H Q := h
theorem x_callE {sp : SpE} {e : Addr} {cls : Value} {d : Option Addr} (h : tr σ H fun vs H1 => sp e cls d vs H1 Q) : tCallE sp e cls d tr σ H Q := h
theorem x_cb {r : List V → Hp → VK → Prop} (h : tr σ H fun vs H1 => r vs H1 Q) : tCB r tr σ H Q := h
def BmV (K : PySem.W.Frag) (T : String) (r : V → List V → Hp → VK → Prop) (tr : TA) (σ : L2.St) (x : V) (H : Hp) (Q : VK) : Prop := tyV K T x H ∧ tr σ H fun xs H2 => r x xs H2 Q
theorem x_bm {T : String} {r : V → List V → Hp → VK → Prop} (h : te σ H fun x H1 => BmV K T r tr σ x H1 Q) : tBM K T r te tr σ H Q := h
theorem bm_l {r : V → List V → Hp → VK → Prop} {p : Addr} {xs : List V} (h : SqL K H p xs) (q : tr σ H fun ys H2 => r (.ref p) ys H2 Q) : BmV K "list" r tr σ (.ref p) H Q := ⟨.inl ⟨rfl, _, h⟩, q⟩
def CvV (S : Addr → Prop) (sp : Sp) (E : L2.St → XK) (tr : TA) (σ : L2.St) (x : V) (H : Hp) (Q : VK) : Prop := ∃ f, x = .ref f ∧ S f ∧ tr σ H fun vs H2 => sp vs H2 Q (E σ)
theorem x_callV {S : Addr → Prop} {sp : Sp} {E : L2.St → XK} (h : te σ H fun x H1 => CvV S sp E tr σ x H1 Q) : tCallV S sp E te tr σ H Q := h
theorem cvv {S : Addr → Prop} {sp : Sp} {E : L2.St → XK} {f : Addr} (h : S f) (q : tr σ H fun vs H2 => sp vs H2 Q (E σ)) : CvV S sp E tr σ (.ref f) H Q := ⟨f, rfl, h, q⟩
/-! values -/
theorem x_ixL {p : Addr} {xs : List V} {i : Int} (h : SqL K H p xs) (e : atI xs i = some v) (q : Q v H) : rIxL K (.ref p) (.int i) H Q := ⟨p, xs, i, v, rfl, rfl, h, e, q⟩
theorem x_ixT {p : Addr} {xs : List V} {i : Int} (h : SqT K H p xs) (e : atI xs i = some v) (q : Q v H) : rIxT K (.ref p) (.int i) H Q := ⟨p, xs, i, v, rfl, rfl, h, e, q⟩
theorem x_isi {t : Value} {n : Value} {b : Bool} {cv : V} (k : ClsV cv n) (ty : TyX K H x t) (e : PySem.W.kitOne K t n = some b) (q : Q (.bl b) H) : rIsi K [x, cv] H Q := ⟨x, cv, t, n, b, rfl, k, ty, e, q⟩
theorem x_isE {C a : Addr} {b : Bool} {cv : V} {n : Value} (hc : ∀ u, RelV cv u → u = n) (e : PySem.W.kitOne K (.ref C) n = some b) (q : Q (.bl b) H) : rIsE K C a [.ref a, cv] H Q := ⟨cv, n, b, rfl, hc, e, q⟩
theorem x_cntV {p : Addr} {ys : List V} (h : SqL K H p ys) (fy : flatV y = true) (fys : ys.all flatV = true) (q : Q (.int (ys.countP fun z => eqV z y : Nat)) H) : rCntV K (.ref p) [y] H Q := ⟨p, ys, y, rfl, rfl, h, fy, fys, q⟩
theorem x_index {p : Addr} {ys : List V} {j : Nat} {z : V} (h : SqL K H p ys) (fy : flatV y = true) (fys : ys.all flatV = true) (e : ys[j]? = some z) (ez : eqV z y = true)
    (hn : ∀ (m : Nat) (z' : V), m < j → ys[m]? = some z' → eqV z' y = false) (q : Q (.int (j : Nat)) H) : rIndex K (.ref p) [y] H Q := ⟨p, ys, y, j, z, rfl, rfl, h, fy, fys, e, ez, hn, q⟩
theorem x_catS {p q : Addr} {xs ys : List V} (h1 : SqL K H p xs) (h2 : SqL K H q ys) (hl : xs.length + ys.length ≤ 100000)
    (k : ∀ p H2, H p = none → Same H H2 → H2 p = some (.lst (xs ++ ys)) → Q (.ref p) H2) : rCatS K (.ref p) (.ref q) H Q :=
  ⟨p, q, xs, ys, rfl, rfl, h1, h2, sz hl, fun p hp => k p _ hp (Same.new hp) upd_same⟩
theorem x_in {neg : Bool} {p : Addr} {xs : List V} (h : SqL K H p xs) (hx : flatV x = true) (ha : xs.all flatV = true) (q : Q (.bl (if neg then !inV x xs else inV x xs)) H) : rIn K neg x (.ref p) H Q := ⟨p, xs, rfl, Or.inl h, hx, ha, q⟩
theorem x_typ {T : String} (h : TyB K H x T) (q : Q (.ty T) H) : rTyp K [x] H Q := ⟨x, T, rfl, h, q⟩
theorem x_neD {d e : PyData} (hx : Dp K H x d) (hy : Dp K H y e) (sd : SeqAt.shaped d = true) (se : SeqAt.shaped e = true) (q : Q (.bl (!PyData.eqv d e)) H) : rNeD K x y H Q := ⟨d, e, hx, hy, sd, se, q⟩
theorem x_eqD {d e : PyData} (hx : Dp K H x d) (hy : Dp K H y e) (sd : SeqAt.shaped d = true) (se : SeqAt.shaped e = true) (q : Q (.bl (PyData.eqv d e)) H) : rEqD K x y H Q := ⟨d, e, hx, hy, sd, se, q⟩
def LrV (a b : Int) (H : Hp) (Q : VK) : Prop := RgOk a b ∧ NewO (.lst (rgV a b)) H Q
theorem lrv {a b : Int} (h : RgOk a b) (k : ∀ p H2, H p = none → Same H H2 → H2 p = some (.lst (rgV a b)) → Q (.ref p) H2) : LrV a b H Q := ⟨h, newo k⟩
theorem x_lrg {te : L2.St → Hp → (Int → Int → Hp → Prop) → Prop} (h : te σ H fun a b H1 => LrV a b H1 Q) : tLstRg te σ H Q := h
end LH
namespace LH
open PySem L2
section
variable {K : PySem.W.Frag} {σ : L2.St} {H : Hp} {Q : VK} {te tl : TE} {t : TT} {g : TG}
/-! comprehensions over a list -/
def LcV (K : PySem.W.Frag) (g : TG) (t : TT) (te : TE) (vs : List Nat) (σ : L2.St) (x : V) (H1 : Hp) (Q : VK) : Prop :=
  ∃ a, x = .ref a ∧ (∃ xs, SqL K H1 a xs) ∧ ∀ D, H1 D = none → ∃ W : Nat → Nat → Hp → Prop, (∃ m, W 0 m (upd H1 D (.lst []))) ∧ ∀ i m H, W i m H →
  ((Itl K a).stop i H ∧ Q (.ref D) H) ∨ ((Itl K a).go i H ∧ ∃ Nx : Hp → Prop, (∀ H', Nx H' → ∃ m', m' < m ∧ W (i + 1) m' H') ∧ ∀ x H', (Itl K a).yld i H x H' → g x (wipe σ vs) H' fun σ2 H2 => wipe σ2 vs = wipe σ vs ∧ t σ2 H2 fun b H3 =>
    if b = true then te σ2 H3 fun y H4 => ∃ acc, H4 D = some (.lst acc) ∧ acc.length < sizeLine ∧ Nx (upd H4 D (.lst (acc ++ [y]))) else Nx H3)
theorem x_lc {vs : List Nat} (h : tl σ H fun x H1 => LcV K g t te vs σ x H1 Q) : tLc (iList K tl) g t te vs σ H Q := h
theorem take_more {α : Type} {l : List α} {i : Nat} {x : α} (h : l[i]? = some x) : l.take (i + 1) = l.take i ++ [x] := by
  rw [List.take_add_one, h]
  rfl
theorem Same.mut {H H' : Hp} {p : Addr} {o : HO} (e : Same H H') (h : H p = none) : Same H (upd H' p o) := fun a u ha => by
  rw [upd_ne (ne_of_none ha h)]
  exact e a u ha
/-- each item kept where f says so, and turned by v; tests and elements may make things of their own -/
theorem lc_L {a : Addr} {xs : List V} {j : Nat} {vs : List Nat} (hx : SqL K H a xs) (hz : xs.length ≤ 100000) (f : V → Bool) (v : V → V)
    (hw : ∀ x, wipe ((wipe σ vs).set j (some x)) vs = wipe σ vs)
    (ht : ∀ x, x ∈ xs → ∀ H1, Same H H1 → ∀ Q : Bool → Hp → Prop, (∀ H2, Same H1 H2 → Q (f x) H2) → t ((wipe σ vs).set j (some x)) H1 Q)
    (he : ∀ x, x ∈ xs → f x = true → ∀ H1, Same H H1 → ∀ Q : VK, (∀ H2, Same H1 H2 → Q (v x) H2) → te ((wipe σ vs).set j (some x)) H1 Q)
    (k : ∀ p H2, H p = none → Same H H2 → H2 p = some (.lst ((xs.filter f).map v)) → Q (.ref p) H2) : LcV K (gName j) t te vs σ (.ref a) H Q := by
  refine ⟨a, rfl, ⟨xs, hx⟩, fun D hD => ?_⟩
  refine lc_list (xs := xs) (fun i H' => Same H H' ∧ H' D = some (.lst (((xs.take i).filter f).map v))) ⟨Same.new hD, upd_same⟩ (fun i H' _ p => Same.seq p.1 hx) ?_ ?_
  · intro i x H' hi p
    have hm : x ∈ xs := List.mem_of_getElem? hi
    have hlt : i < xs.length := (List.getElem?_eq_some_iff.mp hi).1
    have et := take_more hi
    refine ⟨hw x, ht x hm H' p.1 _ fun H2 e2 => ?_⟩
    cases hf : f x with
    | true =>
      rw [if_pos rfl]
      refine he x hm hf H2 (p.1.trans e2) _ fun H3 e3 => ⟨_, e3 _ _ (e2 _ _ p.2), ?_, ?_, ?_⟩
      · have z1 := List.length_filter_le f (xs.take i)
        rw [List.length_map]
        rw [List.length_take] at z1
        exact sz' (by omega)
      · exact Same.mut ((p.1.trans e2).trans e3) hD
      · rw [et, List.filter_append, List.map_append, upd_same]
        simp [List.filter, hf]
    | false =>
      rw [if_neg Bool.false_ne_true]
      refine ⟨p.1.trans e2, ?_⟩
      rw [et, List.filter_append, List.map_append]
      simp [List.filter, hf]
      exact e2 _ _ p.2
  · intro H' p
    rw [List.take_length] at p
    exact k D H' hD p.1 p.2
/-- len(..) -/
def rLen (K : PySem.W.Frag) : List V → Hp → VK → Prop := fun xs H Q => ∃ p ys, xs = [.ref p] ∧ (SqL K H p ys ∨ SqT K H p ys) ∧ Q (.int ys.length) H
theorem call_len {X : Cx} : CallR X (.builtin "len") (rLen X.K) := call_len_seq
theorem x_lenL {p : Addr} {xs : List V} (h : SqL K H p xs) (q : Q (.int xs.length) H) : rLen K [.ref p] H Q := ⟨p, xs, rfl, .inl h, q⟩
theorem x_lenT {p : Addr} {xs : List V} (h : SqT K H p xs) (q : Q (.int xs.length) H) : rLen K [.ref p] H Q := ⟨p, xs, rfl, .inr h, q⟩
def rAbs : List V → Hp → VK → Prop := fun xs H Q => ∃ i, xs = [.int i] ∧ Q (.int (if i < 0 then -i else i)) H
theorem call_absI {X : Cx} : CallR X (.builtin "abs") rAbs := call_abs
theorem x_abs {i : Int} (q : Q (.int (if i < 0 then -i else i)) H) : rAbs [.int i] H Q := ⟨i, rfl, q⟩
def ForL (K : PySem.W.Frag) (g : TG) (tb : TS) (D : Ends) (σ : L2.St) (x : V) (H1 : Hp) : Prop := ∃ a, x = .ref a ∧ (∃ xs, SqL K H1 a xs) ∧ ∃ W : Nat → Nat → L2.St → Hp → Prop, (∃ m, W 0 m σ H1) ∧ ∀ i m σ H, W i m σ H →
  ((Itl K a).stop i H ∧ D.nx σ H) ∨ ((Itl K a).go i H ∧ ∃ N : L2.St → Hp → Prop, (∀ σ' H', N σ' H' → ∃ m', m' < m ∧ W (i + 1) m' σ' H') ∧ ∀ x H', (Itl K a).yld i H x H' → g x σ H' fun σ2 H2 => tb { D with nx := N, ct := N, bk := D.nx } σ2 H2)
theorem x_forL {tb : TS} {D : Ends} (h : tl σ H fun x H1 => ForL K g tb D σ x H1) : tFor (iList K tl) g tb D σ H := h
/-- a for over a list by what holds between two turns; the turn's item is x -/
theorem for_L {tb : TS} {D : Ends} {j : Nat} {a : Addr} {xs : List V} (hx : SqL K H a xs) (Pv : Nat → L2.St → Hp → Prop) (h0 : Pv 0 σ H) (hl : ∀ i σ H, i ≤ xs.length → Pv i σ H → SqL K H a xs)
    (hs : ∀ i x σ H, xs[i]? = some x → Pv i σ H → tb { nx := Pv (i + 1), rt := D.rt, ct := Pv (i + 1), bk := D.nx } (σ.set j (some x)) H) (hd : ∀ σ H, Pv xs.length σ H → D.nx σ H) : ForL K (gName j) tb D σ (.ref a) H :=
  ⟨a, rfl, ⟨xs, hx⟩, for_list (xs := xs) Pv h0 hl (fun i x σ H e p => hs i x σ H e p) hd⟩
def Rg1V (x : V) (H : Hp) (Q : Int → Int → Hp → Prop) : Prop := ∃ n, x = .int n ∧ Q 0 n H
def Rg2V (x y : V) (H : Hp) (Q : Int → Int → Hp → Prop) : Prop := ∃ i j, x = .int i ∧ y = .int j ∧ Q i j H
theorem x_rg1 {Q : Int → Int → Hp → Prop} (h : te σ H fun x H1 => Rg1V x H1 Q) : tRg1 te σ H Q := h
theorem x_rg2 {tb : TE} {Q : Int → Int → Hp → Prop} (h : te σ H fun x H1 => tb σ H1 fun y H2 => Rg2V x y H2 Q) : tRg2 te tb σ H Q := h
theorem rg1v {n : Int} {Q : Int → Int → Hp → Prop} (q : Q 0 n H) : Rg1V (.int n) H Q := ⟨n, rfl, q⟩
theorem rg2v {i j : Int} {Q : Int → Int → Hp → Prop} (q : Q i j H) : Rg2V (.int i) (.int j) H Q := ⟨i, j, rfl, rfl, q⟩
end
end LH
namespace K1
open PySem L2
def top (i : Nat) : Stmt := PySem.Challenge.pw_latehouse_k01_counts.main.body.getD i (.Pass ⟨0, 0, 0, 0⟩)
/-! ### the text's places -/
abbrev s_is_whole : Stmt := top 12
abbrev N_is_whole : List Str := ["thing", "least", "most"]
theorem sc_is_whole : FnScope N_is_whole ["thing", "least", "most"] (defScope s_is_whole) := ⟨rfl, rfl, rfl, by decide +kernel, rfl, by decide +kernel, by decide +kernel⟩
abbrev s_check_count : Stmt := top 13
abbrev N_check_count : List Str := ["count"]
theorem sc_check_count : FnScope N_check_count ["count"] (defScope s_check_count) := ⟨rfl, rfl, rfl, by decide +kernel, rfl, by decide +kernel, by decide +kernel⟩
abbrev s_most_liars : Stmt := top 14
abbrev N_most_liars : List Str := ["count"]
theorem sc_most_liars : FnScope N_most_liars ["count"] (defScope s_most_liars) := ⟨rfl, rfl, rfl, by decide +kernel, rfl, by decide +kernel, by decide +kernel⟩
abbrev s_enough : Stmt := top 15
abbrev N_enough : List Str := ["count"]
theorem sc_enough : FnScope N_enough ["count"] (defScope s_enough) := ⟨rfl, rfl, rfl, by decide +kernel, rfl, by decide +kernel, by decide +kernel⟩
abbrev s_shared : Stmt := top 16
abbrev N_shared : List Str := ["count"]
theorem sc_shared : FnScope N_shared ["count"] (defScope s_shared) := ⟨rfl, rfl, rfl, by decide +kernel, rfl, by decide +kernel, by decide +kernel⟩
abbrev s__law_whole : Stmt := top 18
abbrev N__law_whole : List Str := ["_law_thing"]
theorem sc__law_whole : FnScope N__law_whole ["_law_thing"] (defScope s__law_whole) := ⟨rfl, rfl, rfl, by decide +kernel, rfl, by decide +kernel, by decide +kernel⟩
abbrev s__law_kind : Stmt := top 19
abbrev N__law_kind : List Str := ["_law_error", "_law_words", "_law_found"]
theorem sc__law_kind : FnScope N__law_kind ["_law_error"] (defScope s__law_kind) := ⟨rfl, rfl, rfl, by decide +kernel, rfl, by decide +kernel, by decide +kernel⟩
abbrev s__law_said : Stmt := top 20
abbrev N__law_said : List Str := ["_law_which", "_law_count", "_law_error"]
theorem sc__law_said : FnScope N__law_said ["_law_which", "_law_count"] (defScope s__law_said) := ⟨rfl, rfl, rfl, by decide +kernel, rfl, by decide +kernel, by decide +kernel⟩
abbrev s__law_good : Stmt := top 21
abbrev N__law_good : List Str := ["_law_count", "_law_liars", "_law_wanted", "_law_both", "_law_ahead", "_law_behind", "_law_house"]
theorem sc__law_good : FnScope N__law_good ["_law_count"] (defScope s__law_good) := ⟨rfl, rfl, rfl, by decide +kernel, rfl, by decide +kernel, by decide +kernel⟩
abbrev s_law : Stmt := top 22
abbrev N_law : List Str := ["_law_script", "_law_cell", "_law_odd"]
theorem sc_law : FnScope N_law ["_law_script"] (defScope s_law) := ⟨rfl, rfl, rfl, by decide +kernel, rfl, by decide +kernel, by decide +kernel⟩

/-! ### what stands behind the top -/
structure Ad where
  (is_whole check_count most_liars enough shared _law_whole _law_kind _law_said _law_good law : Addr)
  (d_is_whole d_check_count d_most_liars d_enough d_shared d__law_whole d__law_kind d__law_said d__law_good d_law : FuncData)
  (HouseError BadCount BadHouse BadRow BadWord Forged NoLetter NotWritten NoText : Addr)
abbrev VEs : List Value := [.type "ValueError", .type "Exception", .type "BaseException", .type "object"]
structure Txt (K : PySem.W.Frag) (mg : Str → Option Value) (a : Ad) : Prop where
  F_is_whole : Fun K "is_whole" "is_whole" s_is_whole a.is_whole a.d_is_whole
  g_is_whole : mg "is_whole" = some (.ref a.is_whole)
  b_is_whole : Binds K a.d_is_whole ["thing", "least", "most"] []
  F_check_count : Fun K "check_count" "check_count" s_check_count a.check_count a.d_check_count
  g_check_count : mg "check_count" = some (.ref a.check_count)
  b_check_count : Binds K a.d_check_count ["count"] []
  F_most_liars : Fun K "most_liars" "most_liars" s_most_liars a.most_liars a.d_most_liars
  g_most_liars : mg "most_liars" = some (.ref a.most_liars)
  b_most_liars : Binds K a.d_most_liars ["count"] []
  F_enough : Fun K "enough" "enough" s_enough a.enough a.d_enough
  g_enough : mg "enough" = some (.ref a.enough)
  b_enough : Binds K a.d_enough ["count"] []
  F_shared : Fun K "shared" "shared" s_shared a.shared a.d_shared
  g_shared : mg "shared" = some (.ref a.shared)
  b_shared : Binds K a.d_shared ["count"] []
  F__law_whole : Fun K "_law_whole" "_law_whole" s__law_whole a._law_whole a.d__law_whole
  g__law_whole : mg "_law_whole" = some (.ref a._law_whole)
  b__law_whole : Binds K a.d__law_whole ["_law_thing"] []
  F__law_kind : Fun K "_law_kind" "_law_kind" s__law_kind a._law_kind a.d__law_kind
  g__law_kind : mg "_law_kind" = some (.ref a._law_kind)
  b__law_kind : Binds K a.d__law_kind ["_law_error"] []
  F__law_said : Fun K "_law_said" "_law_said" s__law_said a._law_said a.d__law_said
  g__law_said : mg "_law_said" = some (.ref a._law_said)
  b__law_said : Binds K a.d__law_said ["_law_which", "_law_count"] []
  F__law_good : Fun K "_law_good" "_law_good" s__law_good a._law_good a.d__law_good
  g__law_good : mg "_law_good" = some (.ref a._law_good)
  b__law_good : Binds K a.d__law_good ["_law_count"] []
  F_law : Fun K "law" "law" s_law a.law a.d_law
  g_HouseError : mg "HouseError" = some (.ref a.HouseError)
  g_BadCount : mg "BadCount" = some (.ref a.BadCount)
  g_BadHouse : mg "BadHouse" = some (.ref a.BadHouse)
  g_BadRow : mg "BadRow" = some (.ref a.BadRow)
  g_BadWord : mg "BadWord" = some (.ref a.BadWord)
  g_Forged : mg "Forged" = some (.ref a.Forged)
  g_NoLetter : mg "NoLetter" = some (.ref a.NoLetter)
  g_NotWritten : mg "NotWritten" = some (.ref a.NotWritten)
  g_NoText : mg "NoText" = some (.ref a.NoText)
  x_BadCount : PySem.W.excIn K a.BadCount VEs "ValueError.__new__" = true
  k_BadCount : PySem.W.keepIn K (.ref a.BadCount) = true
  bx_BadCount : PySem.W.subIn K (.ref a.BadCount) (.type "BaseException") = some true
  t_BadCount : PySem.W.typeIn K (.ref a.BadCount) = some (.type "type")
  e_BadCount : PySem.W.exmOne K (.ref a.BadCount) (.ref a.HouseError) = some true
  c_BadCount : ExcC K a.BadCount
  i_BadCount : PySem.W.kitOne K (.ref a.BadCount) (.ref a.BadCount) = some true
  i_BadHouse : PySem.W.kitOne K (.ref a.BadCount) (.ref a.BadHouse) = some false
  i_BadRow : PySem.W.kitOne K (.ref a.BadCount) (.ref a.BadRow) = some false
  i_BadWord : PySem.W.kitOne K (.ref a.BadCount) (.ref a.BadWord) = some false
  i_Forged : PySem.W.kitOne K (.ref a.BadCount) (.ref a.Forged) = some false
  i_NoLetter : PySem.W.kitOne K (.ref a.BadCount) (.ref a.NoLetter) = some false
  i_NotWritten : PySem.W.kitOne K (.ref a.BadCount) (.ref a.NotWritten) = some false
  i_NoText : PySem.W.kitOne K (.ref a.BadCount) (.ref a.NoText) = some false
  i_ValueError : PySem.W.kitOne K (.ref a.BadCount) (.type "ValueError") = some true
  m_MOST_HOUSES : ∃ t, mg "MOST_HOUSES" = some (.int 12 t)
  n_type : mg "type" = none
  n_int : mg "int" = none
  n_bool : mg "bool" = none
  n_isinstance : mg "isinstance" = none
  n_ValueError : mg "ValueError" = none
  n_len : mg "len" = none
  n_list : mg "list" = none
  n_range : mg "range" = none
  n_abs : mg "abs" = none

section
variable {P : Program} {w : World} {K : PySem.W.Frag} {mg : Str → Option Value} {base : Heap} {a : Ad}
/-! ### counts -/
def isW : V → Int → Int → Bool
  | .int i, lo, hi => decide (lo ≤ i) && decide (i ≤ hi)
  | _, _, _ => false
theorem isW_int {x : V} {lo hi : Int} (h : isW x lo hi = true) : ∃ i, x = .int i ∧ lo ≤ i ∧ i ≤ hi := by
  cases x <;> simp [isW] at h
  exact ⟨_, rfl, h.1, h.2⟩
def spWhole (K : PySem.W.Frag) : Sp := fun vs H Q _ => ∃ x T lo hi, vs = [x, .int lo, .int hi] ∧ TyB K H x T ∧ Q (.bl (isW x lo hi)) H
theorem ok_is_whole (T : Txt K mg a) : FnOk P w K mg base CX0 1 a.is_whole a.d_is_whole ["thing", "least", "most"] (spWhole K) := by
  refine T.F_is_whole.ok sc_is_whole (fun vs H Q E h => ?_) (fun cdv A outer s H vs Q E hr h => ?_)
  · obtain ⟨x, t, lo, hi, rfl, _⟩ := h
    rfl
  · obtain ⟨x, t, lo, hi, rfl, ht, k⟩ := h
    refine ⟨_, pss_one (ps_ret (pe_and (pe_cmpR op_isTyB (pe_callTy call_type1 rfl T.n_type (by decide +kernel) (pa_cons (pv 0) pa_nil)) (pe_bltn (v := .ty "int") rfl T.n_int (by decide +kernel) rfl) (nomark _)) (pe_one (pe_chain op_le op_le (pv 1) (pv 0) (pv 2))))), ?_⟩
    refine ⟨_, rfl, x, t, rfl, ht, _, _, rfl, rfl, _, rfl, ?_⟩
    have no : isW x lo hi = false → t ≠ "int" → (if decide (t = "int") = true then tChain (rI0 fun i j => .bl (decide (i ≤ j))) (rI0 fun i j => .bl (decide (i ≤ j))) (tVar 1) (tVar 0) (tVar 2) (start N_is_whole [x, .int lo, .int hi]) H Q else Q (.bl false) H) := fun e2 e => by
      refine ite2 (fun c => absurd (of_decide_eq_true c) e) (fun _ => ?_)
      rw [e2] at k
      exact k
    cases ht with
    | int i =>
      refine ite2 (fun _ => ?_) (fun c => absurd rfl c)
      refine ⟨_, rfl, _, rfl, _, _, rfl, rfl, _, rfl, ?_⟩
      by_cases c : lo ≤ i
      · refine ite2 (fun _ => ?_) (fun c' => absurd (decide_eq_true c) c')
        refine ⟨_, rfl, _, _, rfl, rfl, ?_⟩
        simpa [isW, c] using k
      · refine ite2 (fun c' => absurd (of_decide_eq_true c') c) (fun _ => ?_)
        simpa [isW, c] using k
    | _ => exact no rfl (by decide)
def spCheck (K : PySem.W.Frag) (C : Addr) : Sp := fun vs H Q E => ∃ x T, vs = [x] ∧ TyB K H x T ∧ (isW x 1 12 = true → Q .non H) ∧ (isW x 1 12 = false → E (.ref C) none H)
theorem ok_check_count (T : Txt K mg a) : FnOk P w K mg base (L2N.CX P w) 2 a.check_count a.d_check_count ["count"] (spCheck K a.BadCount) := by
  have G_is_whole : FnOk P w K mg base CX0 1 a.is_whole a.d_is_whole ["thing", "least", "most"] (spWhole K) := ok_is_whole T
  obtain ⟨tm, hm⟩ := T.m_MOST_HOUSES
  refine LH.okN T.F_check_count sc_check_count (fun vs H Q E h => ?_) (fun cdv A outer s H vs Q E hr h => ?_)
  · obtain ⟨x, t, rfl, _⟩ := h
    rfl
  · obtain ⟨x, t, rfl, ht, k1, k2⟩ := h
    refine ⟨_, pss_one (ps_if (pt_not (pt_val (pe_call G_is_whole hr rfl T.g_is_whole T.F_is_whole.kp T.b_is_whole .nil pass0 (pa_cons (pv 0) (pa_cons pe_int (pa_cons (pe_glob (v := .int 12) rfl hm ⟨_, rfl⟩) pa_nil))))))
      (pss_one (L2N.ps_raise rfl (LH.tkN (E := E)) (LH.pmkN PySem.F.excBase_ValueError T.x_BadCount T.g_BadCount T.k_BadCount (raises_own T.bx_BadCount T.t_BadCount) rfl (pa_cons (pe_joined (.cons pe_str (.cons (pe_fmt (pe_glob (v := .int 12) rfl hm ⟨_, rfl⟩)) .nil))) pa_nil))))
      pss_nil), ?_⟩
    refine ⟨_, rfl, x, t, 1, 12, rfl, ht, _, rfl, ?_⟩
    cases e : isW x 1 12 with
    | true => exact ite2 (fun c => nomatch c) (fun _ => k1 e)
    | false =>
      refine ite2 (fun _ => ?_) (fun c => absurd rfl c)
      refine ⟨_, rfl, by decide +kernel, Or.inr ⟨12, rfl, by decide, _, rfl, by decide +kernel, ?_⟩⟩
      exact ⟨by show 1 ≤ sizeLine; decide, k2 e⟩
/-- a number of houses, reckoned: or the refusal -/
def spNum (K : PySem.W.Frag) (C : Addr) (g : Int → Int) : Sp := fun vs H Q E => ∃ x T, vs = [x] ∧ TyB K H x T ∧
  (∀ i, x = .int i → 1 ≤ i → i ≤ 12 → Q (.int (g i)) H) ∧ (isW x 1 12 = false → E (.ref C) none H)
def mostF (i : Int) : Int := (i - 1) / 3
def enoughF (i : Int) : Int := (i + mostF i) / 2 + 1
def sharedF (i : Int) : Int := 2 * enoughF i - i
theorem ok_most_liars (T : Txt K mg a) : FnOk P w K mg base (L2N.CX P w) 3 a.most_liars a.d_most_liars ["count"] (spNum K a.BadCount mostF) := by
  have G_check_count : FnOk P w K mg base (L2N.CX P w) 2 a.check_count a.d_check_count ["count"] (spCheck K a.BadCount) := ok_check_count T
  refine LH.okN T.F_most_liars sc_most_liars (fun vs H Q E h => ?_) (fun cdv A outer s H vs Q E hr h => ?_)
  · obtain ⟨x, t, rfl, _⟩ := h
    rfl
  · obtain ⟨x, t, rfl, ht, k1, k2⟩ := h
    refine ⟨_, pss_cons (ps_expr (pe_call (E := E) G_check_count hr rfl T.g_check_count T.F_check_count.kp T.b_check_count .nil (L2N.passes_call (LH.tkN (E := E)) fun _ _ _ _ z => z) (pa_cons (pv 0) pa_nil)))
      (pss_one (ps_ret (pe_op op_fdiv (pe_op op_sub (pv 0) pe_int) pe_int))), ?_⟩
    refine ⟨_, rfl, x, t, rfl, ht, fun e => ?_, k2⟩
    obtain ⟨i, rfl, h1, h2⟩ := isW_int e
    exact ⟨_, rfl, _, _, rfl, rfl, _, _, rfl, rfl, ⟨by decide, by decide⟩, k1 i rfl h1 h2⟩
theorem ok_enough (T : Txt K mg a) : FnOk P w K mg base (L2N.CX P w) 4 a.enough a.d_enough ["count"] (spNum K a.BadCount enoughF) := by
  have G_most_liars : FnOk P w K mg base (L2N.CX P w) 3 a.most_liars a.d_most_liars ["count"] (spNum K a.BadCount mostF) := ok_most_liars T
  refine LH.okN T.F_enough sc_enough (fun vs H Q E h => ?_) (fun cdv A outer s H vs Q E hr h => ?_)
  · obtain ⟨x, t, rfl, _⟩ := h
    rfl
  · obtain ⟨x, t, rfl, ht, k1, k2⟩ := h
    refine ⟨_, pss_one (ps_ret (pe_op op_add (pe_op op_fdiv (pe_op op_add (pv 0) (pe_call (E := E) G_most_liars hr rfl T.g_most_liars T.F_most_liars.kp T.b_most_liars .nil (L2N.passes_call (LH.tkN (E := E)) fun _ _ _ _ z => z) (pa_cons (pv 0) pa_nil))) pe_int) pe_int)), ?_⟩
    refine ⟨_, rfl, _, rfl, x, t, rfl, ht, fun i e h1 h2 => ?_, k2⟩
    subst e
    exact ⟨_, _, rfl, rfl, _, _, rfl, rfl, ⟨by decide, by decide⟩, _, _, rfl, rfl, k1 i rfl h1 h2⟩
theorem ok_shared (T : Txt K mg a) : FnOk P w K mg base (L2N.CX P w) 5 a.shared a.d_shared ["count"] (spNum K a.BadCount sharedF) := by
  have G_enough : FnOk P w K mg base (L2N.CX P w) 4 a.enough a.d_enough ["count"] (spNum K a.BadCount enoughF) := ok_enough T
  refine LH.okN T.F_shared sc_shared (fun vs H Q E h => ?_) (fun cdv A outer s H vs Q E hr h => ?_)
  · obtain ⟨x, t, rfl, _⟩ := h
    rfl
  · obtain ⟨x, t, rfl, ht, k1, k2⟩ := h
    refine ⟨_, pss_one (ps_ret (pe_op op_sub (pe_op op_mul pe_int (pe_call (E := E) G_enough hr rfl T.g_enough T.F_enough.kp T.b_enough .nil (L2N.passes_call (LH.tkN (E := E)) fun _ _ _ _ z => z) (pa_cons (pv 0) pa_nil))) (pv 0))), ?_⟩
    refine ⟨_, rfl, x, t, rfl, ht, fun i e h1 h2 => ?_, k2⟩
    subst e
    exact ⟨_, _, rfl, rfl, .inl ⟨by decide, by decide⟩, _, rfl, _, _, rfl, rfl, k1 i rfl h1 h2⟩
end
end K1
namespace K1
open PySem L2
local macro_rules | `(tactic| walk_at "rd1") => `(tactic| first
  | with_reducible refine LH.x_seq ?_
  | with_reducible refine LH.x_asg ?_
  | with_reducible refine LH.x_cons ?_
  | with_reducible refine LH.x_var (by with_unfolding_all exact rfl) ?_
  | with_reducible refine LH.x_c ?_
  | with_reducible refine LH.x_op ?_
  | with_reducible refine LH.x_gname ?_
  | with_reducible refine LH.x_nil ?_
  | with_reducible refine LH.x_I0 ?_
  | ((with_reducible refine LH.x_I ?k1 ?_); (case k1 => first | exact (by decide) | exact ⟨by decide, by decide⟩ | exact .inl ⟨by decide, by decide⟩ | exact .inr ⟨by decide, by decide⟩))
  | with_reducible refine LH.x_ifS ?_
  | with_reducible refine LH.x_test ?_
  | with_reducible refine LH.x_tB ?_
  | with_reducible refine LH.bx ?_
  | with_reducible refine LH.x_and ?_
  | with_reducible refine LH.x_or ?_
  | with_reducible refine LH.x_not ?_
  | with_reducible refine LH.x_ret ?_
  | with_reducible refine LH.x_call ?_
  | with_reducible refine LH.x_cb ?_
  | with_reducible refine LH.x_lst ?_
  | with_reducible refine LH.x_tup ?_
  | with_reducible refine LH.x_bm ?_
  | with_reducible refine LH.x_drop ?_
  | with_reducible refine LH.x_next ?_
  | with_reducible refine LH.x_cont ?_
  | with_reducible refine LH.x_un ?_
  | with_reducible refine LH.x_U ?_
  | with_reducible refine LH.x_eq (by with_unfolding_all exact rfl) ?_
  | with_reducible refine LH.x_ne (by with_unfolding_all exact rfl) ?_
  | with_reducible refine LH.x_andV ?_
  | with_reducible refine LH.x_orV ?_
  | with_reducible refine LH.x_notV ?_
  | with_reducible refine LH.band ?_
  | with_reducible refine LH.bor ?_
  | with_reducible refine LH.x_if ?_
  | with_reducible refine LH.x_chain ?_
  | with_reducible refine LH.chk ?_
  | with_reducible refine LH.x_callS ?_
  | with_reducible refine LH.x_callE ?_
  | with_reducible refine LH.x_callV ?_
  | with_reducible refine LH.x_lrg ?_
  | with_reducible refine LH.x_rg1 ?_
  | with_reducible refine LH.br_t ?_
  | with_reducible refine LH.br_f ?_)
local macro_rules | `(tactic| walk_at "rd") => `(tactic| repeat (walk_at "rd1"))
section
variable {P : Program} {w : World} {K : PySem.W.Frag} {mg : Str → Option Value} {base : Heap} {a : Ad}
def spLWhole : Sp := fun vs H Q _ => ∃ i, vs = [.int i] ∧ Q (.bl true) H
theorem ok__law_whole (T : Txt K mg a) : FnOk P w K mg base CX0 1 a._law_whole a.d__law_whole ["_law_thing"] spLWhole := by
  refine T.F__law_whole.ok sc__law_whole (fun vs H Q E h => ?_) (fun cdv A outer s H vs Q E hr h => ?_)
  · obtain ⟨i, rfl, _⟩ := h
    rfl
  · obtain ⟨i, rfl, k⟩ := h
    refine ⟨_, pss_one (ps_ret (pe_and (pe_callB call_isi rfl T.n_isinstance (by decide +kernel) (pa_cons (pv 0) (pa_cons (pe_bltn (v := .ty "int") rfl T.n_int (by decide +kernel) rfl) pa_nil))) (pe_one (pe_not (pe_callB call_isi rfl T.n_isinstance (by decide +kernel) (pa_cons (pv 0) (pa_cons (pe_bltn (v := .ty "bool") rfl T.n_bool (by decide +kernel) rfl) pa_nil))))))), ?_⟩
    refine ⟨_, rfl, _, _, _, _, true, rfl, .ty _, .base (.int i), kit_ty (by decide +kernel), _, rfl, iteT ?_⟩
    exact ⟨_, rfl, _, _, _, _, false, rfl, .ty _, .base (.int i), kit_ty (by decide +kernel), _, rfl, k⟩
/-- the error that is handled, of the class at D, told by its word -/
def spKind (D : Addr) (x : Str) : LH.SpE := fun e cls d vs H Q => vs = [.ref e] ∧ cls = .ref D ∧ d = none ∧
  ∀ H' q, Same H H' → H' q = some (.tup [.str x]) → Q (.ref q) H'
theorem ok__law_kind (T : Txt K mg a) : LH.FnE P w K mg base 1 a._law_kind a.d__law_kind ["_law_error"] (spKind a.BadCount "count") := by
  refine LH.fnE_of T.F__law_kind sc__law_kind (fun e cls d vs H Q h => ?_) (fun cdv A outer s H vs Q p cls d hot hz hr h => ?_)
  · obtain ⟨rfl, _⟩ := h
    rfl
  · obtain ⟨rfl, rfl, rfl, k⟩ := h
    have hf : ∃ us, p.2.data = .fields us := let ⟨us, e, _⟩ := hot.2; ⟨us, e⟩
    have isP : ∀ {X : Cx}, X.K = K → X.pn = [p] → CallR X (.builtin "isinstance") (rIsE X.K a.BadCount p.1) := fun {X} e1 e2 =>
      LH.call_isP (oe := p.2) (by rw [e1]; exact T.c_BadCount) (by rw [e2]; exact List.mem_cons_self) hz.zc hf
    refine ⟨_, pss_cons (ps_set (i := 1) sc__law_kind.nd rfl (Or.inl rfl) (pe_lst (pa_cons pe_str (pa_cons pe_str (pa_cons pe_str (pa_cons pe_str (pa_cons pe_str (pa_cons pe_str (pa_cons pe_str (pa_cons pe_str pa_nil))))))))))
  (pss_cons (ps_set (i := 2) sc__law_kind.nd rfl (Or.inl rfl) (pe_lst (pa_cons (pe_callB (isP rfl rfl) rfl T.n_isinstance (by decide +kernel) (pa_cons (pv 0) (pa_cons (pe_glob (v := .ref a.BadCount) rfl T.g_BadCount rfl) pa_nil))) (pa_cons (pe_callB (isP rfl rfl) rfl T.n_isinstance (by decide +kernel) (pa_cons (pv 0) (pa_cons (pe_glob (v := .ref a.BadHouse) rfl T.g_BadHouse rfl) pa_nil))) (pa_cons (pe_callB (isP rfl rfl) rfl T.n_isinstance (by decide +kernel) (pa_cons (pv 0) (pa_cons (pe_glob (v := .ref a.BadRow) rfl T.g_BadRow rfl) pa_nil))) pa_nil)))))
  (pss_cons (ps_set (i := 2) sc__law_kind.nd rfl (Or.inl rfl) (pe_op LH.op_catS (pv 2) (pe_lst (pa_cons (pe_callB (isP rfl rfl) rfl T.n_isinstance (by decide +kernel) (pa_cons (pv 0) (pa_cons (pe_glob (v := .ref a.BadWord) rfl T.g_BadWord rfl) pa_nil))) (pa_cons (pe_callB (isP rfl rfl) rfl T.n_isinstance (by decide +kernel) (pa_cons (pv 0) (pa_cons (pe_glob (v := .ref a.Forged) rfl T.g_Forged rfl) pa_nil))) (pa_cons (pe_callB (isP rfl rfl) rfl T.n_isinstance (by decide +kernel) (pa_cons (pv 0) (pa_cons (pe_glob (v := .ref a.NoLetter) rfl T.g_NoLetter rfl) pa_nil))) pa_nil))))))
  (pss_cons (ps_set (i := 2) sc__law_kind.nd rfl (Or.inl rfl) (pe_op LH.op_catS (pv 2) (pe_lst (pa_cons (pe_callB (isP rfl rfl) rfl T.n_isinstance (by decide +kernel) (pa_cons (pv 0) (pa_cons (pe_glob (v := .ref a.NotWritten) rfl T.g_NotWritten rfl) pa_nil))) (pa_cons (pe_callB (isP rfl rfl) rfl T.n_isinstance (by decide +kernel) (pa_cons (pv 0) (pa_cons (pe_glob (v := .ref a.NoText) rfl T.g_NoText rfl) pa_nil))) pa_nil)))))
  (pss_cons (ps_if (PW.pt (pw_or (pt_cmpR op_ne (pe_bm PySem.F.plainAttrs_list PySem.F.slot_list_count PySem.F.type_list_count LH.mt_cntV (pv 2) (pa_cons pe_bl pa_nil)) pe_int (nomark _)) (pw_or1 (pt_not (pt_val (pe_callB (isP rfl rfl) rfl T.n_isinstance (by decide +kernel) (pa_cons (pv 0) (pa_cons (pe_bltn (v := .ty "ValueError") rfl T.n_ValueError (by decide +kernel) rfl) pa_nil))))))))
    (pss_one (ps_ret (pe_tup (pa_cons pe_str pa_nil))))
    pss_nil)
  (pss_one (ps_ret (pe_tup (pa_cons (pe_ix ix_list (pv 1) (pe_bm PySem.F.plainAttrs_list PySem.F.slot_list_index PySem.F.type_list_index mt_index (pv 2) (pa_cons pe_bl pa_nil)) (fun _ _ => rfl)) pa_nil)))))))), ?_⟩
    walk_at "rd"
    refine LH.newl (LH.small rfl) fun p1 H1 f1 e1 g1 => ?_
    walk_at "rd"
    refine LH.x_isE (fun _ e => e) T.i_BadCount ?_
    walk_at "rd"
    refine LH.x_isE (fun _ e => e) T.i_BadHouse ?_
    walk_at "rd"
    refine LH.x_isE (fun _ e => e) T.i_BadRow ?_
    walk_at "rd"
    refine LH.newl (LH.small rfl) fun p2 H2 f2 e2 g2 => ?_
    walk_at "rd"
    refine LH.x_isE (fun _ e => e) T.i_BadWord ?_
    walk_at "rd"
    refine LH.x_isE (fun _ e => e) T.i_Forged ?_
    walk_at "rd"
    refine LH.x_isE (fun _ e => e) T.i_NoLetter ?_
    walk_at "rd"
    refine LH.newl (LH.small rfl) fun p3 H3 f3 e3 g3 => ?_
    refine LH.x_catS (SqL.of (e3 _ _ g2)) (SqL.of g3) (by decide) fun p4 H4 f4 e4 g4 => ?_
    walk_at "rd"
    refine LH.x_isE (fun _ e => e) T.i_NotWritten ?_
    walk_at "rd"
    refine LH.x_isE (fun _ e => e) T.i_NoText ?_
    walk_at "rd"
    refine LH.newl (LH.small rfl) fun p5 H5 f5 e5 g5 => ?_
    refine LH.x_catS (SqL.of (e5 _ _ g4)) (SqL.of g5) (by decide) fun p6 H6 f6 e6 g6 => ?_
    walk_at "rd"
    refine LH.bm_l (SqL.of g6) ?_
    walk_at "rd"
    refine LH.x_cntV (SqL.of g6) rfl rfl ?_
    walk_at "rd"
    refine LH.br_eq (b' := false) (by decide) ?_
    walk_at "rd"
    refine LH.x_isE (fun _ e => e) T.i_ValueError ?_
    walk_at "rd"
    refine LH.br_f ?_
    walk_at "rd"
    refine LH.bm_l (SqL.of g6) ?_
    walk_at "rd"
    refine LH.x_index (j := 0) (SqL.of g6) rfl rfl rfl rfl (fun m z h _ => absurd h (Nat.not_lt_zero _)) ?_
    refine LH.x_ixL (SqL.of (e6 _ _ (e5 _ _ (e4 _ _ (e3 _ _ (e2 _ _ g1)))))) rfl ?_
    walk_at "rd"
    refine LH.newt (LH.small rfl) fun p7 H7 f7 e7 g7 => ?_
    exact k _ _ ((((((e1.trans e2).trans e3).trans e4).trans e5).trans e6).trans e7) g7
end
end K1
namespace K1
open PySem L2
local macro_rules | `(tactic| walk_at "rd1") => `(tactic| first
  | with_reducible refine LH.x_seq ?_
  | with_reducible refine LH.x_asg ?_
  | with_reducible refine LH.x_cons ?_
  | with_reducible refine LH.x_var (by with_unfolding_all exact rfl) ?_
  | with_reducible refine LH.x_c ?_
  | with_reducible refine LH.x_op ?_
  | with_reducible refine LH.x_gname ?_
  | with_reducible refine LH.x_nil ?_
  | with_reducible refine LH.x_I0 ?_
  | ((with_reducible refine LH.x_I ?k1 ?_); (case k1 => first | exact (by decide) | exact ⟨by decide, by decide⟩ | exact ⟨by decide, by decide, by decide⟩ | exact .inl ⟨by decide, by decide⟩ | exact .inr ⟨by decide, by decide⟩))
  | with_reducible refine LH.x_ifS ?_
  | with_reducible refine LH.x_test ?_
  | with_reducible refine LH.x_tB ?_
  | with_reducible refine LH.bx ?_
  | with_reducible refine LH.x_and ?_
  | with_reducible refine LH.x_or ?_
  | with_reducible refine LH.x_not ?_
  | with_reducible refine LH.x_ret ?_
  | with_reducible refine LH.x_call ?_
  | with_reducible refine LH.x_cb ?_
  | with_reducible refine LH.x_lst ?_
  | with_reducible refine LH.x_tup ?_
  | with_reducible refine LH.x_bm ?_
  | with_reducible refine LH.x_drop ?_
  | with_reducible refine LH.x_next ?_
  | with_reducible refine LH.x_cont ?_
  | with_reducible refine LH.x_un ?_
  | with_reducible refine LH.x_U ?_
  | with_reducible refine LH.x_eq (by with_unfolding_all exact rfl) ?_
  | with_reducible refine LH.x_ne (by with_unfolding_all exact rfl) ?_
  | with_reducible refine LH.x_andV ?_
  | with_reducible refine LH.x_orV ?_
  | with_reducible refine LH.x_notV ?_
  | with_reducible refine LH.band ?_
  | with_reducible refine LH.bor ?_
  | with_reducible refine LH.x_if ?_
  | with_reducible refine LH.x_chain ?_
  | with_reducible refine LH.chk ?_
  | with_reducible refine LH.x_callS ?_
  | with_reducible refine LH.x_callE ?_
  | with_reducible refine LH.x_callV ?_
  | with_reducible refine LH.x_lrg ?_
  | with_reducible refine LH.x_rg1 ?_
  | with_reducible refine LH.x_forL ?_
  | with_reducible refine LH.x_abs ?_
  | with_reducible refine LH.x_rg2 ?_
  | with_reducible refine LH.rg1v ?_
  | with_reducible refine LH.rg2v ?_
  | with_reducible refine LH.x_lc ?_
  | with_reducible refine LH.br_nt ?_
  | with_reducible refine LH.br_nf ?_
  | with_reducible refine LH.br_t ?_
  | with_reducible refine LH.br_f ?_)
local macro_rules | `(tactic| walk_at "rd") => `(tactic| repeat (walk_at "rd1"))
section
variable {P : Program} {w : World} {K : PySem.W.Frag} {mg : Str → Option Value} {base : Heap} {a : Ad}
def spBad (K : PySem.W.Frag) (C : Addr) : Sp := fun vs H Q E => ∃ x T, vs = [x] ∧ TyB K H x T ∧ isW x 1 12 = false ∧ E (.ref C) none H
theorem bad_num {C : Addr} {g : Int → Int} : ∀ vs H Q E, spBad K C vs H Q E → spNum K C g vs H Q E := fun vs H Q E ⟨x, t, e, ht, hx, k⟩ =>
  ⟨x, t, e, ht, fun i ei h1 h2 => by rw [ei] at hx; simp [isW, h1, h2] at hx, fun _ => k⟩
def isS (a : Ad) (f : Addr) : Prop := f = a.most_liars ∨ f = a.enough ∨ f = a.shared
theorem all_said (T : Txt K mg a) : ∀ f, isS a f → ∃ (fd : FuncData) (ps : List Str), FnOk P w K mg base (L2N.CX P w) 5 f fd ps (spBad K a.BadCount) ∧ PySem.W.keepIn K (.ref f) = true ∧ Binds K fd ps [] := by
  rintro f (rfl | rfl | rfl)
  · exact ⟨_, _, ((ok_most_liars T).mono (by decide)).imp bad_num, T.F_most_liars.kp, T.b_most_liars⟩
  · exact ⟨_, _, ((ok_enough T).mono (by decide)).imp bad_num, T.F_enough.kp, T.b_enough⟩
  · exact ⟨_, _, (ok_shared T).imp bad_num, T.F_shared.kp, T.b_shared⟩
def spSaid (K : PySem.W.Frag) : Sp := fun vs H Q _ => ∃ i x T, vs = [.int i, x] ∧ 0 ≤ i ∧ i < 3 ∧ TyB K H x T ∧ isW x 1 12 = false ∧
  ∀ H' q, Same H H' → H' q = some (.tup [.str "count"]) → Q (.ref q) H'
theorem ok__law_said (T : Txt K mg a) : FnOk P w K mg base CX0 6 a._law_said a.d__law_said ["_law_which", "_law_count"] (spSaid K) := by
  have AV := all_said (P := P) (w := w) (base := base) T
  have GK := ok__law_kind (P := P) (w := w) (base := base) T
  refine T.F__law_said.ok sc__law_said (fun vs H Q E h => ?_) (fun cdv A outer s H vs Q E hr h => ?_)
  · obtain ⟨i, x, t, rfl, _⟩ := h
    rfl
  · obtain ⟨i, x, t, rfl, h0, h3, ht, hx, k⟩ := h
    have hr1 : Room 1 _ := hr.mono (by decide)
    refine ⟨_, pss_one (L2N.ps_try_as (i := 2) (Wout := fun _ _ _ _ => False)
      (tb := fun W => tRet (LH.tCallV (isS a) (spBad K a.BadCount) (WE W) (tOp (rIxL K) (tLst (tCons (tC (.ref a.most_liars)) (tCons (tC (.ref a.enough)) (tCons (tC (.ref a.shared)) tNil)))) (tVar 0)) (tCons (tVar 1) tNil)))
      (ts := fun e cls d => tRet (LH.tCallE (spKind a.BadCount "count") e cls d (tCons (tVar 2) tNil)))
      rfl rfl sc__law_said.nd rfl rfl ⟨rfl, by decide, .inl T.g_HouseError⟩ LH.takesN0
      (fun W pn xe tk _ => pss_one (ps_ret (by exact (LH.pe_callV (S := isS a) AV hr (fun σ => L2N.passAt tk σ) (pe_ix ix_list (pe_lst (pa_cons (pe_glob (v := .ref a.most_liars) rfl T.g_most_liars rfl) (pa_cons (pe_glob (v := .ref a.enough) rfl T.g_enough rfl) (pa_cons (pe_glob (v := .ref a.shared) rfl T.g_shared rfl) pa_nil)))) (pv 0) (fun _ _ => rfl)) (pa_cons (pv 1) pa_nil)))))
      (fun e oe cls d pn hz hf => pss_one (ps_ret (by exact (LH.pe_callE (p := (e, oe)) GK ⟨hr1.dp, hr1.un⟩ ⟨rfl, LH.ctx_of hz hf⟩ hz List.mem_cons_self rfl T.g__law_kind T.F__law_kind.kp T.b__law_kind (pa_cons (pv 2) pa_nil)))))), ?_⟩
    walk_at "rd"
    refine LH.newl (LH.small rfl) fun p1 H1 f1 e1 g1 => ?_
    walk_at "rd"
    have fin : spBad K a.BadCount ([x] : List V) H1 Q (WE (wAs K (.ref a.HouseError) 2 (fun e cls d => tRet (LH.tCallE (spKind a.BadCount "count") e cls d (tCons (tVar 2) tNil)))
        (fun _ _ _ _ => False) { nx := fun _ H' => Q .non H', rt := Q }) (start N__law_said [V.int i, x])) := by
      refine ⟨x, t, rfl, LH.Same.ty e1 ht, hx, true, T.e_BadCount, fun _ e he => ?_, fun q => nomatch q⟩
      walk_at "rd"
      exact ⟨rfl, rfl, rfl, fun H' q e2 g => k _ _ (e1.trans e2) g⟩
    have h3' : i = 0 ∨ i = 1 ∨ i = 2 := by omega
    rcases h3' with rfl | rfl | rfl
    · refine LH.x_ixL (SqL.of g1) rfl ?_
      refine LH.cvv (.inl rfl) ?_
      walk_at "rd"
      exact fin
    · refine LH.x_ixL (SqL.of g1) rfl ?_
      refine LH.cvv (.inr (.inl rfl)) ?_
      walk_at "rd"
      exact fin
    · refine LH.x_ixL (SqL.of g1) rfl ?_
      refine LH.cvv (.inr (.inr rfl)) ?_
      walk_at "rd"
      exact fin
/-! ### what the law asks of a number -/
def spGood : Sp := fun vs H Q _ => ∃ n, vs = [.int n] ∧ 1 ≤ n ∧ n ≤ 12 ∧ ∀ H', Same H H' → Q (.bl true) H'
theorem num_at {C : Addr} {g : Int → Int} {n : Int} {H : Hp} {Q : VK} {E : XK} (h1 : 1 ≤ n) (h2 : n ≤ 12) (q : Q (.int (g n)) H) : spNum K C g [.int n] H Q E :=
  ⟨.int n, "int", rfl, .int n, fun i e _ _ => by cases e; exact q, fun e => by simp [isW, h1, h2] at e⟩
theorem nums {n : Int} (h1 : 1 ≤ n) (h2 : n ≤ 12) : 0 ≤ mostF n ∧ 3 * mostF n < n ∧ n ≤ 3 * (mostF n + 1) ∧ 0 ≤ enoughF n ∧ enoughF n ≤ n ∧ mostF n < sharedF n ∧ 2 * (enoughF n - 1) - n ≤ mostF n ∧ enoughF n ≤ n - mostF n := by
  unfold sharedF enoughF mostF
  omega
theorem rg_mem {x : V} {i j : Int} (h : x ∈ rgV i j) : ∃ m, x = .int m := by
  obtain ⟨m, _, rfl⟩ := List.mem_map.mp h
  exact ⟨_, rfl⟩
theorem rg_flat (i j : Int) : (rgV i j).all flatV = true := List.all_eq_true.mpr fun x h => by
  obtain ⟨m, rfl⟩ := rg_mem h
  rfl
theorem cnt {n : Int} (h1 : 1 ≤ n) (h2 : n ≤ 12) : ((((rgV 0 (enoughF n)).filter fun v => inV v (rgV (n - enoughF n) n)).map id).length : Int) = sharedF n := by
  have h : n = 1 ∨ n = 2 ∨ n = 3 ∨ n = 4 ∨ n = 5 ∨ n = 6 ∨ n = 7 ∨ n = 8 ∨ n = 9 ∨ n = 10 ∨ n = 11 ∨ n = 12 := by omega
  rcases h with rfl | rfl | rfl | rfl | rfl | rfl | rfl | rfl | rfl | rfl | rfl | rfl <;> decide
theorem ok__law_good (T : Txt K mg a) : FnOk P w K mg base CX0 6 a._law_good a.d__law_good ["_law_count"] spGood := by
  have G_most_liars : FnOk P w K mg base (L2N.CX P w) 3 a.most_liars a.d_most_liars ["count"] (spNum K a.BadCount mostF) := ok_most_liars T
  have G_enough : FnOk P w K mg base (L2N.CX P w) 4 a.enough a.d_enough ["count"] (spNum K a.BadCount enoughF) := ok_enough T
  have G_shared : FnOk P w K mg base (L2N.CX P w) 5 a.shared a.d_shared ["count"] (spNum K a.BadCount sharedF) := ok_shared T
  have G__law_whole : FnOk P w K mg base CX0 1 a._law_whole a.d__law_whole ["_law_thing"] spLWhole := ok__law_whole T
  refine T.F__law_good.ok sc__law_good (fun vs H Q E h => ?_) (fun cdv A outer s H vs Q E hr h => ?_)
  · obtain ⟨i, rfl, _⟩ := h
    rfl
  · obtain ⟨n, rfl, h1, h2, k⟩ := h
    have hr1 : Room 1 _ := hr.mono (by decide)
    have hr3 : Room 3 _ := hr.mono (by decide)
    have hr4 : Room 4 _ := hr.mono (by decide)
    refine ⟨_, (pss_cons (ps_set (i := 1) sc__law_good.nd rfl (Or.inl rfl) (pe_call G_most_liars hr3 rfl T.g_most_liars T.F_most_liars.kp T.b_most_liars .nil LH.passN (pa_cons (pv 0) pa_nil)))
  (pss_cons (ps_set (i := 2) sc__law_good.nd rfl (Or.inl rfl) (pe_call G_enough hr4 rfl T.g_enough T.F_enough.kp T.b_enough .nil LH.passN (pa_cons (pv 0) pa_nil)))
  (pss_cons (ps_set (i := 3) sc__law_good.nd rfl (Or.inl rfl) (pe_call G_shared hr rfl T.g_shared T.F_shared.kp T.b_shared .nil LH.passN (pa_cons (pv 0) pa_nil)))
  (pss_cons (ps_if (PW.pt (pw_or (pt_not (pt_val (pe_call G__law_whole hr1 rfl T.g__law_whole T.F__law_whole.kp T.b__law_whole .nil pass0 (pa_cons (pv 1) pa_nil)))) (pw_or (pt_not (pt_val (pe_call G__law_whole hr1 rfl T.g__law_whole T.F__law_whole.kp T.b__law_whole .nil pass0 (pa_cons (pv 2) pa_nil)))) (pw_or1 (pt_not (pt_val (pe_call G__law_whole hr1 rfl T.g__law_whole T.F__law_whole.kp T.b__law_whole .nil pass0 (pa_cons (pv 3) pa_nil))))))))
    (pss_one (ps_ret pe_bl))
    pss_nil)
  (pss_cons (ps_if (PW.pt (pw_or (pt_cmpR op_lt (pv 1) pe_int (nomark _)) (pw_or (pt_cmpR op_ge (pe_op op_mul pe_int (pv 1)) (pv 0) (nomark _)) (pw_or1 (pt_cmpR op_lt (pe_op op_mul pe_int (pe_op op_add (pv 1) pe_int)) (pv 0) (nomark _))))))
    (pss_one (ps_ret pe_bl))
    pss_nil)
  (pss_cons (ps_set (i := 4) sc__law_good.nd rfl (Or.inl rfl) (pe_listRg rfl rfl T.n_list (prg_1 rfl T.n_range (pv 2))))
  (pss_cons (ps_set (i := 5) sc__law_good.nd rfl (Or.inr rfl) (pe_listRg rfl rfl T.n_list (prg_2 rfl T.n_range (pe_op op_sub (pv 0) (pv 2)) (pv 0))))
  (pss_cons (ps_if (PW.pt (pw_or (pt_cmpR op_ne (pe_callB LH.call_len rfl T.n_len (by decide +kernel) (pa_cons (pe_lc (own := [("_law_house", 6)]) (g := gName 6) rfl sc__law_good.nd (pi_list (pv 4)) (blkOk_by (N := N__law_good) (sc := defScope s__law_good) (by decide +kernel)) (fun _ _ _ _ _ => pg_name (i := 6) sc__law_good.nd rfl (Or.inl rfl)) (fun _ _ _ _ _ => (pts_one (pt_cmpR (r := rIn K false) op_in_seq (pv 6) (pv 5) (by rfl)))) (fun _ _ _ _ _ => (pv 6))) pa_nil)) (pv 3) (nomark _)) (pw_or1 (pt_cmpR op_le (pv 3) (pv 1) (nomark _)))))
    (pss_one (ps_ret pe_bl))
    pss_nil)
  (pss_one (ps_ret (pe_and (pe_cmpR op_le (pe_op op_sub (pe_op op_mul pe_int (pe_op op_sub (pv 2) pe_int)) (pv 0)) (pv 1) (nomark _)) (pe_one (pe_cmpR op_le (pv 2) (pe_op op_sub (pv 0) (pv 1)) (nomark _)))))))))))))), ?_⟩
    obtain ⟨a1, a2, a3, a4, a5, a6, a7, a8⟩ := nums h1 h2
    walk_at "rd"
    refine num_at h1 h2 ?_
    walk_at "rd"
    refine num_at h1 h2 ?_
    walk_at "rd"
    refine num_at h1 h2 ?_
    walk_at "rd"
    refine ⟨_, rfl, ?_⟩
    walk_at "rd"
    refine ⟨_, rfl, ?_⟩
    walk_at "rd"
    refine ⟨_, rfl, ?_⟩
    walk_at "rd"
    refine LH.br_n (by omega) ?_
    walk_at "rd"
    refine LH.br_n (by omega) ?_
    walk_at "rd"
    refine LH.br_n (by omega) ?_
    walk_at "rd"
    refine LH.lrv (RgOk.of_le (by decide) (by omega) (by decide) (by omega)) fun p1 H1 f1 e1 g1 => ?_
    walk_at "rd"
    refine LH.lrv (RgOk.of_le (by omega) (by omega) (by omega) (by omega)) fun p2 H2 f2 e2 g2 => ?_
    walk_at "rd"
    refine LH.lc_L (SqL.of (e2 _ _ g1)) (by rw [rgV_length]; omega) (fun v => inV v (rgV (n - enoughF n) n)) id (fun _ => rfl) ?_ ?_ fun p3 H3 f3 e3 g3 => ?_
    · intro x hx H3 e3 Q3 q3
      walk_at "rd"
      obtain ⟨m, rfl⟩ := rg_mem hx
      refine LH.x_in (SqL.of (e3 _ _ g2)) rfl (rg_flat _ _) ?_
      walk_at "rd"
      exact q3 _ (Same.refl _)
    · intro x hx _ H3 e3 Q3 q3
      walk_at "rd"
      exact q3 _ (Same.refl _)
    walk_at "rd"
    refine LH.x_lenL (SqL.of g3) ?_
    walk_at "rd"
    refine LH.br_nd (fun c => absurd (congrArg V.int (cnt h1 h2)) c) (fun _ => ?_)
    walk_at "rd"
    refine LH.br_n (by omega) ?_
    walk_at "rd"
    refine LH.br_p a7 ?_
    walk_at "rd"
    show Q (V.bl (decide (enoughF n ≤ n - mostF n))) H3
    rw [decide_eq_true a8]
    exact k _ ((e1.trans e2).trans e3)
/-! ### the law -/
def spLaw (K : PySem.W.Frag) : Sp := fun vs H Q _ => ∃ (q : Addr) (ns : List Int), vs = [.ref q] ∧ SqL K H q (ns.map V.int) ∧ ns.length ≤ 63 ∧ ∀ H', Q (.bl true) H'
theorem big_fmod (x : Int) : 0 ≤ x.fmod (10 ^ Int.toNat 30) := by
  rw [Int.fmod_eq_emod_of_nonneg _ (by decide)]
  exact Int.emod_nonneg _ (by decide)
theorem odd_at {z : Int} {H : Hp} {p : Addr} (hp : SqL K H p [.int 3]) : ∃ v t, atI [V.int 0, .int 13, .int (-1 - (if z < 0 then -z else z).fmod (10 ^ Int.toNat 30)),
    .int (14 + (if z < 0 then -z else z).fmod (10 ^ Int.toNat 30)), .bl true, .bl false, .non, .str "3", .ref p] (z / 12 % 9) = some v ∧ TyB K H v t ∧ isW v 1 12 = false := by
  have b := big_fmod (if z < 0 then -z else z)
  generalize (if z < 0 then -z else z).fmod (10 ^ Int.toNat 30) = u at b
  have h : z / 12 % 9 = 0 ∨ z / 12 % 9 = 1 ∨ z / 12 % 9 = 2 ∨ z / 12 % 9 = 3 ∨ z / 12 % 9 = 4 ∨ z / 12 % 9 = 5 ∨ z / 12 % 9 = 6 ∨ z / 12 % 9 = 7 ∨ z / 12 % 9 = 8 := by omega
  rcases h with h | h | h | h | h | h | h | h | h <;> rw [h]
  · exact ⟨_, _, rfl, .int _, rfl⟩
  · exact ⟨_, _, rfl, .int _, rfl⟩
  · exact ⟨_, _, rfl, .int _, by simp [isW]; omega⟩
  · exact ⟨_, _, rfl, .int _, by simp [isW]; omega⟩
  · exact ⟨_, _, rfl, .bl _, rfl⟩
  · exact ⟨_, _, rfl, .bl _, rfl⟩
  · exact ⟨_, _, rfl, .non, rfl⟩
  · exact ⟨_, _, rfl, .str _, rfl⟩
  · exact ⟨_, _, rfl, .lst hp, rfl⟩
theorem ok_law (T : Txt K mg a) : FnOk P w K mg base CX0 7 a.law a.d_law ["_law_script"] (spLaw K) := by
  have G__law_good : FnOk P w K mg base CX0 6 a._law_good a.d__law_good ["_law_count"] spGood := ok__law_good T
  have G__law_said : FnOk P w K mg base CX0 6 a._law_said a.d__law_said ["_law_which", "_law_count"] (spSaid K) := ok__law_said T
  obtain ⟨tm, hm⟩ := T.m_MOST_HOUSES
  refine T.F_law.ok sc_law (fun vs H Q E h => ?_) (fun cdv A outer s H vs Q E hr h => ?_)
  · obtain ⟨i, ns, rfl, _⟩ := h
    rfl
  · obtain ⟨q, ns, rfl, hS, hl, k⟩ := h
    refine ⟨_, (pss_cons (ps_if (pt_cmpR op_ne (pe_glob (v := .int 12) rfl hm ⟨_, rfl⟩) pe_int (nomark _))
    (pss_one (ps_ret pe_bl))
    pss_nil)
  (pss_cons (ps_for PassesOwn.never rfl (pi_list (pe_op LH.op_catS (pv 0) (pe_lst (pa_cons pe_int pa_nil)))) (pg_name (i := 1) sc_law.nd rfl (Or.inl rfl))
    (pss_cons (ps_if (pt_not (pt_val (pe_call G__law_good hr rfl T.g__law_good T.F__law_good.kp T.b__law_good .nil pass0 (pa_cons (pe_op op_add pe_int (pe_op op_mod (pv 1) pe_int)) pa_nil))))
      (pss_one (ps_ret pe_bl))
      pss_nil)
    (pss_cons (ps_set (i := 2) sc_law.nd rfl (Or.inl rfl) (pe_ix ix_list (pe_lst (pa_cons pe_int (pa_cons pe_int (pa_cons (pe_op op_sub (pe_un un_neg pe_int) (pe_op op_modN (pe_callB LH.call_absI rfl T.n_abs (by decide +kernel) (pa_cons (pv 1) pa_nil)) (pe_op op_pow pe_int pe_int))) (pa_cons (pe_op op_add pe_int (pe_op op_modN (pe_callB LH.call_absI rfl T.n_abs (by decide +kernel) (pa_cons (pv 1) pa_nil)) (pe_op op_pow pe_int pe_int))) (pa_cons pe_bl (pa_cons pe_bl (pa_cons pe_non (pa_cons pe_str (pa_cons (pe_lst (pa_cons pe_int pa_nil)) pa_nil)))))))))) (pe_op op_mod (pe_op op_fdiv (pv 1) pe_int) pe_int) (fun _ _ => rfl)))
    (pss_one (ps_if (pt_cmpR (op_neD hr.units) (pe_call G__law_said hr rfl T.g__law_said T.F__law_said.kp T.b__law_said .nil pass0 (pa_cons (pe_op op_mod (pe_op op_fdiv (pv 1) pe_int) pe_int) (pa_cons (pv 2) pa_nil))) (pe_tup (pa_cons pe_str pa_nil)) (nomark _))
      (pss_one (ps_ret pe_bl))
      pss_nil)))))
  (pss_one (ps_ret pe_bl)))), ?_⟩
    walk_at "rd"
    refine LH.br_nd (fun c => absurd rfl c) (fun _ => ?_)
    walk_at "rd"
    refine LH.newl (LH.small rfl) fun p1 H1 f1 e1 g1 => ?_
    refine LH.x_catS (Same.seq e1 hS) (SqL.of g1) (by rw [List.length_map]; show ns.length + 1 ≤ 100000; omega) fun p2 H2 f2 e2 g2 => ?_
    refine LH.for_L (SqL.of g2) (fun i σ H' => (∃ c o, σ = [some (.ref q), c, o]) ∧ Same H2 H') ⟨⟨_, _, rfl⟩, Same.refl _⟩ (fun i σ H' _ p => SqL.of (p.2 _ _ g2)) ?_ ?_
    · rintro i x σ H' hx ⟨⟨c, o, rfl⟩, es⟩
      obtain ⟨z, rfl⟩ : ∃ z, x = V.int z := by
        rcases List.mem_append.mp (List.mem_of_getElem? hx) with h | h
        · obtain ⟨z, _, rfl⟩ := List.mem_map.mp h
          exact ⟨z, rfl⟩
        · exact ⟨3, by simpa using h⟩
      walk_at "rd"
      refine ⟨_, rfl, by omega, by omega, fun H3 e3 => ?_⟩
      walk_at "rd"
      refine LH.newl (LH.small rfl) fun p3 H4 f4 e4 g4 => ?_
      walk_at "rd"
      refine LH.newl (LH.small rfl) fun p4 H5 f5 e5 g5 => ?_
      walk_at "rd"
      obtain ⟨v, t, hv, ty, bad⟩ := odd_at (z := z) (SqL.of (K := K) (e5 _ _ g4))
      refine LH.x_ixL (SqL.of g5) hv ?_
      walk_at "rd"
      refine ⟨_, v, t, rfl, by omega, by omega, ty, bad, fun H6 q6 e6 g6 => ?_⟩
      walk_at "rd"
      refine LH.newt (LH.small rfl) fun p7 H7 f7 e7 g7 => ?_
      refine LH.x_neD (.tup (SqT.of (e7 _ _ g6)) (.cons (.str _) .nil)) (.tup (SqT.of g7) (.cons (.str _) .nil)) (by decide +kernel) (by decide +kernel) ?_
      walk_at "rd"
      refine LH.br_eq (b' := false) (by decide +kernel) ?_
      walk_at "rd"
      exact ⟨⟨_, _, rfl⟩, ((((es.trans e3).trans e4).trans e5).trans e6).trans e7⟩
    · rintro σ H' ⟨⟨c, o, rfl⟩, es⟩
      walk_at "rd"
      exact k _
end
end K1
namespace K1
open PySem L2
theorem all_mk {l : PySem.W.OpenLaw} {w : World} {K : PySem.W.Frag} {h : Heap} {mg : Str → Option Value} {fa f0 f1 f2 f3 f4 f5 f6 f7 f8 f9 c0 c1 c2 c3 c4 c5 c6 c7 c8 : Addr} (X : K.In h) (G : h.Ns mainGlobals mg) (hfa : mg "law" = some (.ref fa))
    {od0 an0 : Option Addr} {sl0 : Array (Option Value)} {oc0 kV0 dc0 pm0 cd0 ct0 : Value} {od1 an1 : Option Addr} {sl1 : Array (Option Value)} {oc1 kV1 dc1 pm1 cd1 ct1 : Value} {od2 an2 : Option Addr} {sl2 : Array (Option Value)} {oc2 kV2 dc2 pm2 cd2 ct2 : Value} {od3 an3 : Option Addr} {sl3 : Array (Option Value)} {oc3 kV3 dc3 pm3 cd3 ct3 : Value} {od4 an4 : Option Addr} {sl4 : Array (Option Value)} {oc4 kV4 dc4 pm4 cd4 ct4 : Value} {od5 an5 : Option Addr} {sl5 : Array (Option Value)} {oc5 kV5 dc5 pm5 cd5 ct5 : Value} {od6 an6 : Option Addr} {sl6 : Array (Option Value)} {oc6 kV6 dc6 pm6 cd6 ct6 : Value} {od7 an7 : Option Addr} {sl7 : Array (Option Value)} {oc7 kV7 dc7 pm7 cd7 ct7 : Value} {od8 an8 : Option Addr} {sl8 : Array (Option Value)} {oc8 kV8 dc8 pm8 cd8 ct8 : Value} {od9 an9 : Option Addr} {sl9 : Array (Option Value)} {oc9 kV9 dc9 pm9 cd9 ct9 : Value}
    (a0 : PySem.W.nsIn K mainGlobals "is_whole" = some (some (.ref f0)))
    (l0 : K.lookup f0 = some ⟨oc0, od0, .func (PySem.W.fnOf "is_whole" "is_whole" (defArgs s_is_whole) (defBody s_is_whole) (defScope s_is_whole) .none kV0 dc0 pm0 an0 cd0 ct0), sl0⟩)
    (c0c : PySem.W.codeIn K cd0 "is_whole" = true)
    (k0 : PySem.W.keepIn K (.ref f0) = true)
    (a1 : PySem.W.nsIn K mainGlobals "check_count" = some (some (.ref f1)))
    (l1 : K.lookup f1 = some ⟨oc1, od1, .func (PySem.W.fnOf "check_count" "check_count" (defArgs s_check_count) (defBody s_check_count) (defScope s_check_count) .none kV1 dc1 pm1 an1 cd1 ct1), sl1⟩)
    (c1c : PySem.W.codeIn K cd1 "check_count" = true)
    (k1 : PySem.W.keepIn K (.ref f1) = true)
    (a2 : PySem.W.nsIn K mainGlobals "most_liars" = some (some (.ref f2)))
    (l2 : K.lookup f2 = some ⟨oc2, od2, .func (PySem.W.fnOf "most_liars" "most_liars" (defArgs s_most_liars) (defBody s_most_liars) (defScope s_most_liars) .none kV2 dc2 pm2 an2 cd2 ct2), sl2⟩)
    (c2c : PySem.W.codeIn K cd2 "most_liars" = true)
    (k2 : PySem.W.keepIn K (.ref f2) = true)
    (a3 : PySem.W.nsIn K mainGlobals "enough" = some (some (.ref f3)))
    (l3 : K.lookup f3 = some ⟨oc3, od3, .func (PySem.W.fnOf "enough" "enough" (defArgs s_enough) (defBody s_enough) (defScope s_enough) .none kV3 dc3 pm3 an3 cd3 ct3), sl3⟩)
    (c3c : PySem.W.codeIn K cd3 "enough" = true)
    (k3 : PySem.W.keepIn K (.ref f3) = true)
    (a4 : PySem.W.nsIn K mainGlobals "shared" = some (some (.ref f4)))
    (l4 : K.lookup f4 = some ⟨oc4, od4, .func (PySem.W.fnOf "shared" "shared" (defArgs s_shared) (defBody s_shared) (defScope s_shared) .none kV4 dc4 pm4 an4 cd4 ct4), sl4⟩)
    (c4c : PySem.W.codeIn K cd4 "shared" = true)
    (k4 : PySem.W.keepIn K (.ref f4) = true)
    (a5 : PySem.W.nsIn K mainGlobals "_law_whole" = some (some (.ref f5)))
    (l5 : K.lookup f5 = some ⟨oc5, od5, .func (PySem.W.fnOf "_law_whole" "_law_whole" (defArgs s__law_whole) (defBody s__law_whole) (defScope s__law_whole) .none kV5 dc5 pm5 an5 cd5 ct5), sl5⟩)
    (c5c : PySem.W.codeIn K cd5 "_law_whole" = true)
    (k5 : PySem.W.keepIn K (.ref f5) = true)
    (a6 : PySem.W.nsIn K mainGlobals "_law_kind" = some (some (.ref f6)))
    (l6 : K.lookup f6 = some ⟨oc6, od6, .func (PySem.W.fnOf "_law_kind" "_law_kind" (defArgs s__law_kind) (defBody s__law_kind) (defScope s__law_kind) .none kV6 dc6 pm6 an6 cd6 ct6), sl6⟩)
    (c6c : PySem.W.codeIn K cd6 "_law_kind" = true)
    (k6 : PySem.W.keepIn K (.ref f6) = true)
    (a7 : PySem.W.nsIn K mainGlobals "_law_said" = some (some (.ref f7)))
    (l7 : K.lookup f7 = some ⟨oc7, od7, .func (PySem.W.fnOf "_law_said" "_law_said" (defArgs s__law_said) (defBody s__law_said) (defScope s__law_said) .none kV7 dc7 pm7 an7 cd7 ct7), sl7⟩)
    (c7c : PySem.W.codeIn K cd7 "_law_said" = true)
    (k7 : PySem.W.keepIn K (.ref f7) = true)
    (a8 : PySem.W.nsIn K mainGlobals "_law_good" = some (some (.ref f8)))
    (l8 : K.lookup f8 = some ⟨oc8, od8, .func (PySem.W.fnOf "_law_good" "_law_good" (defArgs s__law_good) (defBody s__law_good) (defScope s__law_good) .none kV8 dc8 pm8 an8 cd8 ct8), sl8⟩)
    (c8c : PySem.W.codeIn K cd8 "_law_good" = true)
    (k8 : PySem.W.keepIn K (.ref f8) = true)
    (a9 : PySem.W.nsIn K mainGlobals "law" = some (some (.ref f9)))
    (l9 : K.lookup f9 = some ⟨oc9, od9, .func (PySem.W.fnOf "law" "law" (defArgs s_law) (defBody s_law) (defScope s_law) .none kV9 dc9 pm9 an9 cd9 ct9), sl9⟩)
    (c9c : PySem.W.codeIn K cd9 "law" = true)
    (k9 : PySem.W.keepIn K (.ref f9) = true)
    (g0 : PySem.W.nsIn K mainGlobals "HouseError" = some (some (.ref c0)))
    (g1 : PySem.W.nsIn K mainGlobals "BadCount" = some (some (.ref c1)))
    (g2 : PySem.W.nsIn K mainGlobals "BadHouse" = some (some (.ref c2)))
    (g3 : PySem.W.nsIn K mainGlobals "BadRow" = some (some (.ref c3)))
    (g4 : PySem.W.nsIn K mainGlobals "BadWord" = some (some (.ref c4)))
    (g5 : PySem.W.nsIn K mainGlobals "Forged" = some (some (.ref c5)))
    (g6 : PySem.W.nsIn K mainGlobals "NoLetter" = some (some (.ref c6)))
    (g7 : PySem.W.nsIn K mainGlobals "NotWritten" = some (some (.ref c7)))
    (g8 : PySem.W.nsIn K mainGlobals "NoText" = some (some (.ref c8)))
    (x_c1 : PySem.W.excIn K c1 VEs "ValueError.__new__" = true)
    (kk_c1 : PySem.W.keepIn K (.ref c1) = true)
    (bx_c1 : PySem.W.subIn K (.ref c1) (.type "BaseException") = some true)
    (t_c1 : PySem.W.typeIn K (.ref c1) = some (.type "type"))
    (e_c1 : PySem.W.exmOne K (.ref c1) (.ref c0) = some true)
    (y1_c1 : PySem.W.findIn K (.ref c1) "__getattribute__" = some (some (.builtin "BaseException.__getattribute__")))
    (y2_c1 : PySem.W.findIn K (.ref c1) "__getattr__" = some none)
    (y4_c1 : PySem.W.hasDictIn K c1 = true)
    (y5_c1 : PySem.W.findIn K (.ref c1) "__class__" = some (some (.builtin "object.__class__")))
    (y8_c1 : PySem.W.mroIn K c1 (.type "object") = some true)
    (y6 : PySem.W.specialIn K (.builtin "object.__class__") "__get__" = some (some (.builtin "getset_descriptor.__get__")))
    (y7 : PySem.W.takesIn K (.builtin "object.__class__") = some true)
    (i_c1_c1 : PySem.W.kitOne K (.ref c1) (.ref c1) = some true)
    (i_c1_c2 : PySem.W.kitOne K (.ref c1) (.ref c2) = some false)
    (i_c1_c3 : PySem.W.kitOne K (.ref c1) (.ref c3) = some false)
    (i_c1_c4 : PySem.W.kitOne K (.ref c1) (.ref c4) = some false)
    (i_c1_c5 : PySem.W.kitOne K (.ref c1) (.ref c5) = some false)
    (i_c1_c6 : PySem.W.kitOne K (.ref c1) (.ref c6) = some false)
    (i_c1_c7 : PySem.W.kitOne K (.ref c1) (.ref c7) = some false)
    (i_c1_c8 : PySem.W.kitOne K (.ref c1) (.ref c8) = some false)
    (i_c1_ValueError : PySem.W.kitOne K (.ref c1) (.type "ValueError") = some true)
    (m_MOST_HOUSES : ∃ t, PySem.W.nsIn K mainGlobals "MOST_HOUSES" = some (some (.int 12 t)))
    (n_type : PySem.W.nsIn K mainGlobals "type" = some none)
    (n_int : PySem.W.nsIn K mainGlobals "int" = some none)
    (n_bool : PySem.W.nsIn K mainGlobals "bool" = some none)
    (n_isinstance : PySem.W.nsIn K mainGlobals "isinstance" = some none)
    (n_ValueError : PySem.W.nsIn K mainGlobals "ValueError" = some none)
    (n_len : PySem.W.nsIn K mainGlobals "len" = some none)
    (n_list : PySem.W.nsIn K mainGlobals "list" = some none)
    (n_range : PySem.W.nsIn K mainGlobals "range" = some none)
    (n_abs : PySem.W.nsIn K mainGlobals "abs" = some none) :
    ∃ fd : FuncData, (∀ (s : Shared) (v : Value), BindsTo s fd ⟨[v], []⟩ [("_law_script", v)]) ∧ ∀ base : Heap, K.In base → base.Ns mainGlobals mg → FnOk l.prog w K mg base CX0 7 fa fd ["_law_script"] (spLaw K) := by
  have e := hfa.symm.trans (PySem.W.mg_of X G a9)
  cases e
  have F0 := fun_mk (st := s_is_whole) l0 c0c k0
  have b0 := F0.binds (ps := ["thing", "least", "most"]) fun _ _ _ _ _ _ us hl => match us, hl with | [_, _, _], _ => rfl
  have F1 := fun_mk (st := s_check_count) l1 c1c k1
  have b1 := F1.binds (ps := ["count"]) fun _ _ _ _ _ _ us hl => match us, hl with | [_], _ => rfl
  have F2 := fun_mk (st := s_most_liars) l2 c2c k2
  have b2 := F2.binds (ps := ["count"]) fun _ _ _ _ _ _ us hl => match us, hl with | [_], _ => rfl
  have F3 := fun_mk (st := s_enough) l3 c3c k3
  have b3 := F3.binds (ps := ["count"]) fun _ _ _ _ _ _ us hl => match us, hl with | [_], _ => rfl
  have F4 := fun_mk (st := s_shared) l4 c4c k4
  have b4 := F4.binds (ps := ["count"]) fun _ _ _ _ _ _ us hl => match us, hl with | [_], _ => rfl
  have F5 := fun_mk (st := s__law_whole) l5 c5c k5
  have b5 := F5.binds (ps := ["_law_thing"]) fun _ _ _ _ _ _ us hl => match us, hl with | [_], _ => rfl
  have F6 := fun_mk (st := s__law_kind) l6 c6c k6
  have b6 := F6.binds (ps := ["_law_error"]) fun _ _ _ _ _ _ us hl => match us, hl with | [_], _ => rfl
  have F7 := fun_mk (st := s__law_said) l7 c7c k7
  have b7 := F7.binds (ps := ["_law_which", "_law_count"]) fun _ _ _ _ _ _ us hl => match us, hl with | [_, _], _ => rfl
  have F8 := fun_mk (st := s__law_good) l8 c8c k8
  have b8 := F8.binds (ps := ["_law_count"]) fun _ _ _ _ _ _ us hl => match us, hl with | [_], _ => rfl
  have F9 := fun_mk (st := s_law) l9 c9c k9
  let a : Ad := ⟨f0, f1, f2, f3, f4, f5, f6, f7, f8, fa, PySem.W.fnOf "is_whole" "is_whole" (defArgs s_is_whole) (defBody s_is_whole) (defScope s_is_whole) .none kV0 dc0 pm0 an0 cd0 ct0, PySem.W.fnOf "check_count" "check_count" (defArgs s_check_count) (defBody s_check_count) (defScope s_check_count) .none kV1 dc1 pm1 an1 cd1 ct1, PySem.W.fnOf "most_liars" "most_liars" (defArgs s_most_liars) (defBody s_most_liars) (defScope s_most_liars) .none kV2 dc2 pm2 an2 cd2 ct2, PySem.W.fnOf "enough" "enough" (defArgs s_enough) (defBody s_enough) (defScope s_enough) .none kV3 dc3 pm3 an3 cd3 ct3, PySem.W.fnOf "shared" "shared" (defArgs s_shared) (defBody s_shared) (defScope s_shared) .none kV4 dc4 pm4 an4 cd4 ct4, PySem.W.fnOf "_law_whole" "_law_whole" (defArgs s__law_whole) (defBody s__law_whole) (defScope s__law_whole) .none kV5 dc5 pm5 an5 cd5 ct5, PySem.W.fnOf "_law_kind" "_law_kind" (defArgs s__law_kind) (defBody s__law_kind) (defScope s__law_kind) .none kV6 dc6 pm6 an6 cd6 ct6, PySem.W.fnOf "_law_said" "_law_said" (defArgs s__law_said) (defBody s__law_said) (defScope s__law_said) .none kV7 dc7 pm7 an7 cd7 ct7, PySem.W.fnOf "_law_good" "_law_good" (defArgs s__law_good) (defBody s__law_good) (defScope s__law_good) .none kV8 dc8 pm8 an8 cd8 ct8, PySem.W.fnOf "law" "law" (defArgs s_law) (defBody s_law) (defScope s_law) .none kV9 dc9 pm9 an9 cd9 ct9, c0, c1, c2, c3, c4, c5, c6, c7, c8⟩
  have T : Txt K mg a := {
    F_is_whole := F0,
    g_is_whole := PySem.W.mg_of X G a0,
    b_is_whole := b0,
    F_check_count := F1,
    g_check_count := PySem.W.mg_of X G a1,
    b_check_count := b1,
    F_most_liars := F2,
    g_most_liars := PySem.W.mg_of X G a2,
    b_most_liars := b2,
    F_enough := F3,
    g_enough := PySem.W.mg_of X G a3,
    b_enough := b3,
    F_shared := F4,
    g_shared := PySem.W.mg_of X G a4,
    b_shared := b4,
    F__law_whole := F5,
    g__law_whole := PySem.W.mg_of X G a5,
    b__law_whole := b5,
    F__law_kind := F6,
    g__law_kind := PySem.W.mg_of X G a6,
    b__law_kind := b6,
    F__law_said := F7,
    g__law_said := PySem.W.mg_of X G a7,
    b__law_said := b7,
    F__law_good := F8,
    g__law_good := PySem.W.mg_of X G a8,
    b__law_good := b8,
    F_law := F9,
    g_HouseError := PySem.W.mg_of X G g0,
    g_BadCount := PySem.W.mg_of X G g1,
    g_BadHouse := PySem.W.mg_of X G g2,
    g_BadRow := PySem.W.mg_of X G g3,
    g_BadWord := PySem.W.mg_of X G g4,
    g_Forged := PySem.W.mg_of X G g5,
    g_NoLetter := PySem.W.mg_of X G g6,
    g_NotWritten := PySem.W.mg_of X G g7,
    g_NoText := PySem.W.mg_of X G g8,
    x_BadCount := x_c1,
    k_BadCount := kk_c1,
    bx_BadCount := bx_c1,
    t_BadCount := t_c1,
    e_BadCount := e_c1,
    c_BadCount := ⟨y1_c1, y2_c1, bx_c1, y4_c1, y5_c1, y6, y7, y8_c1⟩,
    i_BadCount := i_c1_c1,
    i_BadHouse := i_c1_c2,
    i_BadRow := i_c1_c3,
    i_BadWord := i_c1_c4,
    i_Forged := i_c1_c5,
    i_NoLetter := i_c1_c6,
    i_NotWritten := i_c1_c7,
    i_NoText := i_c1_c8,
    i_ValueError := i_c1_ValueError,
    m_MOST_HOUSES := let ⟨t, e⟩ := m_MOST_HOUSES; ⟨t, PySem.W.mg_of X G e⟩,
    n_type := PySem.W.mg_none_of X G n_type,
    n_int := PySem.W.mg_none_of X G n_int,
    n_bool := PySem.W.mg_none_of X G n_bool,
    n_isinstance := PySem.W.mg_none_of X G n_isinstance,
    n_ValueError := PySem.W.mg_none_of X G n_ValueError,
    n_len := PySem.W.mg_none_of X G n_len,
    n_list := PySem.W.mg_none_of X G n_list,
    n_range := PySem.W.mg_none_of X G n_range,
    n_abs := PySem.W.mg_none_of X G n_abs }
  exact ⟨_, fun s v => .of_eq rfl, fun base _ _ => ok_law T⟩
end K1
open PySem PySem.W PyProof.Rows
set_option maxRecDepth 100000 in
set_option maxHeartbeats 0 in
theorem PySem.Challenge.cw_latehouse_k01_counts_holds : PySem.Challenge.rw_latehouse_k01_counts.Holds := by
  w_on; o_law; k_head; (case hw => w_witness2)
  k_fill
  refine L2.walk_of (l := PySem.Challenge.rw_latehouse_k01_counts) (n := 63) (k := 7) (x := "_law_script") (CX := fun _ => L2.CX0) (sp := fun w => K1.spLaw _) rfl (by decide) rfl ⟨rfl, by decide, by decide⟩ (fun w h Y => PySem.W.kIn_of Y) ?F (fun _ _ a ns hl _ hS => ⟨a, ns, rfl, hS, hl, fun _ => rfl⟩) (fun _ _ _ _ _ h => h)
  case F =>
    intro w mg fa h KX G hmg
    refine' K1.all_mk KX G hmg ?zq_a0 ?zq_l0 ?zq_c0c ?zq_k0 ?zq_a1 ?zq_l1 ?zq_c1c ?zq_k1 ?zq_a2 ?zq_l2 ?zq_c2c ?zq_k2 ?zq_a3 ?zq_l3 ?zq_c3c ?zq_k3 ?zq_a4 ?zq_l4 ?zq_c4c ?zq_k4 ?zq_a5 ?zq_l5 ?zq_c5c ?zq_k5 ?zq_a6 ?zq_l6 ?zq_c6c ?zq_k6 ?zq_a7 ?zq_l7 ?zq_c7c ?zq_k7 ?zq_a8 ?zq_l8 ?zq_c8c ?zq_k8 ?zq_a9 ?zq_l9 ?zq_c9c ?zq_k9 ?zq_g0 ?zq_g1 ?zq_g2 ?zq_g3 ?zq_g4 ?zq_g5 ?zq_g6 ?zq_g7 ?zq_g8 ?zq_x_c1 ?zq_kk_c1 ?zq_bx_c1 ?zq_t_c1 ?zq_e_c1 ?zq_y1_c1 ?zq_y2_c1 ?zq_y4_c1 ?zq_y5_c1 ?zq_y8_c1 ?zq_y6 ?zq_y7 ?zq_i_c1_c1 ?zq_i_c1_c2 ?zq_i_c1_c3 ?zq_i_c1_c4 ?zq_i_c1_c5 ?zq_i_c1_c6 ?zq_i_c1_c7 ?zq_i_c1_c8 ?zq_i_c1_ValueError ?zq_m_MOST_HOUSES ?zq_n_type ?zq_n_int ?zq_n_bool ?zq_n_isinstance ?zq_n_ValueError ?zq_n_len ?zq_n_list ?zq_n_range ?zq_n_abs
    (case zq_a0 => first | k_is | rfl)
    (case zq_l0 => first | k_is | rfl)
    (case zq_c0c => first | k_is | rfl)
    (case zq_k0 => first | k_is | rfl)
    (case zq_a1 => first | k_is | rfl)
    (case zq_l1 => first | k_is | rfl)
    (case zq_c1c => first | k_is | rfl)
    (case zq_k1 => first | k_is | rfl)
    (case zq_a2 => first | k_is | rfl)
    (case zq_l2 => first | k_is | rfl)
    (case zq_c2c => first | k_is | rfl)
    (case zq_k2 => first | k_is | rfl)
    (case zq_a3 => first | k_is | rfl)
    (case zq_l3 => first | k_is | rfl)
    (case zq_c3c => first | k_is | rfl)
    (case zq_k3 => first | k_is | rfl)
    (case zq_a4 => first | k_is | rfl)
    (case zq_l4 => first | k_is | rfl)
    (case zq_c4c => first | k_is | rfl)
    (case zq_k4 => first | k_is | rfl)
    (case zq_a5 => first | k_is | rfl)
    (case zq_l5 => first | k_is | rfl)
    (case zq_c5c => first | k_is | rfl)
    (case zq_k5 => first | k_is | rfl)
    (case zq_a6 => first | k_is | rfl)
    (case zq_l6 => first | k_is | rfl)
    (case zq_c6c => first | k_is | rfl)
    (case zq_k6 => first | k_is | rfl)
    (case zq_a7 => first | k_is | rfl)
    (case zq_l7 => first | k_is | rfl)
    (case zq_c7c => first | k_is | rfl)
    (case zq_k7 => first | k_is | rfl)
    (case zq_a8 => first | k_is | rfl)
    (case zq_l8 => first | k_is | rfl)
    (case zq_c8c => first | k_is | rfl)
    (case zq_k8 => first | k_is | rfl)
    (case zq_a9 => first | k_is | rfl)
    (case zq_l9 => first | k_is | rfl)
    (case zq_c9c => first | k_is | rfl)
    (case zq_k9 => first | k_is | rfl)
    (case zq_g0 => first | k_is | rfl)
    (case zq_g1 => first | k_is | rfl)
    (case zq_g2 => first | k_is | rfl)
    (case zq_g3 => first | k_is | rfl)
    (case zq_g4 => first | k_is | rfl)
    (case zq_g5 => first | k_is | rfl)
    (case zq_g6 => first | k_is | rfl)
    (case zq_g7 => first | k_is | rfl)
    (case zq_g8 => first | k_is | rfl)
    (case zq_x_c1 => k_exc)
    (case zq_kk_c1 => first | k_is | rfl)
    (case zq_bx_c1 => first | k_is | rfl)
    (case zq_t_c1 => first | k_is | rfl)
    (case zq_e_c1 => first | k_is | rfl)
    (case zq_y1_c1 => first | k_is | rfl)
    (case zq_y2_c1 => first | k_is | rfl)
    (case zq_y4_c1 => first | k_is | rfl)
    (case zq_y5_c1 => first | k_is | rfl)
    (case zq_y8_c1 => first | k_is | rfl)
    (case zq_y6 => first | k_is | rfl)
    (case zq_y7 => first | k_is | rfl)
    (case zq_i_c1_c1 => first | k_is | rfl)
    (case zq_i_c1_c2 => first | k_is | rfl)
    (case zq_i_c1_c3 => first | k_is | rfl)
    (case zq_i_c1_c4 => first | k_is | rfl)
    (case zq_i_c1_c5 => first | k_is | rfl)
    (case zq_i_c1_c6 => first | k_is | rfl)
    (case zq_i_c1_c7 => first | k_is | rfl)
    (case zq_i_c1_c8 => first | k_is | rfl)
    (case zq_i_c1_ValueError => first | k_is | rfl)
    (case zq_m_MOST_HOUSES => exact ⟨_, by k_is⟩)
    (case zq_n_type => first | k_is | rfl)
    (case zq_n_int => first | k_is | rfl)
    (case zq_n_bool => first | k_is | rfl)
    (case zq_n_isinstance => first | k_is | rfl)
    (case zq_n_ValueError => first | k_is | rfl)
    (case zq_n_len => first | k_is | rfl)
    (case zq_n_list => first | k_is | rfl)
    (case zq_n_range => first | k_is | rfl)
    (case zq_n_abs => first | k_is | rfl)
