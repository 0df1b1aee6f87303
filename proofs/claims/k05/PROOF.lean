import PyProof.Rows.All
import Wide.All
import OpenK.AllK
import Wide.FinOn
import HandS.ForMost
import HandS.ForExc
import HandS.Strs
import HandS.IsInst
import HandS.ExcCtx
import HandS.HotCalls
import HandS.Rev
import HandS.SetKeys
import HandS.Deep
import HandS.DictComp
import PyProof.TupleOfGen
import PyProof.CollectWalk
import HandS.Text
import HandS.StrMore
import HandS.TupAny
import HandS.ExcInit
import HandS.Flow
import HandS.Iter
import HandS.Small
import HandS.Comp
import HandS.Exc
import KE.KExcIs
import HandS.ExcIs
import HandS.ExcField
import PySem.Challenge.RW_bridgeward_k05_ways_walks_and_prices
set_option Elab.async false
set_option linter.all false
set_option maxRecDepth 100000
set_option maxHeartbeats 2000000
/-! Rules of our own over the machine: methods of tuples. -/
namespace EN
open PySem PySem.Spec PyProof.Rows L2
section
variable {X : Cx}
theorem countU {y : V} : ∀ {xs : List V} {us : List Value}, Vals xs us → xs.all flatV = true → us.countP (eqU y) = xs.countP fun z => eqV z y
  | _, _, .nil, _ => rfl
  | x :: xs, u :: us, .cons r t, f => by
    rw [List.all_cons, Bool.and_eq_true] at f
    rw [List.countP_cons, List.countP_cons, countU t f.2, eqU_of r f.1]
def rTCount (K : PySem.W.Frag) : V → List V → Hp → VK → Prop := fun x xs H Q => ∃ (p : Addr) (zs : List V) (y : V), x = .ref p ∧ xs = [y] ∧ SqT K H p zs ∧ flatV y = true ∧ zs.all flatV = true ∧ Q (.int ((zs.countP fun z => eqV z y : Nat) : Int)) H
theorem mt_tcount : MtR X "tuple.count" (rTCount X.K) := fun pins s σ H x xs v us Q I rx rs h => by
  obtain ⟨p, zs, y, rfl, rfl, hq, fy, fz, q⟩ := h
  cases rx
  obtain ⟨u, rfl, ru⟩ := vals1 rs
  obtain ⟨its, r, pl, _⟩ := I.tuple hq
  obtain ⟨⟨cl, dd, dat, slo⟩, there, e1, m, e2⟩ := pl
  dsimp only at e1 e2
  subst e1 e2
  exact call_meets PySem.F.slot_tuple_count ⟨_, there, rfl⟩ PySem.F.entry_tuple_count (PySem.F.args_tuple_count_2 _ _) (SeqAt.tuple_countAt p its.toArray m dd slo u (eqU y))
    ⟨there, fun w hw => mem_eqAt ru fy r fz w (by simpa using hw), .int _, H, I.tok _, ⟨s.toks, by rw [← countU r fz]⟩, q⟩
end
end EN
/-! Rules of our own over the machine: own dunders, own classes made, where what is raised is wished for at the slots. -/
namespace EN
open PySem PySem.Spec PyProof.Rows L2
section
variable {X : Cx} {CX : CXT} {k : Nat} {f C : Addr} {fd : FuncData} {ps : List Str} {sp : Sp} {E : L2.St → XK}
def E00 : XK := fun _ _ _ => False
/-- x in o, x not in o, by the class's own __contains__ -/
def rOwnIn (C : Addr) (sp : Sp) (neg : Bool) : R2 := fun x y H Q => ∃ (a dx : Addr) (fs : List (Str × V)), y = .ref a ∧ H a = some (.ins C dx fs) ∧ sp [y, x] H (fun v H' => ∃ b, v = .bl b ∧ Q (.bl (if neg then !b else b)) H') E00
theorem own_call {pins : List (Addr × Obj)} {σ : L2.St} {H : Hp} {s : Shared} {Q : VK} {vs : List V} {us : List Value} {e0 : XK} (F : FnOk X.prog X.w X.K X.mg X.base CX k f fd ps sp) (hb : Binds X.K fd ps []) (hx : PassesAt CX X σ e0) (I : Inv X pins σ H s) (r : Vals vs us) (h : sp vs H Q e0) (A : Around) (hA : Room k A) (fA : A.frames = X.A.frames) :
    wpAny (model X.prog X.w) A (call (.ref f) us) (EP X pins σ Q) X.xe s := by
  have e1 : Env0 X.prog X.w X.K X.mg X.base A X.stack s H :=
    let e := I.env0
    ⟨fA ▸ e.frames, e.mod, e.bs, e.bsz, e.funs, e.frf, e.hok, e.bare⟩
  have few := F.len _ _ _ _ h
  have bd := hb s us I.kIn (by rw [List.append_nil, ← r.length]; exact few)
  rw [List.append_nil] at bd
  refine wpAny_call (codeAny_mono (F.run A X.stack s H ⟨us, []⟩ us vs Q e0 hA e1 bd r h) fun res t q => ?_)
  match res, q with
  | .ok (.ret u), q => exact I.after q
  | .error er, q => exact hx pins H s er t I q
theorem op_ownIn (F : FnOk X.prog X.w X.K X.mg X.base CX k f fd ps sp) (hr : Room k X.A) (hb : Binds X.K fd ps []) (hx : ∀ σ, PassesAt CX X σ E00) (hs : PySem.W.findIn X.K (.ref C) "__contains__" = some (some (.ref f))) (hf : PySem.W.isFn X.K (.ref f) = true) :
    OpR X (compareOp .In) (rOwnIn C sp false) := fun pins s σ H x y v u Q I rx ry h => by
  obtain ⟨a, dx, fs, rfl, ea, h⟩ := h
  cases ry
  obtain ⟨mA, J, _⟩ := ins_get I.hok ea
  obtain ⟨od, J, _⟩ := J.look
  obtain ⟨m, hF⟩ := I.fr
  refine PySem.W.in_K hF I.ok.mod.kin J hs hf (wpAny_mono (own_call (vs := [.ref a, x]) F hb (hx σ) I (.cons rfl (.cons rx .nil)) h _ hr rfl) (fun r s1 q => ?_) fun _ _ z => z)
  obtain ⟨w, H1, I1, rw1, b, rfl, q⟩ := q
  cases rw1
  exact wpAny_truthy_bool ⟨.bl b, H1, I1, rfl, q⟩
theorem op_ownNotIn (F : FnOk X.prog X.w X.K X.mg X.base CX k f fd ps sp) (hr : Room k X.A) (hb : Binds X.K fd ps []) (hx : ∀ σ, PassesAt CX X σ E00) (hs : PySem.W.findIn X.K (.ref C) "__contains__" = some (some (.ref f))) (hf : PySem.W.isFn X.K (.ref f) = true) :
    OpR X (compareOp .NotIn) (rOwnIn C sp true) := fun pins s σ H x y v u Q I rx ry h => by
  obtain ⟨a, dx, fs, rfl, ea, h⟩ := h
  cases ry
  obtain ⟨mA, J, _⟩ := ins_get I.hok ea
  obtain ⟨od, J, _⟩ := J.look
  obtain ⟨m, hF⟩ := I.fr
  refine PySem.W.notIn_K hF I.ok.mod.kin J hs hf (wpAny_mono (own_call (vs := [.ref a, x]) F hb (hx σ) I (.cons rfl (.cons rx .nil)) h _ hr rfl) (fun r s1 q => ?_) fun _ _ z => z)
  obtain ⟨w, H1, I1, rw1, b, rfl, q⟩ := q
  cases rw1
  exact wpAny_truthy_bool ⟨.bl (!b), H1, I1, rfl, q⟩
/-- o[i] by the class's own __getitem__ -/
def tOwnIx (C : Addr) (sp : Sp) (E : L2.St → XK) (ta tb : TE) : TE := fun σ H Q => ta σ H fun x H1 => tb σ H1 fun y H2 => ∃ (a dx : Addr) (fs : List (Str × V)), x = .ref a ∧ H2 a = some (.ins C dx fs) ∧ sp [x, y] H2 Q (E σ)
theorem pe_ownIx {a b : Expr} {ta tb : TE} {pos : Pos} (F : FnOk X.prog X.w X.K X.mg X.base CX k f fd ps sp) (hr : Room k X.A) (hr1 : Room k X.A.in1) (hb : Binds X.K fd ps []) (hx : ∀ σ, PassesAt CX X σ (E σ)) (hs : PySem.W.findIn X.K (.ref C) "__getitem__" = some (some (.ref f))) (hf : PySem.W.isFn X.K (.ref f) = true)
    (hn : PySem.W.fnIn X.K f = true) (ha : PE X a ta) (hb2 : PE X b tb) (hsl : ∀ v i, subscripted b true v i = runValue (.builtin "lifetime.subscript" ⟨[v, i], []⟩)) : PE X (.Subscript a b pos) (tOwnIx C sp E ta tb) := by
  refine ⟨fun pins s σ H Q I h => ?_⟩
  refine Subscript_ (thn (ha.run pins s σ H _ I h) fun v s1 ⟨x, H1, I1, r1, q1⟩ => thn (hb2.run pins s1 σ H1 _ I1 q1) fun u s2 ⟨y, H2, I2, r2, a0, dx, fs, e0, ea, q⟩ => ?_)
  subst e0
  cases r1
  obtain ⟨mA, J, _⟩ := ins_get I2.hok ea
  obtain ⟨od, J, _⟩ := J.look
  obtain ⟨m, hF⟩ := I2.fr
  exact PySem.W.sub_K hF I2.ok.mod.kin J hs hn hf (own_call (vs := [.ref a0, y]) F hb (hx σ) I2 (.cons rfl (.cons r2 .nil)) q _ hr1 rfl) (hsl _ _)
/-- C(e, ..) of an own class -/
def tMakeS (C : Addr) (sp : Sp) (E : L2.St → XK) (t : TA) : TE := fun σ H Q => t σ H fun vs H1 => ∀ x dx, H1 x = none → H1 dx = none → dx ≠ x → sp (.ref x :: vs) (upd (upd H1 dx (.own x)) x (.ins C dx [])) (fun v H2 => v = .non ∧ Q (.ref x) H2) (E σ)
theorem own_make {pins : List (Addr × Obj)} {σ : L2.St} {H : Hp} {s : Shared} {Q : VK} {us : List Value} {vs : List V} {e0 : XK} (M : Mk X.K C f) (F : FnOk X.prog X.w X.K X.mg X.base CX k f fd ps sp) (hr : Room (k + 1) X.A) (hb : Binds X.K fd ps []) (hx : PassesAt CX X σ e0) (I : Inv X pins σ H s) (r : Vals vs us)
    (h : ∀ x dx, H x = none → H dx = none → dx ≠ x → sp (.ref x :: vs) (upd (upd H dx (.own x)) x (.ins C dx [])) (fun v H2 => v = .non ∧ Q (.ref x) H2) e0) : wpAny (model X.prog X.w) X.A (call (.ref C) us) (EP X pins σ Q) X.xe s := by
  generalize hn : s.heap.objs.size = n at h
  have J := Inv.made (C := C) I
  rw [hn] at J
  have q := h (n + 1) n (I.hok.fresh (by omega)) (I.hok.fresh (by omega)) (Nat.ne_of_lt (Nat.lt_succ_self n))
  have rr : Vals (V.ref (n + 1) :: vs) (Value.ref (n + 1) :: us) := .cons rfl r
  have few := F.len _ _ _ _ q
  have bd := hb _ (Value.ref (n + 1) :: us) J.kIn (by rw [List.append_nil, ← rr.length]; exact few)
  rw [List.append_nil] at bd
  have e1 := J.env0.make C us []
  subst hn
  refine wpAny_call (make_map (f := f) I.kIn M.makes M.init (eq_of_beq M.fn) (codeAny_mono (F.run _ X.stack _ _ _ _ _ _ e0 (hr.make C us []) e1 bd rr q) fun res t z => ?_))
  match res, z with
  | .ok (.ret u), z =>
    obtain ⟨v, H1, J1, rv, ev, z⟩ := J.after z
    subst ev
    exact ⟨rv, V.ref (s.heap.objs.size + 1), H1, J1, rfl, z⟩
  | .error er, z => exact hx pins _ _ er t J z
theorem pe_makeS {x : Str} {p pos : Pos} {e : Expr} {es : List Expr} {t : TA} (M : Mk X.K C f) (F : FnOk X.prog X.w X.K X.mg X.base CX k f fd ps sp) (hr : Room (k + 1) X.A) (hg : Gl X x) (hm : X.mg x = some (.ref C)) (hb : Binds X.K fd ps []) (hx : ∀ σ, PassesAt CX X σ (E σ)) (ha : PA X (e :: es) t)
    (hdb : (x == ("__debug__" : Str)) = false) (he : starEach (e :: es) X.env = (false, eval e X.env) :: starEach es X.env) (hpl : (backTo pos (starEach es X.env)).any (·.1) = false) : PE X (.Call (.Name x p) (e :: es) [] pos) (tMakeS C sp E t) :=
  ⟨fun pins s σ H Q I h => wpAny_Call_Name_kw (ld_glob I hg hm (PySem.W.callWith_K (h₀ := X.base) I.ok.mod.kin M.kp (thn (ha.run pos pins s σ H _ I h) fun us s1 ⟨vs, H1, I1, r, q⟩ => ⟨I1.kIn, own_make M F hr hb (hx σ) I1 r q⟩) he hpl) hdb)⟩
/-- o.m(e, ..) -/
def tMethX (C : Addr) (m : Str) (sp : Sp) (E : L2.St → XK) (ta : TE) (t : TA) : TE := fun σ H Q => ta σ H fun x H1 => ∃ (a dx : Addr) (fs : List (Str × V)), x = .ref a ∧ H1 a = some (.ins C dx fs) ∧ fs.lookup m = none ∧ t σ H1 fun vs H2 => sp (x :: vs) H2 Q (E σ)
theorem pe_methX {m : Str} {o e : Expr} {es : List Expr} {apos pos : Pos} {ta : TE} {t : TA} {pl : Sem Bool} (he : PE X o ta) (c : Cls X.K C) (hm : Meth X.K C m f) (F : FnOk X.prog X.w X.K X.mg X.base CX k f fd ps sp) (hr : Room k X.A) (hb : Binds X.K fd ps []) (hx : ∀ σ, PassesAt CX X σ (E σ)) (ha : PA X (e :: es) t)
    (hst : starEach (e :: es) X.env = (false, eval e X.env) :: starEach es X.env) (hpl : (backTo pos (starEach es X.env)).any (·.1) = false)
    (ht : eval (.Call (.Attribute o m apos) (e :: es) [] pos) X.env = (do
      let ov ← eval o X.env
      standAt apos.atName
      let g ← holding [ov] (getMethod ov m pl)
      callWith pos g.1 g.2 (backTo pos (starEach (e :: es) X.env)) (backToKw pos (keywordEach [] X.env)))) : PE X (.Call (.Attribute o m apos) (e :: es) [] pos) (tMethX C m sp E ta t) := by
  refine ⟨fun pins s σ H Q I h => PySem.W.methodCall_KW (pl := pl) (thn (he.run pins s σ H _ I h) fun u s1 ⟨x, H1, I1, rx, a, dx, fs, ex, ea, l, q⟩ => ?_) ht⟩
  subst ex
  cases rx
  refine getmeth_ok I1 ea c hm l (PySem.W.callWith_K (first := [.ref a]) (h₀ := X.base) I.ok.mod.kin hm.kp (thn (ha.run pos pins s1 σ H1 _ I1 q) fun us s2 ⟨vs, H2, I2, r, q2⟩ => ⟨I2.kIn, ?_⟩) hst hpl)
  exact own_call (vs := .ref a :: vs) F hb (hx σ) I2 (.cons rfl r) q2 _ hr rfl
end
end EN
/-! Several except clauses, each with a name. -/
namespace EN
open PySem PySem.Spec PyProof.Rows L2
abbrev Cl := Value × Nat × (Addr → Value → Option Addr → TS)
/-- an error's slot is free again behind its suite -/
def endC (i : Nat) (D : Ends) : Ends := { nx := fun σ' H' => D.nx (σ'.set i none) H', rt := D.rt, bk := fun σ' H' => D.bk (σ'.set i none) H', ct := fun σ' H' => D.ct (σ'.set i none) H' }
/-- what the clauses, one after another, wish of what the body raises -/
def wCl (K : PySem.W.Frag) (W : WX) (D : Ends) : List Cl → WX
  | [] => W
  | p :: r => fun cls d σ H => ∃ b, PySem.W.exmOne K cls p.1 = some b ∧ (b = true → ∀ a, H a = none → p.2.2 a cls d (endC p.2.1 D) (σ.set p.2.1 (some (.ref a))) H) ∧ (b = false → wCl K W D r cls d σ H)
inductive Cls' (X : Cx) : List ExceptHandler → List Cl → Prop
  | nil : Cls' X [] []
  | cons {x n : Str} {c : Value} {i : Nat} {ts : Addr → Value → Option Addr → TS} {b : Stmt} {bs : List Stmt} {np hp : Pos} {hs : List ExceptHandler} {l : List Cl} (hi : X.N[i]? = some n) (hl : X.env.kindOf n = some .local) (hc : L2.Names X x c)
      (su : ∀ (a : Addr) (oe : Obj) (cls : Value) (d : Option Addr) (pn : List (Addr × Obj)), L2N.Zn cls d oe → (∃ vs, oe.data = .fields vs) → PSs (X.suite a ((a, oe) :: pn)) (b :: bs) (ts a cls d)) (r : Cls' X hs l) :
      Cls' X (.ExceptHandler (some (.Name x np)) (some n) (b :: bs) hp :: hs) ((c, i, ts) :: l)
section
variable {X : Cx} {pins : List (Addr × Obj)} {σ : L2.St} {H : Hp} {D : Ends} {W : WX} {a : Addr} {B : Heap} {sI t : Shared} {cls : Value} {d : Option Addr} {h : Heap}
/-- an error on the ground, ahead of the clauses -/
structure Grd (X : Cx) (pins : List (Addr × Obj)) (σ : L2.St) (H : Hp) (a : Addr) (B : Heap) (sI t : Shared) (cls : Value) (d : Option Addr) (h : Heap) : Prop where
  inv : Inv X pins σ H sI
  nb : ∀ b o, sI.heap.get? b = some o → b ∉ frs X.stack → B.get? b = some o
  upI : sI.heap.UpToSlots h
  fly : HandSPX.FlyingZ B (X.env :: X.outer) a (L2N.Zn cls d) h
  na : H a = none
  os : t.os = sI.os
  ag : AllBare t.gens
  stk : X.stack = X.env :: X.outer
  frm : X.env.frame = some X.env.locals
theorem Grd.at_ (g : Grd X pins σ H a B sI t cls d h) : Inv X pins σ H { t with heap := h } := g.inv.landed g.nb g.fly.1 g.upI g.os g.ag
theorem Grd.again (g : Grd X pins σ H a B sI t cls d h) {h' : Heap} (f : HandSPX.FlyingZ B (X.env :: X.outer) a (L2N.Zn cls d) h') (u : h.UpToSlots h') : Grd X pins σ H a B sI t cls d h' :=
  ⟨g.inv, g.nb, g.upI.trans u, f, g.na, g.os, g.ag, g.stk, g.frm⟩
theorem Grd.held (g : Grd X pins σ H a B sI t cls d h) : ∃ oe, h.get? a = some oe ∧ L2N.Zn cls d oe ∧ (∃ vs, oe.data = .fields vs) ∧ Inv (X.suite a ((a, oe) :: (X.pn ++ pins))) [] σ H { t with heap := h } := by
  obtain ⟨oe, vs, he, hz, hd⟩ := g.fly.there
  have out : a ∉ frs (X.env :: X.outer) := fun m => by
    obtain ⟨_, o, e, no⟩ := g.fly.2.2.1.mem m
    rw [he] at e
    cases e
    exact no _ hd
  refine ⟨oe, he, hz, ⟨vs, hd⟩, g.at_.suite he hd g.na (fun z => out ?_) fun m => out ?_⟩
  · exact List.mem_filterMap.mpr ⟨_, List.mem_cons_self, by rw [g.frm, z]⟩
  · obtain ⟨e, m, q⟩ := List.mem_filterMap.mp m
    exact List.mem_filterMap.mpr ⟨e, List.mem_cons_of_mem _ m, q⟩
/-- no clause takes it -/
theorem Grd.pass (g : Grd X pins σ H a B sI t cls d h) (tk : L2N.Takes X W) (w : W cls d σ H) : wpAny (model X.prog X.w) X.A (handleBy (.ref a) X.env []) (SP X pins D) X.xe { t with heap := h } := by
  have off : wpAny (model X.prog X.w) X.A (setFlight (.ref a) X.env.frame) (fun _ s => wpAny (model X.prog X.w) X.A (throw (.ref a) : Sem Flow) (SP X pins D) X.xe s) X.xe { t with heap := h } := by
    rw [g.frm]
    refine HandSPX.setFlight_upZ g.fly fun h' hh u => wpAny_throw (tk _ _ ⟨a, B, sI, pins, σ, H, cls, d, rfl, g.inv, g.nb, g.upI.trans u, ?_, g.na, g.os, g.ag, w⟩)
    rw [g.stk]
    exact .inr (.inr hh)
  obtain ⟨_, _, _, oe, vs, T, _, _, he, _, hd, h1, _⟩ := id g.fly
  refine wpAny_handleBy_nil (wpAny_bind (wpAny_field he hd h1 ?_))
  have ne : (Value.ref T == Value.none) = false := rfl
  rw [ne]
  first
    | exact wpAny_bind (wpAny_pure (wpAny_bind off))
    | exact wpAny_bind off
/-- one clause after another -/
theorem Grd.go (hN : X.N.Nodup) (tk : L2N.Takes X W) : ∀ {hs : List ExceptHandler} {l : List Cl}, Cls' X hs l → ∀ {h : Heap}, Grd X pins σ H a B sI t cls d h → wCl X.K W D l cls d σ H → wpAny (model X.prog X.w) X.A (handleBy (.ref a) X.env hs) (SP X pins D) X.xe { t with heap := h } := by
  intro hs l k
  induction k with
  | nil => exact fun g w => g.pass tk w
  | @cons x n c i ts b bs np hp hs l hi hl hc su r ih =>
    intro h g w
    obtain ⟨v, hv, yes, no⟩ := w
    obtain ⟨oe, he, hz, hd, S⟩ := g.held
    refine wpAny_handleBy_cons (codeAny_handlers_test ?_) (by intro q; cases q)
    have ty : PySem.W.Looks (model X.prog X.w) h (typeOf (.ref a)) cls := fun _ _ _ _ ks q => wpAny_typeOf_ref (ks _ _ he) (by rw [hz.1]; exact q)
    have named : ∀ {Q : Value → Shared → Prop} {E : Value → Shared → Prop}, Q c { t with heap := h } → wpAny (model X.prog X.w) (X.A.mark (some (.ref a))) (eval (.Name x np) X.env) Q E { t with heap := h } := fun q => by
      rcases hc with ⟨g1, g2, m | ⟨m, g3, g4⟩⟩
      · exact ld_glob (X := X.suite a ((a, oe) :: (X.pn ++ pins))) S g1 m q g2
      · exact ld_blt (X := X.suite a ((a, oe) :: (X.pn ++ pins))) S g1 m g3 q g4 g2
    refine named ((PySem.W.exm_one (M := model X.prog X.w) g.at_.kIn ty hv).here ?_)
    cases v with
    | false => exact ih g (no rfl)
    | true =>
      refine codeAny_handlers_suite_as (HandSPX.lands_againZ g.fly fun h' f u => ?_)
      have g' := g.again f u
      obtain ⟨oe', he', hz', hd', S'⟩ := g'.held
      refine store_ok (X := X.suite a ((a, oe') :: (X.pn ++ pins))) (v := .ref a) S' hN hi (.inl hl) rfl (fun s5 S5 => ?_) (.inr hl)
      refine wpAny_mono ((su a oe' cls d (X.pn ++ pins) hz' hd').run [] s5 _ H _ S5 (yes rfl a g.na)) (fun fl s6 q => ?_) fun _ _ z => z.elim
      have behind : ∀ {σ6 : L2.St} {H6 : Hp} {Q : Shared → Prop}, Inv (X.suite a ((a, oe') :: (X.pn ++ pins))) [] σ6 H6 s6 → (∀ s7, Inv X pins (σ6.set i none) H6 s7 → Q s7) →
          wpAny (model X.prog X.w) X.A (do bindName X.env n .none; unbindBehindTheSuite X.env n hp) (fun _ s7 => Q s7) X.xe s6 := fun S6 q => gone_ok (S6.unsuite g.inv.ok) hN hi hl q
      match fl, q with
      | .next, ⟨_, _, S6, q⟩ => exact behind S6 fun _ J => ⟨_, _, J, q⟩
      | .brk, ⟨_, _, S6, q⟩ => exact behind S6 fun _ J => ⟨_, _, J, q⟩
      | .cont, ⟨_, _, S6, q⟩ => exact behind S6 fun _ J => ⟨_, _, J, q⟩
      | .ret u, ⟨_, _, _, S6, ru, q⟩ => exact behind S6 fun _ J => ⟨_, _, _, J, ru, q⟩
end
section
variable {X : Cx} {body : List Stmt} {h₀ : ExceptHandler} {hs : List ExceptHandler} {l : List Cl} {pos : Pos} {tb : WX → TS} {W : WX}
/-- try: .. except A as a: .. except B as b: .. -/
theorem ps_tryAs (stk : X.stack = X.env :: X.outer) (frm : X.env.frame = some X.env.locals) (hN : X.N.Nodup) (tk : L2N.Takes X W)
    (hb : ∀ (W' : WX) (pn : List (Addr × Obj)) (xe : Value → Shared → Prop), L2N.Takes (X.tr pn xe) W' → PassesOwn (model X.prog X.w) X.A X.env xe → PSs (X.tr pn xe) body (tb W')) (k : Cls' X (h₀ :: hs) l) :
    PS X (.Try body (h₀ :: hs) [] [] pos) fun D σ H => tb (wCl X.K W D l) D σ H := by
  refine ⟨fun pins s σ H D I q => wpAny_Try_except ?_⟩
  let xe : Value → Shared → Prop := fun e s1 => wpAny (model X.prog X.w) X.A (noteFrame e X.env) (fun _ s2 => wpAny (model X.prog X.w) X.A (setFlight e none) (fun _ s3 => wpAny (model X.prog X.w) X.A (handleBy e X.env (h₀ :: hs)) (SP X pins D) X.xe s3) X.xe s2) X.xe s1
  have caught : L2N.Takes (X.tr (X.pn ++ pins) xe) (wCl X.K W D l) := fun u t z => by
    obtain ⟨a, B, sI, _, σ1, H1, cls, d, rfl, J, nb, up, sky, na, os, ag, w⟩ := z
    have J1 : Inv X pins σ1 H1 sI := J.ofTry I.ok
    have sk : Sky B (X.env :: X.outer) a (L2N.Zn cls d) X.env.locals t.heap := stk ▸ sky
    have fr : X.A.frames = some (X.env :: X.outer) := stk ▸ I.ok.frames
    exact L2N.Sky.land (env := X.env) L2N.Zn.steady fr frm sk fun h3 f3 u3 => Grd.go hN tk k ⟨J1, nb, up.trans u3, f3, na, os, ag, stk, frm⟩ w
  refine wpAny_mono ((hb _ (X.pn ++ pins) xe caught PassesOwn.looking).run [] s σ H D (I.toTry _) q) (fun fl t z => ?_) fun _ _ z => z
  match fl, z with
  | .next, ⟨_, _, J, z⟩ => exact wpAny_execs_nil ⟨_, _, J.ofTry I.ok, z⟩
  | .brk, ⟨_, _, J, z⟩ => exact ⟨_, _, J.ofTry I.ok, z⟩
  | .cont, ⟨_, _, J, z⟩ => exact ⟨_, _, J.ofTry I.ok, z⟩
  | .ret u, ⟨_, _, _, J, ru, z⟩ => exact ⟨_, _, _, J.ofTry I.ok, ru, z⟩
end
end EN
/-! list(reversed(a list)). -/
namespace EN
open PySem PySem.Spec PyProof.Rows
section
variable {prog : Program} {w : World} {A : Around} {E : Value → Shared → Prop} {s : Shared} {it l S : Addr} {items : Array Value} {R : Result → Shared → Prop}
/-- the list at S grows by what a walk back over l gives -/
theorem grow_rev (hh : A.handled = none) (hit : s.heap.IsRevIter it l ((items.size : Int) - 1)) (hl : s.heap.IsList l items) (n1 : l ≠ it) (n2 : S ≠ it) (n3 : S ≠ l) (fit : items.size ≤ sizeLine) {c0 : Nat} (hS : s.heap.get? S = some { cls := .type "list", data := .seq #[] c0 }) (res : Value)
    (go : ∀ s' acc c, Moved [S, it] (fun a b => b = a) s s' → s'.heap.get? S = some { cls := .type "list", dict := none, data := .seq acc c, slots := #[] } → ItemsOf (fun i v => items[items.size - 1 - i]? = some v) acc items.size → R (.ok (.ret res)) s') :
    wpAny (model prog w) A.in1 (Builtin.List.listExtendWith (.ref S) (.ref it) res)
      (fun fin s' => match fin with | .done f => R (.ok f) s' | .again c' => c'.quiet = true ∧ codeAny (model prog w) A c' R s') (fun e s' => R (.error e) s') s := by
  have walk := (Walks.listRev (prog := prog) (w := w) (A := A.in1) hh it l n1 items).toS
  have far : S ∉ [it, l] := by simp [n2, n3]
  have ty : s.TypeIs (.ref it) "list_reverseiterator" := hit.typeIs
  have other : Builtin.List.listSameRef (.ref S) (.ref it) = false := by simp [Builtin.List.listSameRef, n2]
  unfold Builtin.List.listExtendWith
  refine wpAny_bind (wpAny_typeOf ty ?_)
  have no : (Builtin.List.listSameRef (.ref S) (.ref it) || Value.type "list_reverseiterator" == Value.type "list" || Value.type "list_reverseiterator" == Value.type "tuple") = false := by rw [other]; decide
  rw [no]
  refine wpAny_bind (wpAny_pyIter_revIter hit (wpAny_bind (wpAny_holding ?_)))
  unfold Builtin.List.listLengthHint
  refine wpAny_bind (wpAny_specialOf ty RT.nolen_lri (wpAny_bind (wpAny_specialOf ty RT.hint_lri ?_)))
  generalize q : ("list_reverseiterator.__length_hint__" : String) = nm
  wp_delta
  have cut : splitId nm = some ("list_reverseiterator", "__length_hint__") := by subst q; decide +kernel
  rw [cut]
  subst q
  refine wpAny_bind (wpAny_isInstance (b := true) ty (by rw [isSubtype_type]; kernel_rfl) (wpAny_pure ?_))
  rw [if_neg (by decide)]
  have z0 : ((items.size : Nat) : Int) - 1 - ((0 : Nat) : Int) = (items.size : Int) - 1 := by omega
  exact wpAny_pure ⟨plainId_quiet F.plain_extend_loop _, codeAny_extend_loopS walk fit _ far res items.size 0 _ _ _ rfl (Nat.zero_le _) ⟨Nat.zero_le _, by rw [z0]; exact hit, hl⟩ hS (ItemsOf.nil _) fun s' acc c m => go s' acc c m⟩
/-- list(..) of a walk back over l -/
theorem call_list_rev {Q : Value → Shared → Prop} (hh : A.handled = none) (hit : s.heap.IsRevIter it l ((items.size : Int) - 1)) (hl : s.heap.IsList l items) (n1 : l ≠ it) (fit : items.size ≤ sizeLine)
    (go : ∀ (h' : Heap) (tk : Nat) (acc : Array Value) (c : Nat), (∀ b o, b ≠ it → s.heap.get? b = some o → h'.get? b = some o) → h'.get? s.heap.objs.size = some { cls := .type "list", dict := none, data := .seq acc c, slots := #[] } →
      ItemsOf (fun i v => items[items.size - 1 - i]? = some v) acc items.size → Q (.ref s.heap.objs.size) { s with heap := h', toks := tk }) : wpAny (model prog w) A (call (.type "list") [.ref it]) Q E s := by
  generalize hn : s.heap.objs.size = S at go
  have lt : ∀ {b o}, s.heap.get? b = some o → b ≠ S := fun e z => Nat.ne_of_lt (Heap.lt_size e) (z.trans hn.symm)
  obtain ⟨_, i1, _⟩ := id hit
  obtain ⟨_, i2, _⟩ := id hl
  refine callType_codes (Q₁ := fun obj s1 => obj = .ref S ∧ s1 = { s with heap := s.heap.push { cls := .type "list", data := .seq #[] } }) F.called_list (F.typeCall_list_1 _) F.entry_list_init (code_list_new _ ⟨by rw [hn], rfl⟩) fun obj s1 z => ?_
  obtain ⟨rfl, rfl⟩ := z
  have new : (s.heap.push { cls := .type "list", data := .seq #[] }).get? S = some { cls := .type "list", data := .seq #[] } := hn ▸ Heap.get?_push_size _ rfl
  refine ⟨⟨_, new, rfl⟩, F.args_list_init_2 _ _, ?_⟩
  show wpAny _ _ (do let old ← Builtin.List.listItems (.ref S); Builtin.List.listUpdate (.ref S) (fun _ => #[]); letGo old.toList.reverse; Builtin.List.listExtendWith (.ref S) (.ref it) .none) _ _ _
  unfold Builtin.List.listItems
  refine wpAny_bind (wpAny_bind (wpAny_seqItems new rfl (wpAny_pure ?_)))
  show wpAny _ _ (updateSeq S (fun _ => #[]) >>= fun _ => letGo (#[] : Array Value).toList.reverse >>= fun _ => _) _ _ _
  refine wpAny_bind (wpAny_updateSeq new rfl (wpAny_bind (wpAny_letGo ?_)))
  have new2 := Heap.get?_update_self (Obj.mapSeq (fun _ => (#[] : Array Value))) new rfl
  have kp : ∀ b o, b ≠ S → s.heap.get? b = some o → ((s.heap.push { cls := .type "list", data := .seq #[] }).update S (Obj.mapSeq (fun _ => (#[] : Array Value)))).get? b = some o := fun b o hb e => (Heap.get?_update_other _ _ (Ne.symm hb)).trans (Heap.get?_push_of_some _ e)
  have hit2 := hit.at (h' := (s.heap.push { cls := .type "list", data := .seq #[] }).update S (Obj.mapSeq (fun _ => (#[] : Array Value)))) fun o e => kp it o (lt i1) e
  have hl2 := hl.at (h' := (s.heap.push { cls := .type "list", data := .seq #[] }).update S (Obj.mapSeq (fun _ => (#[] : Array Value)))) fun o e => kp l o (lt i2) e
  refine grow_rev (A := A.in1) (R := wants (fun r s₂ => r = Value.none ∧ Q (Value.ref S) s₂) E) (s := { s with heap := (s.heap.push { cls := .type "list", data := .seq #[] }).update S (Obj.mapSeq (fun _ => (#[] : Array Value))) }) hh hit2 hl2 n1 (lt i1).symm (lt i2).symm fit new2 .none fun s' acc c m e k => ⟨rfl, ?_⟩
  rw [Moved.eq_with m]
  refine go s'.heap s'.toks acc c (fun b o hb e => ?_) e k
  have bS := lt e
  exact m.heap b o (by simp [bS, hb]) (kp b o bS e)
end
open L2
section
variable {X : Cx}
/-- list(reversed(e)), e a list -/
def tRevL (K : PySem.W.Frag) (te : TE) : TE := fun σ H Q => te σ H fun x H1 => ∃ (a : Addr) (zs : List V), x = .ref a ∧ SqL K H1 a zs ∧ ∀ q, H1 q = none → Q (.ref q) (upd H1 q (.lst zs.reverse))
theorem pe_revL {e : Expr} {te : TE} {p p2 pos pos2 : Pos} (hc : X.calm = true) (g1 : Gl X "list") (m1 : X.mg "list" = none) (g2 : Gl X "reversed") (m2 : X.mg "reversed" = none) (he : PE X e te) (st : starEach [e] X.env = (false, eval e X.env) :: starEach [] X.env) :
    PE X (.Call (.Name "list" p) [.Call (.Name "reversed" p2) [e] [] pos2] [] pos) (tRevL X.K te) := by
  refine ⟨fun pins s σ H Q I h => Call_ (ld_blt I g1 m1 boot_list (PyProof.Rows.callWith_type1 (args_cons (Call_ (ld_blt I g2 m2 PyProof.Rows.boot_reversed (PyProof.Rows.callWith_type1 (args_cons (thn (he.run pins s σ H _ I h) fun u t ⟨x, H1, J, rx, a, zs, ex, hz, q⟩ => args_nil ?_) st) st rfl))) rfl) rfl rfl))⟩
  subst ex
  cases rx
  obtain ⟨its, rv, pl, fit⟩ := J.list hz
  have il := pl.isList
  obtain ⟨_, there, _⟩ := id il
  have apart : a ≠ t.heap.objs.size := Nat.ne_of_lt (Heap.lt_size there)
  have room : its.toArray.size ≤ sizeLine := by rw [List.size_toArray, ← rv.length]; exact fit
  refine call_reversed_list il (args_nil ?_)
  generalize ho : revObj a ((its.toArray.size : Int) - 1) = ro
  have kp : ∀ b o, t.heap.get? b = some o → (t.heap.push ro).get? b = some o := fun b o e => Heap.get?_push_of_some _ e
  have J2 : Inv X pins σ H1 { t with heap := t.heap.push ro } := J.kept (t' := t.toks) kp
  have free : H1 t.heap.objs.size = none := J.hok.fresh (Nat.le_refl _)
  obtain ⟨_, f1, f2, f3, f4, f5⟩ := J.fpOk (H' := H1) (b := t.heap.objs.size) (Nat.le_refl _) free
  have isr : (t.heap.push ro).IsRevIter t.heap.objs.size a ((its.toArray.size : Int) - 1) := by rw [← ho]; exact ⟨_, Heap.get?_push_size _ rfl, rfl, rfl⟩
  refine call_list_rev (s := { t with heap := t.heap.push ro }) (J.ok.hd hc) isr (il.push _) apart room fun h' tk acc c k new items => ?_
  have fp : ∀ b ∈ [t.heap.objs.size], FpOk X pins H1 b := fun b hb => by rw [List.mem_singleton.mp hb]; exact ⟨free, f1, f2, f3, f4, f5⟩
  generalize hT : (t.heap.push ro).objs.size = T at new
  have fits : zs.reverse.length ≤ sizeLine := by rw [List.length_reverse]; exact fit
  have laid : ObjOk X.prog X.w (upd H1 T (.lst zs.reverse)) h' T (.lst zs.reverse) := ⟨fits, acc.toList, c, RT.vals_rev rv items, by rw [Array.toArray_toList]; exact new⟩
  have J3 := J2.turnedNew (t' := tk) (ch := [t.heap.objs.size]) (fun b o hb e => k b o (fun z => hb (List.mem_singleton.mpr z)) e) fp (Nat.le_of_eq hT) laid
  have free2 : H1 T = none := J2.hok.fresh (Nat.le_of_eq hT)
  exact ⟨.ref T, _, J3, by rw [← hT]; rfl, q T free2⟩
end
end EN
/-! set(a list or a tuple of keys). -/
namespace EN
open PySem PySem.Spec PyProof.Rows
abbrev Key := L2.Key
instance decMem (k : Key) (ks : List Key) : Decidable (k ∈ ks) := @List.instDecidableMemOfLawfulBEq Key instBEqOfDecidableEq inferInstance k ks
/-- a key put in, unless it is there -/
def addK (ks : List Key) (k : Key) : List Key := if k ∈ ks then ks else ks ++ [k]
def setK (ks : List Key) : List Key := ks.foldl addK []
theorem addK_mem {ks : List Key} {k j : Key} : (decide (j ∈ ks) || decide (j = k)) = decide (j ∈ addK ks k) := by
  unfold addK
  by_cases h : k ∈ ks
  · rw [if_pos h]
    by_cases e : j = k
    · subst e; simp [h]
    · simp [e]
  · rw [if_neg h]; simp
theorem addK_len {ks : List Key} {k : Key} : (if decide (k ∈ ks) = true then ks.length else ks.length + 1) = (addK ks k).length := by
  unfold addK
  by_cases h : k ∈ ks
  · simp [h]
  · simp [h]
theorem addK_le (ks : List Key) (k : Key) : (addK ks k).length ≤ ks.length + 1 := by unfold addK; split <;> simp
theorem addK_nodup {ks : List Key} {k : Key} (h : ks.Nodup) : (addK ks k).Nodup := by
  unfold addK
  split
  · exact h
  · rename_i n
    exact List.nodup_append.mpr ⟨h, by simp, fun a ha b hb => by rw [List.mem_singleton.mp hb]; exact fun z => n (z ▸ ha)⟩
theorem foldK_le : ∀ (ks acc : List Key), (ks.foldl addK acc).length ≤ acc.length + ks.length
  | [], acc => by simp
  | k :: ks, acc => by
    rw [List.foldl_cons]
    have := foldK_le ks (addK acc k)
    have := addK_le acc k
    rw [List.length_cons]
    omega
theorem setK_nodup (ks : List Key) : (setK ks).Nodup := by
  have : ∀ (ks acc : List Key), acc.Nodup → (ks.foldl addK acc).Nodup := fun ks => by
    induction ks with
    | nil => exact fun _ h => h
    | cons k ks ih => exact fun acc h => ih _ (addK_nodup h)
  exact this ks [] List.nodup_nil
theorem setK_mem {ks : List Key} {j : Key} : j ∈ setK ks ↔ j ∈ ks := by
  have : ∀ (ks acc : List Key), j ∈ ks.foldl addK acc ↔ j ∈ acc ∨ j ∈ ks := fun ks => by
    induction ks with
    | nil => exact fun acc => by simp
    | cons k ks ih =>
      intro acc
      rw [List.foldl_cons, ih]
      have := addK_mem (ks := acc) (k := k) (j := j)
      have : (j ∈ acc ∨ j = k) ↔ j ∈ addK acc k := by simpa using congrArg (· = true) this
      rw [← this, List.mem_cons]
      constructor
      · rintro ((a | b) | c)
        · exact .inl a
        · exact .inr (.inl b)
        · exact .inr (.inr c)
      · rintro (a | b | c)
        · exact .inl (.inl a)
        · exact .inl (.inr b)
        · exact .inr c
  have q := this ks []
  simpa [setK] using q
section
variable {prog : Program} {w : World} {A : Around} {R : Result → Shared → Prop} {I S : Addr} {fp wr : List Addr} {G : Array GenState → Array GenState → Prop} {n : Nat} {P : Nat → Value → Prop} {St : Nat → Shared → Prop}
/-- a set filled by a walk over keys -/
theorem fill_set (W : WalksS prog w A.in1 I fp wr G n P St) (far : S ∉ fp) (ks : List Key) (hn : ks.length = n) (few : n + 1 < scanBound) (val : ∀ i v, P i v → ∃ k, ks[i]? = some k ∧ L2.RelV (L2.kV k) v) :
    ∀ (m i : Nat) (s : Shared), i + m = n → St i s → s.heap.SetOf (L2.mixKind prog w) S (fun j => decide (j ∈ setK (ks.take i))) (setK (ks.take i)).length →
      (∀ s', Moved (S :: wr) G s s' → s'.heap.SetOf (L2.mixKind prog w) S (fun j => decide (j ∈ setK ks)) (setK ks).length → R (.ok (.ret .none)) s') → codeAny (model prog w) A (.builtin "set.update.loop" ⟨[.ref S, .ref I], []⟩) R s := by
  have nw : S ∉ wr := fun z => far (W.sub _ z)
  have up : ∀ b ∈ wr, b ∈ S :: wr := fun b z => List.mem_cons_of_mem _ z
  have keep : ∀ {s s' : Shared} {f : Key → Bool} {c : Nat}, Moved wr G s s' → s.heap.SetOf (L2.mixKind prog w) S f c → s'.heap.SetOf (L2.mixKind prog w) S f c := fun m ⟨o, es, ep, t, ho, r⟩ => ⟨o, es, ep, t, m.heap S _ nw ho, r⟩
  have into : ∀ {s : Shared}, wpAny (model prog w) A.in1 (Builtin.«set.update.loop» ⟨[.ref S, .ref I], []⟩) (fun fin s' => match fin with | .done f => R (.ok f) s' | .again c' => c'.quiet = true ∧ codeAny (model prog w) A c' R s') (fun e s' => R (.error e) s') s → codeAny (model prog w) A (.builtin "set.update.loop" ⟨[.ref S, .ref I], []⟩) R s := fun h => codeAny_builtin PyProof.Rows.F.entry_set_update_loop (by rw [Around.under_plainId PyProof.Rows.F.plain_set_update_loop _]; exact h)
  intro m
  induction m with
  | zero =>
    intro i s e st hS go
    have e : i = n := e
    subst e
    rw [List.take_of_length_le (Nat.le_of_eq hn)] at hS
    refine into (wpAny_bind (m := pyNext (.ref I)) (W.done s _ _ st fun s' mv => ?_))
    show wpAny _ A.in1 (ret Value.none) _ _ s'
    exact wpAny_pure (go s' (mv.mono up) (keep mv hS))
  | succ m ih =>
    intro i s e st hS go
    refine into (wpAny_bind (m := pyNext (.ref I)) (W.item i s _ _ (by omega) st fun v s' hP st' mv => ?_))
    obtain ⟨k, hk, rk⟩ := val i v hP
    have nx : setK (ks.take (i + 1)) = addK (setK (ks.take i)) k := by
      rw [List.take_succ, hk]
      show List.foldl addK [] (ks.take i ++ [k]) = _
      rw [List.foldl_append]
      rfl
    have le : (setK (ks.take i)).length ≤ i := by
      have := foldK_le (ks.take i) []
      rw [List.length_take] at this
      simp only [List.length_nil] at this
      show (List.foldl addK [] (ks.take i)).length ≤ i
      omega
    have hS1 := keep mv hS
    show wpAny _ A.in1 (holding [v] (setAdd S v) >>= _) _ _ s'
    refine wpAny_bind (wpAny_holding ?_)
    unfold setAdd
    refine wpAny_holding (wpAny_bind ((L2.mixKind prog w).pyHash (k := k) (L2.kV_is rk) ?_))
    refine wpAny_setAddHashed_of (knd := L2.mixKind prog w) (s := { s' with toks := s'.toks + 1 }) (L2.kV_is rk) (L2.key_scan rk) hS1 (by omega) fun h' sb hS2 => ?_
    have hS3 : h'.SetOf (L2.mixKind prog w) S (fun j => decide (j ∈ setK (ks.take (i + 1)))) (setK (ks.take (i + 1))).length := by
      rw [nx]
      have e1 : (fun j => decide (j ∈ setK (ks.take i)) || decide (j = k)) = fun j => decide (j ∈ addK (setK (ks.take i)) k) := funext fun j => addK_mem
      rw [e1, addK_len] at hS2
      exact hS2
    refine wpAny_pure ⟨plainId_quiet PyProof.Rows.F.plain_set_update_loop _, ih (i + 1) _ (by omega) (W.frame _ s' _ _ st' (Nat.le_succ _) fun b hb o e => ?_) hS3 fun t mv2 hS4 => go t (Moved.trans W.gtrans ((mv.mono up).then_heap (Nat.le_succ _) fun b o hb e => ?_) mv2) hS4⟩
    · exact (sb.2 b fun z => far (z ▸ hb)).trans e
    · exact (sb.2 b fun z => hb (z ▸ List.mem_cons_self)).trans e
end
theorem fresh_set {prog : Program} {w : World} {h : Heap} {S : Addr} {led : Bool} (e : h.get? S = some { cls := .type "set", dict := none, data := .set #[] 0 (.fresh 0 0 led) }) : h.SetOf (L2.mixKind prog w) S (fun j => decide (j ∈ setK ([] : List Key))) (setK ([] : List Key)).length :=
  ⟨_, #[], 0, _, e, ⟨rfl, rfl, rfl⟩, rfl, (fun e he => by simp at he), (fun k => by simp [setK]), (by decide), (by rfl), rfl⟩
section
variable {prog : Program} {w : World} {A : Around} {E : Value → Shared → Prop} {s : Shared} {l : Addr} {items : Array Value} {ks : List Key}
/-- the making of a set, up to its filling -/
theorem call_setK {Q : Value → Shared → Prop} (hh : A.handled = none) (hl : s.heap.IsList l items ∨ s.heap.IsTuple l items) (hk : ks.length = items.size) (val : ∀ (i : Nat) (v : Value), items[i]? = some v → ∃ k, ks[i]? = some k ∧ L2.RelV (L2.kV k) v) (few : items.size + 1 < scanBound)
    (go : ∀ (h' : Heap) (tk : Nat), h'.SetOf (L2.mixKind prog w) s.heap.objs.size (fun j => decide (j ∈ setK ks)) (setK ks).length → (∀ b o, b < s.heap.objs.size → s.heap.get? b = some o → h'.get? b = some o) → Q (.ref s.heap.objs.size) { s with heap := h', toks := tk }) :
    wpAny (model prog w) A (call (.type "set") [.ref l]) Q E s := by
  obtain ⟨c, tl, mro⟩ := PySem.F.called_set.mro
  have made := PySem.F.called_set.made
  have sub := PySem.F.called_set.sub
  have nt := PySem.F.called_set.notType
  have cc := PySem.F.called_set.canCreate
  have ct := PySem.F.typeCall_set_1 (.ref l)
  refine wpAny_call (codeAny_of_tree ?_)
  show wpAny _ _ (callAny (.type "set") _) _ _ _
  refine wpAny_pure ⟨Code.quiet_builtin _ (by decide +kernel), codeAny_builtin PySem.F.entry_type_call ?_⟩
  rw [Around.under_plain (weight_type_call_type "set" [.ref l] []) rfl]
  repeat (any_goals (first | assumption | wp_step))
  generalize hn : s.heap.objs.size = S at go
  refine codeAny_mono (code_set_new_1 (.ref l) (E := E) (Q₁ := fun obj t => ∃ led : Bool, obj = .ref S ∧ t = { s with heap := s.heap.push { cls := .type "set", dict := none, data := .set #[] 0 (.fresh 0 0 led) } }) fun led => ⟨led, by rw [hn], rfl⟩) fun r t z => ?_
  match r, z with
  | .error _, z => exact z
  | .ok (.ret obj), ⟨led, e1, e2⟩ =>
    subst e1 e2
    generalize ho : ({ cls := .type "set", dict := none, data := .set #[] 0 (.fresh 0 0 led) } : Obj) = o0
    have new : (s.heap.push o0).get? S = some o0 := hn ▸ Heap.get?_push_size _ (by subst ho; rfl)
    have ty : Shared.TypeIs { s with heap := s.heap.push o0 } (.ref S) "set" := ⟨_, new, by subst ho; rfl⟩
    have il := PySem.F.called_set.init.lookup
    have ib := PySem.F.called_set.init.bind (.ref S)
    subst ho
    repeat (any_goals (first | assumption | wp_step))
    refine codeAny_mono (codeAny_call_builtin (R := wants (fun v t => v = .none ∧ Q (.ref S) t) E) PySem.F.called_set.init.plain PySem.F.entry_set_init (check_set_init_1 ty ?_)) fun v t z => ?_
    · generalize hh0 : s.heap.push ({ cls := .type "set", dict := none, data := .set #[] 0 (.fresh 0 0 led) } : Obj) = h0 at new ty
      have sz : h0.objs.size = S + 1 := by rw [← hh0, Heap.size_push, hn]
      have old : ∀ b o, s.heap.get? b = some o → h0.get? b = some o ∧ b < S := fun b o e => ⟨by rw [← hh0]; exact Heap.get?_push_of_some _ e, hn ▸ Heap.lt_size e⟩
      have hot : A.in1.in1.in1.handled = none := by simp [hh]
      -- behind the walk's beginning
      have tail : ∀ (ob : Obj) (St : Nat → Shared → Prop), l < S → (∀ {t1 : Shared}, t1 = { s with heap := h0.push ob } → St 0 t1) → WalksS prog w A.in1.in1.in1 h0.objs.size [h0.objs.size, l] [h0.objs.size] (fun a b => b = a) items.size (fun i v => items[i]? = some v) St → ∀ {R : Result → Shared → Prop},
          (∀ (h' : Heap) (tk : Nat), Q (.ref S) { s with heap := h', toks := tk } → R (.ok (.ret .none)) { s with heap := h', toks := tk }) → codeAny (model prog w) A.in1.in1 (.builtin "set.update.loop" ⟨[.ref S, .ref h0.objs.size], []⟩) R { s with heap := h0.push ob } := fun ob St lt st W R fin => by
        have far : S ∉ [h0.objs.size, l] := by
          rw [sz]
          simp only [List.mem_cons, List.not_mem_nil, or_false, not_or]
          exact ⟨Nat.ne_of_lt (Nat.lt_succ_self S), Nat.ne_of_gt lt⟩
        refine fill_set W far ks hk few (fun i v e => val i v e) items.size 0 _ (Nat.zero_add _) (st rfl) (fresh_set (Heap.get?_push_of_some _ new)) fun t mv hS => ?_
        rw [Moved.eq_with mv]
        refine fin _ _ (go t.heap t.toks hS fun b o lb e => mv.heap b o ?_ (Heap.get?_push_of_some _ (old b o e).1))
        rw [sz]
        simp only [List.mem_cons, List.not_mem_nil, or_false, not_or]
        exact ⟨Nat.ne_of_lt lb, Nat.ne_of_lt (Nat.lt_succ_of_lt lb)⟩
      rcases hl with hl | hl
      · obtain ⟨⟨oc, od, dat, osl⟩, there, e1, m, e2⟩ := hl
        dsimp only at e1 e2
        subst e1 e2
        obtain ⟨there2, lt⟩ := old _ _ there
        have isl : h0.IsList l items := ⟨_, there2, rfl, m, rfl⟩
        have a1 := PySem.F.sub_list_set
        have a2 := PySem.F.sub_list_frozenset
        have a3 : (Value.type "list" == Value.type "dict") = false := by decide
        unfold Builtin.«set.__init__» noKeywords Builtin.Frozenset.updateFrom
        generalize hPI : pyIter = PI
        wp_walk
        subst hPI
        have ne : l ≠ h0.objs.size := by rw [sz]; exact Nat.ne_of_lt (Nat.lt_succ_of_lt lt)
        refine wpAny_pyIter_list isl (wpAny_bind (wpAny_runValue ?_))
        exact tail _ _ lt (fun e => by subst e; exact ⟨⟨_, Heap.get?_push_size _ rfl, rfl, rfl⟩, isl.push _⟩) (Walks.list hot _ l ne items).toS fun h' tk q => wpAny_pure (wpAny_pure ⟨rfl, q⟩)
      · obtain ⟨⟨oc, od, dat, osl⟩, there, e1, m, e2⟩ := hl
        dsimp only at e1 e2
        subst e1 e2
        obtain ⟨there2, lt⟩ := old _ _ there
        have isl : h0.IsTuple l items := ⟨_, there2, rfl, m, rfl⟩
        have a1 := PySem.F.sub_tuple_set
        have a2 := PySem.F.sub_tuple_frozenset
        have a3 : (Value.type "tuple" == Value.type "dict") = false := by decide
        unfold Builtin.«set.__init__» noKeywords Builtin.Frozenset.updateFrom
        generalize hPI : pyIter = PI
        wp_walk
        subst hPI
        have ne : l ≠ h0.objs.size := by rw [sz]; exact Nat.ne_of_lt (Nat.lt_succ_of_lt lt)
        refine wpAny_pyIter_tuple isl (wpAny_bind (wpAny_runValue ?_))
        exact tail _ _ lt (fun e => by subst e; exact ⟨⟨_, Heap.get?_push_size _ rfl, rfl, rfl⟩, isl.push _⟩) (Walks.tuple hot _ l ne items).toS fun h' tk q => wpAny_pure (wpAny_pure ⟨rfl, q⟩)
    · match v, z with
      | .error _, z => exact z
      | .ok (.ret u), ⟨e1, q⟩ =>
        subst e1
        repeat (any_goals (first | assumption | wp_step))
end
end EN
/-! Sets as rules over the layer. -/
namespace EN
open PySem PySem.Spec PyProof.Rows L2
section
variable {X : Cx}
/-- the set of these keys at a -/
def HSet (P : Program) (w : World) (a : Addr) (ks : List Key) : HO := SetK P w a (fun j => decide (j ∈ ks)) ks.length
def rSetOf (K : PySem.W.Frag) (P : Program) (w : World) : List V → Hp → VK → Prop := fun xs H Q => ∃ (l : Addr) (ks : List Key), xs = [.ref l] ∧ (SqL K H l (ks.map kV) ∨ SqT K H l (ks.map kV)) ∧ ks.length ≤ 4000 ∧ ∀ p, H p = none → Q (.ref p) (upd H p (HSet P w p (setK ks)))
theorem val_keys {ks : List Key} {its : List Value} (r : Vals (ks.map kV) its) (i : Nat) (v : Value) (h : its.toArray[i]? = some v) : ∃ k, ks[i]? = some k ∧ RelV (kV k) v := by
  have h : its[i]? = some v := by simpa using h
  have hi : i < its.length := (List.getElem?_eq_some_iff.mp h).1
  have hk : i < ks.length := by rw [← r.length, List.length_map] at hi; exact hi
  obtain ⟨u, hu, ru⟩ := r.get (i := i) (x := kV ks[i]) (by rw [List.getElem?_map, List.getElem?_eq_getElem hk]; rfl)
  rw [h] at hu
  cases hu
  exact ⟨_, List.getElem?_eq_getElem hk, ru⟩
theorem cr_setK (hc : X.calm = true) : CallR X (.type "set") (rSetOf X.K X.prog X.w) := fun pins s σ H xs us Q I r h => by
  obtain ⟨l, ks, rfl, hq, few, q⟩ := h
  rw [Vals.ref1 r]
  have free : H s.heap.objs.size = none := I.hok.fresh (Nat.le_refl _)
  have fin : ∀ (h' : Heap) (tk : Nat), h'.SetOf (mixKind X.prog X.w) s.heap.objs.size (fun j => decide (j ∈ setK ks)) (setK ks).length → (∀ b o, b < s.heap.objs.size → s.heap.get? b = some o → h'.get? b = some o) → EP X pins σ Q (.ref s.heap.objs.size) { s with heap := h', toks := tk } := fun h' tk hS k =>
    ⟨.ref _, _, I.laid (o := HSet X.prog X.w s.heap.objs.size (setK ks)) (t' := tk) (fun b o e => k b o (Heap.lt_size e) e) (Nat.le_refl _) (setK_new hS), rfl, q _ free⟩
  have bound : ∀ {its : List Value}, Vals (ks.map kV) its → ks.length = its.toArray.size ∧ its.toArray.size + 1 < scanBound := fun {its} rv => by
    have e : ks.length = its.toArray.size := by rw [List.size_toArray, ← rv.length, List.length_map]
    refine ⟨e, ?_⟩
    rw [← e]
    unfold scanBound
    omega
  rcases hq with hq | hq
  · obtain ⟨its, rv, pl, _⟩ := I.list hq
    exact call_setK (I.ok.hd hc) (.inl pl.isList) (bound rv).1 (val_keys rv) (bound rv).2 fin
  · obtain ⟨its, rv, pl, _⟩ := I.tuple hq
    exact call_setK (I.ok.hd hc) (.inr pl) (bound rv).1 (val_keys rv) (bound rv).2 fin
def rLenS (P : Program) (w : World) : List V → Hp → VK → Prop := fun xs H Q => ∃ (a : Addr) (ks : List Key), xs = [.ref a] ∧ H a = some (HSet P w a ks) ∧ Q (.int ks.length) H
theorem cr_lenS : CallR X (.builtin "len") (rLenS X.prog X.w) := fun pins s σ H xs us Q I r h => by
  obtain ⟨a, ks, rfl, ha, q⟩ := h
  rw [Vals.ref1 r]
  obtain ⟨o, es, ep, t, ho, hex, hd, _, _, hb, hf, hn⟩ := setK_get I ha
  exact call_len_set ho hex hd hf (by unfold scanBound at hb; omega) ⟨.int ks.length, H, I.tok _, ⟨_, by rw [hn]⟩, q⟩
end
end EN
/-! Dicts with tuples as keys. -/
namespace L2
open PySem PySem.Spec PyProof.Rows
section
variable {X : Cx} {pins : List (Addr × Obj)} {σ : St} {H : Hp} {s : Shared} {a : Addr} {y v : V} {u r : Value} {o : Option V} {A : Around} {E : Value → Shared → Prop}
/-- what the dict at a holds at the key y, a tuple of any kind -/
def DGetT (K : PySem.W.Frag) (H : Hp) (a : Addr) (y : V) (o : Option V) : Prop :=
  ∃ (k : List Key) (b : Addr), y = .ref b ∧ SqT K H b (k.map kV) ∧ ((∃ kvs, Rd H a (.dT kvs) ∧ o = valV kvs k) ∨ (Rd H a (.dK []) ∧ o = none))
theorem key_any {k : List Key} {b : Addr} (I : Inv X pins σ H s) (h : SqT X.K H b (k.map kV)) : (tupleKind (mixKind X.prog X.w)).is s.heap k b := by
  obtain ⟨its, r, ⟨o, h1, h2, n, h3⟩, _⟩ := I.tuple h
  exact ⟨o, its.toArray, n, h1, h2, h3, by simpa using items_are r⟩
theorem dt_nil {P : Program} {w : World} {h : Heap} (ok : ∃ vs, KV ([] : List (Key × V)) vs ∧ h.DictOf (mixKind P w) a vs) : h.DictOfH (tupleKind (mixKind P w)) a [] := by
  obtain ⟨vs, rel, q, es, ep, hq, h2, h3, _, h4, _⟩ := ok
  cases rel
  refine ⟨q, es, ep, hq, h2, h3, ?_, fun x hx => by simp at hx, List.nodup_nil⟩
  have z := h4.length
  have : es.toList = [] := List.eq_nil_of_length_eq_zero (by simpa using z)
  rw [this]
  rfl
theorem DGetT.dict (I : Inv X pins σ H s) (g : DGetT X.K H a y o) : ∃ (k : List Key) (b : Addr) (kvs : List (List Key × V)) (xs : List (List Key × Addr × Value)), y = .ref b ∧ (tupleKind (mixKind X.prog X.w)).is s.heap k b ∧ (a == sysModules) = false ∧
    KT H kvs xs ∧ s.heap.DictOfH (tupleKind (mixKind X.prog X.w)) a xs ∧ o = valV kvs k := by
  obtain ⟨k, b, e, hb, ⟨kvs, h1, h2⟩ | ⟨h1, h2⟩⟩ := g
  · obtain ⟨_, hd, xs, rel, dd⟩ := dt_rd I.hok h1
    exact ⟨k, b, kvs, xs, e, key_any I hb, hd, rel, dd, h2⟩
  · obtain ⟨_, hd, q⟩ := dk_rd I.hok h1
    exact ⟨k, b, [], [], e, key_any I hb, hd, .nil, dt_nil q, h2⟩
theorem t_typeIs (I : Inv X pins σ H s) (g : DGetT X.K H a y o) : s.TypeIs (.ref a) "dict" := by
  obtain ⟨_, _, _, _, _, _, _, _, dd, _⟩ := g.dict I
  exact dd.typeIs
theorem t_getItem {Q : Value → Shared → Prop} (hu : A.units + 1 < cLine) (I : Inv X pins σ H s) (g : DGetT X.K H a y (some v)) (ry : RelV y u) (h : ∀ w' s', Inv X pins σ H s' → RelV v w' → Q w' s') :
    wpAny (model X.prog X.w) A (getItem (.ref a) u) Q E s := by
  obtain ⟨k, b, kvs, xs, rfl, hk, hd, rel, dd, l⟩ := g.dict I
  cases (show u = Value.ref b from ry)
  obtain ⟨w', hw, rw'⟩ := RelO.some_of (v := v) (o := (atKey xs k).map (·.2)) (by rw [l]; exact rel.val k)
  obtain ⟨p, hp, hp2⟩ := Option.map_eq_some_iff.mp hw
  refine wpAny_getItem_heap (tupleKind_room_in1 hu) hk dd hp ?_
  rw [hp2]
  exact h w' _ (I.tok _) rw'
theorem t_in {Q : Value → Shared → Prop} (hu : A.units + 1 < cLine) (I : Inv X pins σ H s) (g : DGetT X.K H a y o) (ry : RelV y u) (h : ∀ s', Inv X pins σ H s' → Q (.bool o.isSome) s') :
    wpAny (model X.prog X.w) A (compareOp .In u (.ref a)) Q E s := by
  obtain ⟨k, b, kvs, xs, rfl, hk, hd, rel, dd, l⟩ := g.dict I
  cases (show u = Value.ref b from ry)
  refine wpAny_in_heap (tupleKind_room_in1 hu) hk hd dd ?_
  have q := (rel.val k).isSome_eq
  rw [Option.isSome_map] at q
  rw [← q, ← l]
  exact h _ (I.tok _)
theorem t_notIn {Q : Value → Shared → Prop} (hu : A.units + 1 < cLine) (I : Inv X pins σ H s) (g : DGetT X.K H a y o) (ry : RelV y u) (h : ∀ s', Inv X pins σ H s' → Q (.bool (!o.isSome)) s') :
    wpAny (model X.prog X.w) A (compareOp .NotIn u (.ref a)) Q E s := by
  obtain ⟨k, b, kvs, xs, rfl, hk, hd, rel, dd, l⟩ := g.dict I
  cases (show u = Value.ref b from ry)
  refine wpAny_notIn_heap (tupleKind_room_in1 hu) hk hd dd ?_
  have q := (rel.val k).isSome_eq
  rw [Option.isSome_map] at q
  rw [← q, ← l]
  exact h _ (I.tok _)
/-- an empty dict takes tuples as keys -/
theorem Inv.toT (I : Inv X pins σ H s) (e : H a = some (.dK [])) : Inv X pins σ (upd H a (.dT [])) s := by
  obtain ⟨z, hd, q⟩ := dk_of I.hok e
  obtain ⟨q0, es, ep, hq, h2, h3, h4, _, h5⟩ := dt_nil q
  have := d_write (t' := s.toks) (h' := s.heap) (ob := .dT []) I (by rw [e]; exact True.intro) ⟨rfl, fun _ _ => rfl⟩ ⟨q0, hq⟩ ⟨by simp, hd, [], .nil, q0, es, ep, hq, h2, h3, h4, h5⟩
  exact this
end
end L2
/-! A dict comprehension whose keys are tuples; what is put at such a key. -/
namespace EN
open PySem PySem.Spec PyProof.Rows L2
/-- one more pair -/
theorem t_dictSet {X : Cx} {pins : List (Addr × Obj)} {σ : L2.St} {H : Hp} {s : Shared} {E : Value → Shared → Prop} {D b : Addr} {kvs : List (List Key × V)} {k : List Key} {v : V} {u r : Value} {Q : Unit → Shared → Prop} (hu : X.A.units < cLine) (I : Inv X pins σ H s)
    (hD : H D = some (.dT kvs)) (hz : kvs.length < sizeLine) (eb : H b = some (.tup (k.map kV))) (ry : RelV (.ref b) u) (rv : RelV v r) (h : ∀ s', Inv X pins σ (upd H D (.dT (putK kvs k v))) s' → Q () s') :
    wpAny (model X.prog X.w) X.A (dictSet D u r) Q E s := by
  cases (show u = Value.ref b from ry)
  obtain ⟨_, hd, xs, rel, dd⟩ := dt_of I.hok hD
  have n1 := Paired.length rel
  have n2 := length_putK kvs k v
  refine wpAny_dictSet_heap (hsz := by omega) (knd := tupleKind (mixKind X.prog X.w)) hu (key_of I.hok eb) dd fun h' dd' hs => h _ ?_
  obtain ⟨q, es, ep, hq, e2, e3, e4, _, e5⟩ := dd'
  exact d_write I (by rw [hD]; exact True.intro) hs ⟨q, hq⟩ ⟨by omega, hd, _, (rel.put k eb rv).keeps fun c ys ec => (upd_ne (ne_of ec hD fun z => nomatch z)).trans ec, q, es, ep, hq, e2, e3, e4, e5⟩
section
variable {X : Cx}
/-- {k: v for target in iter if ..}, the keys tuples that are made there: D the new dict -/
def tDcT (wi : TI) (g : TG) (tt : TT) (tk tv : TE) (vs : List Nat) : TE := fun σ H Q => wi σ H fun J H1 => ∀ D, H1 D = none → ∃ W : Nat → Nat → Hp → Prop, (∃ m, W 0 m (upd H1 D (.dT []))) ∧ ∀ i m H, W i m H →
  (J.stop i H ∧ Q (.ref D) H) ∨ (J.go i H ∧ ∃ Nx : Hp → Prop, (∀ H', Nx H' → ∃ m', m' < m ∧ W (i + 1) m' H') ∧ ∀ x H', J.yld i H x H' → g x (wipe σ vs) H' fun σ2 H2 => wipe σ2 vs = wipe σ vs ∧ tt σ2 H2 fun b H3 =>
    if b = true then tk σ2 H3 fun y H4 => tv σ2 H4 fun z H5 => ∃ kvs k p, y = .ref p ∧ H5 p = some (.tup (k.map kV)) ∧ H5 D = some (.dT kvs) ∧ kvs.length < sizeLine ∧ Nx (upd H5 D (.dT (putK kvs k z))) else Nx H3)
/-- .. the walk -/
theorem dcT_core {kx vx tg iter : Expr} {ifs : List Expr} {scope : Scope} {own : List (Str × Nat)} {pos : Pos} {wi : TI} {gg : TG} {tt : TT} {tk tv : TE} {use : Option (Value → Sem Unit)} {Qf : Value → Shared → Prop} {pins : List (Addr × Obj)} {s : Shared} {σ : L2.St} {H : Hp} {Q : VK} {pos' : Pos} (hc : X.calm = true) (hu : X.A.units < cLine) (hN : X.N.Nodup) (hi : PI X tg iter wi) (ok : BlkOk X.N X.env.scope scope own)
    (hg : ∀ s H C cl fp, PG (X.blk s H scope (compEnvC scope cl C X.env) fp) tg gg) (ht : ∀ s H C cl fp, PTs (X.blk s H scope (compEnvC scope cl C X.env) fp) ifs tt) (hk : ∀ s H C cl fp, PE (X.blk s H scope (compEnvC scope cl C X.env) fp) kx tk) (he : ∀ s H C cl fp, PE (X.blk s H scope (compEnvC scope cl C X.env) fp) vx tv)
    (hs : ∀ x, foldedSetIterable iter X.env x = pure x)
    (I : Inv X pins σ H s) (h : tDcT wi gg tt tk tv (own.map (·.2)) σ H Q)
    (fin' : ∀ D C s' m H', Inv X pins σ H' s' → Q (.ref D) H' → s'.heap.Ns C m → FpOk X pins H' C → compPost (model X.prog X.w) X.A X.xe use Qf (.ref D) C (.ok .next) s') :
    wpAny (model X.prog X.w) X.A (comprehension (.DictComp kx vx [⟨tg, iter, ifs, 0⟩] scope pos) scope X.env pos' newDict false (eval iter X.env) use) Qf X.xe s := by
  have clo : ∀ y ∈ scope.names, y.2 = .free → ∃ c, X.env.cells.lookup y.1 = some c := fun y hy e => (ok.free y hy e).elim (fun k => I.ok.has _ (.inl k)) fun k => I.ok.has _ (.inr k)
  refine wpAny_comprehension_free (use := use) rfl hs (closure_ok clo) ok.kind (fun y hy e => by rw [ok.uniq y hy, e]) (thn (hi.run pins s σ H _ I h) fun xv s1 hx => thn hx fun itv s2 h2 => ?_)
  obtain ⟨it, fp, tn, J, H2, rfl, I2, T, st2, f2, q⟩ := h2
  refine wpAny_newObj_type (newEnv_comp ?_)
  obtain ⟨D, hD⟩ : ∃ D, s2.heap.objs.size = D := ⟨_, rfl⟩
  rw [hD]
  have hDn : H2 D = none := I2.hok.fresh (Nat.le_of_eq hD)
  obtain ⟨WW, ⟨m0, w0⟩, turn⟩ := q D hDn
  -- the new dict stands
  have I3 : Inv X pins σ (upd H2 D (.dT [])) { s2 with heap := s2.heap.push { cls := .type "dict", data := .dict #[] } } :=
    I2.laid (t' := s2.toks) (fun b o e => Heap.get?_push_of_some _ e) (Nat.le_of_eq hD) (by rw [← hD]; exact dt_empty s2.heap I2.big)
  have inFp : ∀ b ∈ fp, b < s2.heap.objs.size := fun b hb => let ⟨o, e, _⟩ := T.obj _ _ st2 b hb; Heap.lt_size e
  have f3 : ∀ b ∈ fp, FpOk X pins (upd H2 D (.dT [])) b ∧ b < (s2.heap.push { cls := .type "dict", data := .dict #[] }).objs.size := fun b hb => by
    have lt := inFp b hb
    refine ⟨⟨?_, (f2 b hb).2⟩, by rw [Heap.size_push]; exact Nat.lt_succ_of_lt lt⟩
    rw [upd_ne (by rw [← hD]; exact Nat.ne_of_lt lt)]
    exact (f2 b hb).1
  have st3 : tn 0 (s2.heap.push { cls := .type "dict", data := .dict #[] }) := T.keep _ _ _ st2 fun b _ o e => Heap.get?_push_of_some _ e
  generalize hs3 : ({ s2 with heap := s2.heap.push { cls := .type "dict", data := .dict #[] } } : Shared) = s3 at I3
  have hh : s2.heap.push { cls := .type "dict", data := .dict #[] } = s3.heap := by rw [← hs3]
  rw [hh] at f3 st3
  generalize hH : upd H2 D (.dT []) = H3 at I3 f3 w0
  have I4 := block_start I3 ok hN f3
  have pg := hg s3 H3 s3.heap.objs.size (cellsFrom (s3.heap.objs.size + 1) scope.names (cloFrom X.env.cells scope.names [])) fp
  have pt := ht s3 H3 s3.heap.objs.size (cellsFrom (s3.heap.objs.size + 1) scope.names (cloFrom X.env.cells scope.names [])) fp
  have pk := hk s3 H3 s3.heap.objs.size (cellsFrom (s3.heap.objs.size + 1) scope.names (cloFrom X.env.cells scope.names [])) fp
  have pe := he s3 H3 s3.heap.objs.size (cellsFrom (s3.heap.objs.size + 1) scope.names (cloFrom X.env.cells scope.names [])) fp
  have kpc : ∀ b o, s3.heap.get? b = some o → (pushCells (s3.heap.push { cls := .type "dict", data := .dict #[] }) scope.names).get? b = some o := fun b o e => pushCells_keeps _ _ _ _ (Heap.get?_push_of_some _ e)
  have ce0 : (compEnvC scope (cellsFrom (s3.heap.objs.size + 1) scope.names (cloFrom X.env.cells scope.names [])) s3.heap.objs.size X.env).locals = s3.heap.objs.size := rfl
  show codeAny _ _ (.compStart (.DictComp kx vx [⟨tg, iter, ifs, 0⟩] scope pos) 0 (.ref it) (.ref D) (compEnvC scope (cellsFrom (s3.heap.objs.size + 1) scope.names (cloFrom X.env.cells scope.names [])) s3.heap.objs.size X.env)) _ _
  generalize compEnvC scope (cellsFrom (s3.heap.objs.size + 1) scope.names (cloFrom X.env.cells scope.names [])) s3.heap.objs.size X.env = ce at I4 pg pt pk pe ce0 ⊢
  have nfp : ∀ b ∈ fp, H3 b = none := fun b hb => (f3 b hb).1.1
  have st4 : tn 0 (pushCells (s3.heap.push { cls := .type "dict", data := .dict #[] }) scope.names) := T.keep _ _ _ st3 fun b _ o e => kpc b o e
  -- the iterator's objects, seen from the block
  have stat : ∀ {σ' : L2.St} {H' : Hp} {s' : Shared}, Inv (X.blk s3 H3 scope ce fp) [] σ' H' s' → (∀ b ∈ fp, H' b = none) → ∀ b ∈ fp, FpOk (X.blk s3 H3 scope ce fp) [] H' b := fun {σ' H' s'} I' hn b hb =>
    ⟨hn b hb, (I'.ok.exf b hb).1, I'.ok.exfs b hb, .inl hb, fun x c e => (I'.ok.exf b hb).2 x c e, fun q hq => absurd (show q ∈ ([] : List (Addr × Obj)) ++ [] from hq) (by simp)⟩
  have loop : codeAny (model X.prog X.w) X.A (.compLoop (.DictComp kx vx [⟨tg, iter, ifs, 0⟩] scope pos) 0 (.ref it) (.ref D) ce) (compPost (model X.prog X.w) X.A X.xe use Qf (.ref D) s3.heap.objs.size) { s3 with heap := pushCells (s3.heap.push { cls := .type "dict", data := .dict #[] }) scope.names } := by
    refine compLoop_anyD (fun n s' => ∃ i H', Inv (X.blk s3 H3 scope ce fp) [] (wipe σ (own.map (·.2))) H' s' ∧ tn i s'.heap ∧ (∀ b ∈ fp, H' b = none) ∧ WW i n H') ?_ m0 ⟨0, H3, I4, st4, nfp, w0⟩
    rintro n s5 ⟨i, H5, J5, t5, n5, w5⟩
    rcases turn i n H5 w5 with ⟨stop, qq⟩ | ⟨go, Nx, hNx, step⟩
    · refine thnF (T.done (X.blk s3 H3 scope ce fp) rfl rfl rfl hc i [] s5 _ H5 (fun _ _ => False) J5 (stat J5 n5) t5 stop) fun r s6 ⟨hr, I6⟩ => ?_
      subst hr
      have I7 : Inv X pins σ H5 s6 := I3.call' (ch := fp) I6.os I6.base I6.hok I6.bare fun b hb => let z := (f3 b hb).1.2; ⟨z.2.2.1, z.1, z.2.2.2.1, z.2.2.2.2⟩
      have nC : H5 s3.heap.objs.size = none := by
        have z : H5 ce.locals = none := I6.free
        rw [ce0] at z; exact z
      obtain ⟨m, hn, _⟩ := I6.loc
      have hn : s6.heap.Ns ce.locals m := hn
      rw [ce0] at hn
      have fC : FpOk X pins H5 s3.heap.objs.size := I3.fpOk (Nat.le_refl _) nC
      exact fin' D _ s6 m H5 I7 qq hn fC
    · refine thnF (T.item (X.blk s3 H3 scope ce fp) rfl rfl rfl hc i [] s5 _ H5 (fun _ _ => False) J5 (stat J5 n5) t5 go) fun r s6 ⟨u, hr, h6⟩ => ?_
      subst hr
      refine thnF h6 fun _ s7 ⟨x, H7, J7, r7, y7, t7, n7⟩ => ?_
      refine thnF (pg.run _ s7 _ H7 x u _ (J7.pinned (stat J7 n7) (T.obj _ _ t7)) r7 (step x H7 y7)) fun _ s8 ⟨σ8, H8, J8, hw8, q8⟩ => ?_
      refine thnF (pt.run _ s8 σ8 H8 _ J8 q8) fun b s9 ⟨H9, J9, q9⟩ => ?_
      have fin : ∀ {s' : Shared} {H' : Hp}, Inv (X.blk s3 H3 scope ce fp) ([] ++ pinsAt fp s7.heap) σ8 H' s' → Nx H' → ∃ m, m < n ∧ ∃ i H', Inv (X.blk s3 H3 scope ce fp) [] (wipe σ (own.map (·.2))) H' s' ∧ tn i s'.heap ∧ (∀ b ∈ fp, H' b = none) ∧ WW i m H' := fun {s' H'} J' nx => by
        obtain ⟨m', hm, w'⟩ := hNx H' nx
        have still : ∀ b ∈ fp, ∀ o, s7.heap.get? b = some o → s'.heap.get? b = some o ∧ H' b = none := fun b hb o e => let z := J'.pin (b, o) (List.mem_append_right _ (List.mem_append_right _ (mem_pinsAt hb e))); ⟨z.1, z.2.1⟩
        refine ⟨m', hm, i + 1, H', (J'.unpinned (pins := [])).weak (by rw [← hw8, wipe_length]) (fun j v e => ?_), T.keep _ _ _ t7 fun b hb o e => (still b hb o e).1, fun b hb => ?_, w'⟩
        · rw [← hw8] at e
          exact (wipe_some e).1
        · obtain ⟨o, e, _⟩ := T.obj _ _ t7 b hb
          exact (still b hb o e).2
      cases b with
      | false => exact fin J9 q9
      | true =>
        refine thnF (pk.run _ s9 σ8 H9 _ J9 q9) fun z s10 ⟨yk, H10, J10, r10, q10⟩ => ?_
        refine thnF (pe.run _ s10 σ8 H10 _ J10 q10) fun z2 s11 ⟨yv, H11, J11, r11, kvs, k, b, ek, eb, hD11, hz11, nx⟩ => ?_
        subst ek
        exact t_dictSet (X := X.blk s3 H3 scope ce fp) hu J11 hD11 hz11 eb r10 r11 fun s12 J12 => fin J12 nx
  exact codeAny_compStart_dict loop (T.self X.A 0 _ _ _ st4 loop)
/-- {k: v for tg in iter if ..}, the keys tuples -/
theorem pe_dcT {kx vx tg iter : Expr} {ifs : List Expr} {scope : Scope} {own : List (Str × Nat)} {pos : Pos} {wi : TI} {gg : TG} {tt : TT} {tk tv : TE} (hc : X.calm = true) (hu : X.A.units < cLine) (hN : X.N.Nodup) (hi : PI X tg iter wi) (ok : BlkOk X.N X.env.scope scope own)
    (hg : ∀ s H C cl fp, PG (X.blk s H scope (compEnvC scope cl C X.env) fp) tg gg) (ht : ∀ s H C cl fp, PTs (X.blk s H scope (compEnvC scope cl C X.env) fp) ifs tt) (hk : ∀ s H C cl fp, PE (X.blk s H scope (compEnvC scope cl C X.env) fp) kx tk) (he : ∀ s H C cl fp, PE (X.blk s H scope (compEnvC scope cl C X.env) fp) vx tv)
    (hs : ∀ x, foldedSetIterable iter X.env x = pure x) : PE X (.DictComp kx vx [⟨tg, iter, ifs, 0⟩] scope pos) (tDcT wi gg tt tk tv (own.map (·.2))) := by
  refine ⟨fun pins s σ H Q I h => ?_⟩
  rw [arm_eval_DictComp]
  exact dcT_core (use := none) hc hu hN hi ok hg ht hk he hs I h fun D C s' m H' I' q hn f => ⟨m, hn, fun h'' sb => ⟨.ref D, H', I'.turned (t' := s'.toks) (fun b o hb e => (sb.2 b hb).trans e) f.1 f.2.1 f.2.2.2.1 f.2.2.2.2.1 f.2.2.2.2.2, rfl, q⟩⟩
/-- x = {k: v for ..} -/
theorem ps_setDcT {i : Nat} {y : Str} {py spos : Pos} {kx vx tg iter : Expr} {ifs : List Expr} {scope : Scope} {own : List (Str × Nat)} {pos : Pos} {wi : TI} {gg : TG} {tt : TT} {tk tv : TE} (hc : X.calm = true) (hu : X.A.units < cLine) (hN : X.N.Nodup) (hy : X.N[i]? = some y) (hyl : X.env.scope.names.lookup y = some .local)
    (hsw : swapsWith (.DictComp kx vx [⟨tg, iter, ifs, 0⟩] scope pos) (some (.Name y py)) spos.line X.env = pure true) (hi : PI X tg iter wi) (ok : BlkOk X.N X.env.scope scope own)
    (hg : ∀ s H C cl fp, PG (X.blk s H scope (compEnvC scope cl C X.env) fp) tg gg) (ht : ∀ s H C cl fp, PTs (X.blk s H scope (compEnvC scope cl C X.env) fp) ifs tt) (hk : ∀ s H C cl fp, PE (X.blk s H scope (compEnvC scope cl C X.env) fp) kx tk) (he : ∀ s H C cl fp, PE (X.blk s H scope (compEnvC scope cl C X.env) fp) vx tv)
    (hs : ∀ x, foldedSetIterable iter X.env x = pure x) :
    PS X (.Assign [.Name y py] (.DictComp kx vx [⟨tg, iter, ifs, 0⟩] scope pos) spos) (tAsg (tDcT wi gg tt tk tv (own.map (·.2))) (gName i)) := by
  refine ⟨fun pins s σ H D I h => ?_⟩
  rw [exec_Assign_Name_used _ _ _ _ hsw]
  refine wpAny_bind (wpAny_standAt (wpAny_bind ?_))
  have h : tDcT wi gg tt tk tv (own.map (·.2)) σ H (fun x H1 => gName i x σ H1 D.nx) := h
  refine wpAny_bind (thn (dcT_core (pos' := firstIterPos [⟨tg, iter, ifs, 0⟩] pos) (use := some (assign (.Name y py) X.env)) (Qf := fun _ s' => SP X pins D .next s') hc hu hN hi ok hg ht hk he hs I h fun L C s' m H' I' q hn f => ?_) fun _ s' hq => wpAny_pure (wpAny_pure hq))
  refine wpAny_assign_Name (store_ok2 (v := V.ref L) I' hN hy (.inl hyl) rfl (fun s2 I2 ⟨a, sb, ha⟩ => ?_) (.inr hyl))
  have far : C ≠ a := ha.elim (fun z => z ▸ f.2.1) fun z e => f.2.2.2.2.1 y a z e.symm
  exact ⟨m, hn.sameBut sb far, fun h3 sb3 => ⟨_, H', I2.turned (t' := s2.toks) (fun b o hb e => (sb3.2 b hb).trans e) f.1 f.2.1 f.2.2.2.1 f.2.2.2.2.1 f.2.2.2.2.2, q⟩⟩
end
end EN
/-! List comprehensions that an error may leave. -/
namespace EN
open PySem PySem.Spec PyProof.Rows L2
/-- behind the block: its environment is known -/
def cPost (M : Model) (A : Around) (E : Value → Shared → Prop) (use : Option (Value → Sem Unit)) (Qf : Value → Shared → Prop) (acc : Value) (ce : PySem.Env) : Result → Shared → Prop
  | .ok _, s' => compPost M A E use Qf acc ce.locals (.ok .next) s'
  | .error x, s' => ∃ m, s'.heap.Ns ce.locals m ∧ ∀ hp, Heap.SameBut ce.locals s'.heap hp → wpAny M A (passOn "comprehension.variables-let-go" x ce : Sem Value) (fun _ _ => False) E { s' with heap := hp }
section
variable {M : Model} {A : Around} {E : Value → Shared → Prop} {s : Shared} {env : PySem.Env}
theorem comp_own {e : Expr} {scope : Scope} {pos : Pos} {mk first : Sem Value} {c : Comprehension} {cs : List Comprehension} {cl : List (Str × Addr)} {use : Option (Value → Sem Unit)} {Qf : Value → Shared → Prop}
    (h1 : clausesOf e = c :: cs) (h2 : ∀ x, foldedSetIterable c.iter env x = pure x) (h3 : closureFor scope env = pure cl) (h4 : scope.kind = .function) (h5 : ∀ x ∈ scope.names, x.2 = .local → scope.names.lookup x.1 = some .local)
    (run : wpAny M A first (fun x t1 => wpAny M A (pyIter x) (fun it t2 => wpAny M A mk (fun acc t3 => wpAny M A (newFunctionEnv scope env.globals cl [] env.qual none .none (some env)) (fun ce t4 =>
        codeAny M A (.compStart e 0 it acc { ce with scope := relabel scope env }) (cPost M A E use Qf acc { ce with scope := relabel scope env }) t4) E t3) E t2) E t1) E s) :
    wpAny M A (comprehension e scope env pos mk false first use) Qf E s := by
  unfold comprehension
  rw [h3, h1]
  have same : ∀ {α : Type} {t : Sem α} {Q Q' : α → Shared → Prop} {s : Shared}, wpAny M A t Q E s → (∀ a s, Q a s → Q' a s) → wpAny M A t Q' E s := fun a b => wpAny_mono a b fun _ _ z => z
  refine wpAny_bind (same run fun x t1 r1 => wpAny_bind (wpAny_standAt (wpAny_bind (wpAny_of_eq (h2 x) (wpAny_bind (wpAny_holding (same r1 fun it t2 r2 => ?_)))))))
  refine wpAny_standIf (wpAny_bind (same r2 fun acc t3 r3 => wpAny_bind (wpAny_pure (wpAny_bind (same r3 fun ce t4 r4 => ?_)))))
  dsimp only
  have own : ∀ x ∈ (scope.names.filter fun x => (x.2 == .local || x.2 == .cell) && x.1 != (".0" : Str)).reverse, x.2 = .local → PySem.Env.kindOf { ce with scope := relabel scope env } x.1 = some .local := fun x mem loc =>
    lookup_relabel_local (h5 x (List.mem_filter.mp (List.mem_reverse.mp mem)).1 loc)
  have own2 : ∀ x ∈ (scope.names.filter fun x => (x.2 == .local || x.2 == .cell) && x.1 != (".0" : Str)).reverse.drop 1 ++ (scope.names.filter fun x => (x.2 == .local || x.2 == .cell) && x.1 != (".0" : Str)).reverse.take 1,
      x.2 = .local → PySem.Env.kindOf { ce with scope := relabel scope env } x.1 = some .local := fun x mem loc => (List.mem_append.mp mem).elim (fun z => own x (List.mem_of_mem_drop z) loc) fun z => own x (List.mem_of_mem_take z) loc
  refine wpAny_holding (wpAny_bind (wpAny_attempt (wpAny_holding (wpAny_run (codeAny_mono r4 fun r s' q => ?_)))))
  match r, q with
  | .ok f, q =>
    match use, q with
    | none, ⟨m, ns, q⟩ => exact wpAny_bind (wpAny_holding (wpAny_comp_letGo (cenv := { ce with scope := relabel scope env }) h4 _ s' m own ns fun hp m' _ sb => wpAny_pure (q hp sb)))
    | some u, q =>
      refine wpAny_bind (wpAny_rule (wpAny_bind (wpAny_holding (same q fun _ s'' q' => ?_))))
      obtain ⟨m, ns, q'⟩ := q'
      exact wpAny_bind (wpAny_comp_letGo (cenv := { ce with scope := relabel scope env }) h4 _ s'' m own2 ns fun hp m' _ sb => wpAny_pure (q' hp sb))
  | .error x, ⟨m, ns, q⟩ =>
    exact wpAny_bind (wpAny_holding (wpAny_comp_letGo (cenv := { ce with scope := relabel scope env }) h4 _ s' m own ns fun hp m' _ sb => wpAny_mono (q hp sb) (fun _ _ f => f.elim) fun _ _ z => z))
theorem note_frame {x : Value} {e1 e2 : PySem.Env} (h : e1.frame = e2.frame) : noteFrame x e1 = noteFrame x e2 := by
  unfold noteFrame PySem.frameOf
  rw [h]
end
/-- an error in the air of X, its frame being L -/
def XEL (X : Cx) (L : Addr) (W : WX) (u : Value) (s' : Shared) : Prop :=
  ∃ (a : Addr) (B : Heap) (t : Shared) (pins : List (Addr × Obj)) (σ : L2.St) (H : Hp) (cls : Value) (d : Option Addr),
    u = .ref a ∧ Inv X pins σ H t ∧ (∀ b o, t.heap.get? b = some o → b ∉ frs X.stack → B.get? b = some o) ∧ t.heap.UpToSlots s'.heap ∧
      Sky B X.stack a (L2N.Zn cls d) L s'.heap ∧ H a = none ∧ s'.os = t.os ∧ AllBare s'.gens ∧ W cls d σ H
/-- what is raised is wished for: W -/
def Tk (X : Cx) (W : WX) : Prop := ∃ (e0 : PySem.Env) (out : List PySem.Env) (L : Addr), X.stack = e0 :: out ∧ e0.frame = some L ∧ X.env.frame = some L ∧ ∀ u s', XEL X L W u s' → X.xe u s'
theorem Tk.of {X : Cx} {W : WX} (hs : X.stack = X.env :: X.outer) (hf : X.env.frame = some X.env.locals) (tk : L2N.Takes X W) : Tk X W := ⟨X.env, X.outer, X.env.locals, hs, hf, hf, tk⟩
theorem Tk.takes {X : Cx} {W : WX} (hf : X.env.frame = some X.env.locals) (tk : Tk X W) : L2N.Takes X W := by
  obtain ⟨e0, out, L, h1, h2, h3, h4⟩ := tk
  rw [hf] at h3
  cases h3
  exact h4
/-- a call's error -/
theorem XEL.call {X : Cx} {L : Addr} {W : WX} {E : XK} {pins : List (Addr × Obj)} {σ : L2.St} {H : Hp} {s s' : Shared} (I : Inv X pins σ H s) (hW : ∀ cls d H', E cls d H' → W cls d σ H') {u : Value} (c : L2N.CX X.prog X.w X.stack H s E u s') : XEL X L W u s' := by
  obtain ⟨a, B, H2, cls, d, rfl, fl, okB, ub, na, os, ag, hE⟩ := c
  have kB : B.StaysIn s'.heap := fl.1
  obtain ⟨G, in1, in2⟩ := restrict s'.heap fun b => (B.get? b).isSome || decide (b ∈ frs X.stack)
  have ofB : ∀ b o, B.get? b = some o → G.get? b = some o := fun b o q => (in1 b (by simp [q])).trans (kB b o q)
  have ofF : ∀ b, b ∈ frs X.stack → G.get? b = s'.heap.get? b := fun b q => in1 b (by simp [q])
  have back : ∀ b o, G.get? b = some o → s'.heap.get? b = some o ∧ ((B.get? b).isSome = true ∨ b ∈ frs X.stack) := fun b o q => by
    cases z : ((B.get? b).isSome || decide (b ∈ frs X.stack)) with
    | true => exact ⟨(in1 b z).symm.trans q, by simpa [Bool.or_eq_true] using z⟩
    | false =>
      rw [in2 b z] at q
      cases q
  have frS : ∀ b o, s.heap.get? b = some o → b ∈ frs X.stack → ∃ sl, G.get? b = some { o with slots := sl } := fun b o q hb => by
    obtain ⟨sl, z⟩ := ub.slot b o q hb
    exact ⟨sl, (ofF b hb).trans z⟩
  have J : Inv X pins σ H2 { s with heap := G, gens := s'.gens, drawn := s'.drawn, toks := s'.toks } := by
    refine I.call (ch := []) ⟨fun b o q n hb _ => ofB b o (ub.keep b o q n hb), fun b o q n hb _ => frS b o q hb, fun b o q n _ => ub.free b o q n, fun b o q _ => ?_, ub.tups, ub.frzs, ub.tbls⟩ (okB.kept ofB) ag (fun _ z => nomatch z)
    by_cases hb : b ∈ frs X.stack
    · obtain ⟨sl, z⟩ := frS b o q hb
      exact ⟨_, z⟩
    · obtain ⟨o', z⟩ := ub.there b o q hb
      exact ⟨o', ofB b o' z⟩
  refine ⟨a, B, _, pins, σ, H2, cls, d, rfl, J, fun b o q hb => ?_, Heap.UpToSlots.of_keeps fun b o q => (back b o q).1, .inr (.inl fl), na, os, ag, hW _ _ _ hE⟩
  obtain ⟨q', z⟩ := back b o q
  rcases z with z | z
  · obtain ⟨o', z⟩ := Option.isSome_iff_exists.mp z
    have := kB b o' z
    rw [q'] at this
    cases this
    exact z
  · exact absurd z hb
theorem Tk.pass {X : Cx} {W : WX} (tk : Tk X W) (σ : L2.St) : PassesAt (L2N.CX X.prog X.w) X σ (WE W σ) := fun _ _ _ _ _ I c => by
  obtain ⟨e0, out, L, h1, h2, h3, h4⟩ := tk
  exact h4 _ _ (XEL.call I (fun _ _ _ z => z) c)
theorem tk_none {X : Cx} {e0 : PySem.Env} {out : List PySem.Env} {L : Addr} (h1 : X.stack = e0 :: out) (h2 : e0.frame = some L) (h3 : X.env.frame = some L) : Tk X (fun _ _ _ _ => False) := ⟨e0, out, L, h1, h2, h3, fun _ _ x => by
  obtain ⟨_, _, _, _, _, _, _, _, _, _, _, _, _, _, _, _, z⟩ := x
  exact z.elim⟩
theorem ff_out {h h' B B' : Heap} (k1 : ∀ b, B.get? b = none → B'.get? b = none) (k2 : ∀ b, B.get? b = none → h'.get? b = h.get? b) : ∀ l : List PySem.Env, h.FunFrames B l → h'.FunFrames B' l
  | [], _ => trivial
  | env :: rest, ⟨a, ⟨L, o, b, c, d, e⟩, r⟩ => ⟨a, ⟨L, o, b, k1 L c, (k2 L c).trans d, e⟩, ff_out k1 k2 rest r⟩
/-- what a block lets out -/
def outX (X : Cx) (ce : PySem.Env) : Value → Shared → Prop := notedBy (model X.prog X.w) X.A ce fun x s' => ∃ m, s'.heap.Ns ce.locals m ∧ ∀ hp, Heap.SameBut ce.locals s'.heap hp → wpAny (model X.prog X.w) X.A (passOn "comprehension.variables-let-go" x ce : Sem Value) (fun _ _ => False) X.xe { s' with heap := hp }
/-- the block, with what it lets out -/
abbrev eblk (X : Cx) (pn : List (Addr × Obj)) (s : Shared) (H : Hp) (scope : Scope) (ce : PySem.Env) (fp : List Addr) : Cx := (X.blk s H scope ce fp).tr pn (outX X ce)
/-- the wish, as it stood at the comprehension -/
abbrev Wat (W : WX) (σ : L2.St) : WX := fun c d _ H => W c d σ H
/-- what leaves the block is in our air -/
theorem tk_blk {X : Cx} {W : WX} {pins pn : List (Addr × Obj)} {σ : L2.St} {H : Hp} {s : Shared} {scope : Scope} {ce : PySem.Env} {fp : List Addr} (tk : Tk X W) (I : Inv X pins σ H s) (cf : ce.frame = X.env.frame) (cL : ce.locals = s.heap.objs.size) (f3 : ∀ b ∈ fp, FpOk X pins H b) :
    Tk (eblk X pn s H scope ce fp) (Wat W σ) := by
  obtain ⟨e0, out, L, h1, h2, h3, h4⟩ := tk
  refine ⟨e0, out, L, h1, h2, cf.trans h3, fun u s' x => ?_⟩
  obtain ⟨a, B, t, pins', σ', H', cls, d, rfl, J, nb, up, sky, na, os, ag, w⟩ := x
  have fr : X.A.frames = some (e0 :: out) := by rw [I.ok.frames, h1]
  show wpAny (model X.prog X.w) X.A (noteFrame (.ref a) ce) _ _ s'
  rw [note_frame (e2 := e0) ((cf.trans h3).trans h2.symm)]
  have sky : Sky B (e0 :: out) a (L2N.Zn cls d) L s'.heap := by rw [← h1]; exact sky
  -- noted at the frame
  have go : ∀ h1, HandSPX.HeldZ B (e0 :: out) a (L2N.Zn cls d) L h1 → s'.heap.UpToSlots h1 → ∃ m, h1.Ns ce.locals m ∧ ∀ hp, Heap.SameBut ce.locals h1 hp → wpAny (model X.prog X.w) X.A (passOn "comprehension.variables-let-go" (.ref a) ce : Sem Value) (fun _ _ => False) X.xe { s' with heap := hp } := by
    intro g1 hh u1
    have nC : H' ce.locals = none := J.free
    have fC : FpOk X pins H' s.heap.objs.size := I.fpOk (Nat.le_refl _) (cL ▸ nC)
    have nS : ce.locals ∉ frs X.stack := fun z => by
      rcases List.mem_cons.mp (I.stkSub _ z) with z | z
      · exact fC.2.1 (cL ▸ z)
      · exact fC.2.2.1 (cL ▸ z)
    obtain ⟨m, hn, _⟩ := J.loc
    have hn : t.heap.Ns ce.locals m := hn
    have kB : ∀ o, t.heap.get? ce.locals = some o → B.get? ce.locals = some o := fun o q => nb _ o q nS
    refine ⟨m, hn.at' fun o q => hh.1 _ o (kB o q), fun hp sb => ?_⟩
    -- the ground without the block's names
    obtain ⟨k1, k2, k3, oe, vs, T, oT, ts, he, hz, hd, hv, hnT, hTe, hT, hdT, ht⟩ := hh
    have isC : ∃ o, B.get? ce.locals = some o := by
      obtain ⟨o, _, _, q, _⟩ := hn
      exact ⟨o, kB o q⟩
    obtain ⟨oC, qC⟩ := isC
    have aC : a ≠ ce.locals := fun z => by rw [z, qC] at k2; cases k2
    have tC : T ≠ ce.locals := fun z => by rw [z, qC] at hnT; cases hnT
    have ofH : ∀ b o, (PySem.W.hideAll B [ce.locals]).get? b = some o → B.get? b = some o ∧ b ≠ ce.locals := fun b o q => ⟨PySem.W.of_hideAll _ q, fun z => by
      rw [z, PySem.W.hideAll_none _ (List.mem_singleton.mpr rfl)] at q
      cases q⟩
    have toH : ∀ b, B.get? b = none → (PySem.W.hideAll B [ce.locals]).get? b = none := fun b q => by
      cases z : (PySem.W.hideAll B [ce.locals]).get? b with
      | none => rfl
      | some o => rw [(ofH b o z).1] at q; cases q
    have held : HandSPX.HeldZ (PySem.W.hideAll B [ce.locals]) (e0 :: out) a (L2N.Zn cls d) L hp := by
      refine ⟨fun b o q => ?_, toH _ k2, ?_, oe, vs, T, oT, ts, (sb.2 a aC).trans he, hz, hd, hv, toH _ hnT, hTe, (sb.2 T tC).trans hT, hdT, ht⟩
      · obtain ⟨q1, q2⟩ := ofH b o q
        exact (sb.2 b q2).trans (k1 b o q1)
      · exact ff_out toH (fun b q => sb.2 b fun z => by rw [z, qC] at q; cases q) _ k3
    unfold PySem.passOn
    refine wpAny_bind (wpAny_field ((sb.2 a aC).trans he) hd hv ?_)
    rw [if_neg (show ¬ ((Value.ref T == Value.none) = true) from by simp)]
    have fin : wpAny (model X.prog X.w) X.A (setFlight (.ref a) ce.frame) (fun _ s4 => wpAny (model X.prog X.w) X.A (throw (.ref a) : Sem Value) (fun _ _ => False) X.xe s4) X.xe { s' with heap := hp } := by
      rw [cf.trans h3]
      refine HandSPX.setFlight_onZ held fun g4 hh4 u4 => wpAny_throw (h4 _ _ ?_)
      have I7 : Inv X pins σ H' t := I.call' (ch := fp) J.os J.base J.hok J.bare fun b hb => let z := f3 b hb; ⟨z.2.2.2.1, z.2.1, z.2.2.2.2.1, z.2.2.2.2.2⟩
      refine ⟨a, _, { t with heap := PySem.W.hideAll t.heap [ce.locals] }, pins, σ, H', cls, d, rfl, ?_, fun b o q nf => ?_, ?_, .inr (.inr (h1 ▸ hh4)), na, os, ag, w⟩
      · obtain ⟨c0, c1, c2, c3, c4, c5⟩ := fC
        rw [← cL] at c0 c1 c2 c3 c4 c5
        exact I7.turned (t' := t.toks) (fun b o hb q => PySem.W.hideAll_get _ q fun z => hb (List.mem_singleton.mp z)) c0 c1 c3 c4 c5
      · have q1 := PySem.W.of_hideAll _ q
        have q2 : b ≠ ce.locals := fun z => by
          rw [z, PySem.W.hideAll_none _ (List.mem_singleton.mpr rfl)] at q
          cases q
        exact PySem.W.hideAll_get _ (nb b o q1 nf) fun z => q2 (List.mem_singleton.mp z)
      · intro b o q nf
        have q1 : t.heap.get? b = some o := PySem.W.of_hideAll _ q
        have q2 : b ≠ ce.locals := fun z => by
          rw [z, PySem.W.hideAll_none _ (List.mem_singleton.mpr rfl)] at q
          cases q
        obtain ⟨sl, q3⟩ := (up.trans u1) b o q1 nf
        exact u4 b { o with slots := sl } ((sb.2 b q2).trans q3) nf |>.elim fun sl' z => ⟨sl', z⟩
    exact wpAny_bind fin
  rcases sky with ⟨hB, hn, hl, oe, vs, he, hz, hd, hv⟩ | fl | hh
  · exact PXN.look_newZ L2N.Zn.steady fr hl h2 he hB hn hd hv hz fun g q up => go g q up
  · exact PXN.looks_onZ L2N.Zn.steady fr h2 fl fun g q up => go g q up
  · exact HandSPX.againZ h2 hh.2.2.2 (go s'.heap hh (Heap.UpToSlots.refl _))
section
variable {X : Cx}
/-- [elt for target in iter if ..], what is raised within wished for as it stood ahead -/
def tLcW (W : WX) (wi : TI) (gg : TG) (tt : WX → TT) (te : WX → TE) (vs : List Nat) : TE := fun σ H Q => tLc wi gg (tt (Wat W σ)) (te (Wat W σ)) vs σ H Q
theorem lcE_core {pins : List (Addr × Obj)} {s : Shared} {σ : L2.St} {H : Hp} {Q : VK} {W : WX} {elt tg iter : Expr} {ifs : List Expr} {scope : Scope} {own : List (Str × Nat)} {pos pos' : Pos} {wi : TI} {gg : TG} {tt : WX → TT} {te : WX → TE} {use : Option (Value → Sem Unit)} {Qf : Value → Shared → Prop}
    (hc : X.calm = true) (hN : X.N.Nodup) (tk : Tk X W) (I : Inv X pins σ H s) (hi : PI X tg iter wi) (ok : BlkOk X.N X.env.scope scope own)
    (hg : ∀ s H C cl fp, PG (eblk X [] s H scope (compEnvC scope cl C X.env) fp) tg gg) (ht : ∀ s H C cl fp W', Tk (eblk X [] s H scope (compEnvC scope cl C X.env) fp) W' → PTs (eblk X [] s H scope (compEnvC scope cl C X.env) fp) ifs (tt W'))
    (he : ∀ s H C cl fp W', Tk (eblk X [] s H scope (compEnvC scope cl C X.env) fp) W' → PE (eblk X [] s H scope (compEnvC scope cl C X.env) fp) elt (te W')) (hs : ∀ x, foldedSetIterable iter X.env x = pure x)
    (h : tLcW W wi gg tt te (own.map (·.2)) σ H Q)
    (fin' : ∀ D C s' m H', Inv X pins σ H' s' → Q (.ref D) H' → s'.heap.Ns C m → FpOk X pins H' C → compPost (model X.prog X.w) X.A X.xe use Qf (.ref D) C (.ok .next) s') :
    wpAny (model X.prog X.w) X.A (comprehension (.ListComp elt [⟨tg, iter, ifs, 0⟩] scope pos) scope X.env pos' (newList []) false (eval iter X.env) use) Qf X.xe s := by
  have clo : ∀ y ∈ scope.names, y.2 = .free → ∃ c, X.env.cells.lookup y.1 = some c := fun y hy e => (ok.free y hy e).elim (fun k => I.ok.has _ (.inl k)) fun k => I.ok.has _ (.inr k)
  refine comp_own (use := use) rfl hs (closure_ok clo) ok.kind (fun y hy e => by rw [ok.uniq y hy, e]) (thn (hi.run pins s σ H _ I h) fun xv s1 hx => thn hx fun itv s2 h2 => ?_)
  obtain ⟨it, fp, tn, J, H2, rfl, I2, T, st2, f2, q⟩ := h2
  refine wpAny_newObj_type (newEnv_comp ?_) (by show 0 ≤ sizeLine; decide)
  obtain ⟨D, hD⟩ : ∃ D, s2.heap.objs.size = D := ⟨_, rfl⟩
  rw [hD]
  have hDn : H2 D = none := I2.hok.fresh (Nat.le_of_eq hD)
  obtain ⟨WW, ⟨m0, w0⟩, turn⟩ := q D hDn
  -- the new list stands
  have I3 : Inv X pins σ (upd H2 D (.lst [])) { s2 with heap := s2.heap.push { cls := .type "list", data := .seq ([] : List Value).toArray } } :=
    I2.laid (t' := s2.toks) (fun b o e => Heap.get?_push_of_some _ e) (Nat.le_of_eq hD) ⟨Nat.zero_le _, [], 0, .nil, by rw [← hD]; exact Heap.get?_push_size _ rfl⟩
  have inFp : ∀ b ∈ fp, b < s2.heap.objs.size := fun b hb => let ⟨o, e, _⟩ := T.obj _ _ st2 b hb; Heap.lt_size e
  have f3 : ∀ b ∈ fp, FpOk X pins (upd H2 D (.lst [])) b ∧ b < (s2.heap.push { cls := .type "list", data := .seq ([] : List Value).toArray }).objs.size := fun b hb => by
    have lt := inFp b hb
    refine ⟨⟨?_, (f2 b hb).2⟩, by rw [Heap.size_push]; exact Nat.lt_succ_of_lt lt⟩
    rw [upd_ne (by rw [← hD]; exact Nat.ne_of_lt lt)]
    exact (f2 b hb).1
  have st3 : tn 0 (s2.heap.push { cls := .type "list", data := .seq ([] : List Value).toArray }) := T.keep _ _ _ st2 fun b _ o e => Heap.get?_push_of_some _ e
  generalize hs3 : ({ s2 with heap := s2.heap.push { cls := .type "list", data := .seq ([] : List Value).toArray } } : Shared) = s3 at I3
  have hh : s2.heap.push { cls := .type "list", data := .seq ([] : List Value).toArray } = s3.heap := by rw [← hs3]
  rw [hh] at f3 st3
  generalize hH : upd H2 D (.lst []) = H3 at I3 f3 w0
  have I4 := block_start I3 ok hN f3
  have kpc : ∀ b o, s3.heap.get? b = some o → (pushCells (s3.heap.push { cls := .type "dict", data := .dict #[] }) scope.names).get? b = some o := fun b o e => pushCells_keeps _ _ _ _ (Heap.get?_push_of_some _ e)
  have pg := hg s3 H3 s3.heap.objs.size (cellsFrom (s3.heap.objs.size + 1) scope.names (cloFrom X.env.cells scope.names [])) fp
  have tkB := tk_blk (pn := []) (scope := scope) (ce := compEnvC scope (cellsFrom (s3.heap.objs.size + 1) scope.names (cloFrom X.env.cells scope.names [])) s3.heap.objs.size X.env) tk I3 rfl rfl fun b hb => (f3 b hb).1
  have pt := ht s3 H3 s3.heap.objs.size (cellsFrom (s3.heap.objs.size + 1) scope.names (cloFrom X.env.cells scope.names [])) fp _ tkB
  have pe := he s3 H3 s3.heap.objs.size (cellsFrom (s3.heap.objs.size + 1) scope.names (cloFrom X.env.cells scope.names [])) fp _ tkB
  have ce0 : (compEnvC scope (cellsFrom (s3.heap.objs.size + 1) scope.names (cloFrom X.env.cells scope.names [])) s3.heap.objs.size X.env).locals = s3.heap.objs.size := rfl
  show codeAny _ _ (.compStart (.ListComp elt [⟨tg, iter, ifs, 0⟩] scope pos) 0 (.ref it) (.ref D) (compEnvC scope (cellsFrom (s3.heap.objs.size + 1) scope.names (cloFrom X.env.cells scope.names [])) s3.heap.objs.size X.env))
    (cPost _ _ _ _ _ _ (compEnvC scope (cellsFrom (s3.heap.objs.size + 1) scope.names (cloFrom X.env.cells scope.names [])) s3.heap.objs.size X.env)) _
  generalize compEnvC scope (cellsFrom (s3.heap.objs.size + 1) scope.names (cloFrom X.env.cells scope.names [])) s3.heap.objs.size X.env = ce at I4 pg pt pe ce0 ⊢
  have I5 : Inv (eblk X [] s3 H3 scope ce fp) [] (wipe σ (own.map (·.2))) H3 _ := I4.toTry (outX X ce)
  have nfp : ∀ b ∈ fp, H3 b = none := fun b hb => (f3 b hb).1.1
  have st4 : tn 0 (pushCells (s3.heap.push { cls := .type "dict", data := .dict #[] }) scope.names) := T.keep _ _ _ st3 fun b _ o e => kpc b o e
  -- the iterator's objects, seen from the block
  have stat : ∀ {σ' : L2.St} {H' : Hp} {s' : Shared}, Inv (eblk X [] s3 H3 scope ce fp) [] σ' H' s' → (∀ b ∈ fp, H' b = none) → ∀ b ∈ fp, FpOk (eblk X [] s3 H3 scope ce fp) [] H' b := fun {σ' H' s'} I' hn b hb =>
    ⟨hn b hb, (I'.ok.exf b hb).1, I'.ok.exfs b hb, .inl hb, fun x c e => (I'.ok.exf b hb).2 x c e, fun q hq => absurd (show q ∈ ([] : List (Addr × Obj)) ++ [] from hq) (by simp)⟩
  have loop : codeAny (model X.prog X.w) X.A (.compLoop (.ListComp elt [⟨tg, iter, ifs, 0⟩] scope pos) 0 (.ref it) (.ref D) ce) (cPost (model X.prog X.w) X.A X.xe use Qf (.ref D) ce) { s3 with heap := pushCells (s3.heap.push { cls := .type "dict", data := .dict #[] }) scope.names } := by
    refine compLoop_any (fun n s' => ∃ i H', Inv (eblk X [] s3 H3 scope ce fp) [] (wipe σ (own.map (·.2))) H' s' ∧ tn i s'.heap ∧ (∀ b ∈ fp, H' b = none) ∧ WW i n H') ?_ m0 ⟨0, H3, I5, st4, nfp, w0⟩
    rintro n s5 ⟨i, H5, J5, t5, n5, w5⟩
    rcases turn i n H5 w5 with ⟨stop, qq⟩ | ⟨go, Nx, hNx, step⟩
    · refine thnF (T.done (eblk X [] s3 H3 scope ce fp) rfl rfl rfl hc i [] s5 _ H5 (fun _ _ => False) J5 (stat J5 n5) t5 stop) fun r s6 ⟨hr, I6⟩ => ?_
      subst hr
      have I7 : Inv X pins σ H5 s6 := I3.call' (ch := fp) I6.os I6.base I6.hok I6.bare fun b hb => let z := (f3 b hb).1.2; ⟨z.2.2.1, z.1, z.2.2.2.1, z.2.2.2.2⟩
      have nC : H5 ce.locals = none := I6.free
      obtain ⟨m, hn, _⟩ := I6.loc
      have fC : FpOk X pins H5 ce.locals := I3.fpOk (by rw [ce0]; exact Nat.le_refl _) nC
      exact fin' D _ s6 m H5 I7 qq hn fC
    · refine thnF (T.item (eblk X [] s3 H3 scope ce fp) rfl rfl rfl hc i [] s5 _ H5 (fun _ _ => False) J5 (stat J5 n5) t5 go) fun r s6 ⟨u, hr, h6⟩ => ?_
      subst hr
      refine thnF h6 fun _ s7 ⟨x, H7, J7, r7, y7, t7, n7⟩ => ?_
      refine wpAny_mono (pg.run _ s7 _ H7 x u _ (J7.pinned (stat J7 n7) (T.obj _ _ t7)) r7 (step x H7 y7)) (fun _ s8 ⟨σ8, H8, J8, hw8, q8⟩ => ?_) fun _ _ z => z
      refine wpAny_mono (pt.run _ s8 σ8 H8 _ J8 q8) (fun b s9 ⟨H9, J9, q9⟩ => ?_) fun _ _ z => z
      have fin : ∀ {s' : Shared} {H' : Hp}, Inv (eblk X [] s3 H3 scope ce fp) ([] ++ pinsAt fp s7.heap) σ8 H' s' → Nx H' → ∃ m, m < n ∧ ∃ i H', Inv (eblk X [] s3 H3 scope ce fp) [] (wipe σ (own.map (·.2))) H' s' ∧ tn i s'.heap ∧ (∀ b ∈ fp, H' b = none) ∧ WW i m H' := fun {s' H'} J' nx => by
        obtain ⟨m', hm, w'⟩ := hNx H' nx
        have still : ∀ b ∈ fp, ∀ o, s7.heap.get? b = some o → s'.heap.get? b = some o ∧ H' b = none := fun b hb o e => let z := J'.pin (b, o) (List.mem_append_right _ (List.mem_append_right _ (mem_pinsAt hb e))); ⟨z.1, z.2.1⟩
        refine ⟨m', hm, i + 1, H', (J'.unpinned (pins := [])).weak (by rw [← hw8, wipe_length]) (fun j v e => ?_), T.keep _ _ _ t7 fun b hb o e => (still b hb o e).1, fun b hb => ?_, w'⟩
        · rw [← hw8] at e
          exact (wipe_some e).1
        · obtain ⟨o, e, _⟩ := T.obj _ _ t7 b hb
          exact (still b hb o e).2
      cases b with
      | false => exact fin J9 q9
      | true =>
        refine wpAny_mono (pe.run _ s9 σ8 H9 _ J9 q9) (fun z s10 ⟨yv, H10, J10, r10, acc, hD10, hz10, nx⟩ => ?_) fun _ _ z => z
        exact app_ok (X := eblk X [] s3 H3 scope ce fp) J10 hD10 hz10 r10 fun s11 J11 => fin J11 nx
  exact codeAny_compStart_list loop (T.self X.A 0 _ _ _ st4 loop)
/-- .. as a value -/
theorem pe_lcE {W : WX} {elt tg iter : Expr} {ifs : List Expr} {scope : Scope} {own : List (Str × Nat)} {pos : Pos} {wi : TI} {gg : TG} {tt : WX → TT} {te : WX → TE} (hc : X.calm = true) (hN : X.N.Nodup) (tk : Tk X W) (hi : PI X tg iter wi) (ok : BlkOk X.N X.env.scope scope own)
    (hg : ∀ s H C cl fp, PG (eblk X [] s H scope (compEnvC scope cl C X.env) fp) tg gg) (ht : ∀ s H C cl fp W', Tk (eblk X [] s H scope (compEnvC scope cl C X.env) fp) W' → PTs (eblk X [] s H scope (compEnvC scope cl C X.env) fp) ifs (tt W'))
    (he : ∀ s H C cl fp W', Tk (eblk X [] s H scope (compEnvC scope cl C X.env) fp) W' → PE (eblk X [] s H scope (compEnvC scope cl C X.env) fp) elt (te W')) (hs : ∀ x, foldedSetIterable iter X.env x = pure x) :
    PE X (.ListComp elt [⟨tg, iter, ifs, 0⟩] scope pos) (tLcW W wi gg tt te (own.map (·.2))) := by
  refine ⟨fun pins s σ H Q I h => ?_⟩
  rw [eval_ListComp]
  exact lcE_core (use := none) hc hN tk I hi ok hg ht he hs h fun D C s' m H' I' q hn f => ⟨m, hn, fun h'' sb => ⟨.ref D, H', I'.turned (t' := s'.toks) (fun b o hb e => (sb.2 b hb).trans e) f.1 f.2.1 f.2.2.2.1 f.2.2.2.2.1 f.2.2.2.2.2, rfl, q⟩⟩
/-- x = [..] on one row -/
theorem ps_setLcE {W : WX} {i : Nat} {y : Str} {py spos : Pos} {elt tg iter : Expr} {ifs : List Expr} {scope : Scope} {own : List (Str × Nat)} {pos : Pos} {wi : TI} {gg : TG} {tt : WX → TT} {te : WX → TE} (hc : X.calm = true) (hN : X.N.Nodup) (tk : Tk X W) (hy : X.N[i]? = some y) (hyl : X.env.scope.names.lookup y = some .local)
    (hsw : swapsWith (.ListComp elt [⟨tg, iter, ifs, 0⟩] scope pos) (some (.Name y py)) spos.line X.env = pure true) (hi : PI X tg iter wi) (ok : BlkOk X.N X.env.scope scope own)
    (hg : ∀ s H C cl fp, PG (eblk X [] s H scope (compEnvC scope cl C X.env) fp) tg gg) (ht : ∀ s H C cl fp W', Tk (eblk X [] s H scope (compEnvC scope cl C X.env) fp) W' → PTs (eblk X [] s H scope (compEnvC scope cl C X.env) fp) ifs (tt W'))
    (he : ∀ s H C cl fp W', Tk (eblk X [] s H scope (compEnvC scope cl C X.env) fp) W' → PE (eblk X [] s H scope (compEnvC scope cl C X.env) fp) elt (te W')) (hs : ∀ x, foldedSetIterable iter X.env x = pure x) :
    PS X (.Assign [.Name y py] (.ListComp elt [⟨tg, iter, ifs, 0⟩] scope pos) spos) (tAsg (tLcW W wi gg tt te (own.map (·.2))) (gName i)) := by
  refine ⟨fun pins s σ H D I h => ?_⟩
  rw [exec_Assign_Name_used _ _ _ _ hsw]
  refine wpAny_bind (wpAny_standAt (wpAny_bind ?_))
  have h : tLcW W wi gg tt te (own.map (·.2)) σ H (fun x H1 => gName i x σ H1 D.nx) := h
  refine wpAny_bind (thn (lcE_core (pos' := firstIterPos [⟨tg, iter, ifs, 0⟩] pos) (use := some (assign (.Name y py) X.env)) (Qf := fun _ s' => SP X pins D .next s') hc hN tk I hi ok hg ht he hs h fun L C s' m H' I' q hn f => ?_) fun _ s' hq => wpAny_pure (wpAny_pure hq))
  refine wpAny_assign_Name (store_ok2 (v := V.ref L) I' hN hy (.inl hyl) rfl (fun s2 I2 ⟨a, sb, ha⟩ => ?_) (.inr hyl))
  have far : C ≠ a := ha.elim (fun z => z ▸ f.2.1) fun z e => f.2.2.2.2.1 y a z e.symm
  exact ⟨m, hn.sameBut sb far, fun h3 sb3 => ⟨_, H', I2.turned (t' := s2.toks) (fun b o hb e => (sb3.2 b hb).trans e) f.1 f.2.1 f.2.2.2.1 f.2.2.2.2.1 f.2.2.2.2.2, q⟩⟩
end
end EN
/-! a[lo:hi].count(b), a tuple. -/
namespace EN
open PySem PySem.Spec PyProof.Rows L2
section
variable {X : Cx}
/-- a slice of a tuple, not the whole: its object has no dict -/
def rSlF (K : PySem.W.Frag) : V → Option Int → Option Int → Hp → VK → Prop := fun x lo hi H Q => ∃ a xs, x = .ref a ∧ SqT K H a xs ∧
  ¬ (HT.sIx xs.length 0 lo = 0 ∧ HT.sIx xs.length xs.length hi = xs.length) ∧ ∀ p o, H p = none → o.dict = none → Q (.ref p) (upd H p (.frz o (.tup (cutV xs lo hi))))
theorem sl_tupF : L2.SlR X (rSlF X.K) := by
  intro pins s σ H x v vl vu lo hi sl Q I rx hs pl pu h
  obtain ⟨a, xs, rfl, hx, hw, q⟩ := h
  cases rx
  obtain ⟨its, r, ht, hz⟩ := I.tuple hx
  have hlen : its.toArray.size = xs.length := by rw [List.size_toArray]; exact r.length.symm
  refine ⟨"tuple", _, PyProof.Rows.slot_tuple_getitem.lookup, ht.typeIs, ?_⟩
  refine HT.getItem_tuple_cut ht hs pl pu (by rw [hlen]; exact hw) ?_ (by rw [hlen]; exact hz)
  rw [hlen]
  exact ⟨.ref s.heap.objs.size, _, I.laid (t' := s.toks) (o := .frz _ (.tup (cutV xs lo hi))) (fun b ob q => Heap.get?_push_of_some _ q) (Nat.le_refl _)
    ⟨Heap.get?_push_size _ rfl, Nat.le_trans (cutV_length xs lo hi) hz, _, (r.drop (HT.sIx xs.length 0 lo)).take (HT.sIx xs.length xs.length hi - HT.sIx xs.length 0 lo), IsTup.new _ _⟩, rfl, q _ _ (I.hok.fresh (Nat.le_refl _)) rfl⟩
def tSCnt (K : PySem.W.Frag) (ta : TE) (tl th : TO) (t : TA) : TE := fun σ H Q => tSl (rSlF K) ta tl th σ H fun x H1 => (∃ p o zs, x = .ref p ∧ H1 p = some (.frz o (.tup zs)) ∧ o.dict = none) ∧ t σ H1 fun xs H2 => rTCount K x xs H2 Q
variable {o e : Expr} {es : List Expr} {ta : TE} {tl th : TO} {t : TA} {lo hi : Option Expr} {p2 pos apos cpos : Pos}
theorem pe_scnt (he : PE X e ta) (hl : PO X lo tl) (hu : PO X hi th) {b : Expr} {bs : List Expr} (hb : PA X (b :: bs) t)
    (hbase : attributeBase (.Subscript e (.Slice lo hi none p2) pos) "count" X.env (eval (.Subscript e (.Slice lo hi none p2) pos) X.env) = eval (.Subscript e (.Slice lo hi none p2) pos) X.env := by rfl)
    (hfew : ((backTo cpos (starEach (b :: bs) X.env)).all (fun x => !x.1) && (backToKw cpos (keywordEach [] X.env)).all (fun x => x.1.isSome)
      && decide ((b :: bs).length + ([] : List Keyword).length + (if ([] : List Keyword).isEmpty then 0 else 1) < 30)) = true := by rfl)
    (hline : (apos.endLine == cpos.line) = true := by rfl) (hs : starEach (b :: bs) X.env = (false, eval b X.env) :: starEach bs X.env := by rfl) (hplain : (backTo cpos (starEach bs X.env)).any (·.1) = false := by rfl) :
    PE X (.Call (.Attribute (.Subscript e (.Slice lo hi none p2) pos) "count" apos) (b :: bs) [] cpos) (tSCnt X.K ta tl th t) := by
  refine ⟨fun pins s σ H Q I h => ?_⟩
  refine wpAny_Call_method_late hbase hfew hline rfl (thn ((pe_slice sl_tupF he hl hu).run pins s σ H _ I h) fun v s1 ⟨x, H1, I1, r1, ty, q1⟩ => ?_)
  obtain ⟨p, ob, zs, rfl, hq, hd⟩ := ty
  cases r1
  obtain ⟨there, _, its, rv, oc, h1, h2, n, h3⟩ := (show ObjOk X.prog X.w H1 s1.heap p (.frz ob (.tup zs)) from I1.hok p _ hq)
  rw [there] at h1
  cases h1
  refine ⟨"tuple", "tuple.count", F.plainAttrs_tuple, PySem.F.slot_tuple_count, PySem.F.type_tuple_count, ⟨ob, there, h2⟩, (fun a e => by cases e; exact ⟨ob, there, hd⟩), ?_⟩
  have hA := hb.run cpos pins s1 σ H1 _ I1 q1
  rw [hs] at hA ⊢
  refine Calls.callWith_builtin (by show (false || (backTo cpos (starEach bs X.env)).any (·.1)) = false; rw [hplain] <;> rfl) (Calls.evalArgs_plain ?_)
  exact thn hA fun us s2 ⟨vs, H2, I2, r2, q2⟩ => mt_tcount pins s2 σ H2 (.ref p) vs (.ref p) us Q I2 rfl r2 q2
end
end EN
/-! tuple(reversed(a list)). -/
namespace EN
open PySem PySem.Spec PyProof.Rows
section
variable {prog : Program} {w : World} {A : Around} {E : Value → Shared → Prop} {s : Shared} {it l : Addr} {items : Array Value}
/-- what a walk back over l gives, all at once -/
theorem collect_rev {Q : List Value → Shared → Prop} (hh : A.handled = none) (hit : s.heap.IsRevIter it l ((items.size : Int) - 1)) (hl : s.heap.IsList l items) (n1 : l ≠ it) (fit : items.size ≤ sizeLine)
    (go : ∀ (h' : Heap) (tk : Nat) (acc : Array Value), s.heap.objs.size ≤ h'.objs.size → (∀ b o, b ≠ it → s.heap.get? b = some o → h'.get? b = some o) → ItemsOf (fun i v => items[items.size - 1 - i]? = some v) acc items.size → Q acc.toList { s with heap := h', toks := tk }) :
    wpAny (model prog w) A (collect (.ref it)) Q E s := by
  generalize hn : s.heap.objs.size = S at go
  have ne : ∀ {b o}, s.heap.get? b = some o → b ≠ S := fun e z => Nat.ne_of_lt (Heap.lt_size e) (z.trans hn.symm)
  obtain ⟨_, i1, _⟩ := id hit
  obtain ⟨_, i2, _⟩ := id hl
  have kp : ∀ b o, s.heap.get? b = some o → (s.heap.push { cls := .type "list", data := .seq ([] : List Value).toArray }).get? b = some o := fun b o e => Heap.get?_push_of_some _ e
  have new : (s.heap.push { cls := .type "list", data := .seq ([] : List Value).toArray }).get? S = some { cls := .type "list", data := .seq #[] } := hn ▸ Heap.get?_push_size _ rfl
  have key : ∀ R : Result → Shared → Prop, (∀ s' acc c, Moved [S, it] (fun a b => b = a) { s with heap := s.heap.push { cls := .type "list", data := .seq ([] : List Value).toArray } } s' → s'.heap.get? S = some { cls := .type "list", dict := none, data := .seq acc c, slots := #[] } → ItemsOf (fun i v => items[items.size - 1 - i]? = some v) acc items.size → R (.ok (.ret (.ref S))) s') →
      codeAny (model prog w) A (.builtin "proto.collect" ⟨[.ref it], []⟩) R s := by
    intro R h
    refine codeAny_builtin F.entry_proto_collect ?_
    rw [Around.under_plainId F.plain_proto_collect _]
    show wpAny _ A.in1 (newList [] >>= fun l => again (.builtin "list.__iadd__" ⟨[l, .ref it], []⟩)) _ _ s
    refine wpAny_bind (wpAny_newObj_type ?_ (by show 0 ≤ sizeLine; decide))
    refine wpAny_pure ⟨plainId_quiet F.plain_list_iadd _, codeAny_builtin F.entry_list_iadd ?_⟩
    rw [Around.under_plainId F.plain_list_iadd _]
    show wpAny _ A.in1 (Builtin.List.listExtendWith (.ref s.heap.objs.size) (.ref it) (.ref s.heap.objs.size)) _ _ _
    rw [hn]
    exact grow_rev (prog := prog) (w := w) (R := R) (A := A) (s := { s with heap := s.heap.push { cls := .type "list", data := .seq ([] : List Value).toArray } }) hh (hit.at fun o e => kp it o e) (hl.at fun o e => kp l o e) n1 (ne i1).symm (ne i2).symm fit new (.ref S) h
  unfold collect
  refine wpAny_bind (wpAny_runValue (key _ fun s' acc c m e k => ?_))
  show wpAny _ A (load S >>= _) _ _ s'
  refine wpAny_bind (wpAny_load e ?_)
  rw [Moved.eq_with m]
  refine wpAny_pure (go s'.heap s'.toks acc ?_ (fun b o hb z => ?_) k)
  · exact Nat.le_of_lt (Heap.lt_size e)
  · exact m.heap b o (by simp [hb, ne z]) (kp b o z)
/-- tuple(..) of a walk back over l -/
theorem call_tuple_rev {Q : Value → Shared → Prop} (hh : A.handled = none) (hit : s.heap.IsRevIter it l ((items.size : Int) - 1)) (hl : s.heap.IsList l items) (n1 : l ≠ it) (fit : items.size ≤ sizeLine)
    (go : ∀ (h' : Heap) (tk : Nat) (acc : Array Value) (T : Addr), s.heap.objs.size ≤ T → (∀ b o, b ≠ it → s.heap.get? b = some o → h'.get? b = some o) → h'.get? T = some { cls := .type "tuple", data := .seq acc } →
      ItemsOf (fun i v => items[items.size - 1 - i]? = some v) acc items.size → Q (.ref T) { s with heap := h', toks := tk }) : wpAny (model prog w) A (call (.type "tuple") [.ref it]) Q E s := by
  have code : ∀ Q₁ : Value → Shared → Prop, (∀ (h' : Heap) (tk : Nat) (acc : Array Value), s.heap.objs.size ≤ h'.objs.size → (∀ b o, b ≠ it → s.heap.get? b = some o → h'.get? b = some o) → ItemsOf (fun i v => items[items.size - 1 - i]? = some v) acc items.size → Q₁ (.ref h'.objs.size) { s with heap := h'.push { cls := .type "tuple", data := .seq acc }, toks := tk }) →
      codeAny (model prog w) A.in1 (.call (.builtin "tuple.__new__") ⟨[.type "tuple", .ref it], []⟩) (wants Q₁ E) s := by
    intro Q₁ h
    refine codeAny_of_tree ?_
    show wpAny _ A.in1.in1 (do checkBuiltinCall "tuple.__new__" ⟨[.type "tuple", .ref it], []⟩; again (.builtin "tuple.__new__" ⟨[.type "tuple", .ref it], []⟩)) _ _ s
    refine wpAny_bind (wpAny_of_eq (F.newCall_tuple_1 _) (wpAny_pure ⟨plainId_quiet F.plain_tuple_new _, codeAny_builtin F.entry_tuple_new ?_⟩))
    rw [Around.under_plainId F.plain_tuple_new _]
    have sub := sub_tuple_self
    have ini := init_tuple_lookup
    have here := madeHere_tuple
    have ty : s.TypeIs (.ref it) "list_reverseiterator" := hit.typeIs
    wp_walk using wpAny_typeOf ty, collect_rev (A := A.in1.in1) (s := s) hh hit hl n1 fit
    intro h' tk acc sz kp k
    show wpAny _ _ (Builtin.Tuple.tupleExact acc.toList.toArray >>= fun v => ret v) _ _ _
    unfold Builtin.Tuple.tupleExact
    rw [Array.toArray_toList]
    exact wpAny_bind (wpAny_newObj_type (wpAny_pure (h h' tk acc sz kp k)) (by show acc.size ≤ sizeLine; rw [k.1]; exact fit))
  refine callType_codes (Q₁ := fun obj s1 => s1.TypeIs obj "tuple" ∧ Q obj s1) F.called_tuple (F.typeCall_tuple_1 _) F.entry_object_init (code _ fun h' tk acc sz kp k => ⟨⟨_, Heap.get?_push_size _ rfl, rfl⟩, go _ tk acc _ sz (fun b o hb e => Heap.get?_push_of_some _ (kp b o hb e)) (Heap.get?_push_size _ rfl) k⟩) fun obj s1 z => ?_
  exact ⟨z.1, F.args_object_init_2 obj _, object_init_meets F.called_tuple.init.lookup F.called_tuple.made (by decide) prog w A.in1 _ s1 ⟨z.1, rfl, z.2⟩⟩
end
open L2
section
variable {X : Cx}
/-- tuple(reversed(e)), e a list -/
def tRevT (K : PySem.W.Frag) (te : TE) : TE := fun σ H Q => te σ H fun x H1 => ∃ (a : Addr) (zs : List V), x = .ref a ∧ SqL K H1 a zs ∧ ∀ q, H1 q = none → Q (.ref q) (upd H1 q (.tup zs.reverse))
theorem pe_revT {e : Expr} {te : TE} {p p2 pos pos2 : Pos} (hc : X.calm = true) (g1 : Gl X "tuple") (m1 : X.mg "tuple" = none) (g2 : Gl X "reversed") (m2 : X.mg "reversed" = none) (he : PE X e te) (st : starEach [e] X.env = (false, eval e X.env) :: starEach [] X.env) :
    PE X (.Call (.Name "tuple" p) [.Call (.Name "reversed" p2) [e] [] pos2] [] pos) (tRevT X.K te) := by
  refine ⟨fun pins s σ H Q I h => Call_ (ld_blt I g1 m1 boot_tuple (PyProof.Rows.callWith_type1 (args_cons (Call_ (ld_blt I g2 m2 PyProof.Rows.boot_reversed (PyProof.Rows.callWith_type1 (args_cons (thn (he.run pins s σ H _ I h) fun u t ⟨x, H1, J, rx, a, zs, ex, hz, q⟩ => args_nil ?_) st) st rfl))) rfl) rfl rfl))⟩
  subst ex
  cases rx
  obtain ⟨its, rv, pl, fit⟩ := J.list hz
  have il := pl.isList
  obtain ⟨_, there, _⟩ := id il
  have apart : a ≠ t.heap.objs.size := Nat.ne_of_lt (Heap.lt_size there)
  have room : its.toArray.size ≤ sizeLine := by rw [List.size_toArray, ← rv.length]; exact fit
  refine call_reversed_list il (args_nil ?_)
  generalize ho : revObj a ((its.toArray.size : Int) - 1) = ro
  have J2 : Inv X pins σ H1 { t with heap := t.heap.push ro } := J.kept (t' := t.toks) fun b o e => Heap.get?_push_of_some _ e
  have free : H1 t.heap.objs.size = none := J.hok.fresh (Nat.le_refl _)
  obtain ⟨_, f1, f2, f3, f4, f5⟩ := J.fpOk (H' := H1) (b := t.heap.objs.size) (Nat.le_refl _) free
  have isr : (t.heap.push ro).IsRevIter t.heap.objs.size a ((its.toArray.size : Int) - 1) := by rw [← ho]; exact ⟨_, Heap.get?_push_size _ rfl, rfl, rfl⟩
  refine call_tuple_rev (s := { t with heap := t.heap.push ro }) (J.ok.hd hc) isr (il.push _) apart room fun h' tk acc T hT k new items => ?_
  have fp : ∀ b ∈ [t.heap.objs.size], FpOk X pins H1 b := fun b hb => by rw [List.mem_singleton.mp hb]; exact ⟨free, f1, f2, f3, f4, f5⟩
  have fits : zs.reverse.length ≤ sizeLine := by rw [List.length_reverse]; exact fit
  have laid : ObjOk X.prog X.w (upd H1 T (.tup zs.reverse)) h' T (.tup zs.reverse) := ⟨fits, acc.toList, RT.vals_rev rv items, _, new, rfl, 0, by rw [Array.toArray_toList]⟩
  have J3 := J2.turnedNew (t' := tk) (ch := [t.heap.objs.size]) (fun b o hb e => k b o (fun z => hb (List.mem_singleton.mpr z)) e) fp hT laid
  exact ⟨.ref T, _, J3, rfl, q T (J2.hok.fresh hT)⟩
end
end EN
/-! A small language of values, and what its programs come to. -/
namespace EN
open PySem

/-- a value that is never written again -/
inductive D where
  | non | bl (b : Bool) | int (i : Int) | str (x : Str)
  | tup (ds : List D) | lst (ds : List D)
  /-- the script -/
  | scr (ns : List Int)
  | dK (ks : List Key) (vs : List D) | dT (ks : List (List Key)) (vs : List D)
  /-- a set of keys, none twice -/
  | st (ks : List Key)
  /-- an instance of the c-th own class, its fields in order -/
  | obj (c : Nat) (fs : List D)
  deriving Inhabited

/-- what an owned object holds -/
inductive Cn where
  | lst (ds : List D) | dK (kvs : List (Key × D)) | dT (kvs : List (List Key × D))
  | ob (c : Nat) (fs : List (Str × D))
  | st (ks : List Key)
  deriving Inhabited
def Cn.toD : Cn → D
  | .lst ds => .lst ds
  | .dK kvs => .dK (kvs.map (·.1)) (kvs.map (·.2))
  | .dT kvs => .dT (kvs.map (·.1)) (kvs.map (·.2))
  | .ob c fs => .obj c (fs.map (·.2))
  | .st ks => .st ks

inductive Slot where
  | un | d (x : D) | own (c : Cn) | bor (c : Cn)
  /-- the error that a suite holds: its class's number, its fields -/
  | exc (c : Nat) (fs : List D)
  deriving Inhabited
abbrev Env := List Slot
def Env.at (ρ : Env) (i : Nat) : Slot := ρ.getD i .un

/-- a value on its way: data, a fresh object, what stands in a slot -/
inductive IV where
  | d (x : D) | fr (c : Cn) | sl (i : Nat)
  deriving Inhabited
inductive R (α : Type) where
  | ok (a : α) (ρ : Env) | er (c : Nat) (fs : List D) (ρ : Env) | no
  deriving Inhabited
@[reducible] def R.bind {α β : Type} (x : R α) (f : α → Env → R β) : R β := match x with
  | .ok a ρ => f a ρ
  | .er c fs ρ => .er c fs ρ
  | .no => .no
/-- what a def comes to: its value, its parameters behind it -/
inductive FR where
  | ok (v : IV) (ps : Env) | er (c : Nat) (fs : List D) (ps : Env) | no
  deriving Inhabited

/-- a value, seen -/
def vw (ρ : Env) : IV → Option D
  | .d x => some x
  | .fr c => some c.toD
  | .sl i => match ρ.at i with
    | .own c => some c.toD
    | .bor c => some c.toD
    | .d x => some x
    | _ => none
/-- a value, kept: what stands in a slot is never written from then on -/
def kp (np : Nat) (ρ : Env) : IV → R D
  | .d x => .ok x ρ
  | .fr c => .ok c.toD ρ
  | .sl i => match ρ.at i with
    | .own c => if i < np then .no else .ok c.toD (ρ.set i (.d c.toD))
    | .d x => .ok x ρ
    | _ => .no

/-! ### equality -/
mutual
def D.py : D → Option PyData
  | .non => some .none
  | .bl b => some (.bool b)
  | .int i => some (.int i)
  | .str x => some (.str x)
  | .tup ds => (D.pys ds).map .tuple
  | .lst ds => (D.pys ds).map .list
  | .scr _ => none
  | .dK _ _ => none
  | .dT _ _ => none
  | .obj _ _ => none
  | .st _ => none
def D.pys : List D → Option (List PyData)
  | [] => some []
  | d :: ds => match D.py d, D.pys ds with
    | some x, some xs => some (x :: xs)
    | _, _ => none
end
def D.shp (d : D) : Option PyData := match d.py with
  | some x => if SeqAt.shaped x then some x else none
  | none => none
/-- == of scalars that Python compares at once -/
def eqS : D → D → Option Bool
  | .non, .non => some true
  | .non, .int _ => some false
  | .int _, .non => some false
  | .non, .bl _ => some false
  | .bl _, .non => some false
  | .non, .str _ => some false
  | .str _, .non => some false
  | .int i, .int j => some (decide (i = j))
  | .bl a, .bl b => some (decide (a = b))
  | .str x, .str y => some (decide (x = y))
  | .int _, .str _ => some false
  | .str _, .int _ => some false
  | .bl _, .str _ => some false
  | .str _, .bl _ => some false
  | _, _ => none
/-- == -/
def eqD (a b : D) : Option Bool := match eqS a b with
  | some r => some r
  | none => match a.shp, b.shp with
    | some x, some y => some (PyData.eqv x y)
    | _, _ => none
def flatD : D → Bool
  | .non => true
  | .bl _ => true
  | .int _ => true
  | .str _ => true
  | _ => false
/-- == of flat values -/
def eqF : D → D → Bool
  | .non, .non => true
  | .bl a, .bl b => a == b
  | .bl a, .int b => (if a then 1 else 0) == b
  | .int a, .bl b => a == (if b then 1 else 0)
  | .int a, .int b => a == b
  | .str a, .str b => a == b
  | _, _ => false
def D.key? : D → Option Key
  | .int i => some (.inl i)
  | .str x => some (.inr x)
  | _ => none
def D.keys? : List D → Option (List Key)
  | [] => some []
  | d :: ds => match d.key?, D.keys? ds with
    | some k, some ks => some (k :: ks)
    | _, _ => none
def look {κ : Type} [DecidableEq κ] (kvs : List (κ × D)) (k : κ) : Option D := (kvs.find? fun p => decide (p.1 = k)).map (·.2)
def put {κ : Type} [DecidableEq κ] (kvs : List (κ × D)) (k : κ) (v : D) : List (κ × D) :=
  if (kvs.any fun p => decide (p.1 = k)) = true then kvs.map (fun p => if p.1 = k then (p.1, v) else p) else kvs ++ [(k, v)]
def putAll {κ : Type} [DecidableEq κ] (kvs more : List (κ × D)) : List (κ × D) := more.foldl (fun acc kv => put acc kv.1 kv.2) kvs
/-- the value at a key: none where the key is none; some none where it isn't there -/
def getD? (d k : D) : Option (Option D) := match d with
  | .dK ks vs => match k.key? with
    | some k => some (look (ks.zip vs) k)
    | none => none
  | .dT ks vs => match k with
    | .tup ds => match D.keys? ds with
      | some k => some (look (ks.zip vs) k)
      | none => none
    | _ => none
  | _ => none
/-- `in` a list or a tuple -/
def inD (x : D) (xs : List D) : Option Bool := if flatD x && xs.all flatD then some (xs.any fun y => eqF y x) else match x.shp, (D.lst xs).shp with
  | some a, some (.list bs) => some (bs.any fun z => PyData.eqv z a)
  | _, _ => none

/-! ### operators -/
inductive BO where | add | sub | mul | fdiv | mod | pow
inductive CO where | eq | ne | lt | le | gt | ge | isin | notin | is | isnot
def line : Nat := 1000000
/-- a text n times -/
def mulS (x : Str) (n : Int) : Str := if n < 1 then Str.empty else if (n == 1 || x.length == 0) = true then x else ⟨(List.replicate n.toNat x.cps).foldl (· ++ ·) #[]⟩
def opB : BO → D → D → Option IV
  | .add, .int i, .int j => some (.d (.int (i + j)))
  | .add, .str x, .str y => if x.length + y.length ≤ line then some (.d (.str (x ++ y))) else none
  | .add, .tup xs, .tup ys => if xs.length + ys.length ≤ line then some (.d (.tup (xs ++ ys))) else none
  | .add, .lst xs, .lst ys => if xs.length + ys.length ≤ line then some (.fr (.lst (xs ++ ys))) else none
  | .sub, .int i, .int j => some (.d (.int (i - j)))
  | .mul, .int i, .int j => if (-(2 ^ 64) < i ∧ i < 2 ^ 64) ∨ (-(2 ^ 64) < j ∧ j < 2 ^ 64) then some (.d (.int (i * j))) else none
  | .fdiv, .int i, .int j => if 0 < j ∧ j < 1073741824 then some (.d (.int (i / j))) else none
  | .mod, .int i, .int j => if 0 < j then some (.d (.int (i % j))) else none
  | .pow, .int i, .int j => if 0 ≤ j ∧ j ≤ 1000000 ∧ i.natAbs < 2 ^ 64 then some (.d (.int (i ^ j.toNat))) else none
  | .mul, .str x, .int n => if n ≤ 100000 ∧ -100000 ≤ n ∧ x.length ≤ 10 then some (.d (.str (mulS x n))) else none
  | _, _, _ => none
def opC : CO → D → D → Option Bool
  | .eq, a, b => eqD a b
  | .ne, a, b => (eqD a b).map (!·)
  | .lt, .int i, .int j => some (decide (i < j))
  | .le, .int i, .int j => some (decide (i ≤ j))
  | .gt, .int i, .int j => some (decide (j < i))
  | .ge, .int i, .int j => some (decide (j ≤ i))
  | .le, .str x, .str y => some (!decide (y.cps.toList < x.cps.toList))
  | .isin, .str x, .str z => match x.cps.toList with
    | [c] => some (decide (c ∈ z.cps.toList))
    | _ => none
  | .notin, .str x, .str z => match x.cps.toList with
    | [c] => some (!decide (c ∈ z.cps.toList))
    | _ => none
  | .isin, x, .lst xs => inD x xs
  | .isin, x, .tup xs => inD x xs
  | .notin, x, .lst xs => (inD x xs).map (!·)
  | .notin, x, .tup xs => (inD x xs).map (!·)
  | .isin, x, .dK ks vs => (getD? (.dK ks vs) x).map (·.isSome)
  | .isin, x, .dT ks vs => (getD? (.dT ks vs) x).map (·.isSome)
  | .notin, x, .dK ks vs => (getD? (.dK ks vs) x).map (!·.isSome)
  | .notin, x, .dT ks vs => (getD? (.dT ks vs) x).map (!·.isSome)
  | .isin, x, .st ks => x.key?.map fun k => decide (k ∈ ks)
  | .notin, x, .st ks => x.key?.map fun k => !decide (k ∈ ks)
  | _, _, _ => none
def truD : D → Option Bool
  | .non => some false
  | .bl b => some b
  | .int i => some (i != 0)
  | .str x => if x.length ≤ line then some ((x.length : Int) != 0) else none
  | .tup xs => some (!xs.isEmpty)
  | .lst xs => some (!xs.isEmpty)
  | _ => none
def cut {α : Type} (xs : List α) (lo hi : Option Int) : List α := (xs.drop (HT.sIx xs.length 0 lo)).take (HT.sIx xs.length xs.length hi - HT.sIx xs.length 0 lo)
def opI : D → D → Option D
  | .lst xs, .int i => L2.atI xs i
  | .tup xs, .int i => L2.atI xs i
  | .scr ns, .int i => (L2.atI ns i).map .int
  | .str z, .int i => if z.length ≤ line then (L2.atI z.cps.toList i).map fun c => .str ⟨#[c]⟩ else none
  | .dK ks vs, k => (getD? (.dK ks vs) k).getD none
  | .dT ks vs, k => (getD? (.dT ks vs) k).getD none
  | _, _ => none
def opS : D → Option Int → Option Int → Option IV
  | .lst xs, lo, hi => some (.fr (.lst (cut xs lo hi)))
  | .tup xs, lo, hi => some (.d (.tup (cut xs lo hi)))
  | .str z, lo, hi => if z.length ≤ line then some (.d (.str (L2.cutS z lo hi))) else none
  | _, _, _ => none

/-- built-in functions -/
inductive BI where | len | int | sum | list | tuple | str | all | max | set
def ints? : List D → Option (List Int)
  | [] => some []
  | .int i :: ds => (ints? ds).map (i :: ·)
  | _ => none
def bls? : List D → Option (List Bool)
  | [] => some []
  | .bl i :: ds => (bls? ds).map (i :: ·)
  | _ => none
def strs? : List D → Option (List Str)
  | [] => some []
  | .str i :: ds => (strs? ds).map (i :: ·)
  | _ => none
def opF : BI → List D → Option IV
  | .len, [.lst xs] => some (.d (.int xs.length))
  | .len, [.tup xs] => some (.d (.int xs.length))
  | .len, [.scr xs] => some (.d (.int xs.length))
  | .len, [.str z] => if z.length ≤ line then some (.d (.int z.length)) else none
  | .int, [.int i] => some (.d (.int i))
  | .int, [.bl b] => some (.d (.int (if b then 1 else 0)))
  | .sum, [.lst xs] => (ints? xs).map fun ns => .d (.int ns.sum)
  | .list, [.lst xs] => some (.fr (.lst xs))
  | .list, [.tup xs] => some (.fr (.lst xs))
  | .list, [.scr ns] => some (.fr (.lst (ns.map .int)))
  | .tuple, [.lst xs] => some (.d (.tup xs))
  | .tuple, [.tup xs] => some (.d (.tup xs))
  | .int, [.str a] => if a.length ≤ 640 then (PySem.intText? a).map fun n => .d (.int n) else none
  | .str, [.int i] => if i.natAbs.log2 < 1920 then some (.d (.str (toString i))) else none
  | .all, [.lst xs] => (bls? xs).map fun bs => .d (.bl (bs.all id))
  | .max, [.int i, .int j] => some (.d (.int (if j > i then j else i)))
  | .len, [.st ks] => some (.d (.int ks.length))
  | .set, [] => some (.fr (.st []))
  | .set, [.lst xs] => match D.keys? xs with
    | some ks => if ks.length ≤ 4000 then some (.fr (.st (setK ks))) else none
    | none => none
  | .set, [.tup xs] => match D.keys? xs with
    | some ks => if ks.length ≤ 4000 then some (.fr (.st (setK ks))) else none
    | none => none
  | _, _ => none
/-- methods of texts -/
inductive MT where | rmp | find | join
def opM : MT → Str → List D → Option D
  | .rmp, a, [.str b] => if a.length ≤ line then some (.str (Txt.removeprefix a b)) else none
  | .find, a, [.str b, .int i] => some (.int (Txt.find3 a b i))
  | .join, a, [.lst xs] => match strs? xs with
    | some ys => if (ys.map (·.length)).sum + ys.length * a.length ≤ line then some (.str (Txt.join a ys)) else none
    | none => none
  | _, _, _ => none
/-- how often in a tuple -/
def cntD (xs : List D) (y : D) : Option D := if flatD y && xs.all flatD then some (.int ((xs.countP fun z => eqF z y : Nat) : Int)) else none
/-- x op= y -/
def augD : BO → D → D → Option D
  | .add, .int i, .int j => some (.int (i + j))
  | .sub, .int i, .int j => some (.int (i - j))
  | _, _, _ => none

/-- what isinstance asks -/
inductive TY where | int | str | bool | list | tuple | dict | cls (c : Nat) | exc (c : Nat) | ve
  deriving DecidableEq
def isTy : D → TY → Bool
  | .bl _, .int => true
  | .bl _, .bool => true
  | .int _, .int => true
  | .str _, .str => true
  | .lst _, .list => true
  | .scr _, .list => true
  | .tup _, .tuple => true
  | .dK _ _, .dict => true
  | .dT _ _, .dict => true
  | .obj c _, .cls k => c == k
  | _, _ => false

/-! ### the language -/
mutual
inductive IE where
  | var (i : Nat)
  | lit (d : D)
  | tup (es : IEs) | lst (es : IEs) | dct (ps : IEs)
  | bin (op : BO) (a b : IE) | neg (a : IE)
  | gc (n : Nat)
  | ch (op op' : CO) (a b c : IE)
  | bm (m : MT) (a : IE) (es : IEs)
  | cmp (op : CO) (a b : IE) | isN (a : IE) | notN (a : IE)
  | and (a b : IE) | or (a b : IE) | not (a : IE) | ife (c a b : IE)
  | ix (a b : IE) | slc (a lo hi : IE)
  | call (f : Nat) (es : IEs)
  | bi (f : BI) (es : IEs)
  | isi (a : IE) (t : TY)
  | fld (a : IE) (n : Str)
  /-- [elt for i in it if c], c = lit true where there is none -/
  | lc (elt : IE) (i : Nat) (it : IT) (hasIf : Bool) (c : IE)
  /-- a[lo:hi].count(b), a tuple -/
  | scnt (a lo hi b : IE)
  /-- isinstance of one of several -/
  | isiT (a : IE) (ts : List TY)
  /-- list(reversed(a)) -/
  | revL (a : IE)
  /-- {(k, ..): v for i in it if c} -/
  | dcT (ks : IEs) (v : IE) (i : Nat) (it : IT) (hasIf : Bool) (c : IE)
  /-- tuple(reversed(a)) -/
  | revT (a : IE)
  /-- {}, for tuples as keys -/
  | dctT
  /-- C(e, ..) -/
  | new (c : Nat) (es : IEs)
  /-- a in o, a not in o, by the own def f of the class c -/
  | inO (neg : Bool) (c f : Nat) (a o : IE)
  /-- o[i] by the own def f of the class c -/
  | ixO (c f : Nat) (o i : IE)
  /-- o.m(e, ..), m the def f of the class c -/
  | mt (c f : Nat) (o : IE) (es : IEs)
inductive IEs where
  | nil | cons (e : IE) (es : IEs)
inductive IT where
  | e (a : IE) | rng (a : IE) | rng2 (a b : IE) | txt (a : IE)
end
def IEs.len : IEs → Nat
  | .nil => 0
  | .cons _ es => es.len + 1

mutual
inductive IS where
  | asg (i : Nat) (e : IE)
  | asgT (is : List Nat) (e : IE)
  /-- slot[k] = v -/
  | put (i : Nat) (k v : IE)
  /-- slot[k, ..] = v -/
  | putT (i : Nat) (ks : IEs) (v : IE)
  | expr (e : IE)
  | app (i : Nat) (e : IE)
  /-- slot.add(e), a set -/
  | sadd (i : Nat) (e : IE)
  /-- slot.n = e, an object that is being made -/
  | fst (i : Nat) (n : Str) (e : IE)
  | ret (e : IE) | retN
  | ifS (c : IE) (a b : ISs)
  | forS (i : Nat) (it : IT) (b : ISs)
  /-- for a, b in it -/
  | forT (is : List Nat) (it : IT) (b : ISs)
  /-- slot op= e -/
  | aug (i : Nat) (op : BO) (e : IE)
  | whl (c : IE) (b : ISs)
  | brk | cont | pass
  | raise (c : Nat) (es : IEs)
  /-- try: b except X as i: suite, one after another (the class's number, the slot, the suite) -/
  | tryS (b : ISs) (hs : IHs)
inductive ISs where
  | nil | cons (s : IS) (ss : ISs)
inductive IHs where
  | nil | cons (c : Nat) (i : Nat) (s : ISs) (hs : IHs)
end

/-- what the text says of its classes -/
structure Tb where
  /-- how many classes of errors -/
  ne : Nat
  /-- how many own classes -/
  nc : Nat
  /-- the fields of the errors of the c-th class -/
  ef : Nat → List Str
  /-- whether an error of the class c is one of the class k -/
  es : Nat → Nat → Bool
  /-- the fields of the instances of the c-th own class -/
  of : Nat → List Str
  /-- how the j-th parameter of a def is handed in: 0 kept, 1 lent, 2 to be written -/
  md : Nat → Nat → Nat
  /-- the module's constants: how many, each -/
  nk : Nat := 0
  gc : Nat → D := fun _ => .non
  /-- the def that makes the instances of the c-th own class -/
  ini : Nat → Nat := fun _ => 0
  /-- the method that the def f is -/
  mn : Nat → Str := fun _ => Str.empty

/-! ### expressions -/
def fieldD (T : Tb) (d : D) (n : Str) : Option D := match d with
  | .obj c fs => if (T.of c).length = fs.length then ((T.of c).zip fs).lookup n else none
  | _ => none
def fieldE (T : Tb) (c : Nat) (fs : List D) (n : Str) : Option D := if (T.ef c).length = fs.length then ((T.ef c).zip fs).lookup n else none
def isE (T : Tb) (c : Nat) : TY → Bool
  | .exc k => T.es c k
  | .ve => true
  | _ => false
def R.val (ρ : Env) : Option IV → R IV
  | some v => .ok v ρ
  | none => .no
def R.dat (ρ : Env) : Option D → R IV
  | some v => .ok (.d v) ρ
  | none => .no
def R.bool (ρ : Env) : Option Bool → R IV
  | some v => .ok (.d (.bl v)) ρ
  | none => .no
/-- what a loop goes over -/
def walkD : D → Option (List D)
  | .lst xs => some xs
  | .tup xs => some xs
  | .scr ns => some (ns.map .int)
  | _ => none
def rngD (i j : Int) : List D := (List.range (j - i).toNat).map fun (k : Nat) => D.int (i + k)
def rngOk (i j : Int) : Bool := decide (-(2 ^ 62) ≤ i ∧ i < 2 ^ 62 ∧ -(2 ^ 62) ≤ j ∧ j < 2 ^ 62 ∧ j - i ≤ line)
/-- slots lent while a loop goes over them -/
def lend (ρ : Env) : IV → Env
  | .sl i => match ρ.at i with
    | .own c => ρ.set i (.bor c)
    | _ => ρ
  | _ => ρ
/-- .. and given back (ρ0: as it stood) -/
def unlend (ρ0 ρ : Env) : IV → Env
  | .sl i => match ρ0.at i, ρ.at i with
    | .own _, .bor c => ρ.set i (.own c)
    | _, _ => ρ
  | _ => ρ
/-- no error leaves -/
def R.calm {α : Type} : R α → R α
  | .er _ _ _ => .no
  | x => x
def nobB : Slot → Bool
  | .own _ => false
  | .bor _ => false
  | _ => true
/-- the slot of a comprehension holds what is never written -/
def nobR {α : Type} (i : Nat) (ρ : Env) (r : R α) : R α := match nobB (ρ.at i) with
  | true => r
  | false => .no
/-- an error leaves a comprehension's turn -/
def R.sft {α : Type} (i : Nat) : R α → R α
  | .er c fs ρ => match nobB (ρ.at i) with
    | true => .er c fs ρ
    | false => .no
  | x => x
/-- the items of a comprehension -/
def lcRun (i : Nat) (c : Env → R Bool) (f : Env → R D) : List D → Env → R (List D)
  | [], ρ => .ok [] ρ
  | x :: xs, ρ => ((c (ρ.set i (.d x))).sft i).bind fun b ρ => match b with
    | true => ((f ρ).sft i).bind fun y ρ => nobR i ρ ((lcRun i c f xs ρ).bind fun ys ρ => .ok (y :: ys) ρ)
    | false => nobR i ρ (lcRun i c f xs ρ)
/-- the pairs of a comprehension whose keys are tuples -/
def dcRun (i : Nat) (c : Env → R Bool) (fk : Env → R (List D)) (f : Env → R D) : List D → Env → R (List (List Key × D))
  | [], ρ => .ok [] ρ
  | x :: xs, ρ => (c (ρ.set i (.d x))).calm.bind fun b ρ => match b with
    | true => (fk ρ).calm.bind fun ks ρ => match D.keys? ks with
      | some k => if ks.length ≤ line then (f ρ).calm.bind fun y ρ => nobR i ρ ((dcRun i c fk f xs ρ).bind fun ys ρ => .ok ((k, y) :: ys) ρ) else .no
      | none => .no
    | false => nobR i ρ (dcRun i c fk f xs ρ)
def R.dcEnd (r : R (List (List Key × D))) (i : Nat) (v : IV) (ρ : Env) : R IV := match ρ.at i with
  | .un => r.bind fun ys ρ' => .ok (.fr (.dT (putAll [] ys))) ((unlend ρ ρ' v).set i .un)
  | .d x => r.bind fun ys ρ' => .ok (.fr (.dT (putAll [] ys))) ((unlend ρ ρ' v).set i (.d x))
  | _ => .no
/-- behind a comprehension: its slot is as it was -/
def R.lcX (r : R (List D)) (i : Nat) (v : IV) (ρ : Env) (s : Slot) : R IV := match r with
  | .ok ys ρ' => .ok (.fr (.lst ys)) ((unlend ρ ρ' v).set i s)
  | .er c fs ρ' => .er c fs ((unlend ρ ρ' v).set i s)
  | .no => .no
def R.lcEnd (r : R (List D)) (i : Nat) (v : IV) (ρ : Env) : R IV := match ρ.at i with
  | .un => r.lcX i v ρ .un
  | .d x => r.lcX i v ρ (.d x)
  | _ => .no
abbrev Fn := Nat → Env → FR
/-- an argument's slot in the callee, by the parameter's way -/
def handed (ρ : Env) (m : Nat) : IV → Option Slot
  | .d x => some (.d x)
  | .fr _ => none
  | .sl i => match ρ.at i, m with
    | .own c, 1 => some (.bor c)
    | .own c, 2 => some (.own c)
    | .bor c, 1 => some (.bor c)
    | .exc c fs, _ => some (.exc c fs)
    | _, _ => none
def handAll (T : Tb) (f : Nat) (ρ : Env) : Nat → List IV → Option Env
  | _, [] => some []
  | j, v :: vs => match handed ρ (T.md f j) v, handAll T f ρ (j + 1) vs with
    | some s, some ss => some (s :: ss)
    | _, _ => none
/-- the slots that are handed in to be written, none twice, none lent besides -/
def slotsOf : List IV → List Nat
  | [] => []
  | .sl i :: vs => i :: slotsOf vs
  | _ :: vs => slotsOf vs
/-- behind the call -/
def back (T : Tb) (f : Nat) (ps : Env) : Nat → List IV → Env → Option Env
  | _, [], ρ => some ρ
  | j, .sl i :: vs, ρ => match ρ.at i, T.md f j with
    | .own _, 2 => match ps.at j with
      | .own c => back T f ps (j + 1) vs (ρ.set i (.own c))
      | _ => none
    | _, _ => back T f ps (j + 1) vs ρ
  | j, _ :: vs, ρ => back T f ps (j + 1) vs ρ
def backR (T : Tb) (f : Nat) (ps : Env) (vs : List IV) (ρ : Env) (r : Env → R IV) : R IV := match back T f ps 0 vs ρ with
  | some ρ => r ρ
  | none => .no
/-- arguments that the callee may keep are kept ahead of the call -/
def prepV (np m : Nat) (v : IV) (ρ : Env) : Option (IV × Env) := match v with
  | .sl i => if m = 0 then (match ρ.at i with
    | .own c => if i < np then none else some (.d c.toD, ρ.set i (.d c.toD))
    | _ => some (.sl i, ρ)) else some (.sl i, ρ)
  | v => some (v, ρ)
def prep (T : Tb) (np f : Nat) : Nat → List IV → Env → R (List IV)
  | _, [], ρ => .ok [] ρ
  | j, v :: vs, ρ => match prepV np (T.md f j) v ρ with
    | some p => (prep T np f (j + 1) vs p.2).bind fun vs ρ => .ok (p.1 :: vs) ρ
    | none => .no
/-- the parameters behind self -/
def Tb.sh (T : Tb) : Tb := { T with md := fun f j => T.md f (j + 1) }
def callR (T : Tb) (fn : Fn) (np f : Nat) (vs : List IV) (ρ : Env) : R IV := (prep T np f 0 vs ρ).bind fun vs ρ => match handAll T f ρ 0 vs with
  | some as => if (slotsOf vs).Nodup then match fn f as with
      | .ok v ps => backR T f ps vs ρ fun ρ => .ok v ρ
      | .er c fs ps => backR T f ps vs ρ fun ρ => .er c fs ρ
      | .no => .no
    else .no
  | none => .no

/-- C(e, ..): its def writes the object without fields that it is handed -/
def newR (T : Tb) (fn : Fn) (np c : Nat) (vs : List IV) (ρ : Env) : R IV := if c < T.nc then (prep T.sh np (T.ini c) 0 vs ρ).bind fun vs ρ => match handAll T.sh (T.ini c) ρ 0 vs with
  | some as => if (slotsOf vs).Nodup then match fn (T.ini c) (.own (.ob c []) :: as) with
      | .ok (.d .non) ps => match ps.at 0 with
        | .own (.ob c' es) => backR T.sh (T.ini c) ps.tail vs ρ fun ρ => .ok (.d (.obj c' (es.map (·.2)))) ρ
        | _ => .no
      | .er e fs ps => backR T.sh (T.ini c) ps.tail vs ρ fun ρ => .er e fs ρ
      | _ => .no
    else .no
  | none => .no
  else .no
/-- a method's object -/
def isObj (c : Nat) : D → Bool
  | .obj k _ => k == c
  | _ => false

/-- fresh objects kept, slots left -/
def kpF : IV → Env → R IV
  | .fr c, ρ => .ok (.d c.toD) ρ
  | v, ρ => .ok v ρ
abbrev R.kept (np : Nat) (r : R IV) : R D := r.bind fun x ρ => kp np ρ x
abbrev R.held (r : R IV) : R IV := r.bind fun x ρ => kpF x ρ
def seen (ρ : Env) (x : IV) (f : D → R α) : R α := match vw ρ x with
  | some d => f d
  | none => .no
/-- as a test -/
abbrev R.tru (r : R IV) : R Bool := r.bind fun x ρ => seen ρ x fun d => match truD d with
  | some b => .ok b ρ
  | none => .no
/-- a part of a slice -/
def prtR (np : Nat) (nl : Bool) (r : Env → R IV) (ρ : Env) : R (Option Int) := match nl with
  | true => .ok none ρ
  | false => ((r ρ).kept np).bind fun d ρ => match d with
    | .int i => .ok (some i) ρ
    | _ => .no
/-- no part -/
def IE.nl : IE → Bool
  | .lit .non => true
  | _ => false
def Tb.tok (T : Tb) : TY → Bool
  | .cls c => decide (c < T.nc)
  | .exc c => decide (c < T.ne)
  | _ => true
/-- the error in a slot -/
def excAt (ρ : Env) : IV → Option (Nat × List D)
  | .sl i => match ρ.at i with
    | .exc c fs => some (c, fs)
    | _ => none
  | _ => none
/-- what isinstance may be asked of -/
def isTyN : D → Bool
  | .st _ => false
  | _ => true
def isiR (T : Tb) (t : TY) (x : IV) (ρ : Env) : R IV := if T.tok t = true then match excAt ρ x with
  | some p => .ok (.d (.bl (isE T p.1 t))) ρ
  | none => seen ρ x fun x => match isTyN x with
    | true => .ok (.d (.bl (isTy x t))) ρ
    | false => .no
  else .no
def fldR (T : Tb) (n : Str) (x : IV) (ρ : Env) : R IV := match excAt ρ x with
  | some p => .dat ρ (fieldE T p.1 p.2 n)
  | none => seen ρ x fun x => .dat ρ (fieldD T x n)
section
variable (T : Tb) (fn : Fn) (np : Nat)
mutual
def ev : IE → Env → R IV
  | .var i, ρ => match ρ.at i with
    | .d x => .ok (.d x) ρ
    | .un => .no
    | _ => .ok (.sl i) ρ
  | .lit d, ρ => if flatD d then .ok (.d d) ρ else .no
  | .tup es, ρ => (evs es ρ).bind fun ds ρ => if ds.length ≤ line then .ok (.d (.tup ds)) ρ else .no
  | .lst es, ρ => (evs es ρ).bind fun ds ρ => if ds.length ≤ line then .ok (.fr (.lst ds)) ρ else .no
  | .dct ps, ρ => (evp ps ρ).bind fun kvs ρ => if kvs.length ≤ 15 then .ok (.fr (.dK (putAll [] kvs))) ρ else .no
  | .bin op a b, ρ => (ev a ρ).held.bind fun x ρ => (ev b ρ).bind fun y ρ => seen ρ x fun x => seen ρ y fun y => .val ρ (opB op x y)
  | .neg a, ρ => ((ev a ρ).kept np).bind fun x ρ => match x with
    | .int i => .ok (.d (.int (-i))) ρ
    | _ => .no
  | .cmp op a b, ρ => (ev a ρ).held.bind fun x ρ => (ev b ρ).bind fun y ρ => seen ρ x fun x => seen ρ y fun y => .bool ρ (opC op x y)
  | .gc n, ρ => if n < T.nk ∧ flatD (T.gc n) = true then .ok (.d (T.gc n)) ρ else .no
  | .ch op op' a b c, ρ => (ev a ρ).held.bind fun x ρ => (ev b ρ).held.bind fun y ρ => seen ρ x fun dx => seen ρ y fun dy => match opC op dx dy with
    | some true => (ev c ρ).bind fun z ρ => seen ρ y fun dy => seen ρ z fun dz => .bool ρ (opC op' dy dz)
    | some false => .ok (.d (.bl false)) ρ
    | none => .no
  | .bm m a es, ρ => (ev a ρ).held.bind fun x ρ => seen ρ x fun d => match d with
    | .str z => (evA es ρ).bind fun vs ρ => match vs.mapM (vw ρ) with
      | some ds => .dat ρ (opM m z ds)
      | none => .no
    | _ => .no
  | .isN a, ρ => (ev a ρ).bind fun x ρ => seen ρ x fun x => match x with
    | .non => .ok (.d (.bl true)) ρ
    | _ => .ok (.d (.bl false)) ρ
  | .notN a, ρ => (ev a ρ).bind fun x ρ => seen ρ x fun x => match x with
    | .non => .ok (.d (.bl false)) ρ
    | _ => .ok (.d (.bl true)) ρ
  | .and a b, ρ => (ev a ρ).held.bind fun x ρ => seen ρ x fun d => match truD d with
    | some true => ev b ρ
    | some false => .ok x ρ
    | none => .no
  | .or a b, ρ => (ev a ρ).held.bind fun x ρ => seen ρ x fun d => match truD d with
    | some true => .ok x ρ
    | some false => ev b ρ
    | none => .no
  | .not a, ρ => (ev a ρ).tru.bind fun b ρ => .ok (.d (.bl (!b))) ρ
  | .ife c a b, ρ => (ev c ρ).tru.bind fun t ρ => match t with
    | true => ev a ρ
    | false => ev b ρ
  | .ix a b, ρ => (ev a ρ).held.bind fun x ρ => ((ev b ρ).kept np).bind fun y ρ => seen ρ x fun x => .dat ρ (opI x y)
  | .slc a lo hi, ρ => (ev a ρ).held.bind fun x ρ => (prtR np lo.nl (fun ρ => ev lo ρ) ρ).bind fun l ρ => (prtR np hi.nl (fun ρ => ev hi ρ) ρ).bind fun h ρ => seen ρ x fun x => .val ρ (opS x l h)
  | .call f es, ρ => (evA es ρ).bind fun vs ρ => callR T fn np f vs ρ
  | .bi f es, ρ => (evA es ρ).bind fun vs ρ => match vs.mapM (vw ρ) with
    | some ds => .val ρ (opF f ds)
    | none => .no
  | .isi a t, ρ => (ev a ρ).held.bind fun x ρ => isiR T t x ρ
  | .fld a n, ρ => (ev a ρ).held.bind fun x ρ => fldR T n x ρ
  | .lc elt i it hasIf c, ρ => (evI it ρ).bind fun p ρ =>
    (lcRun i (fun ρ => match hasIf with
      | true => (ev c ρ).tru
      | false => .ok true ρ) (fun ρ => (ev elt ρ).kept np) p.2 ((lend ρ p.1).set i .un)).lcEnd i p.1 ρ
  | .scnt a lo hi b, ρ => (ev a ρ).held.bind fun x ρ => (prtR np lo.nl (fun ρ => ev lo ρ) ρ).bind fun l ρ => (prtR np hi.nl (fun ρ => ev hi ρ) ρ).bind fun h ρ => seen ρ x fun d => match d with
    | .tup z => if HT.sIx z.length 0 l = 0 ∧ HT.sIx z.length z.length h = z.length then .no else ((ev b ρ).kept np).bind fun y ρ => .dat ρ (cntD (cut z l h) y)
    | _ => .no
  | .isiT a ts, ρ => (ev a ρ).held.bind fun x ρ => if ts.all T.tok = true ∧ ts.length ≤ 20 then seen ρ x fun d => match isTyN d with
      | true => .ok (.d (.bl (ts.any fun t => isTy d t))) ρ
      | false => .no
    else .no
  | .revL a, ρ => (ev a ρ).held.bind fun x ρ => seen ρ x fun d => match d with
    | .lst xs => .ok (.fr (.lst xs.reverse)) ρ
    | _ => .no
  | .revT a, ρ => (ev a ρ).held.bind fun x ρ => seen ρ x fun d => match d with
    | .lst xs => .ok (.d (.tup xs.reverse)) ρ
    | _ => .no
  | .dctT, ρ => .ok (.fr (.dT [])) ρ
  | .dcT ks v i it hasIf c, ρ => (evI it ρ).bind fun p ρ =>
    (dcRun i (fun ρ => match hasIf with
      | true => (ev c ρ).tru
      | false => .ok true ρ) (fun ρ => evs ks ρ) (fun ρ => (ev v ρ).kept np) p.2 ((lend ρ p.1).set i .un)).dcEnd i p.1 ρ
  | .new c es, ρ => (evA es ρ).bind fun vs ρ => newR T fn np c vs ρ
  | .inO neg c f a o, ρ => ((ev a ρ).kept np).bind fun x ρ => ((ev o ρ).kept np).bind fun y ρ => if isObj c y = true then (callR T fn np f [.d y, .d x] ρ).calm.bind fun v ρ => match v with
      | .d (.bl b) => .ok (.d (.bl (if neg then !b else b))) ρ
      | _ => .no
    else .no
  | .ixO c f o i, ρ => ((ev o ρ).kept np).bind fun y ρ => ((ev i ρ).kept np).bind fun x ρ => if isObj c y = true then callR T fn np f [.d y, .d x] ρ else .no
  | .mt c f o es, ρ => ((ev o ρ).kept np).bind fun y ρ => if isObj c y = true ∧ T.mn f ∉ T.of c then (evs es ρ).bind fun xs ρ => callR T fn np f (.d y :: xs.map .d) ρ else .no
def evs : IEs → Env → R (List D)
  | .nil, ρ => .ok [] ρ
  | .cons e es, ρ => ((ev e ρ).kept np).bind fun x ρ => (evs es ρ).bind fun xs ρ => .ok (x :: xs) ρ
/-- arguments: fresh objects kept, slots left -/
def evA : IEs → Env → R (List IV)
  | .nil, ρ => .ok [] ρ
  | .cons e es, ρ => (ev e ρ).held.bind fun x ρ => (evA es ρ).bind fun xs ρ => .ok (x :: xs) ρ
def evp : IEs → Env → R (List (Key × D))
  | .nil, ρ => .ok [] ρ
  | .cons _ .nil, _ => .no
  | .cons k (.cons v ps), ρ => ((ev k ρ).kept np).bind fun k ρ => ((ev v ρ).kept np).bind fun v ρ => (evp ps ρ).bind fun kvs ρ => match k.key? with
    | some k => .ok ((k, v) :: kvs) ρ
    | none => .no
def evI : IT → Env → R (IV × List D)
  | .e a, ρ => (ev a ρ).held.bind fun x ρ => seen ρ x fun d => match walkD d with
    | some xs => if xs.length ≤ line then .ok (x, xs) ρ else .no
    | none => .no
  | .rng a, ρ => ((ev a ρ).kept np).bind fun x ρ => match x with
    | .int j => if rngOk 0 j then .ok (.d .non, rngD 0 j) ρ else .no
    | _ => .no
  | .rng2 a b, ρ => ((ev a ρ).kept np).bind fun x ρ => ((ev b ρ).kept np).bind fun y ρ => match x, y with
    | .int i, .int j => if rngOk i j then .ok (.d .non, rngD i j) ρ else .no
    | _, _ => .no
  | .txt a, ρ => ((ev a ρ).kept np).bind fun x ρ => match x with
    | .str z => if z.length ≤ line then .ok (.d .non, z.cps.toList.map fun c => .str ⟨#[c]⟩) ρ else .no
    | _ => .no
end

/-! ### statements -/
/-- how a statement ends -/
inductive O where
  | nx (ρ : Env) | rt (v : IV) (ρ : Env) | bk (ρ : Env) | ct (ρ : Env) | er (c : Nat) (fs : List D) (ρ : Env) | no
  deriving Inhabited
@[reducible] def R.to {α : Type} (x : R α) (f : α → Env → O) : O := match x with
  | .ok a ρ => f a ρ
  | .er c fs ρ => .er c fs ρ
  | .no => .no
@[reducible] def O.then (x : O) (f : Env → O) : O := match x with
  | .nx ρ => f ρ
  | x => x
/-- slot i = a value: a parameter's slot takes data alone, and not where it is to be written -/
def store (np i : Nat) (ρ : Env) : IV → R Unit
  | .fr c => if i < np then (match ρ.at i with
      | .own _ => .no
      | _ => .ok () (ρ.set i (.d c.toD))) else .ok () (ρ.set i (.own c))
  | v => (kp np ρ v).bind fun x ρ => if i < np then (match ρ.at i with
      | .own _ => .no
      | _ => .ok () (ρ.set i (.d x))) else .ok () (ρ.set i (.d x))
def storeAll (np : Nat) : List Nat → List D → Env → R Unit
  | [], [], ρ => .ok () ρ
  | i :: is, x :: xs, ρ => (store np i ρ (.d x)).bind fun _ ρ => storeAll np is xs ρ
  | _, _, _ => .no
/-- a loop over items -/
def forRun (np i : Nat) (b : Env → O) : List D → Env → O
  | [], ρ => .nx ρ
  | x :: xs, ρ => (store np i ρ (.d x)).to fun _ ρ => match b ρ with
    | .nx ρ => forRun np i b xs ρ
    | .ct ρ => forRun np i b xs ρ
    | .bk ρ => .nx ρ
    | .rt v ρ => .rt v ρ
    | .er c fs ρ => .er c fs ρ
    | .no => .no
/-- a loop over items that are tuples -/
def forRunT (np : Nat) (is : List Nat) (b : Env → O) : List D → Env → O
  | [], ρ => .nx ρ
  | x :: xs, ρ => (match x with
    | .tup ds => storeAll np is ds ρ
    | _ => .no).to fun _ ρ => match b ρ with
    | .nx ρ => forRunT np is b xs ρ
    | .ct ρ => forRunT np is b xs ρ
    | .bk ρ => .nx ρ
    | .rt v ρ => .rt v ρ
    | .er c fs ρ => .er c fs ρ
    | .no => .no
/-- while -/
def whRun (c : Env → R Bool) (b : Env → O) : Nat → Env → O
  | 0, _ => .no
  | n + 1, ρ => (c ρ).to fun t ρ => match t with
    | false => .nx ρ
    | true => match b ρ with
      | .nx ρ => whRun c b n ρ
      | .ct ρ => whRun c b n ρ
      | .bk ρ => .nx ρ
      | .rt v ρ => .rt v ρ
      | .er c fs ρ => .er c fs ρ
      | .no => .no
/-- behind a loop: what was lent is given back -/
def O.back (ρ0 : Env) (v : IV) : O → O
  | .nx ρ => .nx (unlend ρ0 ρ v)
  | .er c fs ρ => .er c fs (unlend ρ0 ρ v)
  | .rt x ρ => .rt x (unlend ρ0 ρ v)
  | .bk ρ => .bk ρ
  | .ct ρ => .ct ρ
  | .no => .no
def cnPut (k v : D) : Cn → Option Cn
  | .dK kvs => match k.key? with
    | some k => if kvs.length < line then some (.dK (put kvs k v)) else none
    | none => none
  | .lst xs => match k with
    | .int j => match L2.ixN xs.length j with
      | some j => some (.lst (xs.set j v))
      | none => none
    | _ => none
  | _ => none
/-- the same, the key a tuple -/
def cnPutT (ks : List D) (v : D) : Cn → Option Cn
  | .dT kvs => match D.keys? ks with
    | some k => if ks.length ≤ line ∧ kvs.length < line then some (.dT (put kvs k v)) else none
    | none => none
  | _ => none
def Slot.unE : Slot → Slot
  | .exc _ _ => .un
  | s => s
/-- behind a suite that holds an error: the error is gone, and no other leaves -/
def goneE (i : Nat) (ρ : Env) : Env := (ρ.map Slot.unE).set i .un
def gone (i : Nat) : O → O
  | .nx ρ => .nx (goneE i ρ)
  | .rt v ρ => .rt v (goneE i ρ)
  | .bk ρ => .bk (goneE i ρ)
  | .ct ρ => .ct (goneE i ρ)
  | .er _ _ _ => .no
  | .no => .no
def isOwn : Slot → Bool
  | .own _ => true
  | _ => false
def isLst : Slot → Bool
  | .own (.lst _) => true
  | _ => false
/-- a value given back: a slot that is owned, and no parameter's, is left -/
def retO (np : Nat) (v : IV) (ρ : Env) : O := match v with
  | .sl i => match ρ.at i with
    | .own c => if i < np then .no else .rt (.fr c) (ρ.set i .un)
    | _ => .no
  | v => .rt v ρ
def isOb : Slot → Bool
  | .own (.ob _ _) => true
  | _ => false
def isSet : Slot → Bool
  | .own (.st _) => true
  | _ => false
mutual
/-- no clauses within -/
def IS.noTry : IS → Bool
  | .ifS _ a b => a.noTry && b.noTry
  | .forS _ _ b => b.noTry
  | .forT _ _ b => b.noTry
  | .tryS _ _ => false
  | .whl _ _ => false
  | _ => true
def ISs.noTry : ISs → Bool
  | .nil => true
  | .cons s ss => s.noTry && ss.noTry
end
mutual
def ex : IS → Env → O
  | .asg i e, ρ => (ev T fn np e ρ).to fun v ρ => (store np i ρ v).to fun _ ρ => .nx ρ
  | .asgT is e, ρ => ((ev T fn np e ρ).kept np).to fun x ρ => match x with
    | .tup xs => (storeAll np is xs ρ).to fun _ ρ => .nx ρ
    | _ => .no
  | .put i k v, ρ => match isOwn (ρ.at i) with
    | true => ((ev T fn np v ρ).kept np).to fun v ρ => ((ev T fn np k ρ).kept np).to fun k ρ => match ρ.at i with
      | .own c => match cnPut k v c with
        | some c => .nx (ρ.set i (.own c))
        | none => .no
      | _ => .no
    | false => .no
  | .putT i ks v, ρ => match isOwn (ρ.at i) with
    | true => ((ev T fn np v ρ).kept np).to fun v ρ => (evs T fn np ks ρ).to fun ks ρ => match ρ.at i with
      | .own c => match cnPutT ks v c with
        | some c => .nx (ρ.set i (.own c))
        | none => .no
      | _ => .no
    | false => .no
  | .expr e, ρ => (ev T fn np e ρ).to fun _ ρ => .nx ρ
  | .fst i n e, ρ => match isOb (ρ.at i) with
    | true => ((ev T fn np e ρ).kept np).to fun x ρ => match ρ.at i with
      | .own (.ob c es) => if ((T.of c)[es.length]? = some n ∧ es.length < 900) ∧ n ∉ es.map (·.1) then .nx (ρ.set i (.own (.ob c (es ++ [(n, x)])))) else .no
      | _ => .no
    | false => .no
  | .sadd i e, ρ => match isSet (ρ.at i) with
    | true => ((ev T fn np e ρ).kept np).to fun x ρ => match ρ.at i, x.key? with
      | .own (.st ks), some k => if ks.length < 4000 then .nx (ρ.set i (.own (.st (addK ks k)))) else .no
      | _, _ => .no
    | false => .no
  | .app i e, ρ => match isLst (ρ.at i) with
    | true => ((ev T fn np e ρ).kept np).to fun x ρ => match ρ.at i with
      | .own (.lst xs) => if xs.length < line then .nx (ρ.set i (.own (.lst (xs ++ [x])))) else .no
      | _ => .no
    | false => .no
  | .ret e, ρ => (ev T fn np e ρ).to fun v ρ => retO np v ρ
  | .retN, ρ => .rt (.d .non) ρ
  | .ifS c a b, ρ => (ev T fn np c ρ).tru.to fun t ρ => match t with
    | true => exs a ρ
    | false => exs b ρ
  | .forS i it b, ρ => (evI T fn np it ρ).to fun p ρ => (forRun np i (fun ρ => exs b ρ) p.2 (lend ρ p.1)).back ρ p.1
  | .forT is it b, ρ => (evI T fn np it ρ).to fun p ρ => (forRunT np is (fun ρ => exs b ρ) p.2 (lend ρ p.1)).back ρ p.1
  | .aug i op e, ρ => match ρ.at i with
    | .d x => ((ev T fn np e ρ).kept np).to fun y ρ => match ρ.at i with
      | .d _ => match augD op x y with
        | some z => .nx (ρ.set i (.d z))
        | none => .no
      | _ => .no
    | _ => .no
  | .whl c b, ρ => whRun (fun ρ => (ev T fn np c ρ).tru) (fun ρ => exs b ρ) line ρ
  | .brk, ρ => .bk ρ
  | .cont, ρ => .ct ρ
  | .pass, ρ => .nx ρ
  | .raise c es, ρ => (evs T fn np es ρ).to fun ds ρ => if c < T.ne ∧ ds.length = (T.ef c).length ∧ ds.length ≤ 20 then .er c ds ρ else .no
  | .tryS b hs, ρ => match exs b ρ with
    | .er c fs ρ => exh hs c fs ρ
    | o => o
def exs : ISs → Env → O
  | .nil, ρ => .nx ρ
  | .cons s ss, ρ => (ex s ρ).then fun ρ => exs ss ρ
def exh : IHs → Nat → List D → Env → O
  | .nil, c, fs, ρ => .er c fs ρ
  | .cons k i s hs, c, fs, ρ => if k < T.ne ∧ s.noTry = true then match T.es c k with
    | true => gone i (exs s (ρ.set i (.exc c fs)))
    | false => exh hs c fs ρ
    else .no
end
end

/-- a def: its parameters' number, its slots' number, its body -/
structure Fd where
  np : Nat
  ns : Nat
  body : ISs
/-- what the caller sees of the parameters: those that were to be written -/
def mask : Env → Env → Env
  | .own _ :: as, s :: ρ => s :: mask as ρ
  | _ :: as, _ :: ρ => .un :: mask as ρ
  | _, _ => []
def O.end (as : Env) : O → FR
  | .nx ρ => .ok (.d .non) (mask as ρ)
  | .rt v ρ => .ok v (mask as ρ)
  | .er c fs ρ => .er c fs (mask as ρ)
  | _ => .no
def runF (T : Tb) (fds : Nat → Option Fd) : Nat → Fn
  | 0, _, _ => .no
  | k + 1, f, as => match fds f with
    | some d => if as.length = d.np then (exs T (runF T fds k) d.np d.body (as ++ List.replicate (d.ns - d.np) .un)).end as else .no
    | none => .no
end EN
/-! How values stand in the heap. -/
namespace EN
open PySem L2
abbrev Frag := PySem.W.Frag

/-- what a body stands on: the written part, its classes, the parameters' number and values, the heap at its entry, the error that is held -/
structure G0 where
  K : Frag
  T : Tb
  ec : Nat → Addr
  oc : Nat → Addr
  /-- the error that a suite holds: its object, class, dict -/
  pn : Option (Addr × Value × Option Addr)
  P : Program
  w : World
structure Gam extends G0 where
  np : Nat
  s0 : L2.St
  h0 : Hp
instance : Coe Gam G0 := ⟨Gam.toG0⟩

/-- the value x is d, by what stands in F for good -/
inductive Rep (g : G0) (F : Hp) : V → D → Prop
  | non : Rep g F .non .non
  | bl (b : Bool) : Rep g F (.bl b) (.bl b)
  | int (i : Int) : Rep g F (.int i) (.int i)
  | str (x : Str) : Rep g F (.str x) (.str x)
  | tup {a : Addr} {vs : List V} {ds : List D} (h : SqT g.K F a vs) (e : vs.length = ds.length) (r : ∀ (i : Nat) (v : V) (d : D), vs[i]? = some v → ds[i]? = some d → Rep g F v d) : Rep g F (.ref a) (.tup ds)
  | lst {a : Addr} {vs : List V} {ds : List D} (h : F a = some (.lst vs)) (e : vs.length = ds.length) (r : ∀ (i : Nat) (v : V) (d : D), vs[i]? = some v → ds[i]? = some d → Rep g F v d) : Rep g F (.ref a) (.lst ds)
  | scr {a : Addr} {ns : List Int} (h : SqL g.K F a (ns.map V.int)) : Rep g F (.ref a) (.scr ns)
  | dK {a : Addr} {kvs : List (Key × V)} {ks : List Key} {ds : List D} (h : F a = some (.dK kvs)) (hk : kvs.map (·.1) = ks) (e : (kvs.map (·.2)).length = ds.length)
      (r : ∀ (i : Nat) (v : V) (d : D), (kvs.map (·.2))[i]? = some v → ds[i]? = some d → Rep g F v d) : Rep g F (.ref a) (.dK ks ds)
  | dT {a : Addr} {kvs : List (List Key × V)} {ks : List (List Key)} {ds : List D} (h : F a = some (.dT kvs)) (hk : kvs.map (·.1) = ks) (e : (kvs.map (·.2)).length = ds.length)
      (r : ∀ (i : Nat) (v : V) (d : D), (kvs.map (·.2))[i]? = some v → ds[i]? = some d → Rep g F v d) : Rep g F (.ref a) (.dT ks ds)
  | st {a : Addr} {ks : List Key} (h : F a = some (HSet g.P g.w a ks)) : Rep g F (.ref a) (.st ks)
  | obj {a dx : Addr} {c : Nat} {fs : List (Str × V)} {ds : List D} (hc : c < g.T.nc) (h : F a = some (.ins (g.oc c) dx fs)) (hk : fs.map (·.1) = (g.T.of c).take ds.length) (e : (fs.map (·.2)).length = ds.length)
      (r : ∀ (i : Nat) (v : V) (d : D), (fs.map (·.2))[i]? = some v → ds[i]? = some d → Rep g F v d) : Rep g F (.ref a) (.obj c ds)
/-- item by item -/
def Rps (g : G0) (F : Hp) (vs : List V) (ds : List D) : Prop := vs.length = ds.length ∧ ∀ (i : Nat) (v : V) (d : D), vs[i]? = some v → ds[i]? = some d → Rep g F v d

section
variable {g : G0} {F F' H H' : Hp} {x v : V} {d : D} {vs ws : List V} {ds es : List D}
theorem sm_t {K : Frag} {a : Addr} {xs : List V} (e : Same F F') (h : SqT K F a xs) : SqT K F' a xs := by
  rcases h with (h | ⟨o, h⟩) | h
  · exact Or.inl (Or.inl (e a _ h))
  · exact Or.inl (Or.inr ⟨o, e a _ h⟩)
  · exact Or.inr h
theorem Rep.mono (e : Same F F') (h : Rep g F x d) : Rep g F' x d := by
  induction h with
  | non => exact .non
  | bl b => exact .bl b
  | int i => exact .int i
  | str x => exact .str x
  | tup h e' _ ih => exact .tup (sm_t e h) e' ih
  | lst h e' _ ih => exact .lst (e _ _ h) e' ih
  | scr h => exact .scr (Same.seq e h)
  | dK h hk e' _ ih => exact .dK (e _ _ h) hk e' ih
  | dT h hk e' _ ih => exact .dT (e _ _ h) hk e' ih
  | st h => exact .st (e _ _ h)
  | obj hc h hk e' _ ih => exact .obj hc (e _ _ h) hk e' ih
theorem Rps.mono (e : Same F F') (h : Rps g F vs ds) : Rps g F' vs ds := ⟨h.1, fun i v d a b => (h.2 i v d a b).mono e⟩
theorem Rps.nil : Rps g F [] [] := ⟨rfl, fun i v d a => by simp at a⟩
theorem Rps.cons (h : Rep g F v d) (r : Rps g F vs ds) : Rps g F (v :: vs) (d :: ds) := ⟨by simp [r.1], fun i w u a b => by
  cases i with
  | zero => simp at a b; subst a; subst b; exact h
  | succ i => simp at a b; exact r.2 i w u a b⟩
theorem Rps.head (r : Rps g F (v :: vs) (d :: ds)) : Rep g F v d := r.2 0 v d rfl rfl
theorem Rps.tail (r : Rps g F (v :: vs) (d :: ds)) : Rps g F vs ds := ⟨by have := r.1; simpa using this, fun i w u a b => r.2 (i + 1) w u (by simpa using a) (by simpa using b)⟩
theorem Rps.append (r : Rps g F vs ds) (q : Rps g F ws es) : Rps g F (vs ++ ws) (ds ++ es) := by
  refine ⟨by simp [r.1, q.1], fun i w u a b => ?_⟩
  rcases Nat.lt_or_ge i vs.length with h | h
  · rw [List.getElem?_append_left h] at a
    rw [List.getElem?_append_left (by rw [← r.1]; exact h)] at b
    exact r.2 i w u a b
  · rw [List.getElem?_append_right h] at a
    rw [List.getElem?_append_right (by rw [← r.1]; exact h)] at b
    exact q.2 _ w u a (by rw [r.1]; exact b)
theorem Rps.at (r : Rps g F vs ds) {i : Nat} (h : ds[i]? = some d) : ∃ v, vs[i]? = some v ∧ Rep g F v d := by
  have hi : i < ds.length := (List.getElem?_eq_some_iff.mp h).1
  have hv : i < vs.length := by rw [r.1]; exact hi
  exact ⟨vs[i], List.getElem?_eq_getElem hv, r.2 i _ d (List.getElem?_eq_getElem hv) h⟩
theorem Rps.atV (r : Rps g F vs ds) {i : Nat} (h : vs[i]? = some v) : ∃ d, ds[i]? = some d ∧ Rep g F v d := by
  have hi : i < vs.length := (List.getElem?_eq_some_iff.mp h).1
  have hv : i < ds.length := by rw [← r.1]; exact hi
  exact ⟨ds[i], List.getElem?_eq_getElem hv, r.2 i v _ h (List.getElem?_eq_getElem hv)⟩
theorem Rps.of (e : vs.length = ds.length) (r : ∀ (i : Nat) (v : V) (d : D), vs[i]? = some v → ds[i]? = some d → Rep g F v d) : Rps g F vs ds := ⟨e, r⟩
theorem Rps.drop (r : Rps g F vs ds) (n : Nat) : Rps g F (vs.drop n) (ds.drop n) := ⟨by simp [r.1], fun i w u a b => r.2 (n + i) w u (by simpa [List.getElem?_drop] using a) (by simpa [List.getElem?_drop] using b)⟩
theorem Rps.take (r : Rps g F vs ds) (n : Nat) : Rps g F (vs.take n) (ds.take n) := ⟨by simp [r.1], fun i w u a b => by
  rw [List.getElem?_take] at a b
  split at a
  · rename_i h
    rw [if_pos h] at b
    exact r.2 i w u a b
  · cases a⟩
theorem Rps.set (r : Rps g F vs ds) (h : Rep g F v d) (j : Nat) : Rps g F (vs.set j v) (ds.set j d) := ⟨by simp [r.1], fun i w u a b => by
  rw [List.getElem?_set] at a b
  by_cases hj : j = i
  · rw [if_pos hj] at a b
    split at a
    · split at b
      · cases a; cases b; exact h
      · cases b
    · cases a
  · rw [if_neg hj] at a b
    exact r.2 i w u a b⟩
end

/-- what an owned object at p holds -/
inductive CRep (g : G0) (F H : Hp) (p : Addr) : Cn → Prop
  | lst {vs : List V} {ds : List D} (h : H p = some (.lst vs)) (r : Rps g F vs ds) : CRep g F H p (.lst ds)
  | dK {kvs : List (Key × V)} {es : List (Key × D)} (h : H p = some (.dK kvs)) (hk : kvs.map (·.1) = es.map (·.1)) (r : Rps g F (kvs.map (·.2)) (es.map (·.2))) : CRep g F H p (.dK es)
  | dT {kvs : List (List Key × V)} {es : List (List Key × D)} (h : H p = some (.dT kvs)) (hk : kvs.map (·.1) = es.map (·.1)) (r : Rps g F (kvs.map (·.2)) (es.map (·.2))) : CRep g F H p (.dT es)
  | st {ks : List Key} (h : H p = some (HSet g.P g.w p ks)) : CRep g F H p (.st ks)
  | ob {dx : Addr} {c : Nat} {fs : List (Str × V)} {es : List (Str × D)} (hc : c < g.T.nc) (h : H p = some (.ins (g.oc c) dx fs)) (hk : fs.map (·.1) = es.map (·.1)) (r : Rps g F (fs.map (·.2)) (es.map (·.2))) : CRep g F H p (.ob c es)
theorem CRep.there {g : G0} {F H : Hp} {p : Addr} {c : Cn} (h : CRep g F H p c) : ∃ o, H p = some o := by
  cases h with
  | lst h _ => exact ⟨_, h⟩
  | dK h _ _ => exact ⟨_, h⟩
  | dT h _ _ => exact ⟨_, h⟩
  | st h => exact ⟨_, h⟩
  | ob _ h _ _ => exact ⟨_, h⟩
theorem CRep.mono {g : G0} {F F' H H' : Hp} {p : Addr} {c : Cn} (e : Same F F') (k : ∀ o, H p = some o → H' p = some o) (h : CRep g F H p c) : CRep g F' H' p c := by
  cases h with
  | lst h r => exact .lst (k _ h) (r.mono e)
  | dK h hk r => exact .dK (k _ h) hk (r.mono e)
  | dT h hk r => exact .dT (k _ h) hk (r.mono e)
  | st h => exact .st (k _ h)
  | ob hc h hk r => exact .ob hc (k _ h) hk (r.mono e)
/-- an owned object, kept from now on -/
def Cn.fit (T : Tb) : Cn → Bool
  | .ob c es => decide (es.map (·.1) = (T.of c).take es.length)
  | _ => true
theorem same_new {F : Hp} {p : Addr} {o : HO} (h : F p = none) : Same F (upd F p o) := fun b u e => by
  rw [upd_ne (ne_of_none e h)]
  exact e
theorem CRep.keep {g : G0} {F H : Hp} {p : Addr} {c : Cn} (h : CRep g F H p c) (hf : F p = none) (ft : c.fit g.T = true) : ∃ o, H p = some o ∧ Rep g (upd F p o) (.ref p) c.toD := by
  cases h with
  | lst h r => exact ⟨_, h, .lst upd_same r.1 fun i v d a b => (r.2 i v d a b).mono (same_new hf)⟩
  | dK h hk r => exact ⟨_, h, .dK upd_same hk r.1 fun i v d a b => (r.2 i v d a b).mono (same_new hf)⟩
  | dT h hk r => exact ⟨_, h, .dT upd_same hk r.1 fun i v d a b => (r.2 i v d a b).mono (same_new hf)⟩
  | st h => exact ⟨_, h, .st upd_same⟩
  | ob hc h hk r => exact ⟨_, h, .obj hc upd_same (by rw [List.length_map]; exact hk.trans (of_decide_eq_true ft)) r.1 fun i v d a b => (r.2 i v d a b).mono (same_new hf)⟩

/-! ### the slots -/
def Own (ρ : Env) (σ : L2.St) (i : Nat) (p : Addr) : Prop := (∃ c, ρ.at i = .own c) ∧ σ[i]? = some (some (.ref p))
def Held (ρ : Env) (σ : L2.St) (i : Nat) (p : Addr) : Prop := ((∃ c, ρ.at i = .own c) ∨ ∃ c, ρ.at i = .bor c) ∧ σ[i]? = some (some (.ref p))
def Ow (ρ : Env) (σ : L2.St) (p : Addr) : Prop := ∃ i, Own ρ σ i p
theorem Own.held {ρ : Env} {σ : L2.St} {i : Nat} {p : Addr} (h : Own ρ σ i p) : Held ρ σ i p := ⟨.inl h.1, h.2⟩
/-- the fields of an error -/
def ExF (g : G0) (F : Hp) (d : Option Addr) (c : Nat) (fs : List D) : Prop :=
  c < g.T.ne ∧ ∃ (dd : Addr) (ws : List (Str × V)), d = some dd ∧ F dd = some (.xd ws) ∧ ∀ n x, fieldE g.T c fs n = some x → ∃ v, ws.lookup n = some v ∧ Rep g F v x
theorem ExF.mono {g : G0} {F F' : Hp} {d : Option Addr} {c : Nat} {fs : List D} (e : Same F F') (h : ExF g F d c fs) : ExF g F' d c fs := by
  obtain ⟨h0, dd, ws, h1, h2, h3⟩ := h
  exact ⟨h0, dd, ws, h1, e _ _ h2, fun n x q => let ⟨v, a, b⟩ := h3 n x q; ⟨v, a, b.mono e⟩⟩
inductive SlOk (g : G0) (F : Hp) (σ : L2.St) (H : Hp) (i : Nat) : Slot → Prop
  | un : SlOk g F σ H i .un
  | d {x : D} {v : V} (h : σ[i]? = some (some v)) (r : Rep g F v x) : SlOk g F σ H i (.d x)
  | own {c : Cn} {p : Addr} (h : σ[i]? = some (some (.ref p))) (hf : F p = none) (r : CRep g F H p c) (ft : c.fit g.T = true) : SlOk g F σ H i (.own c)
  | bor {c : Cn} {p : Addr} (h : σ[i]? = some (some (.ref p))) (hf : F p = none) (r : CRep g F H p c) (ft : c.fit g.T = true) : SlOk g F σ H i (.bor c)
  | exc {c : Nat} {fs : List D} {a : Addr} {d : Option Addr} (hp : g.pn = some (a, .ref (g.ec c), d)) (h : σ[i]? = some (some (.ref a))) (f : ExF g F d c fs) : SlOk g F σ H i (.exc c fs)
structure Rl (g : Gam) (ρ : Env) (F : Hp) (σ : L2.St) (H : Hp) : Prop where
  same : Same F H
  len : ρ.length = σ.length
  sl : ∀ i, SlOk g F σ H i (ρ.at i)
  apart : ∀ i j p, i ≠ j → Own ρ σ i p → Held ρ σ j p → False
  old : ∀ i p, Own ρ σ i p → i < g.np → g.s0[i]? = some (some (.ref p))
  new : ∀ i p, Own ρ σ i p → g.np ≤ i → g.h0 p = none
/-- from one point to another -/
structure Stp (g : Gam) (ρ : Env) (F : Hp) (σ : L2.St) (H : Hp) (ρ' : Env) (F' : Hp) (σ' : L2.St) (H' : Hp) : Prop where
  rel : Rl g ρ' F' σ' H'
  ext : Same F F'
  new : ∀ a, F a = none → F' a ≠ none → H a = none ∨ Ow ρ σ a
  keep : ∀ a o, H a = some o → ¬ Ow ρ σ a → H' a = some o
  dom : ∀ a, H' a = none → H a = none
  ow : ∀ a, Ow ρ' σ' a → Ow ρ σ a ∨ H a = none
  brw : ∀ j c, ρ'.at j = .bor c → ρ.at j = .bor c ∧ σ'[j]? = σ[j]?
section
variable {g : Gam} {ρ ρ1 ρ2 : Env} {F F1 F2 H H1 H2 : Hp} {σ σ1 σ2 : L2.St}
theorem Stp.refl (r : Rl g ρ F σ H) : Stp g ρ F σ H ρ F σ H := ⟨r, Same.refl _, fun a h h' => absurd h h', fun _ _ h _ => h, fun _ h => h, fun _ h => .inl h, fun _ _ h => ⟨h, rfl⟩⟩
theorem Stp.trans (a : Stp g ρ F σ H ρ1 F1 σ1 H1) (b : Stp g ρ1 F1 σ1 H1 ρ2 F2 σ2 H2) : Stp g ρ F σ H ρ2 F2 σ2 H2 where
  rel := b.rel
  ext := a.ext.trans b.ext
  new := fun p h h' => by
    by_cases q : F1 p = none
    · rcases b.new p q h' with z | z
      · exact .inl (a.dom p z)
      · rcases a.ow p z with y | y
        · exact .inr y
        · exact .inl y
    · exact a.new p h q
  keep := fun p o h n => b.keep p o (a.keep p o h n) fun z => (a.ow p z).elim n fun y => by rw [y] at h; cases h
  dom := fun p h => a.dom p (b.dom p h)
  ow := fun p h => (b.ow p h).elim (fun z => a.ow p z) fun z => .inr (a.dom p z)
  brw := fun j c h => let ⟨x, y⟩ := b.brw j c h; let ⟨z, w⟩ := a.brw j c x; ⟨z, y.trans w⟩
end
end EN
/-! Steps between points; values on their way. -/
namespace EN
open PySem L2

theorem at_set (ρ : Env) (i j : Nat) (s : Slot) : Env.at (ρ.set i s) j = if i = j ∧ i < ρ.length then s else ρ.at j := by
  unfold Env.at
  rw [List.getD_eq_getElem?_getD, List.getD_eq_getElem?_getD, List.getElem?_set]
  by_cases h : i = j
  · subst h
    by_cases h2 : i < ρ.length
    · simp [h2]
    · simp [h2]
  · simp [h]
theorem at_set_ne {ρ : Env} {i j : Nat} {s : Slot} (h : i ≠ j) : Env.at (ρ.set i s) j = ρ.at j := by rw [at_set, if_neg fun z => h z.1]
theorem at_lt {ρ : Env} {i : Nat} (h : ρ.at i ≠ .un) : i < ρ.length := by
  rcases Nat.lt_or_ge i ρ.length with q | q
  · exact q
  · refine absurd ?_ h
    unfold Env.at
    rw [List.getD_eq_getElem?_getD, List.getElem?_eq_none q]
    rfl
theorem at_set_same {ρ : Env} {i : Nat} {s : Slot} (h : i < ρ.length) : Env.at (ρ.set i s) i = s := by rw [at_set, if_pos ⟨rfl, h⟩]
theorem notOB_un (c : Cn) : Slot.un ≠ .own c ∧ Slot.un ≠ .bor c := ⟨(fun z => nomatch z), (fun z => nomatch z)⟩
theorem notOB_d {x : D} (c : Cn) : Slot.d x ≠ .own c ∧ Slot.d x ≠ .bor c := ⟨(fun z => nomatch z), (fun z => nomatch z)⟩
section
variable {g : Gam} {ρ ρ1 ρ2 : Env} {F F1 F2 H H1 H2 : Hp} {σ σ1 σ2 : L2.St} {p : Addr} {o : HO} {i j : Nat}
theorem SlOk.mono {s : Slot} (e : Same F F1) (fr : ∀ c q, s = .own c ∨ s = .bor c → σ[i]? = some (some (.ref q)) → F1 q = none)
    (k : ∀ c q u, s = .own c ∨ s = .bor c → σ[i]? = some (some (.ref q)) → H q = some u → H1 q = some u) (h : SlOk g F σ H i s) : SlOk g F1 σ H1 i s := by
  cases h with
  | un => exact .un
  | d h r => exact .d h (r.mono e)
  | own h hf r ft => exact .own h (fr _ _ (.inl rfl) h) (r.mono e fun o z => k _ _ _ (.inl rfl) h z) ft
  | bor h hf r ft => exact .bor h (fr _ _ (.inr rfl) h) (r.mono e fun o z => k _ _ _ (.inr rfl) h z) ft
  | exc hp h f => exact .exc hp h (f.mono e)
theorem held_of {c : Cn} {q : Addr} (hi : ρ.at i = .own c ∨ ρ.at i = .bor c) (h : σ[i]? = some (some (.ref q))) : Held ρ σ i q := ⟨hi.elim (fun z => .inl ⟨c, z⟩) fun z => .inr ⟨c, z⟩, h⟩
/-- the whole relation, later -/
theorem Rl.later (r : Rl g ρ F σ H) (same : Same F1 H1) (e : Same F F1) (fr : ∀ i q, Held ρ σ i q → F1 q = none) (k : ∀ i q u, Held ρ σ i q → H q = some u → H1 q = some u) : Rl g ρ F1 σ H1 :=
  ⟨same, r.len, fun i => (r.sl i).mono e (fun c q h h2 => fr i q (held_of h h2)) fun c q u h h2 => k i q u (held_of h h2), r.apart, r.old, r.new⟩
/-- a slot forgotten, or told anew without being owned -/
theorem own_set {s : Slot} {q : Addr} (hs : ∀ c, s ≠ .own c) (h : Own (ρ.set i s) σ j q) : Own ρ σ j q := by
  obtain ⟨⟨c, e⟩, k⟩ := h
  rw [at_set] at e
  split at e
  · exact absurd e (hs c)
  · exact ⟨⟨c, e⟩, k⟩
theorem held_set {s : Slot} {q : Addr} (hs : ∀ c, s ≠ .own c ∧ s ≠ .bor c) (h : Held (ρ.set i s) σ j q) : Held ρ σ j q := by
  obtain ⟨e, k⟩ := h
  rcases e with ⟨c, e⟩ | ⟨c, e⟩
  · rw [at_set] at e
    split at e
    · exact absurd e (hs c).1
    · exact ⟨.inl ⟨c, e⟩, k⟩
  · rw [at_set] at e
    split at e
    · exact absurd e (hs c).2
    · exact ⟨.inr ⟨c, e⟩, k⟩
theorem Rl.set (r : Rl g ρ F σ H) {s : Slot} (hs : ∀ c, s ≠ .own c ∧ s ≠ .bor c) (h : SlOk g F σ H i s) : Rl g (ρ.set i s) F σ H :=
  ⟨r.same, by rw [List.length_set]; exact r.len, fun j => by
    rw [at_set]
    split
    · rename_i q; rw [← q.1]; exact h
    · exact r.sl j, fun a b q n x y => r.apart a b q n (own_set (fun c => (hs c).1) x) (held_set hs y), fun a q x => r.old a q (own_set (fun c => (hs c).1) x), fun a q x => r.new a q (own_set (fun c => (hs c).1) x)⟩
theorem Rl.freeze (r : Rl g ρ F σ H) (hp : H p = some o) (hf : F p = none) (nh : ∀ i, ¬ Held ρ σ i p) : Rl g ρ (upd F p o) σ H := by
  refine r.later (fun a u e => ?_) (same_new hf) (fun i q h => ?_) fun _ _ _ _ e => e
  · by_cases z : a = p
    · subst z; rw [upd_same] at e; cases e; exact hp
    · rw [upd_ne z] at e; exact r.same a u e
  · have z : q ≠ p := fun z => nh i (z ▸ h)
    rw [upd_ne z]
    have y := r.sl i
    obtain ⟨a, b⟩ := h
    rcases a with ⟨c, a⟩ | ⟨c, a⟩
    · rw [a] at y
      cases y with
      | own h1 h2 _ _ => rw [b] at h1; cases h1; exact h2
    · rw [a] at y
      cases y with
      | bor h1 h2 _ _ => rw [b] at h1; cases h1; exact h2
theorem Rl.ownAt (r : Rl g ρ F σ H) {c : Cn} (h : ρ.at i = .own c) : ∃ p, σ[i]? = some (some (.ref p)) ∧ F p = none ∧ CRep g F H p c ∧ c.fit g.T = true := by
  have y := r.sl i
  rw [h] at y
  cases y with
  | own a b c d => exact ⟨_, a, b, c, d⟩
theorem Rl.borAt (r : Rl g ρ F σ H) {c : Cn} (h : ρ.at i = .bor c) : ∃ p, σ[i]? = some (some (.ref p)) ∧ F p = none ∧ CRep g F H p c ∧ c.fit g.T = true := by
  have y := r.sl i
  rw [h] at y
  cases y with
  | bor a b c d => exact ⟨_, a, b, c, d⟩
theorem Rl.dAt (r : Rl g ρ F σ H) {x : D} (h : ρ.at i = .d x) : ∃ v, σ[i]? = some (some v) ∧ Rep g F v x := by
  have y := r.sl i
  rw [h] at y
  cases y with
  | d a b => exact ⟨_, a, b⟩
/-- an owned slot kept: it is data from now on -/
theorem Rl.keepOwn (r : Rl g ρ F σ H) {c : Cn} (h : ρ.at i = .own c) : ∃ F1 p, σ[i]? = some (some (.ref p)) ∧ Rep g F1 (.ref p) c.toD ∧ Stp g ρ F σ H (ρ.set i (.d c.toD)) F1 σ H := by
  obtain ⟨p, h1, h2, h3, h4⟩ := r.ownAt h
  obtain ⟨o, ho, hr⟩ := h3.keep h2 h4
  have ow : Own ρ σ i p := ⟨⟨c, h⟩, h1⟩
  have r1 : Rl g (ρ.set i .un) F σ H := r.set notOB_un .un
  have hi : i < ρ.length := at_lt (by rw [h]; exact fun z => nomatch z)
  have nh : ∀ j, ¬ Held (ρ.set i .un) σ j p := fun j z => by
    by_cases e : i = j
    · subst e
      obtain ⟨a, _⟩ := z
      rw [at_set_same hi] at a
      rcases a with ⟨_, a⟩ | ⟨_, a⟩ <;> cases a
    · exact r.apart i j p e ow (held_set notOB_un z)
  have r2 := r1.freeze ho h2 nh
  have r3 : Rl g ((ρ.set i .un).set i (.d c.toD)) (upd F p o) σ H := r2.set notOB_d (.d h1 hr)
  rw [List.set_set] at r3
  refine ⟨_, p, h1, hr, r3, same_new h2, fun a x y => ?_, fun _ _ e _ => e, fun _ e => e, fun a ⟨j, z⟩ => .inl ⟨j, own_set (fun c => (notOB_d c).1) z⟩, fun j c z => ⟨by
    rw [at_set] at z
    split at z
    · cases z
    · exact z, rfl⟩⟩
  by_cases e : a = p
  · subst e; exact .inr ⟨i, ow⟩
  · rw [upd_ne e] at y; exact absurd x y
/-- a fresh object kept -/
theorem Rl.keepNew (r : Rl g ρ F σ H) {c : Cn} (h2 : F p = none) (h3 : CRep g F H p c) (h4 : c.fit g.T = true) (nh : ∀ i, ¬ Held ρ σ i p) : ∃ F1, Rep g F1 (.ref p) c.toD ∧ Rl g ρ F1 σ H ∧ Same F F1 ∧ ∀ a, a ≠ p → F1 a = F a := by
  obtain ⟨o, ho, hr⟩ := h3.keep h2 h4
  exact ⟨_, hr, r.freeze ho h2 nh, same_new h2, fun a e => upd_ne e⟩
end

/-- how a value on its way stands (H0: the heap where its making began) -/
def IvOk (g : G0) (ρ : Env) (F : Hp) (σ : L2.St) (H0 H : Hp) (x : V) : IV → Prop
  | .d y => Rep g F x y
  | .fr c => ∃ p, x = .ref p ∧ H0 p = none ∧ F p = none ∧ CRep g F H p c ∧ c.fit g.T = true ∧ ∀ i, ¬ Held ρ σ i p
  | .sl i => σ[i]? = some (some x)
/-- .. that is not fresh -/
def IvP (g : G0) (F : Hp) (σ : L2.St) (x : V) : IV → Prop
  | .d y => Rep g F x y
  | .fr _ => False
  | .sl i => σ[i]? = some (some x)
theorem IvP.mono {g : G0} {F F1 : Hp} {σ : L2.St} {x : V} {v : IV} (e : Same F F1) (h : IvP g F σ x v) : IvP g F1 σ x v := by
  cases v with
  | d y => exact Rep.mono e h
  | fr c => exact h
  | sl i => exact h
/-- as it is seen in the heap now -/
inductive Sn (g : G0) (F H : Hp) : V → D → Prop
  | non : Sn g F H .non .non
  | bl (b : Bool) : Sn g F H (.bl b) (.bl b)
  | int (i : Int) : Sn g F H (.int i) (.int i)
  | str (x : Str) : Sn g F H (.str x) (.str x)
  | tup {a : Addr} {vs : List V} {ds : List D} (h : SqT g.K H a vs) (r : Rps g F vs ds) : Sn g F H (.ref a) (.tup ds)
  | lst {a : Addr} {vs : List V} {ds : List D} (h : H a = some (.lst vs)) (r : Rps g F vs ds) : Sn g F H (.ref a) (.lst ds)
  | scr {a : Addr} {ns : List Int} (h : SqL g.K H a (ns.map V.int)) : Sn g F H (.ref a) (.scr ns)
  | dK {a : Addr} {kvs : List (Key × V)} {ks : List Key} {ds : List D} (h : H a = some (.dK kvs)) (hk : kvs.map (·.1) = ks) (r : Rps g F (kvs.map (·.2)) ds) : Sn g F H (.ref a) (.dK ks ds)
  | dT {a : Addr} {kvs : List (List Key × V)} {ks : List (List Key)} {ds : List D} (h : H a = some (.dT kvs)) (hk : kvs.map (·.1) = ks) (r : Rps g F (kvs.map (·.2)) ds) : Sn g F H (.ref a) (.dT ks ds)
  | st {a : Addr} {ks : List Key} (h : H a = some (HSet g.P g.w a ks)) : Sn g F H (.ref a) (.st ks)
  | obj {a dx : Addr} {c : Nat} {fs : List (Str × V)} {ds : List D} (hc : c < g.T.nc) (h : H a = some (.ins (g.oc c) dx fs)) (hk : fs.map (·.1) = (g.T.of c).take ds.length) (r : Rps g F (fs.map (·.2)) ds) : Sn g F H (.ref a) (.obj c ds)
theorem Rep.sn {g : G0} {F H : Hp} {x : V} {d : D} (e : Same F H) (h : Rep g F x d) : Sn g F H x d := by
  cases h with
  | non => exact .non
  | bl b => exact .bl b
  | int i => exact .int i
  | str x => exact .str x
  | tup h e' r => exact .tup (sm_t e h) ⟨e', r⟩
  | lst h e' r => exact .lst (e _ _ h) ⟨e', r⟩
  | scr h => exact .scr (Same.seq e h)
  | dK h hk e' r => exact .dK (e _ _ h) hk ⟨e', r⟩
  | dT h hk e' r => exact .dT (e _ _ h) hk ⟨e', r⟩
  | st h => exact .st (e _ _ h)
  | obj hc h hk e' r => exact .obj hc (e _ _ h) hk ⟨e', r⟩
theorem CRep.sn {g : G0} {F H : Hp} {p : Addr} {c : Cn} (h : CRep g F H p c) (ft : c.fit g.T = true) : Sn g F H (.ref p) c.toD := by
  cases h with
  | lst h r => exact .lst h r
  | dK h hk r => exact .dK h hk r
  | dT h hk r => exact .dT h hk r
  | st h => exact .st h
  | ob hc h hk r => exact .obj hc h (by rw [List.length_map]; exact hk.trans (of_decide_eq_true ft)) r
theorem Rl.seen {g : Gam} {ρ : Env} {F H H0 : Hp} {σ : L2.St} (r : Rl g ρ F σ H) {x : V} {v : IV} {d : D} (h : IvOk g ρ F σ H0 H x v) (e : vw ρ v = some d) : Sn g F H x d := by
  cases v with
  | d y =>
    have e : some y = some d := e
    cases e
    exact Rep.sn r.same h
  | fr c =>
    have e : some c.toD = some d := e
    cases e
    obtain ⟨p, rfl, _, _, h3, h4, _⟩ := h
    exact h3.sn h4
  | sl i =>
    have h : σ[i]? = some (some x) := h
    simp only [vw] at e
    have y := r.sl i
    cases q : ρ.at i with
    | un => rw [q] at e; cases e
    | d y' =>
      rw [q] at e y
      cases e
      cases y with
      | d h1 h2 => rw [h] at h1; cases h1; exact h2.sn r.same
    | own c =>
      rw [q] at e y
      cases e
      cases y with
      | own h1 _ h2 h3 => rw [h] at h1; cases h1; exact h2.sn h3
    | bor c =>
      rw [q] at e y
      cases e
      cases y with
      | bor h1 _ h2 h3 => rw [h] at h1; cases h1; exact h2.sn h3
    | exc c fs => rw [q] at e; cases e
theorem IvP.ok {g : G0} {ρ : Env} {F H H0 : Hp} {σ : L2.St} {x : V} {v : IV} (h : IvP g F σ x v) : IvOk g ρ F σ H0 H x v := by
  cases v with
  | d y => exact h
  | fr c => exact absurd h id
  | sl i => exact h

/-! ### what a run must bring -/
def Good {α : Type} (r : R α) (A : α → Env → Prop) (B : Nat → List D → Env → Prop) : Prop := match r with
  | .ok a ρ => A a ρ
  | .er c fs ρ => B c fs ρ
  | .no => False
theorem Good.mono {α : Type} {r : R α} {A A' : α → Env → Prop} {B B' : Nat → List D → Env → Prop} (h : Good r A B) (a : ∀ x ρ, A x ρ → A' x ρ) (b : ∀ c fs ρ, B c fs ρ → B' c fs ρ) : Good r A' B' := by
  cases r with
  | ok x ρ => exact a _ _ h
  | er c fs ρ => exact b _ _ _ h
  | no => exact h
theorem Good.bind {α β : Type} {r : R α} {f : α → Env → R β} {A : β → Env → Prop} {B : Nat → List D → Env → Prop} : Good (r.bind f) A B ↔ Good r (fun x ρ => Good (f x ρ) A B) B := by
  cases r <;> exact Iff.rfl
section
variable (g : Gam) (W : WX)
def OkQ (ρ : Env) (F : Hp) (σ : L2.St) (H : Hp) (Q : VK) : IV → Env → Prop := fun v ρ' => ∀ x F' H', Stp g ρ F σ H ρ' F' σ H' → IvOk g ρ' F' σ H H' x v → Q x H'
def OkP (ρ : Env) (F : Hp) (σ : L2.St) (H : Hp) (Q : VK) : IV → Env → Prop := fun v ρ' => ∀ x F' H', Stp g ρ F σ H ρ' F' σ H' → IvP g F' σ x v → Q x H'
def OkD (ρ : Env) (F : Hp) (σ : L2.St) (H : Hp) (Q : VK) : D → Env → Prop := fun v ρ' => ∀ x F' H', Stp g ρ F σ H ρ' F' σ H' → Rep g F' x v → Q x H'
def OkB (ρ : Env) (F : Hp) (σ : L2.St) (H : Hp) (Q : Bool → Hp → Prop) : Bool → Env → Prop := fun v ρ' => ∀ F' H', Stp g ρ F σ H ρ' F' σ H' → Q v H'
def ErQ (ρ : Env) (F : Hp) (σ : L2.St) (H : Hp) : Nat → List D → Env → Prop := fun c fs ρ' => ∀ d F' H', Stp g ρ F σ H ρ' F' σ H' → ExF g F' d c fs → W (.ref (g.ec c)) d σ H'
/-- an expression's reading follows from its run -/
def Snd (t : TE) (r : Env → R IV) : Prop := ∀ ρ F σ H Q, Rl g ρ F σ H → Good (r ρ) (OkQ g ρ F σ H Q) (ErQ g W ρ F σ H) → t σ H Q
def SndP (t : TE) (r : Env → R IV) : Prop := ∀ ρ F σ H Q, Rl g ρ F σ H → Good (r ρ) (OkP g ρ F σ H Q) (ErQ g W ρ F σ H) → t σ H Q
def SndD (t : TE) (r : Env → R D) : Prop := ∀ ρ F σ H Q, Rl g ρ F σ H → Good (r ρ) (OkD g ρ F σ H Q) (ErQ g W ρ F σ H) → t σ H Q
def SndT (t : TT) (r : Env → R Bool) : Prop := ∀ ρ F σ H Q, Rl g ρ F σ H → Good (r ρ) (OkB g ρ F σ H Q) (ErQ g W ρ F σ H) → t σ H Q
variable {g W} {ρ ρ1 : Env} {F F1 H H1 : Hp} {σ : L2.St}
theorem ErQ.later (s : Stp g ρ F σ H ρ1 F1 σ H1) {c : Nat} {fs : List D} {ρ' : Env} (h : ErQ g W ρ F σ H c fs ρ') : ErQ g W ρ1 F1 σ H1 c fs ρ' := fun d F' H' q => h d F' H' (s.trans q)
theorem IvOk.later {ρ' : Env} {F' H' : Hp} {x : V} {v : IV} (s : Stp g ρ F σ H ρ1 F1 σ H1) (h : IvOk g ρ' F' σ H1 H' x v) : IvOk g ρ' F' σ H H' x v := by
  cases v with
  | d y => exact h
  | fr c =>
    obtain ⟨p, a, b, r⟩ := h
    exact ⟨p, a, s.dom p b, r⟩
  | sl i => exact h
theorem OkQ.later (s : Stp g ρ F σ H ρ1 F1 σ H1) {Q : VK} {v : IV} {ρ' : Env} (h : OkQ g ρ F σ H Q v ρ') : OkQ g ρ1 F1 σ H1 Q v ρ' := fun x F' H' q k => h x F' H' (s.trans q) (k.later s)
theorem Good.later (s : Stp g ρ F σ H ρ1 F1 σ H1) {Q : VK} {r : R IV} (h : Good r (OkQ g ρ F σ H Q) (ErQ g W ρ F σ H)) : Good r (OkQ g ρ1 F1 σ H1 Q) (ErQ g W ρ1 F1 σ H1) :=
  h.mono (fun _ _ q => q.later s) fun _ _ _ q => q.later s
/-- what is fresh is kept -/
theorem Snd.held {t : TE} {r : Env → R IV} (h : Snd g W t r) : SndP g W t fun ρ => (r ρ).held := fun ρ F σ H Q rl k => by
  refine h ρ F σ H Q rl ((Good.bind.mp k).mono (fun v ρ' q x F' H' s iv => ?_) fun _ _ _ q => q)
  cases v with
  | d y => exact q x F' H' s iv
  | sl i => exact q x F' H' s iv
  | fr c =>
    obtain ⟨p, rfl, h1, h2, h3, h4, h5⟩ := iv
    obtain ⟨F2, a, b, e, u⟩ := s.rel.keepNew h2 h3 h4 h5
    refine q (.ref p) F2 H' ⟨b, s.ext.trans e, fun y z z' => ?_, s.keep, s.dom, s.ow, s.brw⟩ a
    by_cases hy : y = p
    · subst hy; exact .inl h1
    · rw [u y hy] at z'
      exact s.new y z z'
theorem Snd.kept {t : TE} {r : Env → R IV} (h : Snd g W t r) : SndD g W t fun ρ => (r ρ).kept g.np := fun ρ F σ H Q rl k => by
  refine h ρ F σ H Q rl ((Good.bind.mp k).mono (fun v ρ' q x F' H' s iv => ?_) fun _ _ _ q => q)
  cases v with
  | d y => exact q x F' H' s iv
  | fr c =>
    obtain ⟨p, rfl, h1, h2, h3, h4, h5⟩ := iv
    obtain ⟨F2, a, b, e, u⟩ := s.rel.keepNew h2 h3 h4 h5
    refine q (.ref p) F2 H' ⟨b, s.ext.trans e, fun y z z' => ?_, s.keep, s.dom, s.ow, s.brw⟩ a
    by_cases hy : y = p
    · subst hy; exact .inl h1
    · rw [u y hy] at z'
      exact s.new y z z'
  | sl i =>
    have iv : σ[i]? = some (some x) := iv
    cases e : ρ'.at i with
    | d y =>
      have q : OkD g ρ F σ H Q y ρ' := by
        have q := q
        simp only [kp] at q
        rw [e] at q
        exact q
      obtain ⟨v, a, b⟩ := s.rel.dAt e
      rw [iv] at a; cases a
      exact q x F' H' s b
    | own c =>
      simp only [kp] at q
      rw [e] at q
      dsimp only at q
      split at q
      · exact absurd q id
      · obtain ⟨F2, p, a, b, s2⟩ := s.rel.keepOwn e
        rw [iv] at a; cases a
        exact q _ F2 H' (s.trans s2) b
    | un => simp only [kp] at q; rw [e] at q; exact absurd q id
    | bor c => simp only [kp] at q; rw [e] at q; exact absurd q id
    | exc c fs => simp only [kp] at q; rw [e] at q; exact absurd q id
end
end EN
/-! Operators: what they ask follows from what they come to. -/
namespace EN
open PySem L2
section
variable {g : Gam} {W : WX} {ρ ρ1 ρ2 : Env} {F F1 F2 H H1 H2 : Hp} {σ σ1 σ2 : L2.St} {p : Addr} {o : HO} {i j : Nat} {Q : VK}
theorem Held.there (r : Rl g ρ F σ H) (h : Held ρ σ i p) : F p = none ∧ ∃ o, H p = some o := by
  obtain ⟨a, b⟩ := h
  rcases a with ⟨c, a⟩ | ⟨c, a⟩
  · obtain ⟨q, h1, h2, h3, _⟩ := r.ownAt a
    rw [b] at h1; cases h1
    exact ⟨h2, h3.there⟩
  · obtain ⟨q, h1, h2, h3, _⟩ := r.borAt a
    rw [b] at h1; cases h1
    exact ⟨h2, h3.there⟩
theorem Rl.free (r : Rl g ρ F σ H) (hp : H p = none) : F p = none ∧ ∀ i, ¬ Held ρ σ i p := by
  refine ⟨?_, fun i h => ?_⟩
  · cases e : F p with
    | none => rfl
    | some u => rw [r.same p u e] at hp; cases hp
  · obtain ⟨_, u, e⟩ := h.there r
    rw [hp] at e; cases e
theorem Rl.updH (r : Rl g ρ F σ H) (hf : F p = none) (nh : ∀ i, ¬ Held ρ σ i p) : Rl g ρ F σ (upd H p o) := by
  refine r.later (fun a u e => ?_) (Same.refl _) (fun i q h => (h.there r).1) fun i q u h e => ?_
  · rw [upd_ne (ne_of_none e hf)]; exact r.same a u e
  · have z : q ≠ p := fun z => nh i (z ▸ h)
    rw [upd_ne z]; exact e
theorem Stp.alloc (r : Rl g ρ F σ H) (hp : H p = none) : Stp g ρ F σ H ρ F σ (upd H p o) :=
  ⟨r.updH (r.free hp).1 (r.free hp).2, Same.refl _, fun a x y => absurd x y, fun a u e _ => by rw [upd_ne (ne_of_none e hp)]; exact e, fun a e => by
    by_cases z : a = p
    · subst z; exact hp
    · rw [upd_ne z] at e; exact e, fun a h => .inl h, fun _ _ h => ⟨h, rfl⟩⟩
theorem Stp.allocD (r : Rl g ρ F σ H) (hp : H p = none) : Stp g ρ F σ H ρ (upd F p o) σ (upd H p o) := by
  have s := Stp.alloc (o := o) r hp
  refine ⟨s.rel.freeze upd_same (r.free hp).1 (r.free hp).2, same_new (r.free hp).1, fun a x y => ?_, s.keep, s.dom, s.ow, s.brw⟩
  by_cases z : a = p
  · subst z; exact .inl hp
  · rw [upd_ne z] at y; exact absurd x y
/-- scalars, and whatever stands already -/
theorem OkQ.here (r : Rl g ρ F σ H) {x : V} {v : IV} (k : OkQ g ρ F σ H Q v ρ) (h : IvP g F σ x v) : Q x H := k x F H (Stp.refl r) h.ok
theorem OkQ.fresh (r : Rl g ρ F σ H) {c : Cn} (k : OkQ g ρ F σ H Q (.fr c) ρ) (hp : H p = none) (hc : CRep g F (upd H p o) p c) (ft : c.fit g.T = true) : Q (.ref p) (upd H p o) :=
  k _ F _ (Stp.alloc r hp) ⟨p, rfl, hp, (r.free hp).1, hc, ft, (r.free hp).2⟩
theorem OkQ.tup (r : Rl g ρ F σ H) {vs : List V} {ds : List D} (k : OkQ g ρ F σ H Q (.d (.tup ds)) ρ) (hp : H p = none) (h : Rps g F vs ds) : Q (.ref p) (upd H p (.tup vs)) :=
  k _ (upd F p (.tup vs)) _ (Stp.allocD r hp) (Rep.tup (SqT.of upd_same) h.1 (h.mono (same_new (r.free hp).1)).2)

theorem line_le : line ≤ sizeLine := by rw [sizeLine_eq]; decide
theorem line_lt : line < sizeLine := by rw [sizeLine_eq]; decide

/-! ### binary operators -/
def rMulS : R2 := fun x y H Q => ∃ (z : Str) (n : Int), x = .str z ∧ y = .int n ∧ n ≤ 100000 ∧ -100000 ≤ n ∧ z.length ≤ 10 ∧ Q (.str (mulS z n)) H
theorem foldl_len : ∀ (n : Nat) (a b : Array Nat), ((List.replicate n a).foldl (· ++ ·) b).size = n * a.size + b.size
  | 0, a, b => by simp
  | n + 1, a, b => by
    rw [List.replicate_succ, List.foldl_cons, foldl_len n a (b ++ a), Array.size_append, Nat.succ_mul]
    omega
theorem op_mulS {X : Cx} : OpR X (binaryOp .Mult) rMulS := by
  intro pins s σ H x y v u Q I rx ry h
  obtain ⟨z, n, rfl, rfl, h1, h2, h3, q⟩ := h
  obtain ⟨t, rfl⟩ := rx
  obtain ⟨t', rfl⟩ := ry
  have hm : ¬ n < 1 → z.length * n.toNat ≤ 1000000 := fun z1 => by
    have a : n.toNat ≤ 100000 := by omega
    calc z.length * n.toNat ≤ 10 * 100000 := Nat.mul_le_mul h3 a
      _ = 1000000 := rfl
  refine PySem.P.mul_str ?_ (fun z1 _ => ?_) (fun z1 _ => ?_) ?_
  · rw [decide_eq_false (by omega), decide_eq_false (by omega)]; rfl
  · have a : (10 : Int) ≤ (2 ^ 63 - 1) / n := (Int.le_ediv_iff_mul_le (by omega)).mpr (by omega)
    omega
  · have := hm z1
    unfold Builtin.Str.tooLong
    rw [sizeLine_eq]
    exact decide_eq_false (by omega)
  · unfold mulS at q
    by_cases c1 : n < 1
    · rw [if_pos c1] at q ⊢
      exact ⟨Nat.zero_le _, .str _, H, I.tok _, ⟨_, rfl⟩, q⟩
    · rw [if_neg c1] at q ⊢
      by_cases c2 : (n == 1 || z.length == 0) = true
      · rw [if_pos c2] at q ⊢
        exact ⟨.str _, H, I, ⟨_, rfl⟩, q⟩
      · rw [if_neg c2] at q ⊢
        refine ⟨?_, .str _, H, I.tok _, ⟨_, rfl⟩, q⟩
        show ((List.replicate n.toNat z.cps).foldl (· ++ ·) #[]).size ≤ sizeLine
        rw [foldl_len, sizeLine_eq]
        have := hm c1
        have e : n.toNat * z.cps.size = z.length * n.toNat := Nat.mul_comm _ _
        rw [e]
        show z.length * n.toNat + 0 ≤ _
        omega
def rBO (K : Frag) : BO → R2
  | .add => fun x y H Q => (rI0 (fun i j => .int (i + j)) x y H Q ∨ (∃ i j, x = .str i ∧ y = .str j ∧ i.length + j.length ≤ sizeLine ∧ Q (.str (i ++ j)) H)) ∨ (rCatA K x y H Q ∨ rCat x y H Q)
  | .sub => rI0 fun i j => .int (i - j)
  | .mul => fun x y H Q => rI CMul (fun i j => .int (i * j)) x y H Q ∨ rMulS x y H Q
  | .fdiv => rI CDiv fun i j => .int (i / j)
  | .mod => rI (fun _ j => 0 < j) fun i j => .int (i % j)
  | .pow => rI CPow fun i j => .int (i ^ j.toNat)
def BO.op : BO → Operator
  | .add => .Add | .sub => .Sub | .mul => .Mult | .fdiv => .FloorDiv | .mod => .Mod | .pow => .Pow
theorem rBO_ok {X : Cx} (op : BO) : OpR X (binaryOp op.op) (rBO X.K op) := by
  cases op with
  | add => exact OpR.or (OpR.or op_add op_add_str) (OpR.or op_catA op_cat)
  | sub => exact op_sub
  | mul => exact OpR.or op_mul op_mulS
  | fdiv => exact op_fdiv
  | mod => exact op_mod
  | pow => exact op_pow
theorem Sn.isInt {x : V} {i : Int} (h : Sn g F H x (.int i)) : x = .int i := by cases h; rfl
theorem Sn.isStr {x : V} {i : Str} (h : Sn g F H x (.str i)) : x = .str i := by cases h; rfl
theorem Sn.isTup {x : V} {ds : List D} (h : Sn g F H x (.tup ds)) : ∃ a vs, x = .ref a ∧ SqT g.K H a vs ∧ Rps g F vs ds := by cases h with | tup a b => exact ⟨_, _, rfl, a, b⟩
theorem Sn.isLst {x : V} {ds : List D} (h : Sn g F H x (.lst ds)) : ∃ a vs, x = .ref a ∧ H a = some (.lst vs) ∧ Rps g F vs ds := by cases h with | lst a b => exact ⟨_, _, rfl, a, b⟩
/-- a tuple that stands in the heap for good -/
theorem Sn.tupRep {x : V} {v : IV} {ds : List D} (r : Rl g ρ F σ H) (h : IvP g F σ x v) (e : vw ρ v = some (.tup ds)) : Rep g F x (.tup ds) := by
  cases v with
  | d y => cases e; exact h
  | fr c => exact absurd h id
  | sl i =>
    have h : σ[i]? = some (some x) := h
    simp only [vw] at e
    cases q : ρ.at i with
    | un => rw [q] at e; cases e
    | d y =>
      rw [q] at e
      cases e
      obtain ⟨u, a, b⟩ := r.dAt q
      rw [h] at a; cases a; exact b
    | own c => rw [q] at e; cases c <;> cases e
    | bor c => rw [q] at e; cases c <;> cases e
    | exc c fs => rw [q] at e; cases e
theorem opB_ok (r : Rl g ρ F σ H) {op : BO} {x y : V} {vx vy : IV} {a b : D} {v : IV} (hx : IvP g F σ x vx) (hy : IvOk g ρ F σ H1 H y vy) (ex : vw ρ vx = some a) (ey : vw ρ vy = some b) (e : opB op a b = some v) (k : OkQ g ρ F σ H Q v ρ) :
    rBO g.K op x y H Q := by
  have sx : Sn g F H x a := r.seen (hx.ok (H0 := H)) ex
  have sy : Sn g F H y b := r.seen hy ey
  have int2 : ∀ {op : BO} {f : Int → Int → Int} {C : Int → Int → Prop} {i j : Int}, x = .int i → y = .int j → C i j → v = .d (.int (f i j)) → rI C (fun i j => .int (f i j)) x y H Q := fun hx hy hc hv => by
    subst hx; subst hy; subst hv
    exact ⟨_, _, rfl, rfl, hc, k.here r (Rep.int _)⟩
  have int0 : ∀ {f : Int → Int → Int} {i j : Int}, x = .int i → y = .int j → v = .d (.int (f i j)) → rI0 (fun i j => .int (f i j)) x y H Q := fun hx hy hv => by
    subst hx; subst hy; subst hv
    exact ⟨_, _, rfl, rfl, k.here r (Rep.int _)⟩
  unfold opB at e
  split at e
  · cases e; exact .inl (.inl (int0 sx.isInt sy.isInt rfl))
  · split at e
    · rename_i h
      cases e
      cases sx.isStr; cases sy.isStr
      exact .inl (.inr ⟨_, _, rfl, rfl, Nat.le_trans h line_le, k.here r (Rep.str _)⟩)
    · cases e
  · split at e
    · rename_i xs ys h
      cases e
      obtain ⟨p, vs, rfl, t1, r1⟩ := sx.isTup
      obtain ⟨q, ws, rfl, t2, r2⟩ := sy.isTup
      refine .inr (.inl ⟨p, q, vs, ws, rfl, rfl, t1, t2, by rw [r1.1, r2.1]; exact Nat.le_trans h line_le, fun z => ?_, fun z1 z2 => ?_, fun z1 z2 u hu => k.tup r hu (r1.append r2)⟩)
      · subst z
        have e1 : xs = [] := List.eq_nil_of_length_eq_zero (by rw [← r1.1]; rfl)
        subst e1
        cases vy with
        | d y' =>
          cases ey
          exact k.here r (show Rep g F (.ref q) _ from hy)
        | fr c => cases c <;> cases ey
        | sl i => exact k _ F H (Stp.refl r) (show Rep g F (.ref q) _ from Sn.tupRep (v := .sl i) r hy ey)
      · subst z2
        have e1 : ys = [] := List.eq_nil_of_length_eq_zero (by rw [← r2.1]; rfl)
        subst e1
        have h1 := Sn.tupRep r hx ex
        exact k _ F H (Stp.refl r) (show Rep g F (.ref p) (.tup (xs ++ [])) from by rw [List.append_nil]; exact h1)
    · cases e
  · split at e
    · rename_i xs ys h
      cases e
      obtain ⟨p, vs, rfl, t1, r1⟩ := sx.isLst
      obtain ⟨q, ws, rfl, t2, r2⟩ := sy.isLst
      exact .inr (.inr ⟨p, q, vs, ws, rfl, rfl, t1, t2, by rw [r1.1, r2.1]; exact Nat.le_trans h line_le, fun u hu => k.fresh r hu (.lst upd_same (r1.append r2)) rfl⟩)
    · cases e
  · cases e; exact int0 sx.isInt sy.isInt rfl
  · split at e
    · rename_i h
      cases e; exact .inl (int2 (op := .mul) sx.isInt sy.isInt h rfl)
    · cases e
  · split at e
    · rename_i h
      cases e; exact int2 (op := .fdiv) sx.isInt sy.isInt h rfl
    · cases e
  · split at e
    · rename_i h
      cases e; exact int2 (op := .mod) sx.isInt sy.isInt h rfl
    · cases e
  · split at e
    · rename_i h
      cases e; exact int2 (op := .pow) sx.isInt sy.isInt h rfl
    · cases e
  · split at e
    · rename_i h
      cases e
      cases sx.isStr
      cases sy.isInt
      exact .inr ⟨_, _, rfl, rfl, h.1, h.2.1, h.2.2, k.here r (Rep.str _)⟩
    · cases e
  · cases e
end
end EN
/-! Comparisons, items, slices. -/
namespace L2
open PySem PySem.Spec PyProof.Rows
/-- in a tuple, its items at any depth -/
def rInDT (K : PySem.W.Frag) : R2 := fun x y H Q => ∃ d ds, Dp K H x d ∧ Dp K H y (.tuple ds) ∧ SeqAt.shaped d = true ∧ SeqAt.shaped (.tuple ds) = true ∧ Q (.bl (ds.any fun z => PyData.eqv z d)) H
def rNotInDT (K : PySem.W.Frag) : R2 := fun x y H Q => ∃ d ds, Dp K H x d ∧ Dp K H y (.tuple ds) ∧ SeqAt.shaped d = true ∧ SeqAt.shaped (.tuple ds) = true ∧ Q (.bl (!ds.any fun z => PyData.eqv z d)) H
theorem shp_tup {ds : List PyData} (h : SeqAt.shaped (.tuple ds) = true) : PyData.canLayAll0 ds = true := by
  have := SeqAt.canLay_of_shaped h
  simpa [PyData.canLay0] using this
theorem op_inDT {X : Cx} (hu : X.A.units + 65 < cLine) : OpR X (compareOp .In) (rInDT X.K) := fun pins s σ H x y v u Q I rx ry h =>
  let ⟨d, ds, hd, he, sd, se, q⟩ := h
  let ⟨_, r1⟩ := Dp.reads I d x v hd rx
  let ⟨_, r2⟩ := Dp.reads I (.tuple ds) y u he ry
  SeqAt.in_tuple_reads r2 r1 (shp_tup se) (SeqAt.canLay_of_shaped sd) (room_in_shaped sd hu) ⟨.bl _, H, I, rfl, q⟩
theorem op_notInDT {X : Cx} (hu : X.A.units + 65 < cLine) : OpR X (compareOp .NotIn) (rNotInDT X.K) := fun pins s σ H x y v u Q I rx ry h =>
  let ⟨d, ds, hd, he, sd, se, q⟩ := h
  let ⟨_, r1⟩ := Dp.reads I d x v hd rx
  let ⟨_, r2⟩ := Dp.reads I (.tuple ds) y u he ry
  SeqAt.notIn_tuple_reads r2 r1 (shp_tup se) (SeqAt.canLay_of_shaped sd) (room_in_shaped sd hu) ⟨.bl _, H, I, rfl, q⟩
/-- in a dict -/
def rDIn (K : PySem.W.Frag) (neg : Bool) : R2 := fun x y H Q => ∃ a o, y = .ref a ∧ (DGet H a x o ∨ DGetT K H a x o) ∧ Q (.bl (if neg then !o.isSome else o.isSome)) H
theorem op_dIn {X : Cx} (hu : X.A.units + 1 < cLine) : OpR X (compareOp .In) (rDIn X.K false) := fun pins s σ H x y v u Q I rx ry h => by
  obtain ⟨a, o, rfl, g, q⟩ := h
  obtain rfl : u = Value.ref a := ry
  rcases g with g | g
  · exact d_in hu I g rx fun s' I' => ⟨.bl o.isSome, H, I', rfl, q⟩
  · exact t_in hu I g rx fun s' I' => ⟨.bl o.isSome, H, I', rfl, q⟩
theorem op_dNotIn {X : Cx} (hu : X.A.units + 1 < cLine) : OpR X (compareOp .NotIn) (rDIn X.K true) := fun pins s σ H x y v u Q I rx ry h => by
  obtain ⟨a, o, rfl, g, q⟩ := h
  obtain rfl : u = Value.ref a := ry
  rcases g with g | g
  · exact d_notIn hu I g rx fun s' I' => ⟨.bl (!o.isSome), H, I', rfl, q⟩
  · exact t_notIn hu I g rx fun s' I' => ⟨.bl (!o.isSome), H, I', rfl, q⟩
/-- d[k] of a dict, as other items -/
def rDIx (K : PySem.W.Frag) : R2 := fun x y H Q => ∃ a v, x = .ref a ∧ (DGet H a y (some v) ∨ DGetT K H a y (some v)) ∧ Q v H
theorem ix_dict {X : Cx} (hu : X.A.units + 1 < cLine) : IxR X (rDIx X.K) := by
  intro value slice pins s σ H x y v u Q I rx ry h hs
  obtain ⟨a, z, rfl, g, q⟩ := h
  obtain rfl : v = Value.ref a := rx
  rcases g with g | g
  · exact tail_any (dict_typeIs I g) PySem.F.slot_dict_getitem.lookup (d_getItem hu I g ry fun w' s' I' rw' => ⟨z, H, I', rw', q⟩) hs
  · exact tail_any (t_typeIs I g) PySem.F.slot_dict_getitem.lookup (t_getItem hu I g ry fun w' s' I' rw' => ⟨z, H, I', rw', q⟩) hs
end L2
namespace EN
open PySem L2
section
variable {g : Gam} {W : WX} {ρ ρ1 ρ2 : Env} {F F1 F2 H H1 H2 : Hp} {σ σ1 σ2 : L2.St} {p : Addr} {o : HO} {i j : Nat} {Q : VK}
mutual
theorem Rep.dp (e : Same F H) : ∀ {d : D} {x : V} {y : PyData}, Rep g F x d → d.py = some y → Dp g.K H x y
  | .non, _, _, h, q => by cases h; simp [D.py] at q; subst q; exact .non
  | .bl b, _, _, h, q => by cases h; simp [D.py] at q; subst q; exact .bl b
  | .int i, _, _, h, q => by cases h; simp [D.py] at q; subst q; exact .int i
  | .str z, _, _, h, q => by cases h; simp [D.py] at q; subst q; exact .str z
  | .tup ds, _, _, h, q => by
    cases h with
    | tup a b r =>
      simp only [D.py, Option.map_eq_some_iff] at q
      obtain ⟨ys, h1, h2⟩ := q
      subst h2
      exact .tup (sm_t e a) (Reps.dp e ⟨b, r⟩ h1)
  | .lst ds, _, _, h, q => by
    cases h with
    | lst a b r =>
      simp only [D.py, Option.map_eq_some_iff] at q
      obtain ⟨ys, h1, h2⟩ := q
      subst h2
      exact .lst (SqL.of (e _ _ a)) (Reps.dp e ⟨b, r⟩ h1)
  | .scr _, _, _, _, q => by simp [D.py] at q
  | .dK _ _, _, _, _, q => by simp [D.py] at q
  | .dT _ _, _, _, _, q => by simp [D.py] at q
  | .obj _ _, _, _, _, q => by simp [D.py] at q
  | .st _, _, _, _, q => by simp [D.py] at q
theorem Reps.dp (e : Same F H) : ∀ {ds : List D} {xs : List V} {ys : List PyData}, Rps g F xs ds → D.pys ds = some ys → DpAll g.K H xs ys
  | [], xs, ys, h, q => by
    simp [D.pys] at q
    subst q
    have : xs = [] := List.eq_nil_of_length_eq_zero h.1
    subst this
    exact .nil
  | d :: ds, [], ys, h, q => by have := h.1; simp at this
  | d :: ds, x :: xs, ys, h, q => by
    simp only [D.pys] at q
    split at q
    · rename_i a as h1 h2
      cases q
      exact .cons (Rep.dp e h.head h1) (Reps.dp e h.tail h2)
    · cases q
end
theorem Sn.dp (e : Same F H) {d : D} {x : V} {y : PyData} (h : Sn g F H x d) (q : d.py = some y) : Dp g.K H x y := by
  cases h with
  | non => simp [D.py] at q; subst q; exact .non
  | bl b => simp [D.py] at q; subst q; exact .bl b
  | int i => simp [D.py] at q; subst q; exact .int i
  | str z => simp [D.py] at q; subst q; exact .str z
  | tup a r =>
    simp only [D.py, Option.map_eq_some_iff] at q
    obtain ⟨ys, h1, h2⟩ := q
    subst h2
    exact .tup a (Reps.dp e r h1)
  | lst a r =>
    simp only [D.py, Option.map_eq_some_iff] at q
    obtain ⟨ys, h1, h2⟩ := q
    subst h2
    exact .lst (SqL.of a) (Reps.dp e r h1)
  | scr => simp [D.py] at q
  | dK => simp [D.py] at q
  | dT => simp [D.py] at q
  | obj => simp [D.py] at q
  | st => simp [D.py] at q
theorem D.shp_some {d : D} {x : PyData} (h : d.shp = some x) : d.py = some x ∧ SeqAt.shaped x = true := by
  unfold D.shp at h
  split at h
  · split at h
    · cases h; exact ⟨by assumption, by assumption⟩
    · cases h
  · cases h
/-- a scalar as a value -/
def vD : D → V
  | .non => .non
  | .bl b => .bl b
  | .int i => .int i
  | .str x => .str x
  | _ => .non
theorem Sn.flat {d : D} {x : V} (h : Sn g F H x d) (f : flatD d = true) : x = vD d := by cases h <;> first | rfl | cases f
theorem Rep.flat {d : D} {x : V} (h : Rep g F x d) (f : flatD d = true) : x = vD d := by cases h <;> first | rfl | cases f
theorem flat_vD {d : D} (f : flatD d = true) : flatV (vD d) = true := by cases d <;> first | rfl | cases f
theorem eqF_vD {a b : D} (fa : flatD a = true) (fb : flatD b = true) : eqV (vD a) (vD b) = eqF a b := by
  cases a <;> cases b <;> first | rfl | exact absurd (show false = true from fa) Bool.false_ne_true | exact absurd (show false = true from fb) Bool.false_ne_true
theorem eqS_scal {a b : D} {r : Bool} (h : eqS a b = some r) : flatD a = true ∧ flatD b = true ∧ scal (vD a) (vD b) = true ∧ decide (vD a = vD b) = r := by
  cases a <;> cases b <;> simp [eqS] at h <;> subst h <;> refine ⟨rfl, rfl, rfl, ?_⟩ <;> simp [vD]
def rLeS : R2 := fun x y H Q => ∃ i j, x = .str i ∧ y = .str j ∧ Q (.bl (!decide (j.cps.toList < i.cps.toList))) H
/-- one sign in a text -/
def rSgn (neg : Bool) : R2 := fun x y H Q => ∃ (c : Nat) (z : Str), x = .str ⟨#[c]⟩ ∧ y = .str z ∧ Q (.bl (if neg then !decide (c ∈ z.cps.toList) else decide (c ∈ z.cps.toList))) H
def rCO (K : Frag) (P : Program) (w : World) : CO → R2
  | .eq => fun x y H Q => rEq x y H Q ∨ rEqD K x y H Q
  | .ne => fun x y H Q => rNe x y H Q ∨ rNeD K x y H Q
  | .lt => rI0 fun i j => .bl (decide (i < j))
  | .le => fun x y H Q => rI0 (fun i j => .bl (decide (i ≤ j))) x y H Q ∨ rLeS x y H Q
  | .gt => rI0 fun i j => .bl (decide (j < i))
  | .ge => rI0 fun i j => .bl (decide (j ≤ i))
  | .isin => fun x y H Q => rSgn false x y H Q ∨ ((rIn K false x y H Q ∨ (rInD K x y H Q ∨ rInDT K x y H Q)) ∨ (rDIn K false x y H Q ∨ rSInK P w false x y H Q))
  | .notin => fun x y H Q => rSgn true x y H Q ∨ ((rIn K true x y H Q ∨ (rNotInD K x y H Q ∨ rNotInDT K x y H Q)) ∨ (rDIn K true x y H Q ∨ rSInK P w true x y H Q))
  | .is => fun _ _ _ _ => False
  | .isnot => fun _ _ _ _ => False
def CO.op : CO → CmpOp
  | .eq => .Eq | .ne => .NotEq | .lt => .Lt | .le => .LtE | .gt => .Gt | .ge => .GtE | .isin => .In | .notin => .NotIn | .is => .Is | .isnot => .IsNot
theorem opR_false {X : Cx} {f : Value → Value → Sem Value} : OpR X f fun _ _ _ _ => False := fun _ _ _ _ _ _ _ _ _ _ _ _ h => h.elim
theorem rCO_ok {X : Cx} (hu : X.A.units + 65 < cLine) (op : CO) : OpR X (compareOp op.op) (rCO X.K X.prog X.w op) := by
  have hu64 : X.A.units + 64 < cLine := Nat.lt_of_succ_lt hu
  cases op with
  | eq => exact OpR.or op_eq (op_eqD hu64)
  | ne => exact OpR.or op_ne (op_neD hu64)
  | lt => exact op_lt
  | le => exact OpR.or op_le L2.op_le_str
  | gt => exact op_gt
  | ge => exact op_ge
  | isin => exact OpR.or L2.op_in_sign (OpR.or (OpR.or op_in_seq (OpR.or (op_inD hu) (op_inDT hu))) (OpR.or (op_dIn (by omega)) or_sinK))
  | notin => exact OpR.or L2.op_notIn_sign (OpR.or (OpR.or op_notIn_seq (OpR.or (op_notInD hu) (op_notInDT hu))) (OpR.or (op_dNotIn (by omega)) or_snotinK))
  | is => exact opR_false
  | isnot => exact opR_false
theorem Rps.flats {ds : List D} {vs : List V} (r : Rps g F vs ds) (f : ds.all flatD = true) : vs.all flatV = true ∧ vs = ds.map vD := by
  have e : vs = ds.map vD := by
    apply List.ext_getElem (by rw [r.1, List.length_map])
    intro k h1 h2
    have h3 : k < ds.length := by rw [← r.1]; exact h1
    rw [List.getElem_map]
    exact (r.2 k _ _ (List.getElem?_eq_getElem h1) (List.getElem?_eq_getElem h3)).flat (List.all_eq_true.mp f _ (List.getElem_mem h3))
  refine ⟨?_, e⟩
  rw [e, List.all_map]
  exact List.all_eq_true.mpr fun d hd => flat_vD (List.all_eq_true.mp f d hd)
theorem inV_vD {d : D} {ds : List D} (fd : flatD d = true) (f : ds.all flatD = true) : inV (vD d) (ds.map vD) = ds.any fun y => eqF y d := by
  unfold inV
  rw [List.any_map]
  induction ds with
  | nil => rfl
  | cons a r ih =>
    simp only [List.all_cons, Bool.and_eq_true] at f
    simp only [List.any_cons, Function.comp]
    rw [eqF_vD f.1 fd]
    exact congrArg _ (ih f.2)
theorem pys_lst {ds : List D} {x : PyData} (h : (D.lst ds).py = some x) : ∃ ys, x = .list ys ∧ D.pys ds = some ys := by
  simp only [D.py, Option.map_eq_some_iff] at h
  obtain ⟨ys, a, b⟩ := h
  exact ⟨ys, b.symm, a⟩
theorem shaped_tup {ys : List PyData} (h : SeqAt.shaped (.list ys) = true) : SeqAt.shaped (.tuple ys) = true := by
  unfold SeqAt.shaped at h ⊢
  simpa [PyData.canLay0, PyData.depth] using h
/-- in, over both kinds of rows -/
theorem in_ok (r : Rl g ρ F σ H) {neg : Bool} {x : V} {a : D} {vs : List V} {ds : List D} {b : Bool} {y : Addr} (sx : Sn g F H x a) (hy : SqL g.K H y vs ∨ SqT g.K H y vs) (rs : Rps g F vs ds) (e : inD a ds = some b)
    (k : Q (.bl (if neg then !b else b)) H) : rIn g.K neg x (.ref y) H Q ∨ ((∃ d es, Dp g.K H x d ∧ Dp g.K H (.ref y) (.list es) ∧ SeqAt.shaped d = true ∧ SeqAt.shaped (.list es) = true ∧ b = (es.any fun z => PyData.eqv z d)) ∨
      ∃ d es, Dp g.K H x d ∧ Dp g.K H (.ref y) (.tuple es) ∧ SeqAt.shaped d = true ∧ SeqAt.shaped (.tuple es) = true ∧ b = (es.any fun z => PyData.eqv z d)) := by
  unfold inD at e
  split at e
  · rename_i h
    cases e
    obtain ⟨h1, h2⟩ := Bool.and_eq_true_iff.mp h
    obtain ⟨q1, q2⟩ := rs.flats h2
    subst q2
    rw [sx.flat h1]
    refine .inl ⟨y, _, rfl, hy, flat_vD h1, q1, ?_⟩
    rw [inV_vD h1 h2]
    exact k
  · split at e
    · rename_i a' bs h1 h2
      cases e
      obtain ⟨p1, s1⟩ := D.shp_some h1
      obtain ⟨p2, s2⟩ := D.shp_some h2
      obtain ⟨ys, e1, p3⟩ := pys_lst p2
      cases e1
      rcases hy with hy | hy
      · exact .inr (.inl ⟨_, _, sx.dp r.same p1, .lst hy (Reps.dp r.same rs p3), s1, s2, rfl⟩)
      · exact .inr (.inr ⟨_, _, sx.dp r.same p1, .tup hy (Reps.dp r.same rs p3), s1, shaped_tup s2, rfl⟩)
    · cases e
/-- keys -/
theorem Sn.key {x : V} {d : D} {k : Key} (h : Sn g F H x d) (e : d.key? = some k) : x = kV k := by
  cases h <;> simp [D.key?] at e <;> subst e <;> rfl
theorem Rep.key {x : V} {d : D} {k : Key} (h : Rep g F x d) (e : d.key? = some k) : x = kV k := by
  cases h <;> simp [D.key?] at e <;> subst e <;> rfl
theorem keys_rel {vs : List V} {ds : List D} {ks : List Key} (r : Rps g F vs ds) (e : D.keys? ds = some ks) : vs = ks.map kV := by
  induction ds generalizing vs ks with
  | nil =>
    cases e
    exact List.eq_nil_of_length_eq_zero r.1
  | cons d ds ih =>
    cases vs with
    | nil => have := r.1; simp at this
    | cons v vs =>
      simp only [D.keys?] at e
      split at e
      · rename_i k ks' h1 h2
        cases e
        rw [List.map_cons, r.head.key h1, ih r.tail h2]
      · cases e
/-- a table of values beside a table of data -/
theorem look_rel {κ : Type} [DecidableEq κ] {kvs : List (κ × V)} {ks : List κ} {ds : List D} (hk : kvs.map (·.1) = ks) (r : Rps g F (kvs.map (·.2)) ds) (k : κ) :
    (valV kvs k = none ∧ look (ks.zip ds) k = none) ∨ ∃ v d, valV kvs k = some v ∧ look (ks.zip ds) k = some d ∧ Rep g F v d := by
  induction kvs generalizing ks ds with
  | nil => subst hk; exact .inl ⟨rfl, rfl⟩
  | cons p kvs ih =>
    subst hk
    cases ds with
    | nil => have := r.1; simp at this
    | cons d ds =>
      by_cases e : p.1 = k
      · refine .inr ⟨p.2, d, valV_pos e, ?_, r.head⟩
        simp [look, e]
      · rcases ih rfl r.tail with ⟨a, b⟩ | ⟨v, d', a, b, c⟩
        · exact .inl ⟨by rw [valV_neg e]; exact a, by simpa [look, e] using b⟩
        · exact .inr ⟨v, d', by rw [valV_neg e]; exact a, by simpa [look, e] using b, c⟩
/-- what a dict has at a key -/
theorem Sn.get {x y : V} {d a : D} {o : Option D} (sx : Sn g F H x d) (sy : Sn g F H y a) (e : getD? d a = some o) : ∃ p ov, x = .ref p ∧ (DGet H p y ov ∨ DGetT g.K H p y ov) ∧ ((ov = none ∧ o = none) ∨ ∃ v z, ov = some v ∧ o = some z ∧ Rep g F v z) := by
  cases sx with
  | dK h hk r =>
    simp only [getD?] at e
    split at e
    · rename_i k hkey
      cases e
      rw [sy.key hkey]
      rcases look_rel hk r k with ⟨h1, h2⟩ | ⟨v, z, h1, h2, h3⟩
      · exact ⟨_, _, rfl, .inl (DGet.k h), .inl ⟨h1, h2⟩⟩
      · exact ⟨_, _, rfl, .inl (DGet.k h), .inr ⟨v, z, h1, h2, h3⟩⟩
    · cases e
  | dT h hk r =>
    simp only [getD?] at e
    split at e
    · split at e
      · rename_i k hkey
        cases e
        cases sy with
        | tup hb rb =>
          have eb := keys_rel rb hkey
          subst eb
          rcases look_rel hk r k with ⟨h1, h2⟩ | ⟨v, z, h1, h2, h3⟩
          · exact ⟨_, _, rfl, .inr ⟨k, _, rfl, hb, .inl ⟨_, .inl h, rfl⟩⟩, .inl ⟨h1, h2⟩⟩
          · exact ⟨_, _, rfl, .inr ⟨k, _, rfl, hb, .inl ⟨_, .inl h, rfl⟩⟩, .inr ⟨v, z, h1, h2, h3⟩⟩
      · cases e
    · cases e
  | non => simp [getD?] at e
  | bl => simp [getD?] at e
  | int => simp [getD?] at e
  | str => simp [getD?] at e
  | tup => simp [getD?] at e
  | lst => simp [getD?] at e
  | scr => simp [getD?] at e
  | obj => simp [getD?] at e
  | st => simp [getD?] at e
theorem str_one {z : Str} {c : Nat} (h : z.cps.toList = [c]) : z = ⟨#[c]⟩ := by
  cases z with
  | mk a => cases a with | mk l => cases h; rfl
theorem opC_ok (r : Rl g ρ F σ H) {op : CO} {x y : V} {a b : D} {v : Bool} (sx : Sn g F H x a) (sy : Sn g F H y b) (e : opC op a b = some v) (k : Q (.bl v) H) : rCO g.K g.P g.w op x y H Q := by
  have eqs : ∀ {v : Bool}, eqD a b = some v → (scal x y = true ∧ decide (x = y) = v) ∨ ∃ d e, Dp g.K H x d ∧ Dp g.K H y e ∧ SeqAt.shaped d = true ∧ SeqAt.shaped e = true ∧ PyData.eqv d e = v := fun {v} q => by
    unfold eqD at q
    split at q
    · rename_i r' h
      cases q
      obtain ⟨f1, f2, f3, f4⟩ := eqS_scal h
      rw [sx.flat f1, sy.flat f2]
      exact .inl ⟨f3, f4⟩
    · split at q
      · rename_i d e' h1 h2
        cases q
        obtain ⟨p1, s1⟩ := D.shp_some h1
        obtain ⟨p2, s2⟩ := D.shp_some h2
        exact .inr ⟨_, _, sx.dp r.same p1, sy.dp r.same p2, s1, s2, rfl⟩
      · cases q
  have int2 : ∀ {f : Int → Int → Bool} {i j : Int}, x = .int i → y = .int j → v = f i j → rI0 (fun i j => .bl (f i j)) x y H Q := fun h1 h2 h3 => by
    subst h1; subst h2; subst h3
    exact ⟨_, _, rfl, rfl, k⟩
  unfold opC at e
  split at e
  · rcases eqs e with ⟨h1, h2⟩ | ⟨d, e', h1, h2, h3, h4, h5⟩
    · exact .inl ⟨h1, by rw [h2]; exact k⟩
    · exact .inr ⟨d, e', h1, h2, h3, h4, by rw [h5]; exact k⟩
  · simp only [Option.map_eq_some_iff] at e
    obtain ⟨w, e, rfl⟩ := e
    rcases eqs e with ⟨h1, h2⟩ | ⟨d, e', h1, h2, h3, h4, h5⟩
    · exact .inl ⟨h1, by rw [h2]; exact k⟩
    · exact .inr ⟨d, e', h1, h2, h3, h4, by rw [h5]; exact k⟩
  · cases e; exact int2 (f := fun i j => decide (i < j)) sx.isInt sy.isInt rfl
  · cases e; exact .inl (int2 (f := fun i j => decide (i ≤ j)) sx.isInt sy.isInt rfl)
  · cases e; exact int2 (f := fun i j => decide (j < i)) sx.isInt sy.isInt rfl
  · cases e; exact int2 (f := fun i j => decide (j ≤ i)) sx.isInt sy.isInt rfl
  · cases e
    exact .inr ⟨_, _, sx.isStr, sy.isStr, k⟩
  · split at e
    · rename_i xx z _ c hc
      cases e
      refine .inl ⟨c, z, ?_, sy.isStr, k⟩
      rw [sx.isStr]
      exact congrArg V.str (str_one hc)
    · cases e
  · split at e
    · rename_i xx z _ c hc
      cases e
      refine .inl ⟨c, z, ?_, sy.isStr, k⟩
      rw [sx.isStr]
      exact congrArg V.str (str_one hc)
    · cases e
  · obtain ⟨p, vs, rfl, h1, h2⟩ := sy.isLst
    rcases in_ok (neg := false) (Q := Q) r sx (.inl (SqL.of h1)) h2 e k with q | ⟨d, es, a1, a2, a3, a4, a5⟩ | ⟨d, es, a1, a2, a3, a4, a5⟩
    · exact .inr (.inl (.inl q))
    · exact .inr (.inl (.inr (.inl ⟨d, es, a1, a2, a3, a4, by rw [← a5]; exact k⟩)))
    · exact .inr (.inl (.inr (.inr ⟨d, es, a1, a2, a3, a4, by rw [← a5]; exact k⟩)))
  · obtain ⟨p, vs, rfl, h1, h2⟩ := sy.isTup
    rcases in_ok (neg := false) (Q := Q) r sx (.inr h1) h2 e k with q | ⟨d, es, a1, a2, a3, a4, a5⟩ | ⟨d, es, a1, a2, a3, a4, a5⟩
    · exact .inr (.inl (.inl q))
    · exact .inr (.inl (.inr (.inl ⟨d, es, a1, a2, a3, a4, by rw [← a5]; exact k⟩)))
    · exact .inr (.inl (.inr (.inr ⟨d, es, a1, a2, a3, a4, by rw [← a5]; exact k⟩)))
  · simp only [Option.map_eq_some_iff] at e
    obtain ⟨w, e, rfl⟩ := e
    obtain ⟨p, vs, rfl, h1, h2⟩ := sy.isLst
    rcases in_ok (neg := true) (Q := Q) r sx (.inl (SqL.of h1)) h2 e k with q | ⟨d, es, a1, a2, a3, a4, a5⟩ | ⟨d, es, a1, a2, a3, a4, a5⟩
    · exact .inr (.inl (.inl q))
    · exact .inr (.inl (.inr (.inl ⟨d, es, a1, a2, a3, a4, by rw [← a5]; exact k⟩)))
    · exact .inr (.inl (.inr (.inr ⟨d, es, a1, a2, a3, a4, by rw [← a5]; exact k⟩)))
  · simp only [Option.map_eq_some_iff] at e
    obtain ⟨w, e, rfl⟩ := e
    obtain ⟨p, vs, rfl, h1, h2⟩ := sy.isTup
    rcases in_ok (neg := true) (Q := Q) r sx (.inr h1) h2 e k with q | ⟨d, es, a1, a2, a3, a4, a5⟩ | ⟨d, es, a1, a2, a3, a4, a5⟩
    · exact .inr (.inl (.inl q))
    · exact .inr (.inl (.inr (.inl ⟨d, es, a1, a2, a3, a4, by rw [← a5]; exact k⟩)))
    · exact .inr (.inl (.inr (.inr ⟨d, es, a1, a2, a3, a4, by rw [← a5]; exact k⟩)))
  · simp only [Option.map_eq_some_iff] at e
    obtain ⟨w, e, rfl⟩ := e
    obtain ⟨p, ov, rfl, h1, h2⟩ := sy.get sx e
    rcases h2 with ⟨rfl, rfl⟩ | ⟨v, z, rfl, rfl, _⟩
    · exact .inr (.inr (.inl ⟨p, _, rfl, h1, k⟩))
    · exact .inr (.inr (.inl ⟨p, _, rfl, h1, k⟩))
  · simp only [Option.map_eq_some_iff] at e
    obtain ⟨w, e, rfl⟩ := e
    obtain ⟨p, ov, rfl, h1, h2⟩ := sy.get sx e
    rcases h2 with ⟨rfl, rfl⟩ | ⟨v, z, rfl, rfl, _⟩
    · exact .inr (.inr (.inl ⟨p, _, rfl, h1, k⟩))
    · exact .inr (.inr (.inl ⟨p, _, rfl, h1, k⟩))
  · simp only [Option.map_eq_some_iff] at e
    obtain ⟨w, e, rfl⟩ := e
    obtain ⟨p, ov, rfl, h1, h2⟩ := sy.get sx e
    rcases h2 with ⟨rfl, rfl⟩ | ⟨v, z, rfl, rfl, _⟩
    · exact .inr (.inr (.inl ⟨p, _, rfl, h1, k⟩))
    · exact .inr (.inr (.inl ⟨p, _, rfl, h1, k⟩))
  · simp only [Option.map_eq_some_iff] at e
    obtain ⟨w, e, rfl⟩ := e
    obtain ⟨p, ov, rfl, h1, h2⟩ := sy.get sx e
    rcases h2 with ⟨rfl, rfl⟩ | ⟨v, z, rfl, rfl, _⟩
    · exact .inr (.inr (.inl ⟨p, _, rfl, h1, k⟩))
    · exact .inr (.inr (.inl ⟨p, _, rfl, h1, k⟩))
  · simp only [Option.map_eq_some_iff] at e
    obtain ⟨w, e, rfl⟩ := e
    have sx := sx.key e
    subst sx
    cases sy with
    | st h => exact .inr (.inr (.inr ⟨_, _, _, _, rfl, rfl, h, k⟩))
  · simp only [Option.map_eq_some_iff] at e
    obtain ⟨w, e, rfl⟩ := e
    have sx := sx.key e
    subst sx
    cases sy with
    | st h => exact .inr (.inr (.inr ⟨_, _, _, _, rfl, rfl, h, k⟩))
  · cases e
end
end EN
/-! Items, slices, built-in functions, truth, classes, fields. -/
namespace EN
open PySem L2
section
variable {g : Gam} {W : WX} {ρ ρ1 ρ2 : Env} {F F1 F2 H H1 H2 H0 : Hp} {σ σ1 σ2 : L2.St} {p : Addr} {o : HO} {i j : Nat} {Q : VK}
theorem sqT_rep {x : V} {a : Addr} {vs : List V} {ds : List D} (h : SqT g.K F a vs) (r : Rps g F vs ds) : Rep g F (.ref a) (.tup ds) := .tup h r.1 r.2
/-! ### items -/
def rIXX (K : Frag) : R2 := fun x y H Q => rIx K x y H Q ∨ rDIx K x y H Q
theorem rIXX_ok {X : Cx} (hu : X.A.units + 1 < cLine) : IxR X (rIXX X.K) := ix_seq.or (ix_dict hu)
theorem atI_rel {vs : List V} {ds : List D} (r : Rps g F vs ds) {i : Int} {d : D} (h : atI ds i = some d) : ∃ v, atI vs i = some v ∧ Rep g F v d := by
  unfold atI at h ⊢
  rw [r.1]
  cases e : ixN ds.length i with
  | none => rw [e] at h; cases h
  | some j => rw [e] at h; exact r.at h
theorem atI_map {α β : Type} (f : α → β) (xs : List α) (i : Int) : atI (xs.map f) i = (atI xs i).map f := by
  unfold atI
  rw [List.length_map]
  cases ixN xs.length i with
  | none => rfl
  | some j => simp
theorem opI_ok (r : Rl g ρ F σ H) {x y : V} {a b d : D} (sx : Sn g F H x a) (sy : Sn g F H y b) (e : opI a b = some d) (k : ∀ z, Rep g F z d → Q z H) : rIXX g.K x y H Q := by
  unfold opI at e
  split at e
  · obtain ⟨p, vs, rfl, h1, h2⟩ := sx.isLst
    obtain ⟨v, h3, h4⟩ := atI_rel h2 e
    exact .inl (.inl ⟨p, vs, _, v, rfl, sy.isInt, SqL.of h1, h3, k v h4⟩)
  · obtain ⟨p, vs, rfl, h1, h2⟩ := sx.isTup
    obtain ⟨v, h3, h4⟩ := atI_rel h2 e
    exact .inl (.inr (.inl ⟨p, vs, _, v, rfl, sy.isInt, h1, h3, k v h4⟩))
  · rename_i ns i
    cases sx with
    | scr h =>
      rw [Option.map_eq_some_iff] at e
      obtain ⟨n, h1, h2⟩ := e
      subst h2
      exact .inl (.inl ⟨_, _, _, .int n, rfl, sy.isInt, h, by rw [atI_map, h1]; rfl, k _ (.int n)⟩)
  · split at e
    · rename_i hz
      rw [Option.map_eq_some_iff] at e
      obtain ⟨c, h1, h2⟩ := e
      subst h2
      exact .inl (.inr (.inr ⟨_, _, c, sx.isStr, sy.isInt, Nat.le_trans hz line_le, h1, k _ (.str _)⟩))
    · cases e
  · cases e1 : getD? (.dK _ _) b with
    | none => rw [e1] at e; cases e
    | some ov =>
      rw [e1] at e
      obtain ⟨p, ov', rfl, h1, h2⟩ := sx.get sy e1
      rcases h2 with ⟨_, rfl⟩ | ⟨v, z, rfl, rfl, h3⟩
      · cases e
      · cases e
        exact .inr ⟨p, v, rfl, h1, k v h3⟩
  · cases e1 : getD? (.dT _ _) b with
    | none => rw [e1] at e; cases e
    | some ov =>
      rw [e1] at e
      obtain ⟨p, ov', rfl, h1, h2⟩ := sx.get sy e1
      rcases h2 with ⟨_, rfl⟩ | ⟨v, z, rfl, rfl, h3⟩
      · cases e
      · cases e
        exact .inr ⟨p, v, rfl, h1, k v h3⟩
  · cases e
/-! ### slices -/
def rSLL (K : Frag) : V → Option Int → Option Int → Hp → VK → Prop := fun x lo hi H Q => rSlL K x lo hi H Q ∨ (rSlA K x lo hi H Q ∨ rSlS x lo hi H Q)
theorem rSLL_ok {X : Cx} : SlR X (rSLL X.K) := sl_list.or (sl_tupA.or sl_str)
theorem cut_rel {vs : List V} {ds : List D} (r : Rps g F vs ds) (lo hi : Option Int) : Rps g F (cutV vs lo hi) (cut ds lo hi) := by
  unfold cutV cut
  rw [r.1]
  exact (r.drop _).take _
theorem cut_all {α : Type} {xs : List α} {lo hi : Option Int} (h : HT.sIx xs.length 0 lo = 0 ∧ HT.sIx xs.length xs.length hi = xs.length) : cut xs lo hi = xs := by
  unfold cut
  rw [h.1, h.2]
  simp
theorem opS_ok (r : Rl g ρ F σ H) {x : V} {vx : IV} {a : D} {v : IV} {lo hi : Option Int} (hx : IvP g F σ x vx) (ex : vw ρ vx = some a) (e : opS a lo hi = some v) (k : OkQ g ρ F σ H Q v ρ) : rSLL g.K x lo hi H Q := by
  have sx : Sn g F H x a := r.seen (hx.ok (H0 := H)) ex
  unfold opS at e
  split at e
  · cases e
    obtain ⟨p, vs, rfl, h1, h2⟩ := sx.isLst
    exact .inl ⟨p, vs, rfl, SqL.of h1, fun q hq => k.fresh r hq (.lst upd_same (cut_rel h2 lo hi)) rfl⟩
  · cases e
    obtain ⟨p, vs, rfl, h1, h2⟩ := sx.isTup
    refine .inr (.inl ⟨p, vs, rfl, h1, fun z => ?_, fun z q hq => k.tup r hq (cut_rel h2 lo hi)⟩)
    have h3 := Sn.tupRep r hx ex
    rw [h2.1] at z
    exact k _ F H (Stp.refl r) (show Rep g F _ _ from by rw [cut_all z]; exact h3)
  · split at e
    · rename_i hz
      cases e
      exact .inr (.inr ⟨_, sx.isStr, Nat.le_trans hz line_le, k.here r (Rep.str _)⟩)
    · cases e
  · cases e
/-! ### built-in functions -/
def rLenX (K : Frag) : List V → Hp → VK → Prop := fun xs H Q => (∃ p ys, xs = [.ref p] ∧ (SqL K H p ys ∨ SqT K H p ys) ∧ Q (.int ys.length) H) ∨ ∃ z, xs = [.str z] ∧ z.length ≤ sizeLine ∧ Q (.int z.length) H
def rIntX : List V → Hp → VK → Prop := fun xs H Q => ((∃ i, xs = [.int i] ∧ Q (.int i) H) ∨ ∃ k, xs = [.bl k] ∧ Q (.int (if k then 1 else 0)) H) ∨ ∃ a n, xs = [.str a] ∧ PySem.intText? a = some n ∧ a.length ≤ 640 ∧ Q (.int n) H
def rStrX : List V → Hp → VK → Prop := fun xs H Q => ∃ i, xs = [.int i] ∧ i.natAbs.log2 < 1920 ∧ Q (.str (toString i)) H
def rMax2 : List V → Hp → VK → Prop := fun xs H Q => ∃ i j, xs = [.int i, .int j] ∧ Q (.int (if j > i then j else i)) H
def rListX (K : Frag) : List V → Hp → VK → Prop := fun xs H Q => ∃ p ys, xs = [.ref p] ∧ (SqL K H p ys ∨ SqT K H p ys) ∧ ∀ l, H l = none → Q (.ref l) (upd H l (.lst ys))
def rTupX (K : Frag) : List V → Hp → VK → Prop := fun xs H Q => ∃ p ys, xs = [.ref p] ∧ ((SqL K H p ys ∧ ∀ l, H l = none → Q (.ref l) (upd H l (.tup ys))) ∨ (SqT K H p ys ∧ Q (.ref p) H))
def rBI (K : Frag) (P : Program) (w : World) : BI → List V → Hp → VK → Prop
  | .len => fun xs H Q => rLenX K xs H Q ∨ rLenS P w xs H Q
  | .int => rIntX
  | .sum => rSum K
  | .list => rListX K
  | .tuple => rTupX K
  | .str => rStrX
  | .all => rAll K
  | .max => rMax2
  | .set => fun xs H Q => rSet0K P w xs H Q ∨ rSetOf K P w xs H Q
def BI.val : BI → Value
  | .len => .builtin "len" | .int => .type "int" | .sum => .builtin "sum" | .list => .type "list" | .tuple => .type "tuple" | .str => .type "str" | .all => .builtin "all" | .max => .builtin "max" | .set => .type "set"
def BI.calm : BI → Bool
  | .sum => true
  | .all => true
  | .max => true
  | .set => true
  | _ => false
theorem rBI_ok {X : Cx} (b : BI) (hc : b.calm = true → X.calm = true) : CallR X b.val (rBI X.K X.prog X.w b) := by
  cases b with
  | len => exact (call_len_seq.or call_len_str).or cr_lenS
  | int => exact call_int1.or call_int_str
  | sum => exact cr_sum (hc rfl)
  | list => exact call_list_of
  | tuple => exact call_tuple_of
  | str => exact call_str_int
  | all => exact cr_all (hc rfl)
  | max => exact call_max2 (hc rfl)
  | set => exact cr_set0K.or (cr_setK (hc rfl))
/-- several values, seen -/
inductive Sns (g : Gam) (F H : Hp) : List V → List D → Prop
  | nil : Sns g F H [] []
  | cons {x : V} {xs : List V} {d : D} {ds : List D} (h : Sn g F H x d) (r : Sns g F H xs ds) : Sns g F H (x :: xs) (d :: ds)
theorem ints_rel {vs : List V} {ds : List D} {ns : List Int} (r : Rps g F vs ds) (e : ints? ds = some ns) : vs = ns.map V.int := by
  induction ds generalizing vs ns with
  | nil =>
    cases e
    exact List.eq_nil_of_length_eq_zero r.1
  | cons d ds ih =>
    cases vs with
    | nil => have := r.1; simp at this
    | cons v vs =>
      cases d with
      | int i =>
        simp only [ints?, Option.map_eq_some_iff] at e
        obtain ⟨ms, h1, h2⟩ := e
        subst h2
        have h3 : v = V.int i := r.head.flat rfl
        rw [h3, ih r.tail h1]
        rfl
      | _ => cases e
theorem bls_rel {vs : List V} {ds : List D} {ns : List Bool} (r : Rps g F vs ds) (e : bls? ds = some ns) : vs = ns.map V.bl := by
  induction ds generalizing vs ns with
  | nil =>
    cases e
    exact List.eq_nil_of_length_eq_zero r.1
  | cons d ds ih =>
    cases vs with
    | nil => have := r.1; simp at this
    | cons v vs =>
      cases d with
      | bl i =>
        simp only [bls?, Option.map_eq_some_iff] at e
        obtain ⟨ms, h1, h2⟩ := e
        subst h2
        have h3 : v = V.bl i := r.head.flat rfl
        rw [h3, ih r.tail h1]
        rfl
      | _ => cases e
theorem strs_rel {vs : List V} {ds : List D} {ns : List Str} (r : Rps g F vs ds) (e : strs? ds = some ns) : vs = ns.map V.str := by
  induction ds generalizing vs ns with
  | nil =>
    cases e
    exact List.eq_nil_of_length_eq_zero r.1
  | cons d ds ih =>
    cases vs with
    | nil => have := r.1; simp at this
    | cons v vs =>
      cases d with
      | str i =>
        simp only [strs?, Option.map_eq_some_iff] at e
        obtain ⟨ms, h1, h2⟩ := e
        subst h2
        have h3 : v = V.str i := r.head.flat rfl
        rw [h3, ih r.tail h1]
        rfl
      | _ => cases e
theorem scr_rel {ns : List Int} : Rps g F (ns.map V.int) (ns.map D.int) := by
  refine ⟨by simp, fun i v d a b => ?_⟩
  rw [List.getElem?_map] at a b
  cases e : ns[i]? with
  | none => rw [e] at a; cases a
  | some n => rw [e] at a b; cases a; cases b; exact .int n
theorem hset_nil {P : Program} {w : World} {p : Addr} : HSet P w p [] = SetK P w p (fun _ => false) 0 := by
  unfold HSet
  congr 1
theorem opF_ok (r : Rl g ρ F σ H) {f : BI} {xs : List V} {vs : List IV} {ds : List D} {v : IV} (hxs : xs.length = vs.length) (hx : ∀ (i : Nat) (x : V) (w : IV), xs[i]? = some x → vs[i]? = some w → IvP g F σ x w) (ex : vs.mapM (vw ρ) = some ds) (e : opF f ds = some v) (k : OkQ g ρ F σ H Q v ρ) :
    rBI g.K g.P g.w f xs H Q := by
  have one : ∀ d, ds = [d] → ∃ x w, xs = [x] ∧ vs = [w] ∧ IvP g F σ x w ∧ vw ρ w = some d := fun d hd => by
    subst hd
    cases vs with
    | nil => simp at ex
    | cons w ws =>
      rw [List.mapM_cons] at ex
      simp only [Option.pure_def, Option.bind_eq_bind, Option.bind_eq_some_iff] at ex
      obtain ⟨a, h1, as, h2, h3⟩ := ex
      cases h3
      cases ws with
      | nil =>
        match xs, hxs with
        | [x], _ => exact ⟨x, w, rfl, rfl, hx 0 x w rfl rfl, h1⟩
      | cons w' ws =>
        rw [List.mapM_cons] at h2
        simp only [Option.pure_def, Option.bind_eq_bind, Option.bind_eq_some_iff] at h2
        obtain ⟨_, _, _, _, h4⟩ := h2
        cases h4
  have two : ∀ d d', ds = [d, d'] → ∃ x y w u, xs = [x, y] ∧ vs = [w, u] ∧ IvP g F σ x w ∧ vw ρ w = some d ∧ IvP g F σ y u ∧ vw ρ u = some d' := fun d d' hd => by
    subst hd
    match vs, ex, hxs, hx with
    | [], ex, hxs, hx => simp at ex
    | [w], ex, hxs, hx =>
      rw [List.mapM_cons] at ex
      simp only [Option.pure_def, Option.bind_eq_bind, Option.bind_eq_some_iff] at ex
      obtain ⟨a, h1, as, h2, h3⟩ := ex
      cases h2
      cases h3
    | [w, u], ex, hxs, hx =>
      rw [List.mapM_cons, List.mapM_cons] at ex
      simp only [Option.pure_def, Option.bind_eq_bind, Option.bind_eq_some_iff] at ex
      obtain ⟨a, h1, as, ⟨b, h2, bs, h5, h6⟩, h3⟩ := ex
      cases h3
      cases h6
      match xs, hxs with
      | [x, y], _ => exact ⟨x, y, w, u, rfl, rfl, hx 0 x w rfl rfl, h1, hx 1 y u rfl rfl, h2⟩
    | w :: u :: z :: ws, ex, hxs, hx =>
      rw [List.mapM_cons, List.mapM_cons, List.mapM_cons] at ex
      simp only [Option.pure_def, Option.bind_eq_bind, Option.bind_eq_some_iff] at ex
      obtain ⟨a, h1, as, ⟨b, h2, bs, ⟨c, h5, cs, h6, h7⟩, h8⟩, h3⟩ := ex
      cases h3
      cases h8
      cases h7
  have sn : ∀ {d x w}, IvP g F σ x w → vw ρ w = some d → Sn g F H x d := fun h1 h2 => r.seen (h1.ok (H0 := H)) h2
  unfold opF at e
  split at e
  · obtain ⟨x, w, rfl, rfl, h1, h2⟩ := one _ rfl
    cases e
    obtain ⟨p, ys, rfl, a, b⟩ := (sn h1 h2).isLst
    exact .inl (.inl ⟨p, ys, rfl, .inl (SqL.of a), by rw [b.1]; exact k.here r (Rep.int _)⟩)
  · obtain ⟨x, w, rfl, rfl, h1, h2⟩ := one _ rfl
    cases e
    obtain ⟨p, ys, rfl, a, b⟩ := (sn h1 h2).isTup
    exact .inl (.inl ⟨p, ys, rfl, .inr a, by rw [b.1]; exact k.here r (Rep.int _)⟩)
  · obtain ⟨x, w, rfl, rfl, h1, h2⟩ := one _ rfl
    cases e
    cases sn h1 h2 with
    | scr h => exact .inl (.inl ⟨_, _, rfl, .inl h, by rw [List.length_map]; exact k.here r (Rep.int _)⟩)
  · obtain ⟨x, w, rfl, rfl, h1, h2⟩ := one _ rfl
    split at e
    · rename_i hz
      cases e
      cases (sn h1 h2).isStr
      exact .inl (.inr ⟨_, rfl, Nat.le_trans hz line_le, k.here r (Rep.int _)⟩)
    · cases e
  · obtain ⟨x, w, rfl, rfl, h1, h2⟩ := one _ rfl
    cases e
    cases (sn h1 h2).isInt
    exact .inl (.inl ⟨_, rfl, k.here r (Rep.int _)⟩)
  · obtain ⟨x, w, rfl, rfl, h1, h2⟩ := one _ rfl
    cases e
    cases (sn h1 h2).flat rfl
    exact .inl (.inr ⟨_, rfl, k.here r (Rep.int _)⟩)
  · obtain ⟨x, w, rfl, rfl, h1, h2⟩ := one _ rfl
    rw [Option.map_eq_some_iff] at e
    obtain ⟨ns, h3, h4⟩ := e
    subst h4
    obtain ⟨p, ys, rfl, a, b⟩ := (sn h1 h2).isLst
    have e5 := ints_rel b h3
    subst e5
    exact ⟨p, ns, rfl, SqL.of a, k.here r (Rep.int _)⟩
  · obtain ⟨x, w, rfl, rfl, h1, h2⟩ := one _ rfl
    cases e
    obtain ⟨p, ys, rfl, a, b⟩ := (sn h1 h2).isLst
    exact ⟨p, ys, rfl, .inl (SqL.of a), fun l hl => k.fresh r hl (.lst upd_same b) rfl⟩
  · obtain ⟨x, w, rfl, rfl, h1, h2⟩ := one _ rfl
    cases e
    obtain ⟨p, ys, rfl, a, b⟩ := (sn h1 h2).isTup
    exact ⟨p, ys, rfl, .inr a, fun l hl => k.fresh r hl (.lst upd_same b) rfl⟩
  · obtain ⟨x, w, rfl, rfl, h1, h2⟩ := one _ rfl
    cases e
    cases sn h1 h2 with
    | scr h => exact ⟨_, _, rfl, .inl h, fun l hl => k.fresh r hl (.lst upd_same scr_rel) rfl⟩
  · obtain ⟨x, w, rfl, rfl, h1, h2⟩ := one _ rfl
    cases e
    obtain ⟨p, ys, rfl, a, b⟩ := (sn h1 h2).isLst
    exact ⟨p, ys, rfl, .inl ⟨SqL.of a, fun l hl => k.tup r hl b⟩⟩
  · obtain ⟨x, w, rfl, rfl, h1, h2⟩ := one _ rfl
    cases e
    obtain ⟨p, ys, rfl, a, b⟩ := (sn h1 h2).isTup
    exact ⟨p, ys, rfl, .inr ⟨a, k _ F H (Stp.refl r) (Sn.tupRep r h1 h2)⟩⟩
  · obtain ⟨x, w, rfl, rfl, h1, h2⟩ := one _ rfl
    split at e
    · rename_i hz
      rw [Option.map_eq_some_iff] at e
      obtain ⟨n, h3, h4⟩ := e
      subst h4
      cases (sn h1 h2).isStr
      exact .inr ⟨_, n, rfl, h3, hz, k.here r (Rep.int _)⟩
    · cases e
  · obtain ⟨x, w, rfl, rfl, h1, h2⟩ := one _ rfl
    split at e
    · rename_i hz
      cases e
      cases (sn h1 h2).isInt
      exact ⟨_, rfl, hz, k.here r (Rep.str _)⟩
    · cases e
  · obtain ⟨x, w, rfl, rfl, h1, h2⟩ := one _ rfl
    rw [Option.map_eq_some_iff] at e
    obtain ⟨ns, h3, h4⟩ := e
    subst h4
    obtain ⟨p, ys, rfl, a, b⟩ := (sn h1 h2).isLst
    have e5 := bls_rel b h3
    subst e5
    exact ⟨p, ns, rfl, SqL.of a, k.here r (Rep.bl _)⟩
  · obtain ⟨x, y, w, u, rfl, rfl, h1, h2, h3, h4⟩ := two _ _ rfl
    cases e
    cases (sn h1 h2).isInt
    cases (sn h3 h4).isInt
    exact ⟨_, _, rfl, k.here r (Rep.int _)⟩
  · obtain ⟨x, w, rfl, rfl, h1, h2⟩ := one _ rfl
    cases e
    cases sn h1 h2 with
    | st h => exact .inr ⟨_, _, rfl, h, k.here r (Rep.int _)⟩
  · cases e
    cases vs with
    | nil =>
      obtain rfl := List.eq_nil_of_length_eq_zero hxs
      exact .inl ⟨rfl, fun p hp => k.fresh r hp (.st (hset_nil ▸ upd_same)) rfl⟩
    | cons w ws =>
      rw [List.mapM_cons] at ex
      simp only [Option.pure_def, Option.bind_eq_bind, Option.bind_eq_some_iff] at ex
      obtain ⟨a, h1, as, h2, h3⟩ := ex
      cases h3
  · obtain ⟨x, w, rfl, rfl, h1, h2⟩ := one _ rfl
    split at e
    · rename_i ks hk
      split at e
      · rename_i hz
        cases e
        obtain ⟨p, ys, rfl, a, b⟩ := (sn h1 h2).isLst
        have e5 := keys_rel b hk
        subst e5
        exact .inr ⟨p, ks, rfl, .inl (SqL.of a), hz, fun l hl => k.fresh r hl (.st upd_same) rfl⟩
      · cases e
    · cases e
  · obtain ⟨x, w, rfl, rfl, h1, h2⟩ := one _ rfl
    split at e
    · rename_i ks hk
      split at e
      · rename_i hz
        cases e
        obtain ⟨p, ys, rfl, a, b⟩ := (sn h1 h2).isTup
        have e5 := keys_rel b hk
        subst e5
        exact .inr ⟨p, ks, rfl, .inr a, hz, fun l hl => k.fresh r hl (.st upd_same) rfl⟩
      · cases e
    · cases e
  · cases e
/-! ### counts in tuples -/
theorem countF_vD {d : D} {ds : List D} (fd : flatD d = true) (f : ds.all flatD = true) : (ds.map vD).countP (fun z => eqV z (vD d)) = ds.countP fun z => eqF z d := by
  rw [List.countP_map]
  induction ds with
  | nil => rfl
  | cons a r ih =>
    simp only [List.all_cons, Bool.and_eq_true] at f
    rw [List.countP_cons, List.countP_cons, ih f.2]
    simp only [Function.comp, eqF_vD f.1 fd]
theorem cntD_ok {p : Addr} {vs : List V} {ds : List D} {y : V} {b d : D} (hq : SqT g.K H p vs) (rs : Rps g F vs ds) (sy : Rep g F y b) (e : cntD ds b = some d) (k : ∀ z, Rep g F z d → Q z H) : rTCount g.K (.ref p) [y] H Q := by
  unfold cntD at e
  split at e
  · rename_i h
    cases e
    obtain ⟨h1, h2⟩ := Bool.and_eq_true_iff.mp h
    obtain ⟨q1, q2⟩ := rs.flats h2
    subst q2
    rw [sy.flat h1]
    refine ⟨p, _, _, rfl, rfl, hq, flat_vD h1, q1, ?_⟩
    rw [countF_vD h1 h2]
    exact k _ (.int _)
  · cases e
/-! ### methods of texts -/
def rMT (K : Frag) : MT → V → List V → Hp → VK → Prop
  | .rmp => fun x xs H Q => ∃ a b, x = .str a ∧ xs = [.str b] ∧ a.length ≤ sizeLine ∧ Q (.str (Txt.removeprefix a b)) H
  | .find => fun x xs H Q => ∃ (a b : Str) (i : Int), x = .str a ∧ xs = [.str b, .int i] ∧ Q (.int (Txt.find3 a b i)) H
  | .join => fun x xs H Q => ∃ a p, ∃ ys : List Str, x = .str a ∧ xs = [.ref p] ∧ (SqL K H p (ys.map V.str) ∨ SqT K H p (ys.map V.str)) ∧ (ys.map (·.length)).sum + ys.length * a.length ≤ 16777216 ∧ Q (.str (Txt.join a ys)) H
def MT.id : MT → String
  | .rmp => "str.removeprefix" | .find => "str.find" | .join => "str.join"
theorem rMT_ok {X : Cx} (m : MT) : MtR X m.id (rMT X.K m) := by
  cases m with
  | rmp => exact mt_removeprefix
  | find => exact mt_find3
  | join => exact mt_join
theorem opM_ok (r : Rl g ρ F σ H) {m : MT} {a : Str} {xs : List V} {vs : List IV} {ds : List D} {d : D} (hxs : xs.length = vs.length) (hx : ∀ (i : Nat) (x : V) (w : IV), xs[i]? = some x → vs[i]? = some w → IvP g F σ x w) (ex : vs.mapM (vw ρ) = some ds) (e : opM m a ds = some d) (k : OkQ g ρ F σ H Q (.d d) ρ) :
    rMT g.K m (.str a) xs H Q := by
  have one : ∀ d, ds = [d] → ∃ x w, xs = [x] ∧ vs = [w] ∧ IvP g F σ x w ∧ vw ρ w = some d := fun d hd => by
    subst hd
    cases vs with
    | nil => simp at ex
    | cons w ws =>
      rw [List.mapM_cons] at ex
      simp only [Option.pure_def, Option.bind_eq_bind, Option.bind_eq_some_iff] at ex
      obtain ⟨a, h1, as, h2, h3⟩ := ex
      cases h3
      cases ws with
      | nil =>
        match xs, hxs with
        | [x], _ => exact ⟨x, w, rfl, rfl, hx 0 x w rfl rfl, h1⟩
      | cons w' ws =>
        rw [List.mapM_cons] at h2
        simp only [Option.pure_def, Option.bind_eq_bind, Option.bind_eq_some_iff] at h2
        obtain ⟨_, _, _, _, h4⟩ := h2
        cases h4
  have two : ∀ d d', ds = [d, d'] → ∃ x y w u, xs = [x, y] ∧ vs = [w, u] ∧ IvP g F σ x w ∧ vw ρ w = some d ∧ IvP g F σ y u ∧ vw ρ u = some d' := fun d d' hd => by
    subst hd
    match vs, ex, hxs, hx with
    | [], ex, hxs, hx => simp at ex
    | [w], ex, hxs, hx =>
      rw [List.mapM_cons] at ex
      simp only [Option.pure_def, Option.bind_eq_bind, Option.bind_eq_some_iff] at ex
      obtain ⟨a, h1, as, h2, h3⟩ := ex
      cases h2
      cases h3
    | [w, u], ex, hxs, hx =>
      rw [List.mapM_cons, List.mapM_cons] at ex
      simp only [Option.pure_def, Option.bind_eq_bind, Option.bind_eq_some_iff] at ex
      obtain ⟨a, h1, as, ⟨b, h2, bs, h5, h6⟩, h3⟩ := ex
      cases h3
      cases h6
      match xs, hxs with
      | [x, y], _ => exact ⟨x, y, w, u, rfl, rfl, hx 0 x w rfl rfl, h1, hx 1 y u rfl rfl, h2⟩
    | w :: u :: z :: ws, ex, hxs, hx =>
      rw [List.mapM_cons, List.mapM_cons, List.mapM_cons] at ex
      simp only [Option.pure_def, Option.bind_eq_bind, Option.bind_eq_some_iff] at ex
      obtain ⟨a, h1, as, ⟨b, h2, bs, ⟨c, h5, cs, h6, h7⟩, h8⟩, h3⟩ := ex
      cases h3
      cases h8
      cases h7
  have sn : ∀ {d x w}, IvP g F σ x w → vw ρ w = some d → Sn g F H x d := fun h1 h2 => r.seen (h1.ok (H0 := H)) h2
  unfold opM at e
  split at e
  · obtain ⟨x, w, rfl, rfl, h1, h2⟩ := one _ rfl
    split at e
    · rename_i hz
      cases e
      cases (sn h1 h2).isStr
      exact ⟨_, _, rfl, rfl, Nat.le_trans hz line_le, k.here r (Rep.str _)⟩
    · cases e
  · obtain ⟨x, y, w, u, rfl, rfl, h1, h2, h3, h4⟩ := two _ _ rfl
    cases e
    cases (sn h1 h2).isStr
    cases (sn h3 h4).isInt
    exact ⟨_, _, _, rfl, rfl, k.here r (Rep.int _)⟩
  · obtain ⟨x, w, rfl, rfl, h1, h2⟩ := one _ rfl
    split at e
    · rename_i ys h3
      split at e
      · rename_i hz
        cases e
        obtain ⟨p, zs, rfl, a1, b⟩ := (sn h1 h2).isLst
        have e5 := strs_rel b h3
        subst e5
        exact ⟨_, p, ys, rfl, rfl, .inl (SqL.of a1), Nat.le_trans hz (by decide), k.here r (Rep.str _)⟩
      · cases e
    · cases e
  · cases e
/-! ### truth -/
theorem truD_ok (r : Rl g ρ F σ H) {x : V} {d : D} {b : Bool} (sx : Sn g F H x d) (e : truD d = some b) : TruV g.K x H b := by
  have emp : ∀ {vs : List V} {ds : List D}, Rps g F vs ds → (!ds.isEmpty) = !vs.isEmpty := fun {vs ds} q => by
    cases vs <;> cases ds <;> first | rfl | (have := q.1; simp at this)
  unfold truD at e
  split at e
  · cases e; cases sx; rfl
  · cases e; cases sx; rfl
  · cases e; cases sx; rfl
  · split at e
    · rename_i hz
      cases e; cases sx; exact ⟨Nat.le_trans hz line_le, rfl⟩
    · cases e
  · cases e
    cases sx with
    | tup h q => exact .inr (.inl ⟨_, h, emp q⟩)
  · cases e
    cases sx with
    | lst h q => exact .inl ⟨_, SqL.of h, emp q⟩
  · cases e
end
end EN
/-! Readings of expressions, and that they follow from the runs. -/
namespace EN
open PySem L2

/-- what the readings name besides: the promises of the defs -/
structure Sg where
  g : G0
  fsp : Nat → Sp
/-- nothing is let out -/
abbrev W0 : WX := fun _ _ _ _ => False
def tyV (g : G0) : TY → V
  | .int => .ty "int" | .str => .ty "str" | .bool => .ty "bool" | .list => .ty "list" | .tuple => .ty "tuple" | .dict => .ty "dict"
  | .cls c => .ref (g.oc c) | .exc c => .ref (g.ec c) | .ve => .ty "ValueError"
def tyU (g : G0) : TY → Value
  | .int => .type "int" | .str => .type "str" | .bool => .type "bool" | .list => .type "list" | .tuple => .type "tuple" | .dict => .type "dict"
  | .cls c => .ref (g.oc c) | .exc c => .ref (g.ec c) | .ve => .type "ValueError"
def tyD (g : G0) : D → Value
  | .non => .type "NoneType" | .bl _ => .type "bool" | .int _ => .type "int" | .str _ => .type "str" | .tup _ => .type "tuple" | .lst _ => .type "list" | .scr _ => .type "list"
  | .dK _ _ => .type "dict" | .dT _ _ => .type "dict" | .obj c _ => .ref (g.oc c) | .st _ => .type "set"
/-- what the written part says -/
structure KF (g : G0) : Prop where
  isi : ∀ (d : D) (t : TY), isTyN d = true → g.T.tok t = true → (∀ c fs, d = .obj c fs → c < g.T.nc) → PySem.W.kitOne g.K (tyD g d) (tyU g t) = some (isTy d t)
  ise : ∀ (c : Nat) (t : TY), g.T.tok t = true → c < g.T.ne → PySem.W.kitOne g.K (.ref (g.ec c)) (tyU g t) = some (isE g.T c t)
  cls : ∀ c, c < g.T.nc → Cls g.K (g.oc c) ∧ PySem.W.findIn g.K (.ref (g.oc c)) "__class__" = some (some (.builtin "object.__class__")) ∧ PySem.W.mroIn g.K (g.oc c) (.type "object") = some true ∧ ∀ n ∈ g.T.of c, NoAttr g.K (g.oc c) n
  exm : ∀ (c k : Nat), c < g.T.ne → k < g.T.ne → PySem.W.exmOne g.K (.ref (g.ec c)) (.ref (g.ec k)) = some (g.T.es c k)
  cget : PySem.W.specialIn g.K (.builtin "object.__class__") "__get__" = some (some (.builtin "getset_descriptor.__get__"))
  ctak : PySem.W.takesIn g.K (.builtin "object.__class__") = some true

/-- isinstance of any value, of the error that is held -/
def rIsX (g : G0) : List V → Hp → VK → Prop := fun xs H Q => rIsi g.K xs H Q ∨
  ∃ (a : Addr) (c : Nat) (d : Option Addr) (dd : Addr) (ws : List (Str × V)) (u : V) (cv : Value) (b : Bool), g.pn = some (a, .ref (g.ec c), d) ∧ c < g.T.ne ∧ xs = [.ref a, u] ∧ ClsV u cv ∧ d = some dd ∧ H dd = some (.xd ws) ∧
    PySem.W.kitOne g.K (.ref (g.ec c)) cv = some b ∧ Q (.bl b) H
/-- e.n of an instance, of the error that is held -/
def tFldX (g : G0) (ta : TE) (n : Str) : TE := fun σ H Q => ta σ H fun x H1 =>
  (∃ a C dx fs v, x = .ref a ∧ H1 a = some (.ins C dx fs) ∧ Cls g.K C ∧ NoAttr g.K C n ∧ fs.lookup n = some v ∧ Q v H1) ∨
    ∃ (a : Addr) (c : Nat) (d : Option Addr) (dd : Addr) (ws : List (Str × V)) (v : V), g.pn = some (a, .ref (g.ec c), d) ∧ c < g.T.ne ∧ (∃ k, k < g.T.ne ∧ n ∈ g.T.ef k) ∧ x = .ref a ∧ d = some dd ∧ H1 dd = some (.xd ws) ∧ ws.lookup n = some v ∧ Q v H1
/-- what is walked: a list, a tuple -/
def iSeq (K : Frag) (te : TE) : TI := fun σ H R => te σ H fun x H1 => ∃ a, x = .ref a ∧ ((∃ xs, SqL K H1 a xs ∧ R (Itl K a) H1) ∨ ∃ xs, SqT K H1 a xs ∧ R (Itt K a) H1)
def tTru (K : Frag) (te : TE) : TT := fun σ H Q => te σ H fun x H1 => ∃ b, TruV K x H1 b ∧ Q b H1
/-- a part of a slice -/
def prt (nl : Bool) (t : TE) : TO := match nl with
  | true => tNoPart
  | false => tPart t
/-- these values -/
def tCs : List V → TA
  | [] => tNil
  | v :: vs => tCons (tC v) (tCs vs)
mutual
/-- the reading of an expression -/
def rd (S : Sg) (W : WX) : IE → TE
  | .var i => tVar i
  | .lit d => tC (vD d)
  | .tup es => tTup (rdA S W es)
  | .lst es => tLst (rdA S W es)
  | .dct ps => match ps with
    | .nil => tDNewK
    | .cons e es => tDisp (rdP S W (.cons e es))
  | .bin op a b => tOp (rBO S.g.K op) (rd S W a) (rd S W b)
  | .neg a => tUn (rU fun i => .int (-i)) (rd S W a)
  | .gc n => tC (vD (S.g.T.gc n))
  | .ch op op' a b c => tChain (rCO S.g.K S.g.P S.g.w op) (rCO S.g.K S.g.P S.g.w op') (rd S W a) (rd S W b) (rd S W c)
  | .bm m a es => tBM S.g.K "str" (rMT S.g.K m) (rd S W a) (rdA S W es)
  | .cmp op a b => tOp (rCO S.g.K S.g.P S.g.w op) (rd S W a) (rd S W b)
  | .isN a => tIsN (rd S W a)
  | .notN a => tNotN (rd S W a)
  | .and a b => tAndT S.g.K (rd S W a) (rd S W b)
  | .or a b => tOrT S.g.K (rd S W a) (rd S W b)
  | .not a => tNotT S.g.K (rd S W a)
  | .ife c a b => tIf (rdT S W c) (rd S W a) (rd S W b)
  | .ix a b => tOp (rIXX S.g.K) (rd S W a) (rd S W b)
  | .slc a lo hi => tSl (rSLL S.g.K) (rd S W a) (prt lo.nl (rd S W lo)) (prt hi.nl (rd S W hi))
  | .call f es => tCallS (S.fsp f) (WE W) (rdA S W es)
  | .bi f es => tCB (rBI S.g.K S.g.P S.g.w f) (rdA S W es)
  | .isi a ty => tCB (rIsX S.g) (tCons (rd S W a) (tCons (tC (tyV S.g ty)) tNil))
  | .fld a n => tFldX S.g (rd S W a) n
  | .lc elt i it hasIf c => tLcW W (rdI S W it) (gName i) (fun W' => match hasIf with
      | true => rdT S W' c
      | false => tYes) (fun W' => rd S W' elt) [i]
  | .scnt a lo hi b => tSCnt S.g.K (rd S W a) (prt lo.nl (rd S W lo)) (prt hi.nl (rd S W hi)) (tCons (rd S W b) tNil)
  | .isiT a ts => tCB (rIsiT S.g.K) (tCons (rd S W a) (tCons (tTup (tCs (ts.map (tyV S.g)))) tNil))
  | .revL a => tRevL S.g.K (rd S W a)
  | .revT a => tRevT S.g.K (rd S W a)
  | .dctT => tDNewT
  | .dcT ks v i it hasIf c => tDcT (rdI S W it) (gName i) (match hasIf with
      | true => rdT S W0 c
      | false => tYes) (tTup (rdA S W0 ks)) (rd S W0 v) [i]
  | .new c es => tMakeS (S.g.oc c) (S.fsp (S.g.T.ini c)) (WE W) (rdA S W es)
  | .inO neg c f a o => tOp (rOwnIn (S.g.oc c) (S.fsp f) neg) (rd S W a) (rd S W o)
  | .ixO c f o i => tOwnIx (S.g.oc c) (S.fsp f) (WE W) (rd S W o) (rd S W i)
  | .mt c f o es => tMethX (S.g.oc c) (S.g.T.mn f) (S.fsp f) (WE W) (rd S W o) (rdA S W es)
/-- .. as a test -/
def rdT (S : Sg) (W : WX) : IE → TT
  | .gc n => tTru S.g.K (tC (vD (S.g.T.gc n)))
  | .ch op op' a b c => tTest (tChain (rCO S.g.K S.g.P S.g.w op) (rCO S.g.K S.g.P S.g.w op') (rd S W a) (rd S W b) (rd S W c))
  | .bm m a es => tTru S.g.K (tBM S.g.K "str" (rMT S.g.K m) (rd S W a) (rdA S W es))
  | .cmp op a b => tTest (tOp (rCO S.g.K S.g.P S.g.w op) (rd S W a) (rd S W b))
  | .isN a => tB (tIsN (rd S W a))
  | .notN a => tB (tNotN (rd S W a))
  | .and a b => tAnd (rdT S W a) (rdT S W b)
  | .or a b => tOr (rdT S W a) (rdT S W b)
  | .not a => tNot (rdT S W a)
  | .var i => tTru S.g.K (tVar i)
  | .lit d => tTru S.g.K (tC (vD d))
  | .call f es => tTru S.g.K (tCallS (S.fsp f) (WE W) (rdA S W es))
  | .bi f es => tTru S.g.K (tCB (rBI S.g.K S.g.P S.g.w f) (rdA S W es))
  | .isi a ty => tTru S.g.K (tCB (rIsX S.g) (tCons (rd S W a) (tCons (tC (tyV S.g ty)) tNil)))
  | .bin op a b => tTru S.g.K (tOp (rBO S.g.K op) (rd S W a) (rd S W b))
  | .ix a b => tTru S.g.K (tOp (rIXX S.g.K) (rd S W a) (rd S W b))
  | .fld a n => tTru S.g.K (tFldX S.g (rd S W a) n)
  | .tup es => tTru S.g.K (tTup (rdA S W es))
  | .lst es => tTru S.g.K (tLst (rdA S W es))
  | .dct ps => match ps with
    | .nil => tTru S.g.K tDNewK
    | .cons e es => tTru S.g.K (tDisp (rdP S W (.cons e es)))
  | .neg a => tTru S.g.K (tUn (rU fun i => .int (-i)) (rd S W a))
  | .ife c a b => tTru S.g.K (tIf (rdT S W c) (rd S W a) (rd S W b))
  | .slc a lo hi => tTru S.g.K (tSl (rSLL S.g.K) (rd S W a) (prt lo.nl (rd S W lo)) (prt hi.nl (rd S W hi)))
  | .lc elt i it hasIf c => tTru S.g.K (tLcW W (rdI S W it) (gName i) (fun W' => match hasIf with
      | true => rdT S W' c
      | false => tYes) (fun W' => rd S W' elt) [i])
  | .scnt a lo hi b => tTru S.g.K (tSCnt S.g.K (rd S W a) (prt lo.nl (rd S W lo)) (prt hi.nl (rd S W hi)) (tCons (rd S W b) tNil))
  | .isiT a ts => tTru S.g.K (tCB (rIsiT S.g.K) (tCons (rd S W a) (tCons (tTup (tCs (ts.map (tyV S.g)))) tNil)))
  | .revL a => tTru S.g.K (tRevL S.g.K (rd S W a))
  | .revT a => tTru S.g.K (tRevT S.g.K (rd S W a))
  | .dctT => tTru S.g.K tDNewT
  | .dcT ks v i it hasIf c => tTru S.g.K (tDcT (rdI S W it) (gName i) (match hasIf with
      | true => rdT S W0 c
      | false => tYes) (tTup (rdA S W0 ks)) (rd S W0 v) [i])
  | .new c es => tTru S.g.K (tMakeS (S.g.oc c) (S.fsp (S.g.T.ini c)) (WE W) (rdA S W es))
  | .inO neg c f a o => tTest (tOp (rOwnIn (S.g.oc c) (S.fsp f) neg) (rd S W a) (rd S W o))
  | .ixO c f o i => tTru S.g.K (tOwnIx (S.g.oc c) (S.fsp f) (WE W) (rd S W o) (rd S W i))
  | .mt c f o es => tTru S.g.K (tMethX (S.g.oc c) (S.g.T.mn f) (S.fsp f) (WE W) (rd S W o) (rdA S W es))
def rdA (S : Sg) (W : WX) : IEs → TA
  | .nil => tNil
  | .cons e es => tCons (rd S W e) (rdA S W es)
def rdP (S : Sg) (W : WX) : IEs → List (TE × TE)
  | .nil => []
  | .cons _ .nil => []
  | .cons k (.cons v ps) => (rd S W k, rd S W v) :: rdP S W ps
def rdI (S : Sg) (W : WX) : IT → TI
  | .e a => iSeq S.g.K (rd S W a)
  | .rng a => iRng1 (tCons (rd S W a) tNil)
  | .rng2 a b => iRng2 (tCons (rd S W a) (tCons (rd S W b) tNil))
  | .txt a => iStr (rd S W a)
end
end EN
/-! The readings follow from the runs: expressions. -/
namespace EN
open PySem L2
section
variable {g : Gam} {W : WX} {ρ ρ1 ρ2 : Env} {F F1 F2 H H1 H2 H0 : Hp} {σ σ1 σ2 : L2.St} {p : Addr} {o : HO} {i j : Nat} {Q : VK}
theorem seen_inv {α : Type} {x : IV} {f : D → R α} {A : α → Env → Prop} {B : Nat → List D → Env → Prop} (h : Good (seen ρ x f) A B) : ∃ d, vw ρ x = some d ∧ Good (f d) A B := by
  unfold seen at h
  cases e : vw ρ x with
  | none => rw [e] at h; exact h.elim
  | some d => rw [e] at h; exact ⟨d, rfl, h⟩
theorem val_inv {v : Option IV} {A : IV → Env → Prop} {B : Nat → List D → Env → Prop} (h : Good (R.val ρ v) A B) : ∃ w, v = some w ∧ A w ρ := by
  cases v with
  | none => exact h.elim
  | some w => exact ⟨w, rfl, h⟩
theorem dat_inv {v : Option D} {A : IV → Env → Prop} {B : Nat → List D → Env → Prop} (h : Good (R.dat ρ v) A B) : ∃ w, v = some w ∧ A (.d w) ρ := by
  cases v with
  | none => exact h.elim
  | some w => exact ⟨w, rfl, h⟩
theorem bool_inv {v : Option Bool} {A : IV → Env → Prop} {B : Nat → List D → Env → Prop} (h : Good (R.bool ρ v) A B) : ∃ w, v = some w ∧ A (.d (.bl w)) ρ := by
  cases v with
  | none => exact h.elim
  | some w => exact ⟨w, rfl, h⟩
/-- what follows an expression, its value held -/
theorem SndP.go {t : TE} {r : Env → R IV} {β : Type} {f : IV → Env → R β} {A : β → Env → Prop} {Q : VK} (h : SndP g W t r) (rl : Rl g ρ F σ H) (k : Good ((r ρ).bind f) A (ErQ g W ρ F σ H))
    (n : ∀ v ρ1 x F1 H1, Stp g ρ F σ H ρ1 F1 σ H1 → IvP g F1 σ x v → Good (f v ρ1) A (ErQ g W ρ1 F1 σ H1) → Q x H1) : t σ H Q :=
  h ρ F σ H Q rl ((Good.bind.mp k).mono (fun v ρ1 k x F1 H1 s iv => n v ρ1 x F1 H1 s iv (k.mono (fun _ _ a => a) fun _ _ _ e => e.later s)) fun _ _ _ q => q)
theorem Snd.go {t : TE} {r : Env → R IV} {β : Type} {f : IV → Env → R β} {A : β → Env → Prop} {Q : VK} (h : Snd g W t r) (rl : Rl g ρ F σ H) (k : Good ((r ρ).bind f) A (ErQ g W ρ F σ H))
    (n : ∀ v ρ1 x F1 H1, Stp g ρ F σ H ρ1 F1 σ H1 → IvOk g ρ1 F1 σ H H1 x v → Good (f v ρ1) A (ErQ g W ρ1 F1 σ H1) → Q x H1) : t σ H Q :=
  h ρ F σ H Q rl ((Good.bind.mp k).mono (fun v ρ1 k x F1 H1 s iv => n v ρ1 x F1 H1 s iv (k.mono (fun _ _ a => a) fun _ _ _ e => e.later s)) fun _ _ _ q => q)
theorem SndD.go {t : TE} {r : Env → R D} {β : Type} {f : D → Env → R β} {A : β → Env → Prop} {Q : VK} (h : SndD g W t r) (rl : Rl g ρ F σ H) (k : Good ((r ρ).bind f) A (ErQ g W ρ F σ H))
    (n : ∀ v ρ1 x F1 H1, Stp g ρ F σ H ρ1 F1 σ H1 → Rep g F1 x v → Good (f v ρ1) A (ErQ g W ρ1 F1 σ H1) → Q x H1) : t σ H Q :=
  h ρ F σ H Q rl ((Good.bind.mp k).mono (fun v ρ1 k x F1 H1 s iv => n v ρ1 x F1 H1 s iv (k.mono (fun _ _ a => a) fun _ _ _ e => e.later s)) fun _ _ _ q => q)
theorem SndT.go {t : TT} {r : Env → R Bool} {β : Type} {f : Bool → Env → R β} {A : β → Env → Prop} {Q : Bool → Hp → Prop} (h : SndT g W t r) (rl : Rl g ρ F σ H) (k : Good ((r ρ).bind f) A (ErQ g W ρ F σ H))
    (n : ∀ v ρ1 F1 H1, Stp g ρ F σ H ρ1 F1 σ H1 → Good (f v ρ1) A (ErQ g W ρ1 F1 σ H1) → Q v H1) : t σ H Q :=
  h ρ F σ H Q rl ((Good.bind.mp k).mono (fun v ρ1 k F1 H1 s => n v ρ1 F1 H1 s (k.mono (fun _ _ a => a) fun _ _ _ e => e.later s)) fun _ _ _ q => q)
/-- ends, from a later point -/
theorem OkQ.at (s : Stp g ρ F σ H ρ1 F1 σ H1) {v : IV} (k : OkQ g ρ F σ H Q v ρ1) : OkQ g ρ1 F1 σ H1 Q v ρ1 := k.later s
theorem okD {x : V} {d : D} (s : Stp g ρ F σ H ρ1 F1 σ H1) (k : OkQ g ρ F σ H Q (.d d) ρ1) (h : Rep g F1 x d) : Q x H1 := k x F1 H1 s h
theorem okQ_of (s : Stp g ρ F σ H ρ1 F1 σ H1) {r : R IV} (k : Good r (OkQ g ρ F σ H Q) (ErQ g W ρ1 F1 σ H1)) : Good r (OkQ g ρ1 F1 σ H1 Q) (ErQ g W ρ1 F1 σ H1) := k.mono (fun _ _ a => a.later s) fun _ _ _ e => e
theorem okB_of (s : Stp g ρ F σ H ρ1 F1 σ H1) {Q : Bool → Hp → Prop} {r : R Bool} (k : Good r (OkB g ρ F σ H Q) (ErQ g W ρ1 F1 σ H1)) : Good r (OkB g ρ1 F1 σ H1 Q) (ErQ g W ρ1 F1 σ H1) := k.mono (fun _ _ a F' H' q => a F' H' (s.trans q)) fun _ _ _ e => e

variable {fn : Fn} {t u : TE} {ra rb : Env → R IV}
theorem s_var : Snd g W (tVar i) fun ρ => ev g.T fn g.np (.var i) ρ := fun ρ F σ H Q rl k => by
  simp only [ev] at k
  cases e : ρ.at i with
  | un => rw [e] at k; exact k.elim
  | d x =>
    rw [e] at k
    obtain ⟨v, a, b⟩ := rl.dAt e
    exact ⟨v, a, k v F H (Stp.refl rl) b⟩
  | own c =>
    rw [e] at k
    obtain ⟨p, a, _⟩ := rl.ownAt e
    exact ⟨_, a, k _ F H (Stp.refl rl) a⟩
  | bor c =>
    rw [e] at k
    obtain ⟨p, a, _⟩ := rl.borAt e
    exact ⟨_, a, k _ F H (Stp.refl rl) a⟩
  | exc c fs =>
    rw [e] at k
    have y := rl.sl i
    rw [e] at y
    cases y with
    | exc hp h f => exact ⟨_, h, k _ F H (Stp.refl rl) h⟩
theorem rep_vD {d : D} (f : flatD d = true) : Rep g F (vD d) d := by
  cases d with
  | non => exact .non
  | bl b => exact .bl b
  | int i => exact .int i
  | str x => exact .str x
  | _ => cases f
theorem s_lit {d : D} : Snd g W (tC (vD d)) fun ρ => ev g.T fn g.np (.lit d) ρ := fun ρ F σ H Q rl k => by
  simp only [ev] at k
  split at k
  · rename_i f
    exact k _ F H (Stp.refl rl) (rep_vD f)
  · exact k.elim
theorem s_bin {op : BO} (ha : Snd g W t ra) (hb : Snd g W u rb) : Snd g W (tOp (rBO g.K op) t u) fun ρ => (ra ρ).held.bind fun x ρ => (rb ρ).bind fun y ρ => seen ρ x fun x => seen ρ y fun y => .val ρ (opB op x y) := fun ρ F σ H Q rl k => by
  refine ha.held.go rl k fun v ρ1 x F1 H1 s iv k => hb.go s.rel k fun w ρ2 y F2 H2 s2 iw k => ?_
  obtain ⟨a, ea, k⟩ := seen_inv k
  obtain ⟨b, eb, k⟩ := seen_inv k
  obtain ⟨z, ez, k⟩ := val_inv k
  exact opB_ok s2.rel (iv.mono s2.ext) iw ea eb ez (k.later (s.trans s2))
theorem s_neg (ha : Snd g W t ra) : Snd g W (tUn (rU fun i => .int (-i)) t) fun ρ => ((ra ρ).kept g.np).bind fun x ρ => match x with
    | .int i => .ok (.d (.int (-i))) ρ
    | _ => .no := fun ρ F σ H Q rl k => by
  refine ha.kept.go rl k fun v ρ1 x F1 H1 s iv k => ?_
  cases v with
  | int i =>
    cases iv
    exact ⟨i, rfl, okD s k (.int _)⟩
  | _ => exact k.elim
theorem s_cmp {op : CO} (ha : Snd g W t ra) (hb : Snd g W u rb) : Snd g W (tOp (rCO g.K g.P g.w op) t u) fun ρ => (ra ρ).held.bind fun x ρ => (rb ρ).bind fun y ρ => seen ρ x fun x => seen ρ y fun y => .bool ρ (opC op x y) := fun ρ F σ H Q rl k => by
  refine ha.held.go rl k fun v ρ1 x F1 H1 s iv k => hb.go s.rel k fun w ρ2 y F2 H2 s2 iw k => ?_
  obtain ⟨a, ea, k⟩ := seen_inv k
  obtain ⟨b, eb, k⟩ := seen_inv k
  obtain ⟨z, ez, k⟩ := bool_inv k
  exact opC_ok s2.rel (s2.rel.seen (IvP.ok (H0 := H) (iv.mono s2.ext)) ea) (s2.rel.seen iw eb) ez (okD (s.trans s2) k (.bl _))
theorem s_gc {n : Nat} : Snd g W (tC (vD (g.T.gc n))) fun ρ => ev g.T fn g.np (.gc n) ρ := fun ρ F σ H Q rl k => by
  simp only [ev] at k
  split at k
  · rename_i f
    exact k _ F H (Stp.refl rl) (rep_vD f.2)
  · exact k.elim
theorem s_ch {op op' : CO} {tc : TE} {rc : Env → R IV} (ha : Snd g W t ra) (hb : Snd g W u rb) (hc : Snd g W tc rc) : Snd g W (tChain (rCO g.K g.P g.w op) (rCO g.K g.P g.w op') t u tc) fun ρ => (ra ρ).held.bind fun x ρ => (rb ρ).held.bind fun y ρ => seen ρ x fun dx => seen ρ y fun dy => match opC op dx dy with
    | some true => (rc ρ).bind fun z ρ => seen ρ y fun dy => seen ρ z fun dz => .bool ρ (opC op' dy dz)
    | some false => .ok (.d (.bl false)) ρ
    | none => .no := fun ρ F σ H Q rl k => by
  refine ha.held.go rl k fun v ρ1 x F1 H1 s iv k => hb.held.go s.rel k fun w ρ2 y F2 H2 s2 iw k => ?_
  obtain ⟨a, ea, k⟩ := seen_inv k
  obtain ⟨b, eb, k⟩ := seen_inv k
  have s12 := s.trans s2
  cases e : opC op a b with
  | none => rw [e] at k; exact k.elim
  | some q =>
    rw [e] at k
    refine opC_ok s2.rel (s2.rel.seen (IvP.ok (H0 := H) (iv.mono s2.ext)) ea) (s2.rel.seen (IvP.ok (H0 := H) iw) eb) e ⟨q, rfl, ?_⟩
    cases q with
    | false => rw [if_neg Bool.false_ne_true]; exact okD s12 k (.bl _)
    | true =>
      rw [if_pos rfl]
      refine hc.go s2.rel k fun z ρ3 x3 F3 H3 s3 iz k => ?_
      obtain ⟨b', eb', k⟩ := seen_inv k
      obtain ⟨c', ec', k⟩ := seen_inv k
      obtain ⟨z', ez, k⟩ := bool_inv k
      exact opC_ok s3.rel (s3.rel.seen (IvP.ok (H0 := H) (iw.mono s3.ext)) eb') (s3.rel.seen iz ec') ez (okD (s12.trans s3) k (.bl _))
theorem Sn.non_iff {x : V} {d : D} (h : Sn g F H x d) : (x = .non) ↔ d = .non := by cases h <;> simp
theorem s_isN (ha : Snd g W t ra) : Snd g W (tIsN t) fun ρ => (ra ρ).bind fun x ρ => seen ρ x fun x => match x with
    | .non => .ok (.d (.bl true)) ρ
    | _ => .ok (.d (.bl false)) ρ := fun ρ F σ H Q rl k => by
  refine ha.go rl k fun v ρ1 x F1 H1 s iv k => ?_
  obtain ⟨a, ea, k⟩ := seen_inv k
  have h := (s.rel.seen iv ea).non_iff
  split at k
  · rw [decide_eq_true (h.mpr rfl)]; exact okD s k (.bl _)
  · rename_i q
    rw [decide_eq_false fun z => q (h.mp z)]; exact okD s k (.bl _)
theorem s_notN (ha : Snd g W t ra) : Snd g W (tNotN t) fun ρ => (ra ρ).bind fun x ρ => seen ρ x fun x => match x with
    | .non => .ok (.d (.bl false)) ρ
    | _ => .ok (.d (.bl true)) ρ := fun ρ F σ H Q rl k => by
  refine ha.go rl k fun v ρ1 x F1 H1 s iv k => ?_
  obtain ⟨a, ea, k⟩ := seen_inv k
  have h := (s.rel.seen iv ea).non_iff
  split at k
  · rw [decide_eq_true (h.mpr rfl)]; exact okD s k (.bl _)
  · rename_i q
    rw [decide_eq_false fun z => q (h.mp z)]; exact okD s k (.bl _)
theorem s_and (ha : Snd g W t ra) (hb : Snd g W u rb) : Snd g W (tAndT g.K t u) fun ρ => (ra ρ).held.bind fun x ρ => seen ρ x fun d => match truD d with
    | some true => rb ρ
    | some false => .ok x ρ
    | none => .no := fun ρ F σ H Q rl k => by
  refine ha.held.go rl k fun v ρ1 x F1 H1 s iv k => ?_
  obtain ⟨a, ea, k⟩ := seen_inv k
  have sx := s.rel.seen (IvP.ok (H0 := H) iv) ea
  split at k
  · rename_i e
    refine ⟨true, truD_ok s.rel sx e, ?_⟩
    rw [if_pos rfl]
    exact hb ρ1 F1 σ H1 Q s.rel (okQ_of s k)
  · rename_i e
    refine ⟨false, truD_ok s.rel sx e, ?_⟩
    rw [if_neg (by decide)]
    exact k x F1 H1 s iv.ok
  · exact k.elim
theorem s_or (ha : Snd g W t ra) (hb : Snd g W u rb) : Snd g W (tOrT g.K t u) fun ρ => (ra ρ).held.bind fun x ρ => seen ρ x fun d => match truD d with
    | some true => .ok x ρ
    | some false => rb ρ
    | none => .no := fun ρ F σ H Q rl k => by
  refine ha.held.go rl k fun v ρ1 x F1 H1 s iv k => ?_
  obtain ⟨a, ea, k⟩ := seen_inv k
  have sx := s.rel.seen (IvP.ok (H0 := H) iv) ea
  split at k
  · rename_i e
    refine ⟨true, truD_ok s.rel sx e, ?_⟩
    rw [if_pos rfl]
    exact k x F1 H1 s iv.ok
  · rename_i e
    refine ⟨false, truD_ok s.rel sx e, ?_⟩
    rw [if_neg (by decide)]
    exact hb ρ1 F1 σ H1 Q s.rel (okQ_of s k)
  · exact k.elim
theorem R.assoc {α β γ : Type} {r : R α} {f : α → Env → R β} {h : β → Env → R γ} : (r.bind f).bind h = r.bind fun x ρ => (f x ρ).bind h := by cases r <;> rfl
theorem tru_inv {d : D} {A : Bool → Env → Prop} {B : Nat → List D → Env → Prop} (k : Good (match truD d with
    | some b => R.ok b ρ
    | none => .no) A B) : ∃ b, truD d = some b ∧ A b ρ := by
  cases e : truD d with
  | none => rw [e] at k; exact k.elim
  | some b => rw [e] at k; exact ⟨b, rfl, k⟩
theorem s_tru (ha : Snd g W t ra) : SndT g W (tTru g.K t) fun ρ => (ra ρ).tru := fun ρ F σ H Q rl k => by
  refine ha.go rl k fun v ρ1 x F1 H1 s iv k => ?_
  obtain ⟨a, ea, k⟩ := seen_inv k
  obtain ⟨b, eb, k⟩ := tru_inv k
  exact ⟨b, truD_ok s.rel (s.rel.seen iv ea) eb, k F1 H1 s⟩
theorem s_not (ha : Snd g W t ra) : Snd g W (tNotT g.K t) fun ρ => (ra ρ).tru.bind fun b ρ => .ok (.d (.bl (!b))) ρ := fun ρ F σ H Q rl k => by
  dsimp only [R.tru] at k
  rw [R.assoc] at k
  refine ha.go rl k fun v ρ1 x F1 H1 s iv k => ?_
  obtain ⟨a, ea, k⟩ := seen_inv (Good.bind.mp k)
  obtain ⟨b, eb, k⟩ := tru_inv k
  exact ⟨b, truD_ok s.rel (s.rel.seen iv ea) eb, okD s k (.bl _)⟩
theorem s_ife {tc : TT} {rc : Env → R Bool} (hc : SndT g W tc rc) (ha : Snd g W t ra) (hb : Snd g W u rb) : Snd g W (tIf tc t u) fun ρ => (rc ρ).bind fun b ρ => match b with
    | true => ra ρ
    | false => rb ρ := fun ρ F σ H Q rl k => by
  refine hc.go rl k fun v ρ1 F1 H1 s k => ?_
  cases v with
  | true => rw [if_pos rfl]; exact ha ρ1 F1 σ H1 Q s.rel (okQ_of s k)
  | false => rw [if_neg (by decide)]; exact hb ρ1 F1 σ H1 Q s.rel (okQ_of s k)
theorem s_ix (ha : Snd g W t ra) (hb : Snd g W u rb) : Snd g W (tOp (rIXX g.K) t u) fun ρ => (ra ρ).held.bind fun x ρ => ((rb ρ).kept g.np).bind fun y ρ => seen ρ x fun x => .dat ρ (opI x y) := fun ρ F σ H Q rl k => by
  refine ha.held.go rl k fun v ρ1 x F1 H1 s iv k => hb.kept.go s.rel k fun w ρ2 y F2 H2 s2 iw k => ?_
  obtain ⟨a, ea, k⟩ := seen_inv k
  obtain ⟨z, ez, k⟩ := dat_inv k
  exact opI_ok s2.rel (s2.rel.seen (IvP.ok (H0 := H) (iv.mono s2.ext)) ea) (iw.sn s2.rel.same) ez fun z rz => okD (s.trans s2) k rz
/-- several values -/
def SndL (g : Gam) (W : WX) (t : TA) (r : Env → R (List D)) : Prop := ∀ ρ F σ H (Q : List V → Hp → Prop), Rl g ρ F σ H → Good (r ρ) (fun ds ρ' => ∀ xs F' H', Stp g ρ F σ H ρ' F' σ H' → Rps g F' xs ds → Q xs H') (ErQ g W ρ F σ H) → t σ H Q
inductive IvPs (g : G0) (F : Hp) (σ : L2.St) : List V → List IV → Prop
  | nil : IvPs g F σ [] []
  | cons {x : V} {xs : List V} {v : IV} {vs : List IV} (h : IvP g F σ x v) (r : IvPs g F σ xs vs) : IvPs g F σ (x :: xs) (v :: vs)
theorem IvPs.mono {xs : List V} {vs : List IV} (e : Same F F1) (h : IvPs g F σ xs vs) : IvPs g F1 σ xs vs := by
  induction h with
  | nil => exact .nil
  | cons h _ ih => exact .cons (h.mono e) ih
theorem IvPs.len {xs : List V} {vs : List IV} (h : IvPs g F σ xs vs) : xs.length = vs.length := by
  induction h with
  | nil => rfl
  | cons _ _ ih => simp [ih]
theorem IvPs.at {xs : List V} {vs : List IV} (h : IvPs g F σ xs vs) : ∀ (i : Nat) (x : V) (w : IV), xs[i]? = some x → vs[i]? = some w → IvP g F σ x w := by
  induction h with
  | nil => intro i x w a; simp at a
  | cons h _ ih =>
    intro i x w a b
    cases i with
    | zero => simp at a b; subst a; subst b; exact h
    | succ i => exact ih i x w (by simpa using a) (by simpa using b)
def SndV (g : Gam) (W : WX) (t : TA) (r : Env → R (List IV)) : Prop := ∀ ρ F σ H (Q : List V → Hp → Prop), Rl g ρ F σ H → Good (r ρ) (fun vs ρ' => ∀ xs F' H', Stp g ρ F σ H ρ' F' σ H' → IvPs g F' σ xs vs → Q xs H') (ErQ g W ρ F σ H) → t σ H Q
theorem SndL.go {t : TA} {r : Env → R (List D)} {β : Type} {f : List D → Env → R β} {A : β → Env → Prop} {Q : List V → Hp → Prop} (h : SndL g W t r) (rl : Rl g ρ F σ H) (k : Good ((r ρ).bind f) A (ErQ g W ρ F σ H))
    (n : ∀ v ρ1 x F1 H1, Stp g ρ F σ H ρ1 F1 σ H1 → Rps g F1 x v → Good (f v ρ1) A (ErQ g W ρ1 F1 σ H1) → Q x H1) : t σ H Q :=
  h ρ F σ H Q rl ((Good.bind.mp k).mono (fun v ρ1 k x F1 H1 s iv => n v ρ1 x F1 H1 s iv (k.mono (fun _ _ a => a) fun _ _ _ e => e.later s)) fun _ _ _ q => q)
theorem SndV.go {t : TA} {r : Env → R (List IV)} {β : Type} {f : List IV → Env → R β} {A : β → Env → Prop} {Q : List V → Hp → Prop} (h : SndV g W t r) (rl : Rl g ρ F σ H) (k : Good ((r ρ).bind f) A (ErQ g W ρ F σ H))
    (n : ∀ v ρ1 x F1 H1, Stp g ρ F σ H ρ1 F1 σ H1 → IvPs g F1 σ x v → Good (f v ρ1) A (ErQ g W ρ1 F1 σ H1) → Q x H1) : t σ H Q :=
  h ρ F σ H Q rl ((Good.bind.mp k).mono (fun v ρ1 k x F1 H1 s iv => n v ρ1 x F1 H1 s iv (k.mono (fun _ _ a => a) fun _ _ _ e => e.later s)) fun _ _ _ q => q)
theorem s_nil : SndL g W tNil fun ρ => .ok [] ρ := fun ρ F σ H Q rl k => k [] F H (Stp.refl rl) .nil
theorem s_cons {ts : TA} {rs : Env → R (List D)} (ha : Snd g W t ra) (hr : SndL g W ts rs) : SndL g W (tCons t ts) fun ρ => ((ra ρ).kept g.np).bind fun x ρ => (rs ρ).bind fun xs ρ => .ok (x :: xs) ρ := fun ρ F σ H Q rl k => by
  refine ha.kept.go rl k fun v ρ1 x F1 H1 s iv k => hr.go s.rel k fun w ρ2 y F2 H2 s2 iw k => ?_
  exact k (x :: y) F2 H2 (s.trans s2) (.cons (iv.mono s2.ext) iw)
theorem s_nilV : SndV g W tNil fun ρ => .ok [] ρ := fun ρ F σ H Q rl k => k [] F H (Stp.refl rl) .nil
theorem s_consV {ts : TA} {rs : Env → R (List IV)} (ha : Snd g W t ra) (hr : SndV g W ts rs) : SndV g W (tCons t ts) fun ρ => (ra ρ).held.bind fun x ρ => (rs ρ).bind fun xs ρ => .ok (x :: xs) ρ := fun ρ F σ H Q rl k => by
  refine ha.held.go rl k fun v ρ1 x F1 H1 s iv k => hr.go s.rel k fun w ρ2 y F2 H2 s2 iw k => ?_
  exact k (x :: y) F2 H2 (s.trans s2) (.cons (iv.mono s2.ext) iw)
theorem if_inv {c : Prop} [Decidable c] {r : R IV} {A : IV → Env → Prop} {B : Nat → List D → Env → Prop} (k : Good (if c then r else .no) A B) : c ∧ Good r A B := by
  split at k
  · exact ⟨by assumption, k⟩
  · exact k.elim
theorem s_tup {ts : TA} {rs : Env → R (List D)} (hr : SndL g W ts rs) : Snd g W (tTup ts) fun ρ => (rs ρ).bind fun ds ρ => if ds.length ≤ line then .ok (.d (.tup ds)) ρ else .no := fun ρ F σ H Q rl k => by
  refine hr.go rl k fun v ρ1 x F1 H1 s iv k => ?_
  obtain ⟨hl, k⟩ := if_inv k
  exact ⟨by rw [iv.1]; exact Nat.le_trans hl line_le, fun q hq => (OkQ.later s k).tup s.rel hq iv⟩
theorem s_lst {ts : TA} {rs : Env → R (List D)} (hr : SndL g W ts rs) : Snd g W (tLst ts) fun ρ => (rs ρ).bind fun ds ρ => if ds.length ≤ line then .ok (.fr (.lst ds)) ρ else .no := fun ρ F σ H Q rl k => by
  refine hr.go rl k fun v ρ1 x F1 H1 s iv k => ?_
  obtain ⟨hl, k⟩ := if_inv k
  exact ⟨by rw [iv.1]; exact Nat.le_trans hl line_le, fun q hq => (OkQ.later s k).fresh s.rel hq (.lst upd_same iv) rfl⟩
theorem s_bi {ts : TA} {rs : Env → R (List IV)} {f : BI} (hr : SndV g W ts rs) : Snd g W (tCB (rBI g.K g.P g.w f) ts) fun ρ => (rs ρ).bind fun vs ρ => match vs.mapM (vw ρ) with
    | some ds => .val ρ (opF f ds)
    | none => .no := fun ρ F σ H Q rl k => by
  refine hr.go rl k fun v ρ1 x F1 H1 s iv k => ?_
  split at k
  · rename_i ds e
    obtain ⟨z, ez, k⟩ := val_inv k
    exact opF_ok s.rel iv.len iv.at e ez (k.later s)
  · exact k.elim
theorem s_bm {ts : TA} {rs : Env → R (List IV)} {m : MT} (ha : Snd g W t ra) (hr : SndV g W ts rs) : Snd g W (tBM g.K "str" (rMT g.K m) t ts) fun ρ => (ra ρ).held.bind fun x ρ => seen ρ x fun d => match d with
    | .str z => (rs ρ).bind fun vs ρ => match vs.mapM (vw ρ) with
      | some ds => .dat ρ (opM m z ds)
      | none => .no
    | _ => .no := fun ρ F σ H Q rl k => by
  refine ha.held.go rl k fun v ρ1 x F1 H1 s iv k => ?_
  obtain ⟨a, ea, k⟩ := seen_inv k
  have sx := s.rel.seen (IvP.ok (H0 := H) iv) ea
  cases a with
  | str z =>
    cases sx
    refine ⟨rfl, hr.go s.rel k fun w ρ2 y F2 H2 s2 iw k => ?_⟩
    split at k
    · rename_i ds e
      obtain ⟨d, ez, k⟩ := dat_inv k
      exact opM_ok s2.rel iw.len iw.at e ez (k.later (s.trans s2))
    · exact k.elim
  | _ => exact k.elim
/-! ### classes, fields -/
theorem Sn.tyx (K : KF g) {x : V} {d : D} (nt : isTyN d = true) (h : Sn g F H x d) : TyX g.K H x (tyD g d) := by
  cases h with
  | non => exact .base .non
  | bl b => exact .base (.bl b)
  | int i => exact .base (.int i)
  | str z => exact .base (.str z)
  | tup h r =>
    rcases h with (h | ⟨o, h⟩) | ⟨o, its, n, h, c, _⟩
    · exact .base (.tup h)
    · exact .fTuple h
    · exact .kTuple h c
  | lst h r => exact .base (.lst h)
  | scr h =>
    rcases h with (h | ⟨o, h⟩) | ⟨o, its, n, h, c, _⟩
    · exact .base (.lst h)
    · exact .base (.frz h)
    · exact .kList h c
  | dK h hk r => exact .base (.dK h)
  | dT h hk r => exact .base (.dT h)
  | st h => cases nt
  | obj hc h hk r =>
    obtain ⟨a, b, c, _⟩ := K.cls _ hc
    exact .base (.ins h a b K.cget K.ctak c)
theorem Sn.bound {x : V} {c : Nat} {fs : List D} (h : Sn g F H x (.obj c fs)) : c < g.T.nc := by cases h with | obj hc _ _ _ => exact hc
theorem clsV_ty (t : TY) : ClsV (tyV g t) (tyU g t) := by cases t <;> first | exact .ty _ | exact .own _
theorem excAt_some {x : V} {v : IV} {c : Nat} {fs : List D} (r : Rl g ρ F σ H) (h : IvP g F σ x v) (e : excAt ρ v = some (c, fs)) : ∃ (a : Addr) (d : Option Addr), g.pn = some (a, .ref (g.ec c), d) ∧ x = .ref a ∧ ExF g F d c fs := by
  cases v with
  | sl i =>
    have h : σ[i]? = some (some x) := h
    simp only [excAt] at e
    have y := r.sl i
    cases q : ρ.at i with
    | exc c' fs' =>
      rw [q] at e y
      cases e
      cases y with
      | exc hp h' f => rw [h] at h'; cases h'; exact ⟨_, _, hp, rfl, f⟩
    | _ => rw [q] at e; cases e
  | _ => cases e
theorem s_isi (K : KF g) {ty : TY} (ha : Snd g W t ra) : Snd g W (tCB (rIsX g) (tCons t (tCons (tC (tyV g ty)) tNil))) fun ρ => (ra ρ).held.bind fun x ρ => isiR g.T ty x ρ := fun ρ F σ H Q rl k => by
  refine ha.held.go rl k fun v ρ1 x F1 H1 s iv k => ?_
  obtain ⟨ht, k⟩ := if_inv k
  cases e : excAt ρ1 v with
  | some p =>
    rw [e] at k
    obtain ⟨c, fs⟩ := p
    obtain ⟨p, d, h1, rfl, h0, dd, ws, h4, h5, _⟩ := excAt_some s.rel iv e
    exact .inr ⟨p, c, d, dd, ws, _, _, _, h1, h0, rfl, clsV_ty ty, h4, s.rel.same _ _ h5, K.ise c ty ht h0, okD s k (.bl _)⟩
  | none =>
    rw [e] at k
    obtain ⟨a, ea, k⟩ := seen_inv k
    have sx := s.rel.seen (IvP.ok (H0 := H) iv) ea
    cases nt : isTyN a with
    | false => rw [nt] at k; exact k.elim
    | true =>
      rw [nt] at k
      exact .inl ⟨x, _, _, _, _, rfl, clsV_ty ty, sx.tyx K nt, K.isi a ty nt ht (fun c fs z => by subst z; exact sx.bound), okD s k (.bl _)⟩
theorem tCs_mp {Q : List V → Hp → Prop} : ∀ {vs : List V}, Q vs H → tCs vs σ H Q
  | [], q => q
  | v :: vs, q => tCs_mp (vs := vs) (Q := fun xs H2 => Q (v :: xs) H2) q
theorem clsVs : ∀ (ts : List TY), Paired ClsV (ts.map (tyV g)) (ts.map (tyU g))
  | [] => .nil
  | t :: ts => .cons (clsV_ty t) (clsVs ts)
theorem isiAny (K : KF g) {d : D} (nt : isTyN d = true) (hb : ∀ c fs, d = .obj c fs → c < g.T.nc) : ∀ {ts : List TY}, ts.all g.T.tok = true → PySem.W.kitAny g.K (tyD g d) (ts.map (tyU g)) = some (ts.any fun t => isTy d t)
  | [], _ => rfl
  | t :: ts, h => by
    simp only [List.all_cons, Bool.and_eq_true] at h
    rw [List.map_cons, List.any_cons]
    unfold PySem.W.kitAny
    rw [K.isi d t nt h.1 hb, isiAny K nt hb h.2]
    cases isTy d t <;> rfl
theorem s_isiT (K : KF g) {ts : List TY} (ha : Snd g W t ra) : Snd g W (tCB (rIsiT g.K) (tCons t (tCons (tTup (tCs (ts.map (tyV g)))) tNil))) fun ρ => (ra ρ).held.bind fun x ρ => if ts.all g.T.tok = true ∧ ts.length ≤ 20 then seen ρ x fun d => match isTyN d with
      | true => .ok (.d (.bl (ts.any fun t => isTy d t))) ρ
      | false => .no
    else .no := fun ρ F σ H Q rl k => by
  refine ha.held.go rl k fun v ρ1 x F1 H1 s iv k => ?_
  obtain ⟨ht, k⟩ := if_inv k
  obtain ⟨a, ea, k⟩ := seen_inv k
  cases nt : isTyN a with
  | false => rw [nt] at k; exact k.elim
  | true =>
    rw [nt] at k
    refine tCs_mp ⟨?_, fun p hp => ?_⟩
    · rw [List.length_map]; exact Nat.le_trans ht.2 (by rw [sizeLine_eq]; decide)
    · have s2 := Stp.alloc (o := .tup (ts.map (tyV g))) s.rel hp
      have sx := s2.rel.seen (IvP.ok (H0 := H) iv) ea
      exact ⟨x, p, _, _, _, _, rfl, upd_same, clsVs ts, sx.tyx K nt, isiAny K nt (fun c fs z => by subst z; exact sx.bound) ht.1, okD (s.trans s2) k (.bl _)⟩
theorem Rps.reverse {vs : List V} {ds : List D} (r : Rps g F vs ds) : Rps g F vs.reverse ds.reverse := by
  refine ⟨by simp [r.1], fun i w u a b => ?_⟩
  have hi : i < vs.length := by have := (List.getElem?_eq_some_iff.mp a).1; simpa using this
  rw [List.getElem?_reverse hi] at a
  rw [List.getElem?_reverse (by rw [← r.1]; exact hi), ← r.1] at b
  exact r.2 _ w u a b
theorem s_revL (ha : Snd g W t ra) : Snd g W (tRevL g.K t) fun ρ => (ra ρ).held.bind fun x ρ => seen ρ x fun d => match d with
    | .lst xs => .ok (.fr (.lst xs.reverse)) ρ
    | _ => .no := fun ρ F σ H Q rl k => by
  refine ha.held.go rl k fun v ρ1 x F1 H1 s iv k => ?_
  obtain ⟨a, ea, k⟩ := seen_inv k
  have sx := s.rel.seen (IvP.ok (H0 := H) iv) ea
  cases a with
  | lst xs =>
    obtain ⟨p, vs, rfl, h1, h2⟩ := sx.isLst
    exact ⟨p, vs, rfl, SqL.of h1, fun q hq => (OkQ.later s k).fresh s.rel hq (.lst upd_same h2.reverse) rfl⟩
  | _ => exact k.elim
theorem s_revT (ha : Snd g W t ra) : Snd g W (tRevT g.K t) fun ρ => (ra ρ).held.bind fun x ρ => seen ρ x fun d => match d with
    | .lst xs => .ok (.d (.tup xs.reverse)) ρ
    | _ => .no := fun ρ F σ H Q rl k => by
  refine ha.held.go rl k fun v ρ1 x F1 H1 s iv k => ?_
  obtain ⟨a, ea, k⟩ := seen_inv k
  have sx := s.rel.seen (IvP.ok (H0 := H) iv) ea
  cases a with
  | lst xs =>
    obtain ⟨p, vs, rfl, h1, h2⟩ := sx.isLst
    exact ⟨p, vs, rfl, SqL.of h1, fun q hq => (OkQ.later s k).tup s.rel hq h2.reverse⟩
  | _ => exact k.elim
theorem s_dctT : Snd g W tDNewT fun ρ => .ok (.fr (.dT [])) ρ := fun ρ F σ H Q rl k p hp => k.fresh rl hp (.dT upd_same rfl .nil) rfl
theorem lookup_zip : ∀ {fs : List (Str × V)} {ns : List Str} {ds : List D} {n : Str} {d : D}, fs.map (·.1) = ns → Rps g F (fs.map (·.2)) ds → (ns.zip ds).lookup n = some d → n ∈ ns ∧ ∃ v, fs.lookup n = some v ∧ Rep g F v d
  | [], ns, ds, n, d, h, r, e => by subst h; cases e
  | (m, v) :: fs, ns, [], n, d, h, r, e => by have := r.1; simp at this
  | (m, v) :: fs, ns, d' :: ds, n, d, h, r, e => by
    subst h
    simp only [List.map_cons, List.zip_cons_cons, List.lookup_cons] at e ⊢
    cases q : n == m with
    | true =>
      rw [q] at e
      cases e
      exact ⟨by rw [eq_of_beq q]; exact List.mem_cons_self, v, rfl, r.head⟩
    | false =>
      rw [q] at e
      obtain ⟨a, b⟩ := lookup_zip rfl r.tail e
      exact ⟨List.mem_cons_of_mem _ a, b⟩
theorem zip_take {α β : Type} : ∀ {l : List α} {ds : List β}, (l.take ds.length).zip ds = l.zip ds
  | [], ds => by simp
  | a :: l, [] => rfl
  | a :: l, d :: ds => by simp only [List.length_cons, List.take_succ_cons, List.zip_cons_cons, zip_take]
theorem zip_mem {n : Str} {x : D} : ∀ {ns : List Str} {ds : List D}, (ns.zip ds).lookup n = some x → n ∈ ns
  | [], _, h => by cases h
  | m :: ns, [], h => by cases h
  | m :: ns, d :: ds, h => by
    simp only [List.zip_cons_cons, List.lookup_cons] at h
    cases e : n == m with
    | true => rw [eq_of_beq e]; exact List.mem_cons_self
    | false => rw [e] at h; exact List.mem_cons_of_mem _ (zip_mem h)
theorem fieldE_mem {T : Tb} {c : Nat} {fs : List D} {n : Str} {x : D} (h : fieldE T c fs n = some x) : n ∈ T.ef c := by
  unfold fieldE at h
  split at h
  · exact zip_mem h
  · cases h
theorem s_fld (K : KF g) {n : Str} (ha : Snd g W t ra) : Snd g W (tFldX g t n) fun ρ => (ra ρ).held.bind fun x ρ => fldR g.T n x ρ := fun ρ F σ H Q rl k => by
  refine ha.held.go rl k fun v ρ1 x F1 H1 s iv k => ?_
  unfold fldR at k
  cases e : excAt ρ1 v with
  | some p =>
    rw [e] at k
    obtain ⟨c, fs⟩ := p
    obtain ⟨z, ez, k⟩ := dat_inv k
    obtain ⟨p, d, h1, rfl, h0, dd, ws, h4, h5, h6⟩ := excAt_some s.rel iv e
    obtain ⟨y, hy, ry⟩ := h6 n z ez
    exact .inr ⟨p, c, d, dd, ws, y, h1, h0, ⟨c, h0, fieldE_mem ez⟩, rfl, h4, s.rel.same _ _ h5, hy, okD s k ry⟩
  | none =>
    rw [e] at k
    obtain ⟨a, ea, k⟩ := seen_inv k
    obtain ⟨z, ez, k2⟩ := dat_inv k
    have sx := s.rel.seen (IvP.ok (H0 := H) iv) ea
    cases a with
    | obj c fs =>
      simp only [fieldD] at ez
      split at ez
      · cases sx with
        | obj hc h hk r =>
          rw [← zip_take] at ez
          obtain ⟨hm, y, hy, ry⟩ := lookup_zip hk r ez
          have hm := List.mem_of_mem_take hm
          obtain ⟨a, _, _, b⟩ := K.cls _ hc
          exact .inl ⟨_, _, _, _, y, rfl, h, a, b n hm, hy, okD s k2 ry⟩
      · cases ez
    | _ => cases ez
/-! ### dicts -/
inductive KR {κ : Type} (g : G0) (F : Hp) : List (κ × V) → List (κ × D) → Prop
  | nil : KR g F [] []
  | cons {k : κ} {v : V} {d : D} {kvs : List (κ × V)} {es : List (κ × D)} (h : Rep g F v d) (r : KR g F kvs es) : KR g F ((k, v) :: kvs) ((k, d) :: es)
theorem KR.of {κ : Type} : ∀ {kvs : List (κ × V)} {es : List (κ × D)}, kvs.map (·.1) = es.map (·.1) → Rps g F (kvs.map (·.2)) (es.map (·.2)) → KR g F kvs es
  | [], [], _, _ => .nil
  | [], _ :: _, h, _ => by cases h
  | _ :: _, [], h, _ => by cases h
  | (k, v) :: kvs, (k', d) :: es, h, r => by
    simp only [List.map_cons, List.cons.injEq] at h
    obtain ⟨h1, h2⟩ := h
    have h1 : k = k' := h1
    subst h1
    exact .cons r.head (KR.of h2 r.tail)
theorem KR.keys {κ : Type} {kvs : List (κ × V)} {es : List (κ × D)} (h : KR g F kvs es) : kvs.map (·.1) = es.map (·.1) := by
  induction h with
  | nil => rfl
  | cons h _ ih => simp [ih]
theorem KR.vals {κ : Type} {kvs : List (κ × V)} {es : List (κ × D)} (h : KR g F kvs es) : Rps g F (kvs.map (·.2)) (es.map (·.2)) := by
  induction h with
  | nil => exact .nil
  | cons h _ ih => exact .cons h ih
theorem KR.mono {κ : Type} {kvs : List (κ × V)} {es : List (κ × D)} (e : Same F F1) (h : KR g F kvs es) : KR g F1 kvs es := by
  induction h with
  | nil => exact .nil
  | cons h _ ih => exact .cons (h.mono e) ih
theorem KR.len {κ : Type} {kvs : List (κ × V)} {es : List (κ × D)} (h : KR g F kvs es) : kvs.length = es.length := by
  induction h with
  | nil => rfl
  | cons h _ ih => simp [ih]
theorem KR.put {κ : Type} [DecidableEq κ] {kvs : List (κ × V)} {es : List (κ × D)} {k : κ} {v : V} {d : D} (h : KR g F kvs es) (hd : Rep g F v d) : KR g F (putK kvs k v) (EN.put es k d) := by
  have any : (kvs.any fun p => decide (p.1 = k)) = (es.any fun p => decide (p.1 = k)) := by
    induction h with
    | nil => rfl
    | cons h _ ih => simp [ih]
  unfold putK EN.put
  rw [any]
  split
  · rename_i hh
    clear any hh
    induction h with
    | nil => exact .nil
    | @cons k' v' d' kvs es h _ ih =>
      simp only [List.map_cons]
      by_cases e : k' = k
      · rw [if_pos e, if_pos e]; exact .cons hd ih
      · rw [if_neg e, if_neg e]; exact .cons h ih
  · rename_i hh
    clear any hh
    induction h with
    | nil => exact .cons hd .nil
    | cons h _ ih => exact .cons h ih
theorem KR.all {more : List (Key × V)} {mes : List (Key × D)} (m : KR g F more mes) : ∀ {kvs : List (Key × V)} {es : List (Key × D)}, KR g F kvs es → KR g F (mergeK kvs more) (putAll es mes) := by
  induction m with
  | nil => intro kvs es h; exact h
  | cons h _ ih => intro kvs es r; exact ih (r.put h)
/-- pairs on their way -/
def SndPs (g : Gam) (W : WX) (t : List (TE × TE)) (r : Env → R (List (Key × D))) : Prop := ∀ ρ F σ H (Q : List (V × V) → Hp → Prop), Rl g ρ F σ H → Good (r ρ) (fun es ρ' => ∀ kvs F' H', Stp g ρ F σ H ρ' F' σ H' → KR g F' kvs es → Q (kvs.map fun kv => (kV kv.1, kv.2)) H') (ErQ g W ρ F σ H) → tPairs t σ H Q
theorem s_pnil : SndPs g W [] fun ρ => .ok [] ρ := fun ρ F σ H Q rl k => k [] F H (Stp.refl rl) .nil
theorem s_pcons {ts : List (TE × TE)} {rs : Env → R (List (Key × D))} (ha : Snd g W t ra) (hb : Snd g W u rb) (hr : SndPs g W ts rs) : SndPs g W ((t, u) :: ts) fun ρ => ((ra ρ).kept g.np).bind fun k ρ => ((rb ρ).kept g.np).bind fun v ρ => (rs ρ).bind fun kvs ρ => match k.key? with
    | some k => .ok ((k, v) :: kvs) ρ
    | none => .no := fun ρ F σ H Q rl k => by
  refine ha.kept.go rl k fun v ρ1 x F1 H1 s iv k => hb.kept.go s.rel k fun w ρ2 y F2 H2 s2 iw k => ?_
  refine hr ρ2 F2 σ H2 _ s2.rel ((Good.bind.mp k).mono (fun es ρ3 k kvs F3 H3 s3 kr => ?_) fun _ _ _ q => q)
  split at k
  · rename_i key e
    have := k ((key, y) :: kvs) F3 H3 ((s.trans s2).trans s3) (.cons ((iw.mono s3.ext)) kr)
    rw [iv.key e]
    exact this
  · exact k.elim
/-- an object of our own that nobody has yet, written -/
theorem Stp.own (rl : Rl g ρ F σ H) (hp : H p = none) (s1 : Stp g ρ F σ (upd H p o) ρ1 F1 σ1 H1) : F1 p = none ∧ (∀ i, ¬ Held ρ1 σ1 i p) ∧ H1 p = some o ∧ ∀ o', Stp g ρ F σ H ρ1 F1 σ1 (upd H1 p o') := by
  have fr := rl.free hp
  have n0 : ¬ Ow ρ σ p := fun ⟨i, h⟩ => fr.2 i h.held
  have e1 : H1 p = some o := s1.keep p _ upd_same n0
  have f1 : F1 p = none := by
    cases e : F1 p with
    | none => rfl
    | some u =>
      rcases s1.new p fr.1 (by rw [e]; exact fun z => nomatch z) with z | z
      · rw [upd_same] at z; cases z
      · exact absurd z n0
  have nw : ¬ Ow ρ1 σ1 p := fun h => (s1.ow p h).elim n0 fun z => by rw [upd_same] at z; cases z
  have n1 : ∀ i, ¬ Held ρ1 σ1 i p := fun i h => by
    obtain ⟨a, b⟩ := h
    rcases a with ⟨c, a⟩ | ⟨c, a⟩
    · exact nw ⟨i, ⟨c, a⟩, b⟩
    · obtain ⟨a', b'⟩ := s1.brw i c a
      exact fr.2 i ⟨.inr ⟨c, a'⟩, b'.symm.trans b⟩
  refine ⟨f1, n1, e1, fun o' => ⟨s1.rel.updH f1 n1, s1.ext, fun a x y => ?_, fun a u e n => ?_, fun a e => ?_, fun a h => ?_, s1.brw⟩⟩
  · have z : a ≠ p := fun z => by rw [z] at y; exact y f1
    rcases s1.new a x y with w | w
    · rw [upd_ne z] at w; exact .inl w
    · exact .inr w
  · have z : a ≠ p := fun z => by rw [z, hp] at e; cases e
    rw [upd_ne z]
    exact s1.keep a u (by rw [upd_ne z]; exact e) n
  · by_cases z : a = p
    · subst z; exact hp
    · rw [upd_ne z] at e
      have := s1.dom a e
      rw [upd_ne z] at this
      exact this
  · rcases s1.ow a h with w | w
    · exact .inl w
    · by_cases z : a = p
      · subst z; exact .inr hp
      · rw [upd_ne z] at w; exact .inr w
theorem s_dct {ts : List (TE × TE)} {rs : Env → R (List (Key × D))} (hr : SndPs g W ts rs) : Snd g W (tDisp ts) fun ρ => (rs ρ).bind fun kvs ρ => if kvs.length ≤ 15 then .ok (.fr (.dK (putAll [] kvs))) ρ else .no := fun ρ F σ H Q rl k => by
  intro p hp
  have s0 := Stp.alloc (o := .dK []) rl hp
  refine hr ρ F σ _ _ s0.rel ((Good.bind.mp k).mono (fun es ρ1 k kvs F1 H1 s1 kr => ?_) fun c fs ρ' e d F' H' s x => e d F' H' (s0.trans s) x)
  obtain ⟨hl, k⟩ := if_inv k
  obtain ⟨f1, n1, e1, w⟩ := Stp.own rl hp s1
  have kr2 : KR g F1 (mergeK [] kvs) (putAll [] es) := kr.all .nil
  exact ⟨e1, kvs, rfl, by rw [kr.len]; exact hl, k _ F1 _ (w _) ⟨p, rfl, hp, f1, .dK upd_same kr2.keys kr2.vals, rfl, n1⟩⟩
theorem s_dct0 : Snd g W tDNewK fun ρ => (R.ok ([] : List (Key × D)) ρ).bind fun kvs ρ => if kvs.length ≤ 15 then .ok (.fr (.dK (putAll [] kvs))) ρ else .no := fun ρ F σ H Q rl k p hp => by
  obtain ⟨_, k⟩ := if_inv k
  exact k.fresh rl hp (.dK upd_same rfl .nil) rfl
end
end EN
/-! Slices, walks, comprehensions. -/
namespace EN
open PySem L2
section
variable {g : Gam} {W : WX} {ρ ρ1 ρ2 : Env} {F F1 F2 H H1 H2 H0 : Hp} {σ σ1 σ2 : L2.St} {p : Addr} {o : HO} {i j : Nat} {Q : VK} {t u : TE} {ra rb : Env → R IV}
def SndO (g : Gam) (W : WX) (t : TO) (r : Env → R (Option Int)) : Prop := ∀ ρ F σ H (Q : Option Int → Hp → Prop), Rl g ρ F σ H → Good (r ρ) (fun o ρ' => ∀ F' H', Stp g ρ F σ H ρ' F' σ H' → Q o H') (ErQ g W ρ F σ H) → t σ H Q
theorem s_prt {nl : Bool} (ha : Snd g W t ra) : SndO g W (prt nl t) fun ρ => prtR g.np nl ra ρ := fun ρ F σ H Q rl k => by
  cases nl with
  | true => exact k F H (Stp.refl rl)
  | false =>
    refine ha.kept.go rl k fun v ρ1 x F1 H1 s iv k => ?_
    cases v with
    | int i => cases iv; exact ⟨i, rfl, k F1 H1 s⟩
    | _ => exact k.elim
theorem SndO.go {t : TO} {r : Env → R (Option Int)} {β : Type} {f : Option Int → Env → R β} {A : β → Env → Prop} {Q : Option Int → Hp → Prop} (h : SndO g W t r) (rl : Rl g ρ F σ H) (k : Good ((r ρ).bind f) A (ErQ g W ρ F σ H))
    (n : ∀ v ρ1 F1 H1, Stp g ρ F σ H ρ1 F1 σ H1 → Good (f v ρ1) A (ErQ g W ρ1 F1 σ H1) → Q v H1) : t σ H Q :=
  h ρ F σ H Q rl ((Good.bind.mp k).mono (fun v ρ1 k F1 H1 s => n v ρ1 F1 H1 s (k.mono (fun _ _ a => a) fun _ _ _ e => e.later s)) fun _ _ _ q => q)
theorem s_slc {tl th : TO} {rl' rh : Env → R (Option Int)} (ha : Snd g W t ra) (hl : SndO g W tl rl') (hh : SndO g W th rh) : Snd g W (tSl (rSLL g.K) t tl th) fun ρ => (ra ρ).held.bind fun x ρ => (rl' ρ).bind fun l ρ => (rh ρ).bind fun h ρ => seen ρ x fun x => .val ρ (opS x l h) := fun ρ F σ H Q rl k => by
  refine ha.held.go rl k fun v ρ1 x F1 H1 s iv k => hl.go s.rel k fun l ρ2 F2 H2 s2 k => hh.go s2.rel k fun h ρ3 F3 H3 s3 k => ?_
  obtain ⟨a, ea, k⟩ := seen_inv k
  obtain ⟨z, ez, k⟩ := val_inv k
  exact opS_ok s3.rel ((iv.mono s2.ext).mono s3.ext) ea ez (k.later ((s.trans s2).trans s3))
theorem s_scnt {tl th : TO} {rl' rh : Env → R (Option Int)} (ha : Snd g W t ra) (hl : SndO g W tl rl') (hh : SndO g W th rh) (hb : Snd g W u rb) : Snd g W (tSCnt g.K t tl th (tCons u tNil)) fun ρ => (ra ρ).held.bind fun x ρ => (rl' ρ).bind fun l ρ => (rh ρ).bind fun h ρ => seen ρ x fun d => match d with
    | .tup z => if HT.sIx z.length 0 l = 0 ∧ HT.sIx z.length z.length h = z.length then .no else ((rb ρ).kept g.np).bind fun y ρ => .dat ρ (cntD (cut z l h) y)
    | _ => .no := fun ρ F σ H Q rl k => by
  refine ha.held.go rl k fun v ρ1 x F1 H1 s iv k => hl.go s.rel k fun l ρ2 F2 H2 s2 k => hh.go s2.rel k fun h ρ3 F3 H3 s3 k => ?_
  obtain ⟨a, ea, k⟩ := seen_inv k
  have sx := s3.rel.seen (IvP.ok (H0 := H) ((iv.mono s2.ext).mono s3.ext)) ea
  have s123 := (s.trans s2).trans s3
  cases a with
  | tup z =>
    obtain ⟨p, vs, rfl, h1, h2⟩ := sx.isTup
    dsimp only at k
    split at k
    · exact k.elim
    · rename_i nw
      refine ⟨p, vs, rfl, h1, by rw [h2.1]; exact nw, fun q ob hq hd => ⟨⟨q, ob, _, rfl, upd_same, hd⟩, ?_⟩⟩
      have s4 := Stp.allocD (o := .frz ob (.tup (cutV vs l h))) s3.rel hq
      refine hb.kept.go s4.rel (k.mono (fun _ _ a => a) fun _ _ _ e => e.later s4) fun y ρ5 yv F5 H5 s5 iy k => ?_
      obtain ⟨z', ez, k⟩ := dat_inv k
      have hF : F5 q = some (.frz ob (.tup (cutV vs l h))) := s5.ext _ _ upd_same
      exact cntD_ok (Or.inl (Or.inr ⟨ob, s5.rel.same _ _ hF⟩)) ((cut_rel h2 l h).mono ((same_new (s3.rel.free hq).1).trans s5.ext)) iy ez fun _ rz => okD ((s123.trans s4).trans s5) k rz
  | _ => exact k.elim
/-! ### walks -/
/-- what is walked stays, while its slot is lent -/
theorem stays {x : V} {v : IV} {d : D} (rl : Rl g ρ F σ H) (iv : IvP g F σ x v) (e : vw ρ v = some d) : ∀ ρ' F' σ' H', Stp g (lend ρ v) F σ H ρ' F' σ' H' → Sn g F' H' x d := fun ρ' F' σ' H' s => by
  cases v with
  | d y =>
    cases e
    exact Rep.sn s.rel.same (Rep.mono s.ext iv)
  | fr c => exact absurd iv id
  | sl i =>
    have h : σ[i]? = some (some x) := iv
    simp only [vw] at e
    simp only [lend] at s
    have y := rl.sl i
    cases q : ρ.at i with
    | un => rw [q] at e; cases e
    | d y' =>
      rw [q] at e y
      cases e
      cases y with
      | d h1 h2 => rw [h] at h1; cases h1; exact (h2.mono s.ext).sn s.rel.same
    | own c =>
      rw [q] at e y s
      cases e
      cases y with
      | own h1 hf h2 h3 =>
        rw [h] at h1; cases h1
        refine (h2.mono s.ext fun o ho => s.keep _ o ho fun ⟨j, ⟨c', hj⟩, z⟩ => ?_).sn h3
        rw [at_set] at hj
        split at hj
        · cases hj
        · rename_i nj
          refine rl.apart i j _ (fun w => nj ⟨w, at_lt (by rw [q]; exact fun z => nomatch z)⟩) ⟨⟨c, q⟩, h⟩ ⟨.inl ⟨c', hj⟩, z⟩
    | bor c =>
      rw [q] at e y s
      cases e
      cases y with
      | bor h1 hf h2 h3 =>
        rw [h] at h1; cases h1
        refine (h2.mono s.ext fun o ho => s.keep _ o ho fun ⟨j, ⟨c', hj⟩, z⟩ => ?_).sn h3
        by_cases w : j = i
        · rw [w, q] at hj; cases hj
        · exact rl.apart j i _ w ⟨⟨c', hj⟩, z⟩ ⟨.inr ⟨c, q⟩, h⟩
    | exc c fs => rw [q] at e; cases e
/-- J walks over ds -/
inductive Wk (g : Gam) (ρ : Env) (F : Hp) (σ : L2.St) (H : Hp) : It → List D → Prop
  | l {a : Addr} {ds : List D} (h : ∀ ρ' F' σ' H', Stp g ρ F σ H ρ' F' σ' H' → ∃ vs, SqL g.K H' a vs ∧ Rps g F' vs ds) : Wk g ρ F σ H (Itl g.K a) ds
  | t {a : Addr} {ds : List D} (h : ∀ ρ' F' σ' H', Stp g ρ F σ H ρ' F' σ' H' → ∃ vs, SqT g.K H' a vs ∧ Rps g F' vs ds) : Wk g ρ F σ H (Itt g.K a) ds
  | r (i j : Int) : Wk g ρ F σ H (Itr i (j - i).toNat) (rngD i j)
  | s (z : Str) : Wk g ρ F σ H (Its z) (z.cps.toList.map fun c => D.str ⟨#[c]⟩)
theorem rngD_len {i j : Int} : (rngD i j).length = (j - i).toNat := by simp [rngD]
theorem Wk.stop {J : It} {ds : List D} (w : Wk g ρ F σ H J ds) (s : Stp g ρ F σ H ρ1 F1 σ1 H1) {k : Nat} (h : ds.length ≤ k) : J.stop k H1 := by
  cases w with
  | l q => obtain ⟨vs, a, b⟩ := q _ _ _ _ s; exact ⟨vs, a, by rw [b.1]; exact h⟩
  | t q => obtain ⟨vs, a, b⟩ := q _ _ _ _ s; exact ⟨vs, a, by rw [b.1]; exact h⟩
  | r i j =>
    show (j - i).toNat ≤ k
    rw [← rngD_len]
    exact h
  | s z =>
    show z.cps.size ≤ k
    simpa using h
theorem Wk.go {J : It} {ds : List D} (w : Wk g ρ F σ H J ds) (s : Stp g ρ F σ H ρ1 F1 σ1 H1) {k : Nat} {d : D} (h : ds[k]? = some d) : J.go k H1 ∧ ∀ x H', J.yld k H1 x H' → H' = H1 ∧ Rep g F1 x d := by
  cases w with
  | l q =>
    obtain ⟨vs, a, b⟩ := q _ _ _ _ s
    obtain ⟨v, hv, r⟩ := b.at h
    refine ⟨⟨vs, v, a, hv⟩, fun x H' y => ⟨y.1, ?_⟩⟩
    have := y.2 vs a
    rw [hv] at this; cases this; exact r
  | t q =>
    obtain ⟨vs, a, b⟩ := q _ _ _ _ s
    obtain ⟨v, hv, r⟩ := b.at h
    refine ⟨⟨vs, v, a, hv⟩, fun x H' y => ⟨y.1, ?_⟩⟩
    have := y.2 vs a
    rw [hv] at this; cases this; exact r
  | r i j =>
    unfold rngD at h
    rw [List.getElem?_map] at h
    cases e : (List.range (j - i).toNat)[k]? with
    | none => rw [e] at h; cases h
    | some n =>
      rw [e] at h
      obtain ⟨hk, hn⟩ := List.getElem?_eq_some_iff.mp e
      rw [List.getElem_range] at hn
      subst hn
      cases h
      exact ⟨show k < (j - i).toNat from by rw [← List.length_range (n := (j - i).toNat)]; exact hk, fun x H' y => ⟨y.1, by rw [y.2]; exact .int _⟩⟩
  | s z =>
    rw [List.getElem?_map] at h
    cases e : z.cps.toList[k]? with
    | none => rw [e] at h; cases h
    | some c =>
      rw [e] at h
      cases h
      have hk : k < z.cps.size := by simpa using (List.getElem?_eq_some_iff.mp e).1
      refine ⟨hk, fun x H' y => ⟨y.1, ?_⟩⟩
      obtain ⟨c', hc', rfl⟩ := y.2
      rw [Array.getElem?_toList] at e
      rw [e] at hc'
      cases hc'
      exact .str _
def SndI (g : Gam) (W : WX) (t : TI) (r : Env → R (IV × List D)) : Prop := ∀ ρ F σ H (R : It → Hp → Prop), Rl g ρ F σ H → Good (r ρ) (fun p ρ' => ∀ J F' H', Stp g ρ F σ H ρ' F' σ H' → Wk g (lend ρ' p.1) F' σ H' J p.2 → p.2.length ≤ line → R J H') (ErQ g W ρ F σ H) → t σ H R
theorem s_itE (ha : Snd g W t ra) : SndI g W (iSeq g.K t) fun ρ => (ra ρ).held.bind fun x ρ => seen ρ x fun d => match walkD d with
    | some xs => if xs.length ≤ line then .ok (x, xs) ρ else .no
    | none => .no := fun ρ F σ H Z rl k => by
  refine ha.held.go rl k fun v ρ1 x F1 H1 s iv k => ?_
  obtain ⟨d, ed, k⟩ := seen_inv k
  cases e : walkD d with
  | none => rw [e] at k; exact k.elim
  | some xs =>
    rw [e] at k
    have k : Good (if xs.length ≤ line then R.ok (v, xs) ρ1 else R.no) (fun p ρ' => ∀ J F' H', Stp g ρ F σ H ρ' F' σ H' → Wk g (lend ρ' p.1) F' σ H' J p.2 → p.2.length ≤ line → Z J H') (ErQ g W ρ1 F1 σ H1) := k
    split at k
    · rename_i hl
      have st := stays s.rel iv ed
      have sx := s.rel.seen (IvP.ok (H0 := H) iv) ed
      unfold walkD at e
      split at e
      · cases e
        obtain ⟨a, vs, rfl, h1, h2⟩ := sx.isLst
        refine ⟨a, rfl, .inl ⟨vs, SqL.of h1, k _ F1 H1 s (.l fun ρ' F' σ' H' s' => ?_) hl⟩⟩
        obtain ⟨a', vs', e', h1, h2⟩ := (st _ _ _ _ s').isLst
        cases e'
        exact ⟨vs', SqL.of h1, h2⟩
      · cases e
        obtain ⟨a, vs, rfl, h1, h2⟩ := sx.isTup
        refine ⟨a, rfl, .inr ⟨vs, h1, k _ F1 H1 s (.t fun ρ' F' σ' H' s' => ?_) hl⟩⟩
        obtain ⟨a', vs', e', h1, h2⟩ := (st _ _ _ _ s').isTup
        cases e'
        exact ⟨vs', h1, h2⟩
      · cases e
        cases sx with
        | scr h =>
          refine ⟨_, rfl, .inl ⟨_, h, k _ F1 H1 s (.l fun ρ' F' σ' H' s' => ?_) hl⟩⟩
          cases st _ _ _ _ s' with
          | scr h' => exact ⟨_, h', scr_rel⟩
      · cases e
    · exact k.elim
theorem s_txt (ha : Snd g W t ra) : SndI g W (iStr t) fun ρ => ((ra ρ).kept g.np).bind fun x ρ => match x with
    | .str z => if z.length ≤ line then .ok (.d .non, z.cps.toList.map fun c => D.str ⟨#[c]⟩) ρ else .no
    | _ => .no := fun ρ F σ H Z rl k => by
  refine ha.kept.go rl k fun v ρ1 x F1 H1 s iv k => ?_
  cases v with
  | str z =>
    cases iv
    have k : Good (if z.length ≤ line then R.ok (IV.d .non, z.cps.toList.map fun c => D.str ⟨#[c]⟩) ρ1 else R.no) (fun p ρ' => ∀ J F' H', Stp g ρ F σ H ρ' F' σ H' → Wk g (lend ρ' p.1) F' σ H' J p.2 → p.2.length ≤ line → Z J H') (ErQ g W ρ1 F1 σ H1) := k
    split at k
    · rename_i h
      exact ⟨z, rfl, k _ F1 H1 s (.s z) (by rw [List.length_map, Array.length_toList]; exact h)⟩
    · exact k.elim
  | _ => exact k.elim
theorem rngOk_of {i j : Int} (h : rngOk i j = true) : (-(2 ^ 62) ≤ i ∧ i < 2 ^ 62 ∧ -(2 ^ 62) ≤ j ∧ j < 2 ^ 62) ∧ (rngD i j).length ≤ line := by
  obtain ⟨h1, h2, h3, h4, h5⟩ := of_decide_eq_true h
  refine ⟨⟨h1, h2, h3, h4⟩, ?_⟩
  rw [rngD_len]
  omega
theorem s_rng (ha : Snd g W t ra) : SndI g W (iRng1 (tCons t tNil)) fun ρ => ((ra ρ).kept g.np).bind fun x ρ => match x with
    | .int j => if rngOk 0 j then .ok (.d .non, rngD 0 j) ρ else .no
    | _ => .no := fun ρ F σ H Z rl k => by
  refine ha.kept.go rl k fun v ρ1 x F1 H1 s iv k => ?_
  cases v with
  | int j =>
    cases iv
    have k : Good (if rngOk 0 j = true then R.ok (IV.d .non, rngD 0 j) ρ1 else R.no) (fun p ρ' => ∀ J F' H', Stp g ρ F σ H ρ' F' σ H' → Wk g (lend ρ' p.1) F' σ H' J p.2 → p.2.length ≤ line → Z J H') (ErQ g W ρ1 F1 σ H1) := k
    split at k
    · rename_i h
      obtain ⟨h1, h2⟩ := rngOk_of h
      have w : Wk g ρ1 F1 σ H1 (Itr 0 (j - 0).toNat) (rngD 0 j) := .r 0 j
      rw [Int.sub_zero] at w
      exact ⟨j, rfl, h1.2.2.1, h1.2.2.2, k _ F1 H1 s w h2⟩
    · exact k.elim
  | _ => exact k.elim
theorem s_rng2 (ha : Snd g W t ra) (hb : Snd g W u rb) : SndI g W (iRng2 (tCons t (tCons u tNil))) fun ρ => ((ra ρ).kept g.np).bind fun x ρ => ((rb ρ).kept g.np).bind fun y ρ => match x, y with
    | .int i, .int j => if rngOk i j then .ok (.d .non, rngD i j) ρ else .no
    | _, _ => .no := fun ρ F σ H Z rl k => by
  refine ha.kept.go rl k fun v ρ1 x F1 H1 s iv k => hb.kept.go s.rel k fun w ρ2 y F2 H2 s2 iw k => ?_
  cases v with
  | int i =>
    cases w with
    | int j =>
      cases iv
      cases iw
      have k : Good (if rngOk i j = true then R.ok (IV.d .non, rngD i j) ρ2 else R.no) (fun p ρ' => ∀ J F' H', Stp g ρ F σ H ρ' F' σ H' → Wk g (lend ρ' p.1) F' σ H' J p.2 → p.2.length ≤ line → Z J H') (ErQ g W ρ2 F2 σ H2) := k
      split at k
      · rename_i h
        obtain ⟨h1, h2⟩ := rngOk_of h
        exact ⟨i, j, rfl, h1, k _ F2 H2 (s.trans s2) (.r i j) h2⟩
      · exact k.elim
    | _ => exact k.elim
  | _ => exact k.elim
end
end EN
/-! Comprehensions. -/
namespace EN
open PySem L2
section
variable {g : Gam} {W : WX} {ρ ρ' ρ1 ρ2 : Env} {F F1 F2 H H1 H2 H0 : Hp} {σ σ' σ1 σ2 : L2.St} {p : Addr} {o : HO} {i j : Nat} {Q : VK} {t u : TE} {ra rb : Env → R IV}
theorem Good.calm {α : Type} {r : R α} {A : α → Env → Prop} {B B' : Nat → List D → Env → Prop} (k : Good r.calm A B) : Good r A B' := by
  cases r with
  | ok a ρ => exact k
  | er c fs ρ => exact k.elim
  | no => exact k
theorem Good.sft {α : Type} {r : R α} {A : α → Env → Prop} {B : Nat → List D → Env → Prop} (k : Good (r.sft i) A B) : Good r A fun c fs ρ => nobB (ρ.at i) = true ∧ B c fs ρ := by
  cases r with
  | ok a ρ => exact k
  | er c fs ρ =>
    have k : Good (match nobB (ρ.at i) with
      | true => R.er c fs ρ
      | false => R.no) A B := k
    cases e : nobB (ρ.at i) with
    | true => rw [e] at k; exact ⟨e, k⟩
    | false => rw [e] at k; exact k.elim
  | no => exact k
/-- apart from slot i nothing differs -/
def Off (i : Nat) (ρ : Env) (σ : L2.St) (ρ' : Env) (σ' : L2.St) : Prop := ∀ j, j ≠ i → ρ.at j = ρ'.at j ∧ σ[j]? = σ'[j]?
def NoOB (s : Slot) : Prop := ∀ c, s ≠ .own c ∧ s ≠ .bor c
theorem Off.symm (h : Off i ρ σ ρ' σ') : Off i ρ' σ' ρ σ := fun j n => ⟨(h j n).1.symm, (h j n).2.symm⟩
theorem Off.own (h : Off i ρ σ ρ' σ') (n : NoOB (ρ.at i)) (k : Own ρ σ j p) : Own ρ' σ' j p := by
  by_cases e : j = i
  · subst e; obtain ⟨⟨c, z⟩, _⟩ := k; exact absurd z (n c).1
  · obtain ⟨⟨c, z⟩, w⟩ := k; obtain ⟨a, b⟩ := h j e; exact ⟨⟨c, a ▸ z⟩, b ▸ w⟩
theorem Off.held (h : Off i ρ σ ρ' σ') (n : NoOB (ρ.at i)) (k : Held ρ σ j p) : Held ρ' σ' j p := by
  by_cases e : j = i
  · subst e
    obtain ⟨z, _⟩ := k
    rcases z with ⟨c, z⟩ | ⟨c, z⟩
    · exact absurd z (n c).1
    · exact absurd z (n c).2
  · obtain ⟨z, w⟩ := k
    obtain ⟨a, b⟩ := h j e
    exact ⟨by rw [← a]; exact z, b ▸ w⟩
theorem Off.ow (h : Off i ρ σ ρ' σ') (n : NoOB (ρ.at i)) (k : Ow ρ σ p) : Ow ρ' σ' p := let ⟨j, k⟩ := k; ⟨j, h.own n k⟩
theorem SlOk.off {s : Slot} (e : σ[j]? = σ'[j]?) (h : SlOk g F σ H j s) : SlOk g F σ' H j s := by
  cases h with
  | un => exact .un
  | d h r => exact .d (e ▸ h) r
  | own h hf r ft => exact .own (e ▸ h) hf r ft
  | bor h hf r ft => exact .bor (e ▸ h) hf r ft
  | exc hp h f => exact .exc hp (e ▸ h) f
theorem Rl.off (r : Rl g ρ F σ H) (h : Off i ρ σ ρ' σ') (hl : ρ'.length = σ'.length) (n : NoOB (ρ.at i)) (n' : NoOB (ρ'.at i)) (si : SlOk g F σ' H i (ρ'.at i)) : Rl g ρ' F σ' H where
  same := r.same
  len := hl
  sl := fun j => by
    by_cases e : j = i
    · subst e; exact si
    · obtain ⟨a, b⟩ := h j e
      rw [← a]
      exact (r.sl j).off b
  apart := fun a b q z x y => r.apart a b q z (h.symm.own n' x) (h.symm.held n' y)
  old := fun a q x => r.old a q (h.symm.own n' x)
  new := fun a q x => r.new a q (h.symm.own n' x)
/-- a step, seen from where slot i differs -/
theorem Stp.off {τ τ' : L2.St} {θ θ' : Env} (s : Stp g ρ F σ H ρ' F1 σ' H1) (h : Off i ρ σ θ τ) (h' : Off i ρ' σ' θ' τ') (n : NoOB (ρ.at i)) (n2 : NoOB (θ.at i)) (n' : NoOB (ρ'.at i)) (n2' : NoOB (θ'.at i)) (r : Rl g θ' F1 τ' H1) : Stp g θ F τ H θ' F1 τ' H1 where
  rel := r
  ext := s.ext
  new := fun a x y => (s.new a x y).imp_right fun z => h.ow n z
  keep := fun a o e z => s.keep a o e fun w => z (h.ow n w)
  dom := s.dom
  ow := fun a z => (s.ow a (h'.symm.ow n2' z)).imp_left fun w => h.ow n w
  brw := fun j c z => by
    by_cases e : j = i
    · subst e; exact absurd z (n2' c).2
    · obtain ⟨a, b⟩ := h' j e
      obtain ⟨a', b'⟩ := h j e
      rw [← a] at z
      obtain ⟨x, y⟩ := s.brw j c z
      exact ⟨a' ▸ x, by rw [← b, ← b']; exact y⟩
theorem off_set {s : Slot} {x : Option V} : Off i ρ σ (ρ.set i s) (σ.set i x) := fun j n => ⟨(at_set_ne fun z => n z.symm).symm, by rw [List.getElem?_set_ne fun z => n z.symm]⟩
theorem off_refl : Off i ρ σ ρ σ := fun _ _ => ⟨rfl, rfl⟩
theorem Off.trans {ρ2 : Env} {σ2 : L2.St} (a : Off i ρ σ ρ1 σ1) (b : Off i ρ1 σ1 ρ2 σ2) : Off i ρ σ ρ2 σ2 := fun j n => ⟨(a j n).1.trans (b j n).1, (a j n).2.trans (b j n).2⟩
theorem nob_un : NoOB .un := fun c => notOB_un c
theorem nob_d {x : D} : NoOB (.d x) := fun c => notOB_d c
theorem nob_set {s : Slot} (h : NoOB s) : NoOB (Env.at (ρ.set i s) i) := by
  rw [at_set]
  split
  · exact h
  · rename_i q
    have : ¬ i < ρ.length := fun z => q ⟨rfl, z⟩
    intro c
    have e : ρ.at i = .un := by
      by_cases w : ρ.at i = .un
      · exact w
      · exact absurd (at_lt w) this
    rw [e]
    exact notOB_un c
/-- slot i bound to a value -/
theorem Rl.bnd {x : V} {d : D} (r : Rl g ρ F σ H) (n : NoOB (ρ.at i)) (h : Rep g F x d) : Rl g (ρ.set i (.d d)) F (σ.set i (some x)) H := by
  refine r.off (i := i) off_set (by rw [List.length_set, List.length_set]; exact r.len) n (nob_set nob_d) ?_
  rw [at_set]
  split
  · rename_i q
    exact .d (by rw [List.getElem?_set_self (by rw [← r.len]; exact q.2)]) h
  · rename_i q
    have e : ρ.at i = .un := by
      by_cases w : ρ.at i = .un
      · exact w
      · exact absurd ⟨rfl, at_lt w⟩ q
    rw [e]; exact .un
theorem Rl.unb (r : Rl g ρ F σ H) (n : NoOB (ρ.at i)) (x : Option V) : Rl g (ρ.set i .un) F (σ.set i x) H := by
  refine r.off (i := i) off_set (by rw [List.length_set, List.length_set]; exact r.len) n (nob_set nob_un) ?_
  rw [at_set]
  split
  · exact .un
  · rename_i q
    have e : ρ.at i = .un := by
      by_cases w : ρ.at i = .un
      · exact w
      · exact absurd ⟨rfl, at_lt w⟩ q
    rw [e]; exact .un
/-- what nobody holds stays, and nobody holds it -/
theorem Stp.free (s : Stp g ρ F σ H ρ1 F1 σ1 H1) (h : H p = some o) (f : F p = none) (n : ∀ i, ¬ Held ρ σ i p) : H1 p = some o ∧ F1 p = none ∧ ∀ i, ¬ Held ρ1 σ1 i p := by
  have n0 : ¬ Ow ρ σ p := fun ⟨i, h⟩ => n i h.held
  refine ⟨s.keep p o h n0, ?_, fun j z => ?_⟩
  · cases e : F1 p with
    | none => rfl
    | some u =>
      rcases s.new p f (by rw [e]; exact fun z => nomatch z) with z | z
      · rw [h] at z; cases z
      · exact absurd z n0
  · obtain ⟨a, b⟩ := z
    rcases a with ⟨c, a⟩ | ⟨c, a⟩
    · rcases s.ow p ⟨j, ⟨c, a⟩, b⟩ with z | z
      · exact n0 z
      · rw [h] at z; cases z
    · obtain ⟨a', b'⟩ := s.brw j c a
      exact n j ⟨.inr ⟨c, a'⟩, b'.symm.trans b⟩
/-- a write to what nobody holds, that was not there at the beginning -/
theorem Stp.wr (s : Stp g ρ F σ H ρ1 F1 σ1 H1) (hp : H p = none) (f : F1 p = none) (n : ∀ i, ¬ Held ρ1 σ1 i p) : Stp g ρ F σ H ρ1 F1 σ1 (upd H1 p o) where
  rel := s.rel.updH f n
  ext := s.ext
  new := s.new
  keep := fun a u e z => by rw [upd_ne (ne_of_none e hp)]; exact s.keep a u e z
  dom := fun a e => by
    by_cases z : a = p
    · subst z; exact hp
    · rw [upd_ne z] at e; exact s.dom a e
  ow := s.ow
  brw := s.brw
/-! ### a slot lent -/
theorem lend_len {v : IV} : (lend ρ v).length = ρ.length := by
  unfold lend
  split
  · split
    · rw [List.length_set]
    · rfl
  · rfl
theorem bor_ne_own {c : Cn} : ∀ c', Slot.bor c ≠ .own c' := fun _ => Slot.noConfusion
theorem lend_own {v : IV} (h : Own (lend ρ v) σ j p) : Own ρ σ j p := by
  unfold lend at h
  split at h
  · split at h
    · exact own_set bor_ne_own h
    · exact h
  · exact h
theorem lend_held {v : IV} (h : Held (lend ρ v) σ j p) : Held ρ σ j p := by
  unfold lend at h
  split at h
  · split at h
    · rename_i i _ c e
      obtain ⟨a, b⟩ := h
      by_cases z : i = j
      · subst z; exact ⟨.inl ⟨c, e⟩, b⟩
      · rw [at_set_ne z] at a; exact ⟨a, b⟩
    · exact h
  · exact h
theorem Rl.lend {v : IV} (r : Rl g ρ F σ H) : Rl g (lend ρ v) F σ H where
  same := r.same
  len := by rw [lend_len]; exact r.len
  sl := fun j => by
    unfold EN.lend
    split
    · split
      · rename_i i _ c e
        rw [at_set]
        split
        · rename_i q
          obtain ⟨rfl, _⟩ := q
          have y := r.sl i
          rw [e] at y
          cases y with
          | own h1 h2 h3 h4 => exact .bor h1 h2 h3 h4
        · exact r.sl j
      · exact r.sl j
    · exact r.sl j
  apart := fun a b q n x y => r.apart a b q n (lend_own x) (lend_held y)
  old := fun a q x => r.old a q (lend_own x)
  new := fun a q x => r.new a q (lend_own x)
/-- given back -/
theorem Stp.unlend {v : IV} (r : Rl g ρ F σ H) (s : Stp g (EN.lend ρ v) F σ H ρ1 F1 σ1 H1) : Stp g ρ F σ H (EN.unlend ρ ρ1 v) F1 σ1 H1 := by
  have base : ρ1 = EN.unlend ρ ρ1 v → (∀ j c, ρ1.at j = .bor c → (EN.lend ρ v).at j = .bor c → ρ.at j = .bor c) → Stp g ρ F σ H (EN.unlend ρ ρ1 v) F1 σ1 H1 := fun e hb => by
    rw [← e]
    exact ⟨s.rel, s.ext, fun a x y => (s.new a x y).imp_right fun ⟨j, z⟩ => ⟨j, lend_own z⟩, fun a u e z => s.keep a u e fun ⟨j, w⟩ => z ⟨j, lend_own w⟩, s.dom, fun a z => (s.ow a z).imp_left fun ⟨j, w⟩ => ⟨j, lend_own w⟩, fun j c z => let ⟨x, y⟩ := s.brw j c z; ⟨hb j c z x, y⟩⟩
  cases v with
  | d x => exact base rfl fun _ _ _ h => h
  | fr c => exact base rfl fun _ _ _ h => h
  | sl i =>
    cases e : ρ.at i with
    | own c =>
      have le : EN.lend ρ (.sl i) = ρ.set i (.bor c) := by simp only [EN.lend]; rw [e]
      have hi : i < ρ.length := at_lt (by rw [e]; exact fun z => nomatch z)
      cases e1 : ρ1.at i with
      | bor c1 =>
        obtain ⟨p, h1, _⟩ := r.ownAt e
        rw [le] at s base
        obtain ⟨x, y⟩ := s.brw i c1 e1
        have ue : EN.unlend ρ ρ1 (.sl i) = ρ1.set i (.own c1) := by simp only [EN.unlend]; rw [e, e1]
        have hi1 : i < ρ1.length := at_lt (by rw [e1]; exact fun z => nomatch z)
        have own_i : Own ρ σ i p := ⟨⟨c, e⟩, h1⟩
        have np : ∀ q, Own ρ1 σ1 q p → False := fun q z => by
          rcases s.ow p ⟨q, z⟩ with ⟨j, w⟩ | w
          · have w' : Own ρ σ j p := own_set bor_ne_own w
            by_cases q2 : j = i
            · obtain ⟨⟨c', w⟩, _⟩ := w
              rw [q2, at_set_same hi] at w
              cases w
            · exact r.apart j i p q2 w' own_i.held
          · obtain ⟨_, _, _, h3, _⟩ := r.ownAt e
            rename_i p' h1' _ _
            rw [h1] at h1'; cases h1'
            obtain ⟨o, ho⟩ := h3.there
            rw [ho] at w; cases w
        have ob : ∀ {j q}, Own (ρ1.set i (.own c1)) σ1 j q → (j = i ∧ q = p) ∨ (j ≠ i ∧ Own ρ1 σ1 j q) := fun {j q} z => by
          obtain ⟨⟨c', z⟩, w⟩ := z
          by_cases q2 : j = i
          · subst q2
            rw [y, h1] at w
            cases w
            exact .inl ⟨rfl, rfl⟩
          · rw [at_set_ne fun z => q2 z.symm] at z
            exact .inr ⟨q2, ⟨c', z⟩, w⟩
        have hb : ∀ {j q}, Held (ρ1.set i (.own c1)) σ1 j q → j ≠ i → Held ρ1 σ1 j q := fun {j q} z n => by
          obtain ⟨z, w⟩ := z
          rw [at_set_ne fun z => n z.symm] at z
          exact ⟨z, w⟩
        have s_i := s.rel.sl i
        rw [e1] at s_i
        rw [ue]
        refine ⟨⟨s.rel.same, by rw [List.length_set]; exact s.rel.len, fun j => ?_, fun a b q n x y => ?_, fun a q x => ?_, fun a q x => ?_⟩, s.ext, fun a x y => (s.new a x y).imp_right fun ⟨j, z⟩ => ⟨j, own_set bor_ne_own z⟩,
          fun a u e z => s.keep a u e fun ⟨j, w⟩ => z ⟨j, own_set bor_ne_own w⟩, s.dom, fun a z => ?_, fun j c' z => ?_⟩
        · rw [at_set]
          split
          · rename_i q
            obtain ⟨rfl, _⟩ := q
            cases s_i with
            | bor h1 h2 h3 h4 => exact .own h1 h2 h3 h4
          · exact s.rel.sl j
        · rcases ob x with ⟨rfl, rfl⟩ | ⟨h, x3⟩
          · have y := hb y fun z => n z.symm
            obtain ⟨y1, y2⟩ := y
            rcases y1 with ⟨c', y1⟩ | ⟨c', y1⟩
            · exact np b ⟨⟨c', y1⟩, y2⟩
            · obtain ⟨z1, z2⟩ := s.brw b c' y1
              rw [at_set_ne n] at z1
              exact r.apart a b q n own_i ⟨.inr ⟨c', z1⟩, z2.symm.trans y2⟩
          · by_cases h' : b = i
            · subst h'
              have : q = p := by
                obtain ⟨_, y2⟩ := y
                rw [‹σ1[b]? = σ[b]?›, h1] at y2
                cases y2; rfl
              subst this
              exact np a x3
            · exact s.rel.apart a b q n x3 (hb y h')
        · rcases ob x with ⟨rfl, rfl⟩ | ⟨h, x⟩
          · exact r.old _ _ own_i
          · exact s.rel.old a q x
        · rcases ob x with ⟨rfl, rfl⟩ | ⟨h, x⟩
          · exact r.new _ _ own_i
          · exact s.rel.new a q x
        · obtain ⟨j, z⟩ := z
          rcases ob z with ⟨rfl, rfl⟩ | ⟨h, z⟩
          · exact .inl ⟨_, own_i⟩
          · exact (s.ow a ⟨j, z⟩).imp_left fun ⟨j, w⟩ => ⟨j, own_set bor_ne_own w⟩
        · by_cases q : j = i
          · subst q; rw [at_set_same hi1] at z; cases z
          · rw [at_set_ne fun z => q z.symm] at z
            obtain ⟨a, b⟩ := s.brw j c' z
            rw [at_set_ne fun z => q z.symm] at a
            exact ⟨a, b⟩
      | _ =>
        refine base (by simp only [EN.unlend]; rw [e, e1]) fun j c' z w => ?_
        rw [le] at w
        by_cases q : j = i
        · subst q; rw [e1] at z; cases z
        · rw [at_set_ne fun z => q z.symm] at w; exact w
    | _ => exact base (by simp only [EN.unlend]; rw [e]) fun j c' z w => by simp only [EN.lend] at w; rw [e] at w; exact w
end
end EN
/-! Comprehensions: the rule. -/
namespace EN
open PySem L2
section
variable {g : Gam} {W : WX} {ρ ρ' ρ1 ρ2 : Env} {F F1 F2 H H1 H2 H0 : Hp} {σ σ' σ1 σ2 : L2.St} {p : Addr} {o : HO} {i j : Nat} {Q : VK} {t u : TE} {ra rb : Env → R IV}
theorem off_un {s : Slot} : Off i ρ σ (ρ.set i s) σ := fun j n => ⟨(at_set_ne fun z => n z.symm).symm, rfl⟩
theorem off_st {x : Option V} : Off i ρ σ ρ (σ.set i x) := fun j n => ⟨rfl, by rw [List.getElem?_set_ne fun z => n z.symm]⟩
theorem at_un (h : ¬ i < ρ.length) : ρ.at i = .un := by
  by_cases w : ρ.at i = .un
  · exact w
  · exact absurd (at_lt w) h
theorem un_self (h : ρ.at i = .un) : Env.at (ρ.set i .un) i = .un := by
  rw [at_set]
  split
  · rfl
  · exact h
theorem set_un_at : Env.at (ρ.set i .un) i = .un := by
  rw [at_set]
  split
  · rfl
  · rename_i q; exact at_un fun z => q ⟨rfl, z⟩
/-- one turn: the slot is bound, something runs, the slot is free again -/
theorem turnS {x : V} {d : D} (r : Rl g (ρ.set i .un) F σ H) (hσ : σ.set i none = σ) (h : Rep g F x d) : Rl g (ρ.set i (.d d)) F (σ.set i (some x)) H ∧
    ∀ ρ1 F1 H1, NoOB (ρ1.at i) → Stp g (ρ.set i (.d d)) F (σ.set i (some x)) H ρ1 F1 (σ.set i (some x)) H1 → Stp g (ρ.set i .un) F σ H (ρ1.set i .un) F1 σ H1 := by
  have r2 := r.bnd (i := i) (by rw [set_un_at]; exact nob_un) h
  rw [List.set_set] at r2
  refine ⟨r2, fun ρ1 F1 H1 n s => ?_⟩
  have r3 := s.rel.unb n none
  rw [List.set_set, hσ] at r3
  refine s.off (i := i) (fun j n => ?_) (fun j n => ?_) (nob_set nob_d) (by rw [set_un_at]; exact nob_un) n (by rw [set_un_at]; exact nob_un) r3
  · rw [at_set_ne fun z => n z.symm, at_set_ne fun z => n z.symm, List.getElem?_set_ne fun z => n z.symm]; exact ⟨rfl, rfl⟩
  · rw [at_set_ne fun z => n z.symm, List.getElem?_set_ne fun z => n z.symm]; exact ⟨rfl, rfl⟩
theorem nobB_of {s : Slot} (h : nobB s = true) : NoOB s := fun c => ⟨(fun z => by subst z; cases h), (fun z => by subst z; cases h)⟩
theorem nobR_inv {α : Type} {r : R α} {A : α → Env → Prop} {B : Nat → List D → Env → Prop} (k : Good (nobR i ρ r) A B) : NoOB (ρ.at i) ∧ Good r A B := by
  unfold nobR at k
  split at k
  · rename_i e; exact ⟨nobB_of e, k⟩
  · exact k.elim
theorem lend_at {v : IV} (n : NoOB (ρ.at i)) : (lend ρ v).at i = ρ.at i := by
  unfold lend
  split
  · split
    · rename_i j _ c e
      by_cases z : j = i
      · subst z; exact absurd e (n c).1
      · rw [at_set_ne z]
    · rfl
  · rfl
theorem unlend_set {v : IV} {s : Slot} (n : NoOB (ρ.at i)) : unlend ρ (ρ1.set i s) v = (unlend ρ ρ1 v).set i s := by
  cases v with
  | sl j =>
    by_cases z : j = i
    · subst z
      have e : ∀ ρ2, unlend ρ ρ2 (.sl j) = ρ2 := fun ρ2 => by
        simp only [unlend]
        split
        · rename_i e _; exact absurd e (n _).1
        · rfl
      rw [e, e]
    · simp only [unlend]
      rw [at_set_ne fun w => z w.symm]
      split
      · rw [List.set_comm _ _ fun w => z w.symm]
      · rfl
  | _ => rfl
theorem unlend_held {v : IV} (h : Held (unlend ρ ρ1 v) σ j p) : Held ρ1 σ j p := by
  unfold unlend at h
  split at h
  · split at h
    · rename_i i _ _ _ c e1 e2
      obtain ⟨a, b⟩ := h
      by_cases z : i = j
      · subst z; exact ⟨.inr ⟨c, e2⟩, b⟩
      · rw [at_set_ne z] at a; exact ⟨a, b⟩
    · exact h
  · exact h
theorem drop_at {α : Type} {ds : List α} {k : Nat} {d : α} (h : ds[k]? = some d) : ds.drop k = d :: ds.drop (k + 1) := by
  obtain ⟨a, b⟩ := List.getElem?_eq_some_iff.mp h
  rw [List.drop_eq_getElem_cons a, b]
/-- a comprehension is left: what was lent is given back, its slot is as it was -/
theorem leaveS {v : IV} {s : Slot} {ρk : Env} {Fk Hk : Hp} (rl : Rl g ρ F σ H) (hs : ρ.at i = s) (ns : NoOB s) (st : Stp g (lend ρ v) F σ H (ρk.set i .un) Fk (σ.set i none) Hk) : Stp g ρ F σ H ((unlend ρ ρk v).set i s) Fk σ Hk ∧ ∀ j q, Held ((unlend ρ ρk v).set i s) σ j q → Held (ρk.set i .un) (σ.set i none) j q := by
  have nl : NoOB ((lend ρ v).at i) := by rw [lend_at (hs ▸ ns), hs]; exact ns
  have sl : SlOk g Fk σ Hk i s := by
    have y := rl.sl i
    rw [hs] at y
    cases y with
    | un => exact .un
    | d h r => exact .d h (r.mono st.ext)
    | own => exact absurd rfl (ns _).1
    | bor => exact absurd rfl (ns _).2
    | exc hp h f => exact .exc hp h (f.mono st.ext)
  have offB : Off i (ρk.set i .un) (σ.set i none) (ρk.set i s) σ := fun j n => ⟨by rw [at_set_ne fun z => n z.symm, at_set_ne fun z => n z.symm], by rw [List.getElem?_set_ne fun z => n z.symm]⟩
  have rB : Rl g (ρk.set i s) Fk σ Hk := by
    refine st.rel.off (i := i) offB ?_ (by rw [set_un_at]; exact nob_un) (nob_set ns) ?_
    · have := st.rel.len
      rw [List.length_set, List.length_set] at this
      rw [List.length_set]; exact this
    · rw [at_set]
      split
      · exact sl
      · rename_i q
        rw [at_un fun z => q ⟨rfl, z⟩]; exact .un
  have sB : Stp g (lend ρ v) F σ H (ρk.set i s) Fk σ Hk := st.off (i := i) off_refl offB nl nl (by rw [set_un_at]; exact nob_un) (nob_set ns) rB
  have sE := Stp.unlend rl sB
  rw [← unlend_set (hs ▸ ns)]
  exact ⟨sE, fun j q h => offB.symm.held (nob_set ns) (unlend_held h)⟩
theorem lc_loop {v : IV} {s : Slot} {J : It} {ds : List D} {tt : TT} {rc : Env → R Bool} {te : TE} {re : Env → R IV} (rl : Rl g ρ F σ H) (hs : ρ.at i = s) (ns : NoOB s) (w : Wk g (lend ρ v) F σ H J ds) (hl : ds.length ≤ line)
    (hc : SndT g (Wat W σ) tt rc) (he : Snd g (Wat W σ) te re) (k : Good (lcRun i rc (fun ρ => (re ρ).kept g.np) ds ((lend ρ v).set i .un)) (fun ys ρ' => OkQ g ρ F σ H Q (.fr (.lst ys)) ((unlend ρ ρ' v).set i s)) fun c fs ρ' => ErQ g W ρ F σ H c fs ((unlend ρ ρ' v).set i s)) :
    ∀ D, H D = none → ∃ W : Nat → Nat → Hp → Prop, (∃ m, W 0 m (upd H D (.lst []))) ∧ ∀ i' m H, W i' m H →
      (J.stop i' H ∧ Q (.ref D) H) ∨ (J.go i' H ∧ ∃ Nx : Hp → Prop, (∀ H', Nx H' → ∃ m', m' < m ∧ W (i' + 1) m' H') ∧ ∀ x H', J.yld i' H x H' → gName i x (wipe σ [i]) H' fun σ2 H2 => wipe σ2 [i] = wipe σ [i] ∧ tt σ2 H2 fun b H3 =>
        if b = true then te σ2 H3 fun y H4 => ∃ acc, H4 D = some (.lst acc) ∧ acc.length < sizeLine ∧ Nx (upd H4 D (.lst (acc ++ [y]))) else Nx H3) := by
  intro D hD
  have nl : NoOB ((lend ρ v).at i) := by rw [lend_at (hs ▸ ns), hs]; exact ns
  have r0 : Rl g ((lend ρ v).set i .un) F (σ.set i none) H := rl.lend.unb nl none
  have b0 : Stp g (lend ρ v) F σ H ((lend ρ v).set i .un) F (σ.set i none) H := (Stp.refl rl.lend).off (i := i) off_refl off_set nl nl nl (by rw [set_un_at]; exact nob_un) r0
  have hσ : (σ.set i none).set i none = σ.set i none := List.set_set ..
  let EB : Nat → List EN.D → Env → Prop := fun c fs ρ' => ErQ g W ρ F σ H c fs ((unlend ρ ρ' v).set i s)
  let WW : Nat → Nat → Hp → Prop := fun k m Hk => k + m = ds.length ∧ ∃ ρk Fk acc ys, Stp g ((lend ρ v).set i .un) F (σ.set i none) H (ρk.set i .un) Fk (σ.set i none) Hk ∧ Hk D = some (.lst acc) ∧ Fk D = none ∧ (∀ j, ¬ Held (ρk.set i .un) (σ.set i none) j D) ∧ Rps g Fk acc ys ∧
    ys.length ≤ k ∧ Good (lcRun i rc (fun ρ => (re ρ).kept g.np) (ds.drop k) ρk) (fun zs ρ' => OkQ g ρ F σ H Q (.fr (.lst (ys ++ zs))) ((unlend ρ ρ' v).set i s)) EB
  refine ⟨WW, ⟨ds.length, by omega, (lend ρ v).set i .un, F, [], [], ?_, upd_same, (r0.free hD).1, ?_, .nil, Nat.le_refl _, ?_⟩, ?_⟩
  · rw [List.set_set]; exact Stp.alloc r0 hD
  · rw [List.set_set]; exact (r0.free hD).2
  · exact k
  rintro k m Hk ⟨km, ρk, Fk, acc, ys, st, hDk, hFk, nh, ra, ly, kk⟩
  cases e : ds[k]? with
  | none =>
    have hk : ds.length ≤ k := List.getElem?_eq_none_iff.mp e
    refine .inl ⟨w.stop (b0.trans st) hk, ?_⟩
    rw [List.drop_eq_nil_of_le hk] at kk
    have kk : OkQ g ρ F σ H Q (.fr (.lst (ys ++ []))) ((unlend ρ ρk v).set i s) := kk
    rw [List.append_nil] at kk
    obtain ⟨sE, hh⟩ := leaveS rl hs ns (b0.trans st)
    exact kk (.ref D) Fk Hk sE ⟨D, rfl, hD, hFk, .lst hDk ra, rfl, fun j h => nh j (hh j D h)⟩
  | some d =>
    obtain ⟨hk, _⟩ := List.getElem?_eq_some_iff.mp e
    obtain ⟨go, yl⟩ := w.go (b0.trans st) e
    refine .inr ⟨go, fun H' => WW (k + 1) (m - 1) H', fun H' h => ⟨m - 1, by omega, h⟩, fun x H' y => ?_⟩
    obtain ⟨rfl, rx⟩ := yl x H' y
    obtain ⟨r2, back⟩ := turnS st.rel hσ rx
    rw [drop_at e] at kk
    -- an error leaves
    have err : ∀ {c : Nat} {fs : List EN.D} {ρ' : Env} {ρ3 : Env} {F3 H3 : Hp}, Stp g (ρk.set i (.d d)) Fk ((σ.set i none).set i (some x)) H' ρ3 F3 ((σ.set i none).set i (some x)) H3 → nobB (ρ'.at i) = true ∧ EB c fs ρ' → ErQ g (Wat W σ) ρ3 F3 ((σ.set i none).set i (some x)) H3 c fs ρ' := by
      intro c fs ρ' ρ3 F3 H3 s0 ⟨n, eb⟩ dd F' H'' s3 ex
      exact eb dd F' H'' (leaveS rl hs ns (b0.trans (st.trans (back ρ' F' H'' (nobB_of n) (s0.trans s3))))).1 ex
    refine ⟨?_, ?_⟩
    · show ((wipe σ [i]).set i (some x)).set i none = wipe σ [i]
      rw [List.set_set]
      exact hσ
    · have kk := (Good.bind.mp kk).sft
      refine hc (ρk.set i (.d d)) Fk ((σ.set i none).set i (some x)) H' _ r2 (kk.mono (fun b ρ3 k3 F3 H3 s3 => ?_) fun _ _ _ z => err (Stp.refl r2) z)
      cases b with
      | false =>
        rw [if_neg (by decide)]
        obtain ⟨n3, k3⟩ := nobR_inv k3
        have s4 := back ρ3 F3 H3 n3 s3
        obtain ⟨d1, d2, d3⟩ := s4.free hDk hFk nh
        exact ⟨by omega, ρ3, F3, acc, ys, st.trans s4, d1, d2, d3, ra.mono s4.ext, by omega, k3⟩
      | true =>
        rw [if_pos rfl]
        have k3 := (Good.bind.mp k3).sft
        refine he.kept ρ3 F3 ((σ.set i none).set i (some x)) H3 _ s3.rel (k3.mono (fun y ρ4 k4 z F4 H4 s4 ry => ?_) fun _ _ _ z => err s3 z)
        obtain ⟨n4, k4⟩ := nobR_inv k4
        have s5 := back ρ4 F4 H4 n4 (s3.trans s4)
        obtain ⟨d1, d2, d3⟩ := s5.free hDk hFk nh
        have la : acc.length < sizeLine := by rw [ra.1]; exact Nat.lt_of_le_of_lt (Nat.le_trans ly (Nat.le_trans (Nat.le_of_lt hk) hl)) line_lt
        have k5 := Good.bind.mp k4
        refine ⟨acc, d1, la, by omega, ρ4, F4, acc ++ [z], ys ++ [y], (st.trans s5).wr hD d2 d3, upd_same, d2, d3, (ra.mono s5.ext).append (.cons ry .nil), by rw [List.length_append]; simp; omega, ?_⟩
        refine k5.mono (fun zs ρ' q => ?_) fun _ _ _ z => z
        rw [List.append_assoc]
        exact q
theorem s_lc {wi : TI} {ri : Env → R (IV × List D)} {tt : WX → TT} {rc : Env → R Bool} {te : WX → TE} {re : Env → R IV} (hi : SndI g W wi ri) (hc : ∀ W', SndT g W' (tt W') rc) (he : ∀ W', Snd g W' (te W') re) : Snd g W (tLcW W wi (gName i) tt te [i]) fun ρ => (ri ρ).bind fun p ρ =>
    (lcRun i rc (fun ρ => (re ρ).kept g.np) p.2 ((lend ρ p.1).set i .un)).lcEnd i p.1 ρ := fun ρ F σ H Q rl k => by
  have lx : ∀ {r : R (List EN.D)} {v : IV} {ρ1 : Env} {s : Slot} {A : IV → Env → Prop} {B : Nat → List EN.D → Env → Prop}, Good (r.lcX i v ρ1 s) A B → Good r (fun ys ρ' => A (.fr (.lst ys)) ((unlend ρ1 ρ' v).set i s)) fun c fs ρ' => B c fs ((unlend ρ1 ρ' v).set i s) := by
    intro r v ρ1 s A B k
    cases r <;> exact k
  refine hi ρ F σ H _ rl ((Good.bind.mp k).mono (fun p ρ1 k J F1 H1 s w hl => ?_) fun _ _ _ q => q)
  have k := k.mono (A' := OkQ g ρ1 F1 σ H1 Q) (B' := ErQ g W ρ1 F1 σ H1) (fun _ _ a => a.later s) fun _ _ _ e => e.later s
  unfold R.lcEnd at k
  cases e : ρ1.at i with
  | un => rw [e] at k; exact lc_loop s.rel e nob_un w hl (hc _) (he _) (lx k)
  | d x => rw [e] at k; exact lc_loop s.rel e nob_d w hl (hc _) (he _) (lx k)
  | _ => rw [e] at k; exact k.elim
theorem dc_loop {v : IV} {s : Slot} {J : It} {ds : List D} {tt : TT} {rc : Env → R Bool} {ts : TA} {rk : Env → R (List D)} {te : TE} {re : Env → R IV} {B : Nat → List D → Env → Prop} (rl : Rl g ρ F σ H) (hs : ρ.at i = s) (ns : NoOB s) (w : Wk g (lend ρ v) F σ H J ds) (hl : ds.length ≤ line)
    (hc : SndT g W0 tt rc) (hk : SndL g W0 ts rk) (he : Snd g W0 te re) (k : Good (dcRun i rc rk (fun ρ => (re ρ).kept g.np) ds ((lend ρ v).set i .un)) (fun ys ρ' => OkQ g ρ F σ H Q (.fr (.dT (putAll [] ys))) ((unlend ρ ρ' v).set i s)) B) :
    ∀ D, H D = none → ∃ W : Nat → Nat → Hp → Prop, (∃ m, W 0 m (upd H D (.dT []))) ∧ ∀ i' m H, W i' m H →
      (J.stop i' H ∧ Q (.ref D) H) ∨ (J.go i' H ∧ ∃ Nx : Hp → Prop, (∀ H', Nx H' → ∃ m', m' < m ∧ W (i' + 1) m' H') ∧ ∀ x H', J.yld i' H x H' → gName i x (wipe σ [i]) H' fun σ2 H2 => wipe σ2 [i] = wipe σ [i] ∧ tt σ2 H2 fun b H3 =>
        if b = true then tTup ts σ2 H3 fun y H4 => te σ2 H4 fun z H5 => ∃ kvs k p, y = .ref p ∧ H5 p = some (.tup (k.map kV)) ∧ H5 D = some (.dT kvs) ∧ kvs.length < sizeLine ∧ Nx (upd H5 D (.dT (putK kvs k z))) else Nx H3) := by
  intro D hD
  have nl : NoOB ((lend ρ v).at i) := by rw [lend_at (hs ▸ ns), hs]; exact ns
  have r0 : Rl g ((lend ρ v).set i .un) F (σ.set i none) H := rl.lend.unb nl none
  have b0 : Stp g (lend ρ v) F σ H ((lend ρ v).set i .un) F (σ.set i none) H := (Stp.refl rl.lend).off (i := i) off_refl off_set nl nl nl (by rw [set_un_at]; exact nob_un) r0
  have hσ : (σ.set i none).set i none = σ.set i none := List.set_set ..
  let WW : Nat → Nat → Hp → Prop := fun k m Hk => k + m = ds.length ∧ ∃ ρk Fk kvs es, Stp g ((lend ρ v).set i .un) F (σ.set i none) H (ρk.set i .un) Fk (σ.set i none) Hk ∧ Hk D = some (.dT kvs) ∧ Fk D = none ∧ (∀ j, ¬ Held (ρk.set i .un) (σ.set i none) j D) ∧ KR g Fk kvs es ∧
    kvs.length ≤ k ∧ Good (dcRun i rc rk (fun ρ => (re ρ).kept g.np) (ds.drop k) ρk) (fun zs ρ' => OkQ g ρ F σ H Q (.fr (.dT (putAll es zs))) ((unlend ρ ρ' v).set i s)) B
  refine ⟨WW, ⟨ds.length, by omega, (lend ρ v).set i .un, F, [], [], ?_, upd_same, (r0.free hD).1, ?_, .nil, Nat.zero_le _, ?_⟩, ?_⟩
  · rw [List.set_set]; exact Stp.alloc r0 hD
  · rw [List.set_set]; exact (r0.free hD).2
  · exact k
  rintro k m Hk ⟨km, ρk, Fk, kvs, es, st, hDk, hFk, nh, ra, ly, kk⟩
  cases e : ds[k]? with
  | none =>
    have hk : ds.length ≤ k := List.getElem?_eq_none_iff.mp e
    refine .inl ⟨w.stop (b0.trans st) hk, ?_⟩
    rw [List.drop_eq_nil_of_le hk] at kk
    have kk : OkQ g ρ F σ H Q (.fr (.dT es)) ((unlend ρ ρk v).set i s) := kk
    have sl : SlOk g Fk σ Hk i s := by
      have y := rl.sl i
      rw [hs] at y
      cases y with
      | un => exact .un
      | d h r => exact .d h (r.mono st.ext)
      | own => exact absurd rfl (ns _).1
      | bor => exact absurd rfl (ns _).2
      | exc hp h f => exact .exc hp h (f.mono st.ext)
    have offB : Off i (ρk.set i .un) (σ.set i none) (ρk.set i s) σ := fun j n => ⟨by rw [at_set_ne fun z => n z.symm, at_set_ne fun z => n z.symm], by rw [List.getElem?_set_ne fun z => n z.symm]⟩
    have rB : Rl g (ρk.set i s) Fk σ Hk := by
      refine st.rel.off (i := i) offB ?_ (by rw [set_un_at]; exact nob_un) (nob_set ns) ?_
      · have := st.rel.len
        rw [List.length_set, List.length_set] at this
        rw [List.length_set]; exact this
      · rw [at_set]
        split
        · exact sl
        · rename_i q
          rw [at_un fun z => q ⟨rfl, z⟩]; exact .un
    have sB : Stp g (lend ρ v) F σ H (ρk.set i s) Fk σ Hk := (b0.trans st).off (i := i) off_refl offB nl nl (by rw [set_un_at]; exact nob_un) (nob_set ns) rB
    have sE := Stp.unlend rl sB
    rw [← unlend_set (hs ▸ ns)] at kk
    refine kk (.ref D) Fk Hk sE ⟨D, rfl, hD, hFk, .dT hDk ra.keys ra.vals, rfl, fun j h => ?_⟩
    exact nh j (offB.symm.held (nob_set ns) (unlend_held h))
  | some d =>
    obtain ⟨hk', _⟩ := List.getElem?_eq_some_iff.mp e
    obtain ⟨go, yl⟩ := w.go (b0.trans st) e
    refine .inr ⟨go, fun H' => WW (k + 1) (m - 1) H', fun H' h => ⟨m - 1, by omega, h⟩, fun x H' y => ?_⟩
    obtain ⟨rfl, rx⟩ := yl x H' y
    obtain ⟨r2, back⟩ := turnS st.rel hσ rx
    rw [drop_at e] at kk
    refine ⟨?_, ?_⟩
    · show ((wipe σ [i]).set i (some x)).set i none = wipe σ [i]
      rw [List.set_set]
      exact hσ
    · have kk := Good.bind.mp kk
      refine hc (ρk.set i (.d d)) Fk ((σ.set i none).set i (some x)) H' _ r2 (kk.calm.mono (fun b ρ3 k3 F3 H3 s3 => ?_) fun _ _ _ z => z)
      cases b with
      | false =>
        rw [if_neg (by decide)]
        obtain ⟨n3, k3⟩ := nobR_inv k3
        have s4 := back ρ3 F3 H3 n3 s3
        obtain ⟨d1, d2, d3⟩ := s4.free hDk hFk nh
        exact ⟨by omega, ρ3, F3, kvs, es, st.trans s4, d1, d2, d3, ra.mono s4.ext, by omega, k3⟩
      | true =>
        rw [if_pos rfl]
        have k3 := Good.bind.mp k3
        refine hk ρ3 F3 ((σ.set i none).set i (some x)) H3 _ s3.rel (k3.calm.mono (fun ks ρ4 k4 vs F4 H4 s4 rk' => ?_) fun _ _ _ z => z)
        cases ek : EN.D.keys? ks with
        | none => rw [ek] at k4; exact k4.elim
        | some key =>
          rw [ek] at k4
          dsimp only at k4
          have hlk : ks.length ≤ line := by
            by_cases z : ks.length ≤ line
            · exact z
            · rw [if_neg z] at k4; exact k4.elim
          rw [if_pos hlk] at k4
          have ev' := keys_rel rk' ek
          subst ev'
          refine ⟨by rw [rk'.1]; exact Nat.le_trans hlk line_le, fun q hq => ?_⟩
          have sA := Stp.alloc (o := .tup (key.map kV)) s4.rel hq
          have k4 := Good.bind.mp k4
          refine he.kept ρ4 F4 ((σ.set i none).set i (some x)) _ _ sA.rel (k4.calm.mono (fun y ρ5 k5 z F5 H5 s5 ry => ?_) fun _ _ _ z => z)
          obtain ⟨n5, k5⟩ := nobR_inv k5
          have s6 := back ρ5 F5 H5 n5 (((s3.trans s4).trans sA).trans s5)
          obtain ⟨d1, d2, d3⟩ := s6.free hDk hFk nh
          obtain ⟨q1, _, _⟩ := s5.free upd_same (s4.rel.free hq).1 (s4.rel.free hq).2
          have la : kvs.length < sizeLine := Nat.lt_of_le_of_lt (Nat.le_trans ly (Nat.le_trans (Nat.le_of_lt hk') hl)) line_lt
          have k6 := Good.bind.mp k5
          have ln := length_putK kvs key z
          refine ⟨kvs, key, q, rfl, q1, d1, la, by omega, ρ5, F5, putK kvs key z, put es key y, (st.trans s6).wr hD d2 d3, upd_same, d2, d3, (ra.mono s6.ext).put ry, by omega, ?_⟩
          exact k6.mono (fun zs ρ' q => q) fun _ _ _ z => z
theorem s_dcT {wi : TI} {ri : Env → R (IV × List D)} {tt : TT} {rc : Env → R Bool} {ts : TA} {rk : Env → R (List D)} {te : TE} {re : Env → R IV} (hi : SndI g W wi ri) (hc : SndT g W0 tt rc) (hk : SndL g W0 ts rk) (he : Snd g W0 te re) : Snd g W (tDcT wi (gName i) tt (tTup ts) te [i]) fun ρ => (ri ρ).bind fun p ρ =>
    (dcRun i rc rk (fun ρ => (re ρ).kept g.np) p.2 ((lend ρ p.1).set i .un)).dcEnd i p.1 ρ := fun ρ F σ H Q rl k => by
  refine hi ρ F σ H _ rl ((Good.bind.mp k).mono (fun p ρ1 k J F1 H1 s w hl => ?_) fun _ _ _ q => q)
  have k := k.later s
  unfold R.dcEnd at k
  cases e : ρ1.at i with
  | un => rw [e] at k; exact dc_loop s.rel e nob_un w hl hc hk he (Good.bind.mp k)
  | d x => rw [e] at k; exact dc_loop s.rel e nob_d w hl hc hk he (Good.bind.mp k)
  | _ => rw [e] at k; exact k.elim
end
end EN
/-! Calls. -/
namespace EN
open PySem L2
/-- how arguments stand at a call -/
structure Ent (g : G0) (as : Env) (F : Hp) (xs : List V) (H : Hp) : Prop where
  same : Same F H
  len : as.length = xs.length
  sl : ∀ i, SlOk g F (xs.map some) H i (as.at i)
  apart : ∀ i j p, i ≠ j → Own as (xs.map some) i p → Held as (xs.map some) j p → False
/-- what a call leaves -/
structure Out (g : G0) (as : Env) (F : Hp) (xs : List V) (H : Hp) (ps : Env) (F' : Hp) (H' : Hp) : Prop where
  same : Same F' H'
  ext : Same F F'
  new : ∀ a, F a = none → F' a ≠ none → H a = none ∨ Ow as (xs.map some) a
  keep : ∀ a o, H a = some o → ¬ Ow as (xs.map some) a → H' a = some o
  dom : ∀ a, H' a = none → H a = none
  par : ∀ j c, ps.at j = .own c → ∃ p, xs[j]? = some (.ref p) ∧ F' p = none ∧ CRep g F' H' p c ∧ c.fit g.T = true
/-- what it gives -/
def RvOk (g : G0) (F' H H' : Hp) (x : V) : IV → Prop
  | .d y => Rep g F' x y
  | .fr c => ∃ p, x = .ref p ∧ H p = none ∧ F' p = none ∧ CRep g F' H' p c ∧ c.fit g.T = true
  | .sl _ => False
/-- a def's promise -/
def spN (g : G0) (fn : Fn) (f : Nat) : Sp := fun xs H Q E => ∃ as F, Ent g as F xs H ∧ match fn f as with
  | .ok v ps => ∀ x F' H', Out g as F xs H ps F' H' → RvOk g F' H H' x v → Q x H'
  | .er c fs ps => ∀ d F' H', Out g as F xs H ps F' H' → ExF g F' d c fs → E (.ref (g.ec c)) d H'
  | .no => False
section
variable {g : Gam} {W : WX} {ρ ρ' ρ1 ρ2 : Env} {F F1 F2 F' H H1 H2 H0 H' : Hp} {σ σ' σ1 σ2 : L2.St} {p : Addr} {o : HO} {i j : Nat} {Q : VK} {t u : TE} {ra rb : Env → R IV} {T : Tb} {fn : Fn} {f : Nat}
theorem prepV_ok {v : IV} {x : V} {m : Nat} {q : IV × Env} (rl : Rl g ρ F σ H) (h : IvP g F σ x v) (e : prepV g.np m v ρ = some q) : ∃ F', Stp g ρ F σ H q.2 F' σ H ∧ IvP g F' σ x q.1 := by
  have same : some (v, ρ) = some q → ∃ F', Stp g ρ F σ H q.2 F' σ H ∧ IvP g F' σ x q.1 := fun e => by cases e; exact ⟨F, Stp.refl rl, h⟩
  cases v with
  | d y => exact same e
  | fr c => exact same e
  | sl i =>
    simp only [prepV] at e
    split at e
    · cases z : ρ.at i with
      | own c =>
        rw [z] at e
        dsimp only at e
        split at e
        · cases e
        · cases e
          obtain ⟨F1, p, h1, h2, s1⟩ := rl.keepOwn z
          have hx : σ[i]? = some (some x) := h
          rw [h1] at hx
          cases hx
          exact ⟨F1, s1, h2⟩
      | _ => rw [z] at e; exact same e
    · exact same e
theorem prep_ok {β : Type} {A : β → Env → Prop} {B : Nat → List D → Env → Prop} : ∀ {vs : List IV} {xs : List V} {ρ : Env} {F : Hp} {b : Nat} {K : List IV → Env → R β}, Rl g ρ F σ H → IvPs g F σ xs vs → Good ((prep T g.np f b vs ρ).bind K) A B →
    ∃ vs' ρ' F', Stp g ρ F σ H ρ' F' σ H ∧ IvPs g F' σ xs vs' ∧ Good (K vs' ρ') A B
  | [], xs, ρ, F, b, K, rl, iv, k => by cases iv; exact ⟨[], ρ, F, Stp.refl rl, .nil, k⟩
  | v :: vs, _, ρ, F, b, K, rl, .cons (x := x) (xs := xs) h r, k => by
    unfold prep at k
    cases e : prepV g.np (T.md f b) v ρ with
    | none => rw [e] at k; exact k.elim
    | some q =>
      rw [e] at k
      obtain ⟨F1, s1, h1⟩ := prepV_ok rl h e
      dsimp only at k
      rw [R.assoc] at k
      obtain ⟨vs', ρ', F', s, r', k'⟩ := prep_ok s1.rel (r.mono s1.ext) k
      exact ⟨_ :: vs', ρ', F', s1.trans s, .cons (h1.mono s.ext) r', k'⟩
theorem hand_at : ∀ {vs : List IV} {as : Env} {b : Nat}, handAll T f ρ b vs = some as → as.length = vs.length ∧ ∀ (i : Nat) (v : IV), vs[i]? = some v → ∃ s, as[i]? = some s ∧ handed ρ (T.md f (b + i)) v = some s
  | [], as, b, e => by cases e; exact ⟨rfl, fun i v h => by simp at h⟩
  | v :: vs, as, b, e => by
    unfold handAll at e
    split at e
    · rename_i s ss h1 h2
      cases e
      obtain ⟨a, q⟩ := hand_at h2
      refine ⟨by simp [a], fun i w h => ?_⟩
      cases i with
      | zero => simp at h; subst h; exact ⟨s, rfl, h1⟩
      | succ i =>
        obtain ⟨s', x, y⟩ := q i w (by simpa using h)
        exact ⟨s', by simpa using x, by rw [show b + (i + 1) = b + 1 + i by omega]; exact y⟩
    · cases e
theorem handed_own {m : Nat} {v : IV} {c : Cn} (h : handed ρ m v = some (.own c)) : ∃ i, v = .sl i ∧ m = 2 ∧ ρ.at i = .own c := by
  unfold handed at h
  split at h
  · cases h
  · cases h
  · split at h
    · cases h
    · rename_i e; cases h; exact ⟨_, rfl, rfl, e⟩
    · cases h
    · cases h
    · cases h
theorem handed_bor {m : Nat} {v : IV} {c : Cn} (h : handed ρ m v = some (.bor c)) : ∃ i, v = .sl i ∧ (ρ.at i = .own c ∨ ρ.at i = .bor c) := by
  unfold handed at h
  split at h
  · cases h
  · cases h
  · split at h
    · rename_i e; cases h; exact ⟨_, rfl, .inl e⟩
    · cases h
    · rename_i e; cases h; exact ⟨_, rfl, .inr e⟩
    · cases h
    · cases h
theorem slots_mem : ∀ {vs : List IV} {j i : Nat}, vs[j]? = some (.sl i) → i ∈ slotsOf vs
  | [], j, i, h => by simp at h
  | v :: vs, 0, i, h => by simp at h; subst h; exact List.mem_cons_self
  | v :: vs, j + 1, i, h => by
    have := slots_mem (vs := vs) (j := j) (by simpa using h)
    cases v <;> first | exact this | exact List.mem_cons_of_mem _ this
theorem slots_inj : ∀ {vs : List IV} {j k i : Nat}, (slotsOf vs).Nodup → vs[j]? = some (.sl i) → vs[k]? = some (.sl i) → j = k
  | [], j, k, i, _, h, _ => by simp at h
  | v :: vs, 0, 0, i, _, _, _ => rfl
  | v :: vs, 0, k + 1, i, n, h, h' => by
    simp at h; subst h
    exact absurd (slots_mem (vs := vs) (by simpa using h')) (List.nodup_cons.mp n).1
  | v :: vs, j + 1, 0, i, n, h, h' => by
    simp at h'; subst h'
    exact absurd (slots_mem (vs := vs) (by simpa using h)) (List.nodup_cons.mp n).1
  | v :: vs, j + 1, k + 1, i, n, h, h' => by
    have n' : (slotsOf vs).Nodup := by cases v <;> first | exact n | exact (List.nodup_cons.mp n).2
    exact congrArg (· + 1) (slots_inj (vs := vs) n' (by simpa using h) (by simpa using h'))
theorem IvPs.atV {xs : List V} {vs : List IV} (h : IvPs g F σ xs vs) {k : Nat} {v : IV} (e : vs[k]? = some v) : ∃ x, xs[k]? = some x ∧ IvP g F σ x v := by
  have hk : k < xs.length := by rw [h.len]; exact (List.getElem?_eq_some_iff.mp e).1
  exact ⟨xs[k], List.getElem?_eq_getElem hk, h.at k _ _ (List.getElem?_eq_getElem hk) e⟩
theorem IvPs.atX {xs : List V} {vs : List IV} (h : IvPs g F σ xs vs) {k : Nat} {x : V} (e : xs[k]? = some x) : ∃ v, vs[k]? = some v ∧ IvP g F σ x v := by
  have hk : k < vs.length := by rw [← h.len]; exact (List.getElem?_eq_some_iff.mp e).1
  exact ⟨vs[k], List.getElem?_eq_getElem hk, h.at k _ _ e (List.getElem?_eq_getElem hk)⟩
/-- where an argument comes from -/
theorem hand_slot {vs : List IV} {xs : List V} {as : Env} (iv : IvPs g F σ xs vs) (e : handAll T f ρ 0 vs = some as) (k : Nat) : as.at k = .un ∨ ∃ v x, vs[k]? = some v ∧ xs[k]? = some x ∧ IvP g F σ x v ∧ handed ρ (T.md f k) v = some (as.at k) := by
  obtain ⟨hl, hh⟩ := hand_at e
  by_cases hk : k < as.length
  · have hv : k < vs.length := by rw [← hl]; exact hk
    obtain ⟨s, h1, h2⟩ := hh k vs[k] (List.getElem?_eq_getElem hv)
    obtain ⟨x, h3, h4⟩ := iv.atV (List.getElem?_eq_getElem hv)
    have : as.at k = s := by unfold Env.at; rw [List.getD_eq_getElem?_getD, h1]; rfl
    rw [Nat.zero_add] at h2
    exact .inr ⟨_, x, List.getElem?_eq_getElem hv, h3, h4, by rw [this]; exact h2⟩
  · exact .inl (at_un hk)
theorem hand_ownS {vs : List IV} {xs : List V} {as : Env} (iv : IvPs g F σ xs vs) (e : handAll T f ρ 0 vs = some as) {k : Nat} (h : Own as (xs.map some) k p) : ∃ i, vs[k]? = some (.sl i) ∧ T.md f k = 2 ∧ Own ρ σ i p := by
  obtain ⟨⟨c, h1⟩, h2⟩ := h
  rcases hand_slot iv e k with z | ⟨v, x, a, b, d, q⟩
  · rw [z] at h1; cases h1
  · rw [h1] at q
    obtain ⟨i, rfl, m, r⟩ := handed_own q
    rw [List.getElem?_map, b] at h2
    cases h2
    exact ⟨i, a, m, ⟨c, r⟩, d⟩
theorem hand_heldS {vs : List IV} {xs : List V} {as : Env} (iv : IvPs g F σ xs vs) (e : handAll T f ρ 0 vs = some as) {k : Nat} (h : Held as (xs.map some) k p) : ∃ i, vs[k]? = some (.sl i) ∧ Held ρ σ i p := by
  obtain ⟨h1, h2⟩ := h
  rcases hand_slot iv e k with z | ⟨v, x, a, b, d, q⟩
  · rw [z] at h1; rcases h1 with ⟨c, h1⟩ | ⟨c, h1⟩ <;> cases h1
  · rw [List.getElem?_map, b] at h2
    cases h2
    rcases h1 with ⟨c, h1⟩ | ⟨c, h1⟩
    · rw [h1] at q
      obtain ⟨i, rfl, m, r⟩ := handed_own q
      exact ⟨i, a, .inl ⟨c, r⟩, d⟩
    · rw [h1] at q
      obtain ⟨i, rfl, r⟩ := handed_bor q
      exact ⟨i, a, r.elim (fun r => .inl ⟨c, r⟩) fun r => .inr ⟨c, r⟩, d⟩
theorem ent_of {vs : List IV} {xs : List V} {as : Env} (rl : Rl g ρ F σ H) (iv : IvPs g F σ xs vs) (e : handAll T f ρ 0 vs = some as) (nd : (slotsOf vs).Nodup) : Ent g as F xs H where
  same := rl.same
  len := by rw [(hand_at e).1, iv.len]
  sl := fun k => by
    rcases hand_slot iv e k with z | ⟨v, x, a, b, d, q⟩
    · rw [z]; exact .un
    · have hx : (xs.map some)[k]? = some (some x) := by rw [List.getElem?_map, b]; rfl
      cases v with
      | d y =>
        have q : Slot.d y = as.at k := Option.some.inj q
        rw [← q]
        exact .d hx d
      | fr c => cases q
      | sl i =>
        have d : σ[i]? = some (some x) := d
        have y := rl.sl i
        simp only [handed] at q
        split at q
        · rename_i c h _
          have q := Option.some.inj q
          rw [← q]
          rw [h] at y
          cases y with
          | own h1 h2 h3 h4 => rw [d] at h1; cases h1; exact .bor hx h2 h3 h4
        · rename_i c h _
          have q := Option.some.inj q
          rw [← q]
          rw [h] at y
          cases y with
          | own h1 h2 h3 h4 => rw [d] at h1; cases h1; exact .own hx h2 h3 h4
        · rename_i c h _
          have q := Option.some.inj q
          rw [← q]
          rw [h] at y
          cases y with
          | bor h1 h2 h3 h4 => rw [d] at h1; cases h1; exact .bor hx h2 h3 h4
        · rename_i c fs h
          have q := Option.some.inj q
          rw [← q]
          rw [h] at y
          cases y with
          | exc hp h1 h4 => rw [d] at h1; cases h1; exact .exc hp hx h4
        · cases q
  apart := fun a b q n x y => by
    obtain ⟨i, h1, _, h2⟩ := hand_ownS iv e x
    obtain ⟨j, h3, h4⟩ := hand_heldS iv e y
    by_cases z : i = j
    · subst z; exact n (slots_inj nd h1 h3)
    · exact rl.apart i j q z h2 h4
/-- what stands behind a call -/
theorem back_at {ps : Env} : ∀ {vs : List IV} {b : Nat} {ρ ρ' : Env}, (slotsOf vs).Nodup → back T f ps b vs ρ = some ρ' → ρ'.length = ρ.length ∧
    ∀ i, (∃ j c, vs[j]? = some (.sl i) ∧ T.md f (b + j) = 2 ∧ (∃ c0, ρ.at i = .own c0) ∧ ps.at (b + j) = .own c ∧ ρ'.at i = .own c) ∨ (ρ'.at i = ρ.at i ∧ ¬ ∃ j, vs[j]? = some (.sl i) ∧ T.md f (b + j) = 2 ∧ ∃ c0, ρ.at i = .own c0)
  | [], b, ρ, ρ', n, e => by
    cases e
    exact ⟨rfl, fun i => .inr ⟨rfl, fun ⟨j, h, _⟩ => by simp at h⟩⟩
  | v :: vs, b, ρ, ρ', n, e => by
    have n' : (slotsOf vs).Nodup := by cases v <;> first | exact n | exact (List.nodup_cons.mp n).2
    have other : back T f ps (b + 1) vs ρ = some ρ' → (∀ i, v = .sl i → T.md f b = 2 → ∀ c0, ρ.at i ≠ .own c0) → ρ'.length = ρ.length ∧
        ∀ i, (∃ j c, (v :: vs)[j]? = some (.sl i) ∧ T.md f (b + j) = 2 ∧ (∃ c0, ρ.at i = .own c0) ∧ ps.at (b + j) = .own c ∧ ρ'.at i = .own c) ∨ (ρ'.at i = ρ.at i ∧ ¬ ∃ j, (v :: vs)[j]? = some (.sl i) ∧ T.md f (b + j) = 2 ∧ ∃ c0, ρ.at i = .own c0) := fun e no => by
      obtain ⟨a, q⟩ := back_at n' e
      refine ⟨a, fun i => ?_⟩
      rcases q i with ⟨j, c, h1, h2, h3, h4, h5⟩ | ⟨h1, h2⟩
      · exact .inl ⟨j + 1, c, by simpa using h1, by rw [show b + (j + 1) = b + 1 + j by omega]; exact h2, h3, by rw [show b + (j + 1) = b + 1 + j by omega]; exact h4, h5⟩
      · refine .inr ⟨h1, fun ⟨j, x, y, c0, z⟩ => ?_⟩
        cases j with
        | zero => simp at x; exact no i x y c0 z
        | succ j => exact h2 ⟨j, by simpa using x, by rw [show b + 1 + j = b + (j + 1) by omega]; exact y, c0, z⟩
    cases v with
    | d y => exact other (by simpa only [back] using e) fun i z => nomatch z
    | fr y => exact other (by simpa only [back] using e) fun i z => nomatch z
    | sl i =>
      unfold back at e
      split at e
      · rename_i c0 h1 h2
        split at e
        · rename_i c h3
          obtain ⟨a, q⟩ := back_at n' e
          have hi : i < ρ.length := at_lt (by rw [h1]; exact fun z => nomatch z)
          have ni : i ∉ slotsOf vs := (List.nodup_cons.mp n).1
          refine ⟨by rw [a, List.length_set], fun i' => ?_⟩
          by_cases z : i' = i
          · subst z
            rcases q i' with ⟨j, c, x1, _⟩ | ⟨x1, _⟩
            · exact absurd (slots_mem x1) ni
            · exact .inl ⟨0, c, rfl, h2, ⟨c0, h1⟩, h3, by rw [x1, at_set_same hi]⟩
          · have ne : Env.at (ρ.set i (.own c)) i' = ρ.at i' := at_set_ne fun w => z w.symm
            rcases q i' with ⟨j, c, x1, x2, x3, x4, x5⟩ | ⟨x1, x2⟩
            · exact .inl ⟨j + 1, c, by simpa using x1, by rw [show b + (j + 1) = b + 1 + j by omega]; exact x2, by rw [← ne]; exact x3, by rw [show b + (j + 1) = b + 1 + j by omega]; exact x4, x5⟩
            · refine .inr ⟨x1.trans ne, fun ⟨j, y1, y2, y3⟩ => ?_⟩
              cases j with
              | zero => simp at y1; exact z y1.symm
              | succ j => exact x2 ⟨j, by simpa using y1, by rw [show b + 1 + j = b + (j + 1) by omega]; exact y2, by rw [ne]; exact y3⟩
        · cases e
      · rename_i h1
        exact other e fun i' z m c0 w => by
          cases z
          exact h1 c0 w m
theorem stp_back {vs : List IV} {xs : List V} {as ps : Env} (rl : Rl g ρ F σ H) (iv : IvPs g F σ xs vs) (e : handAll T f ρ 0 vs = some as) (nd : (slotsOf vs).Nodup) (eb : back T f ps 0 vs ρ = some ρ') (out : Out g as F xs H ps F' H') : Stp g ρ F σ H ρ' F' σ H' := by
  obtain ⟨bl, bs⟩ := back_at nd eb
  have ow : ∀ {q}, Ow as (xs.map some) q → Ow ρ σ q := fun ⟨k, h⟩ => let ⟨i, _, _, h⟩ := hand_ownS iv e h; ⟨i, h⟩
  have own : ∀ {i q}, Own ρ' σ i q → Own ρ σ i q := fun {i q} ⟨⟨c, h⟩, k⟩ => by
    rcases bs i with ⟨j, c1, _, _, h3, _, _⟩ | ⟨h1, _⟩
    · exact ⟨h3, k⟩
    · exact ⟨⟨c, h1 ▸ h⟩, k⟩
  have held : ∀ {i q}, Held ρ' σ i q → Held ρ σ i q := fun {i q} ⟨h, k⟩ => by
    rcases bs i with ⟨j, c1, _, _, h3, _, _⟩ | ⟨h1, _⟩
    · exact ⟨.inl h3, k⟩
    · exact ⟨by rw [← h1]; exact h, k⟩
  have far : ∀ {i q}, Held ρ σ i q → (¬ ∃ j, vs[j]? = some (.sl i) ∧ T.md f (0 + j) = 2 ∧ ∃ c0, ρ.at i = .own c0) → ¬ Ow as (xs.map some) q := fun {i q} h n ⟨k, z⟩ => by
    obtain ⟨i2, h1, h2, h3⟩ := hand_ownS iv e z
    by_cases w : i2 = i
    · subst w; exact n ⟨k, h1, by rw [Nat.zero_add]; exact h2, h3.1⟩
    · exact rl.apart i2 i q w h3 h
  refine ⟨⟨out.same, bl.trans rl.len, fun i => ?_, fun i j q n x y => rl.apart i j q n (own x) (held y), fun i q x => rl.old i q (own x), fun i q x => rl.new i q (own x)⟩, out.ext, fun a x y => (out.new a x y).imp_right ow, fun a o x z => out.keep a o x fun w => z (ow w), out.dom, fun a ⟨i, z⟩ => .inl ⟨i, own z⟩, fun i c z => ?_⟩
  · rcases bs i with ⟨j, c, h1, h2, h3, h4, h5⟩ | ⟨h1, h2⟩
    · rw [h5]
      rw [Nat.zero_add] at h4
      obtain ⟨p, x1, x2, x3, x4⟩ := out.par j c h4
      obtain ⟨x, y1, y2⟩ := iv.atV h1
      rw [x1] at y1
      cases y1
      exact .own y2 x2 x3 x4
    · rw [h1]
      refine (rl.sl i).mono out.ext (fun c q z h => ?_) fun c q u z h hu => ?_
      · have hh := held_of z h
        cases w : F' q with
        | none => rfl
        | some u =>
          obtain ⟨a, o, ho⟩ := hh.there rl
          rcases out.new q a (by rw [w]; exact fun z => nomatch z) with y | y
          · rw [ho] at y; cases y
          · exact absurd y (far hh h2)
      · exact out.keep q u hu (far (held_of z h) h2)
  · rcases bs i with ⟨j, c1, _, _, _, _, h5⟩ | ⟨h1, _⟩
    · rw [h5] at z; cases z
    · exact ⟨h1 ▸ z, rfl⟩
/-- a call, its arguments there -/
theorem callR_ok {vs : List IV} {xs : List V} {E : Value → Option Addr → Hp → Prop} (rl : Rl g ρ F σ H) (iv : IvPs g F σ xs vs) (k : Good (callR g.T fn g.np f vs ρ) (OkQ g ρ F σ H Q) (fun c fs ρ' => ∀ d F' H', Stp g ρ F σ H ρ' F' σ H' → ExF g F' d c fs → E (.ref (g.ec c)) d H')) : spN g fn f xs H Q E := by
  unfold callR at k
  obtain ⟨vs', ρ2, F2, s2, iv2, k⟩ := prep_ok rl iv k
  cases e : handAll g.T f ρ2 0 vs' with
  | none => rw [e] at k; exact k.elim
  | some as =>
    rw [e] at k
    dsimp only at k
    obtain ⟨nd, k⟩ := if_inv k
    refine ⟨as, F2, ent_of s2.rel iv2 e nd, ?_⟩
    cases r : fn f as with
    | no => rw [r] at k; exact k.elim
    | ok v ps =>
      rw [r] at k
      intro x F' H' out rv
      cases eb : back g.T f ps 0 vs' ρ2 with
      | none => simp only [backR, eb] at k; exact k.elim
      | some ρ3 =>
        simp only [backR, eb] at k
        have s3 := stp_back s2.rel iv2 e nd eb out
        refine k x F' H' (s2.trans s3) ?_
        cases v with
        | d y => exact rv
        | fr c =>
          obtain ⟨p, rfl, h1, h2, h3, h4⟩ := rv
          refine ⟨p, rfl, h1, h2, h3, h4, fun i h => ?_⟩
          have h' : Held ρ2 σ i p := by
            obtain ⟨a, b⟩ := h
            obtain ⟨bl, bs⟩ := back_at nd eb
            rcases bs i with ⟨j, c1, _, _, h3, _, _⟩ | ⟨h1, _⟩
            · exact ⟨.inl h3, b⟩
            · exact ⟨by rw [← h1]; exact a, b⟩
          obtain ⟨_, u, hu⟩ := h'.there s2.rel
          rw [h1] at hu; cases hu
        | sl i => exact rv.elim
    | er c fs ps =>
      rw [r] at k
      intro d F' H' out ex
      cases eb : back g.T f ps 0 vs' ρ2 with
      | none => simp only [backR, eb] at k; exact k.elim
      | some ρ3 =>
        simp only [backR, eb] at k
        have s3 := stp_back s2.rel iv2 e nd eb out
        exact k d F' H' (s2.trans s3) ex
theorem s_call {ts : TA} {rs : Env → R (List IV)} {fsp : Nat → Sp} (hf : fsp f = spN g fn f) (hr : SndV g W ts rs) : Snd g W (tCallS (fsp f) (WE W) ts) fun ρ => (rs ρ).bind fun vs ρ => callR g.T fn g.np f vs ρ := fun ρ F σ H Q rl k => by
  refine hr.go rl k fun vs ρ1 xs F1 H1 s iv k => ?_
  rw [hf]
  exact callR_ok s.rel iv (k.mono (fun _ _ q => q.later s) fun _ _ _ q => q)
end
end EN
/-! Objects made, methods, own dunders. -/
namespace EN
open PySem L2
section
variable {g : Gam} {W : WX} {ρ ρ' ρ1 ρ2 : Env} {F F1 F2 F' H H1 H2 H0 H' : Hp} {σ σ' σ1 σ2 : L2.St} {p : Addr} {o : HO} {i j : Nat} {Q : VK} {t u : TE} {ra rb : Env → R IV} {T : Tb} {fn : Fn} {f : Nat}
theorem SlOk.shift {s : Slot} {x : Option V} (h : SlOk g F σ H i s) : SlOk g F (x :: σ) H (i + 1) s := by
  cases h with
  | un => exact .un
  | d h r => exact .d (by simpa using h) r
  | own h hf r ft => exact .own (by simpa using h) hf r ft
  | bor h hf r ft => exact .bor (by simpa using h) hf r ft
  | exc hp h f => exact .exc hp (by simpa using h) f
theorem at_zero {s : Slot} {as : Env} : Env.at (s :: as) 0 = s := rfl
theorem at_succ {s : Slot} {as : Env} : Env.at (s :: as) (i + 1) = as.at i := by simp [Env.at]
theorem at_tail {as : Env} : Env.at as.tail i = as.at (i + 1) := by cases as <;> simp [Env.at]
theorem ent_self {x dx : Addr} {c : Nat} {as : Env} {xs : List V} (hc : c < g.T.nc) (e : Ent g as F xs (upd H x (.ins (g.oc c) dx []))) (hf : F x = none) (nh : ∀ i, ¬ Held as (xs.map some) i x) : Ent g (.own (.ob c []) :: as) F (.ref x :: xs) (upd H x (.ins (g.oc c) dx [])) where
  same := e.same
  len := by simp [e.len]
  sl := fun i => by
    cases i with
    | zero => exact .own rfl hf (.ob hc upd_same rfl .nil) rfl
    | succ i => rw [at_succ]; exact (e.sl i).shift
  apart := fun a b q n x y => by
    cases a with
    | zero =>
      cases b with
      | zero => exact n rfl
      | succ b =>
        obtain ⟨_, x2⟩ := x
        cases x2
        obtain ⟨y1, y2⟩ := y
        rw [at_succ] at y1
        exact nh b ⟨y1, by simpa using y2⟩
    | succ a =>
      obtain ⟨x1, x2⟩ := x
      rw [at_succ] at x1
      have x3 : Own as (xs.map some) a q := ⟨x1, by simpa using x2⟩
      obtain ⟨y1, y2⟩ := y
      cases b with
      | zero => cases y2; exact nh a x3.held
      | succ b =>
        rw [at_succ] at y1
        exact e.apart a b q (fun z => n (by rw [z])) x3 ⟨y1, by simpa using y2⟩
theorem out_self {x : Addr} {o : HO} {s : Slot} {as ps : Env} {xs : List V} (hx : H x = none) (out : Out g (s :: as) F (.ref x :: xs) (upd H x o) ps F' H') : Out g as F xs H ps.tail F' H' where
  same := out.same
  ext := out.ext
  new := fun a y z => by
    by_cases e : a = x
    · subst e; exact .inl hx
    · rcases out.new a y z with w | ⟨k, ⟨c, w⟩, v⟩
      · rw [upd_ne e] at w; exact .inl w
      · cases k with
        | zero => cases v; exact absurd rfl e
        | succ k => rw [at_succ] at w; exact .inr ⟨k, ⟨c, w⟩, by simpa using v⟩
  keep := fun a u y z => by
    have e : a ≠ x := fun e => by rw [e, hx] at y; cases y
    refine out.keep a u (by rw [upd_ne e]; exact y) fun ⟨k, ⟨c, w⟩, v⟩ => ?_
    cases k with
    | zero => cases v; exact e rfl
    | succ k => rw [at_succ] at w; exact z ⟨k, ⟨c, w⟩, by simpa using v⟩
  dom := fun a y => by
    have z := out.dom a y
    by_cases e : a = x
    · subst e; exact hx
    · rw [upd_ne e] at z; exact z
  par := fun k c h => by
    rw [at_tail] at h
    obtain ⟨q, a, b⟩ := out.par (k + 1) c h
    exact ⟨q, by simpa using a, b⟩
theorem held_back {vs : List IV} {ps : Env} {b : Nat} (nd : (slotsOf vs).Nodup) (eb : back T f ps b vs ρ = some ρ') (h : Held ρ' σ i p) : Held ρ σ i p := by
  obtain ⟨x, y⟩ := h
  obtain ⟨bl, bs⟩ := back_at nd eb
  rcases bs i with ⟨j, c1, _, _, h3, _, _⟩ | ⟨h1, _⟩
  · exact ⟨.inl h3, y⟩
  · exact ⟨by rw [← h1]; exact x, y⟩
theorem s_new {ts : TA} {rs : Env → R (List IV)} {c : Nat} {fsp : Nat → Sp} (hf : fsp (g.T.ini c) = spN g fn (g.T.ini c)) (hr : SndV g W ts rs) : Snd g W (tMakeS (g.oc c) (fsp (g.T.ini c)) (WE W) ts) fun ρ => (rs ρ).bind fun vs ρ => newR g.T fn g.np c vs ρ := fun ρ F σ H Q rl k => by
  refine hr.go rl k fun vs ρ1 xs F1 H1 s iv k => ?_
  intro x dx hx hdx ne
  unfold newR at k
  obtain ⟨hc, k⟩ := if_inv k
  obtain ⟨vs', ρ2, F2, s2, iv2, k⟩ := prep_ok s.rel iv k
  cases e : handAll g.T.sh (g.T.ini c) ρ2 0 vs' with
  | none => rw [e] at k; exact k.elim
  | some as =>
    rw [e] at k
    dsimp only at k
    obtain ⟨nd, k⟩ := if_inv k
    rw [hf]
    have a1 := Stp.alloc (o := .own x) s2.rel hdx
    have hx' : (upd H1 dx (.own x)) x = none := by rw [upd_ne (Ne.symm ne)]; exact hx
    have a2 := Stp.alloc (o := .ins (g.oc c) dx []) a1.rel hx'
    have fx := s2.rel.free hx
    have nh : ∀ i, ¬ Held as (xs.map some) i x := fun i h => by
      obtain ⟨i', _, h'⟩ := hand_heldS iv2 e h
      exact fx.2 i' h'
    refine ⟨_, F2, ent_self hc (ent_of a2.rel iv2 e nd) fx.1 nh, ?_⟩
    cases r : fn (g.T.ini c) (.own (.ob c []) :: as) with
    | no => rw [r] at k; exact k.elim
    | ok v ps =>
      rw [r] at k
      intro y F' H' out rv
      cases v with
      | d y' =>
        cases y' with
        | non =>
          dsimp only at k
          have rv : Rep g F' y .non := rv
          cases rv
          refine ⟨rfl, ?_⟩
          split at k
          · rename_i c' es e0
            obtain ⟨p, h1, h2, h3, h4⟩ := out.par 0 _ e0
            cases h1
            have out1 := out_self hx' out
            cases eb : back g.T.sh (g.T.ini c) ps.tail 0 vs' ρ2 with
            | none => simp only [backR, eb] at k; exact k.elim
            | some ρ3 =>
              simp only [backR, eb] at k
              have s3 := stp_back a1.rel iv2 e nd eb out1
              have nh3 : ∀ i, ¬ Held ρ3 σ i x := fun i h => fx.2 i (held_back nd eb h)
              obtain ⟨F3, b1, b2, b3, b4⟩ := s3.rel.keepNew h2 h3 h4 nh3
              have sA := (s2.trans a1).trans s3
              refine k (.ref x) F3 H' (s.trans ⟨b2, sA.ext.trans b3, fun a y z => ?_, sA.keep, sA.dom, sA.ow, sA.brw⟩) b1
              by_cases hy : a = x
              · subst hy; exact .inl hx
              · rw [b4 a hy] at z
                exact sA.new a y z
          · exact k.elim
        | _ => exact k.elim
      | _ => exact k.elim
    | er c2 fs ps =>
      rw [r] at k
      intro d F' H' out ex
      have out1 := out_self hx' out
      cases eb : back g.T.sh (g.T.ini c) ps.tail 0 vs' ρ2 with
      | none => simp only [backR, eb] at k; exact k.elim
      | some ρ3 =>
        simp only [backR, eb] at k
        have s3 := stp_back a1.rel iv2 e nd eb out1
        exact k d F' H' ((s2.trans a1).trans s3) ex
theorem isObj_of {c : Nat} {y : D} (h : isObj c y = true) : ∃ ds, y = .obj c ds := by
  unfold isObj at h
  split at h
  · rename_i k ds
    exact ⟨ds, by rw [eq_of_beq h]⟩
  · cases h
theorem rep_obj {x : V} {c : Nat} {ds : List D} (rl : Rl g ρ F σ H) (h : Rep g F x (.obj c ds)) : ∃ a dx fs, x = .ref a ∧ H a = some (.ins (g.oc c) dx fs) ∧ fs.map (·.1) = (g.T.of c).take ds.length := by
  cases h with
  | obj hc h hk e r => exact ⟨_, _, _, rfl, rl.same _ _ h, hk⟩
theorem ivd {x : V} {d : D} (h : Rep g F x d) : IvP g F σ x (.d d) := h
theorem s_inO {neg : Bool} {c : Nat} {fsp : Nat → Sp} (hf : fsp f = spN g fn f) (ha : Snd g W t ra) (hb : Snd g W u rb) : Snd g W (tOp (rOwnIn (g.oc c) (fsp f) neg) t u) fun ρ => ((ra ρ).kept g.np).bind fun x ρ => ((rb ρ).kept g.np).bind fun y ρ => if isObj c y = true then (callR g.T fn g.np f [.d y, .d x] ρ).calm.bind fun v ρ => match v with
      | .d (.bl b) => .ok (.d (.bl (if neg then !b else b))) ρ
      | _ => .no
    else .no := fun ρ F σ H Q rl k => by
  refine ha.kept.go rl k fun v ρ1 x F1 H1 s iv k => hb.kept.go s.rel k fun w ρ2 y F2 H2 s2 iw k => ?_
  obtain ⟨ho, k⟩ := if_inv k
  obtain ⟨ds, rfl⟩ := isObj_of ho
  obtain ⟨a, dx, fs, rfl, h1, _⟩ := rep_obj s2.rel iw
  refine ⟨a, dx, fs, rfl, h1, ?_⟩
  rw [hf]
  refine callR_ok s2.rel (.cons (ivd iw) (.cons (ivd (iv.mono s2.ext)) .nil)) ((Good.calm (B' := fun _ _ _ => False) (Good.bind.mp k)).mono (fun z ρ3 k z' F3 H3 s3 iz => ?_) fun _ _ _ q => q.elim)
  split at k
  · rename_i b
    have iz : Rep g F3 z' (.bl b) := iz
    cases iz
    exact ⟨b, rfl, okD ((s.trans s2).trans s3) k (.bl _)⟩
  · exact k.elim
theorem s_ixO {c : Nat} {fsp : Nat → Sp} (hf : fsp f = spN g fn f) (ha : Snd g W t ra) (hb : Snd g W u rb) : Snd g W (tOwnIx (g.oc c) (fsp f) (WE W) t u) fun ρ => ((ra ρ).kept g.np).bind fun y ρ => ((rb ρ).kept g.np).bind fun x ρ => if isObj c y = true then callR g.T fn g.np f [.d y, .d x] ρ else .no := fun ρ F σ H Q rl k => by
  refine ha.kept.go rl k fun v ρ1 x F1 H1 s iv k => hb.kept.go s.rel k fun w ρ2 y F2 H2 s2 iw k => ?_
  obtain ⟨ho, k⟩ := if_inv k
  obtain ⟨ds, rfl⟩ := isObj_of ho
  have iv2 := iv.mono s2.ext
  obtain ⟨a, dx, fs, rfl, h1, _⟩ := rep_obj s2.rel iv2
  refine ⟨a, dx, fs, rfl, h1, ?_⟩
  rw [hf]
  exact callR_ok s2.rel (.cons (ivd iv2) (.cons (ivd iw) .nil)) (k.mono (fun _ _ q => q.later (s.trans s2)) fun _ _ _ q => q)
theorem Rps.iv : ∀ {xs : List V} {ds : List D}, Rps g F xs ds → IvPs g F σ xs (ds.map .d)
  | [], [], _ => .nil
  | x :: xs, d :: ds, r => .cons r.head (Rps.iv r.tail)
  | [], d :: ds, r => by have := r.1; simp at this
  | x :: xs, [], r => by have := r.1; simp at this
theorem lookup_no {m : Str} : ∀ {fs : List (Str × V)}, m ∉ fs.map (·.1) → fs.lookup m = none
  | [], _ => rfl
  | (n, v) :: fs, h => by
    simp only [List.map_cons, List.mem_cons, not_or] at h
    rw [List.lookup_cons, beq_eq_false_iff_ne.mpr h.1]
    exact lookup_no h.2
theorem s_mt {c : Nat} {fsp : Nat → Sp} {ts : TA} {rs : Env → R (List D)} (hf : fsp f = spN g fn f) (ha : Snd g W t ra) (hr : SndL g W ts rs) : Snd g W (tMethX (g.oc c) (g.T.mn f) (fsp f) (WE W) t ts) fun ρ => ((ra ρ).kept g.np).bind fun y ρ => if isObj c y = true ∧ g.T.mn f ∉ g.T.of c then (rs ρ).bind fun xs ρ => callR g.T fn g.np f (.d y :: xs.map .d) ρ else .no := fun ρ F σ H Q rl k => by
  refine ha.kept.go rl k fun v ρ1 x F1 H1 s iv k => ?_
  obtain ⟨⟨ho, hm⟩, k⟩ := if_inv k
  obtain ⟨ds, rfl⟩ := isObj_of ho
  obtain ⟨a, dx, fs, rfl, h1, hk⟩ := rep_obj s.rel iv
  refine ⟨a, dx, fs, rfl, h1, lookup_no (by rw [hk]; exact fun z => hm (List.mem_of_mem_take z)), hr.go s.rel k fun w ρ2 ys F2 H2 s2 iw k => ?_⟩
  rw [hf]
  exact callR_ok s2.rel (.cons (ivd (iv.mono s2.ext)) iw.iv) (k.mono (fun _ _ q => q.later (s.trans s2)) fun _ _ _ q => q)
end
end EN
/-! Every expression's reading follows from its run. -/
namespace EN
open PySem L2
section
variable {g : Gam} {W : WX} {ρ ρ' ρ1 ρ2 : Env} {F F1 F2 F' H H1 H2 H0 H' : Hp} {σ σ' σ1 σ2 : L2.St} {p : Addr} {o : HO} {i j : Nat} {Q : VK} {t u : TE} {ra rb : Env → R IV} {T : Tb} {fn : Fn} {f : Nat}
def OnlyB (r : R IV) : Prop := ∀ v ρ, r = .ok v ρ → ∃ b, v = .d (.bl b)
theorem OnlyB.bind {α : Type} {r : R α} {f : α → Env → R IV} (h : ∀ a ρ, OnlyB (f a ρ)) : OnlyB (r.bind f) := fun v ρ e => by
  cases r with
  | ok a ρ1 => exact h a ρ1 v ρ e
  | er c fs ρ1 => cases e
  | no => cases e
theorem OnlyB.seen {x : IV} {f : D → R IV} (h : ∀ d, OnlyB (f d)) : OnlyB (EN.seen ρ x f) := fun v ρ' e => by
  unfold EN.seen at e
  split at e
  · exact h _ v ρ' e
  · cases e
theorem OnlyB.bool {b : Option Bool} : OnlyB (R.bool ρ b) := fun v ρ' e => by
  cases b with
  | none => cases e
  | some b => cases e; exact ⟨b, rfl⟩
theorem OnlyB.mk {b : Bool} : OnlyB (R.ok (.d (.bl b)) ρ) := fun v ρ' e => by cases e; exact ⟨b, rfl⟩
theorem s_test (h : Snd g W t ra) (hb : ∀ ρ, OnlyB (ra ρ)) : SndT g W (tTest t) fun ρ => (ra ρ).tru := fun ρ F σ H Q rl k => by
  have k := Good.bind.mp k
  refine h ρ F σ H _ rl ?_
  cases e : ra ρ with
  | no => rw [e] at k; exact k
  | er c fs ρ1 => rw [e] at k; exact k
  | ok v ρ1 =>
    obtain ⟨b, rfl⟩ := hb ρ v ρ1 e
    rw [e] at k
    intro x F1 H1 s iv
    have iv : Rep g F1 x (.bl b) := iv
    cases iv
    exact ⟨b, rfl, k F1 H1 s⟩
theorem kpF_vw (v : IV) (ρ : Env) : ∃ v', kpF v ρ = .ok v' ρ ∧ vw ρ v' = vw ρ v := by
  cases v with
  | d y => exact ⟨_, rfl, rfl⟩
  | fr c => exact ⟨_, rfl, rfl⟩
  | sl i => exact ⟨_, rfl, rfl⟩
theorem sT_and {tt tu : TT} (ha : SndT g W tt fun ρ => (ra ρ).tru) (hb : SndT g W tu fun ρ => (rb ρ).tru) : SndT g W (tAnd tt tu) fun ρ => ((ra ρ).held.bind fun x ρ => seen ρ x fun d => match truD d with
    | some true => rb ρ
    | some false => .ok x ρ
    | none => .no).tru := fun ρ F σ H Q rl k => by
  refine ha ρ F σ H _ rl ?_
  dsimp only at k ⊢
  cases e : ra ρ with
  | no => rw [e] at k; exact k
  | er c fs ρ1 => rw [e] at k; exact k
  | ok v ρ1 =>
    rw [e] at k
    obtain ⟨v', h1, h2⟩ := kpF_vw v ρ1
    have k : Good ((seen ρ1 v' fun d => match truD d with
      | some true => rb ρ1
      | some false => R.ok v' ρ1
      | none => .no).tru) (OkB g ρ F σ H Q) (ErQ g W ρ F σ H) := by
      have : (R.ok v ρ1).held = R.ok v' ρ1 := h1
      rw [this] at k
      exact k
    show Good (seen ρ1 v fun d => match truD d with
      | some b => R.ok b ρ1
      | none => .no) _ _
    unfold seen at k ⊢
    rw [h2] at k
    cases q : vw ρ1 v with
    | none => rw [q] at k; exact k
    | some d =>
      rw [q] at k
      dsimp only at k ⊢
      cases q2 : truD d with
      | none => rw [q2] at k; exact k
      | some b =>
        rw [q2] at k
        cases b with
        | true =>
          intro F1 H1 s
          rw [if_pos rfl]
          exact hb ρ1 F1 σ H1 Q s.rel (k.mono (fun b ρ' z F' H' q => z F' H' (s.trans q)) fun _ _ _ z => z.later s)
        | false =>
          intro F1 H1 s
          rw [if_neg (by decide)]
          have k : Good (seen ρ1 v' fun d => match truD d with
            | some b => R.ok b ρ1
            | none => .no) (OkB g ρ F σ H Q) (ErQ g W ρ F σ H) := k
          unfold seen at k
          rw [h2, q] at k
          dsimp only at k
          rw [q2] at k
          exact k F1 H1 s
theorem sT_or {tt tu : TT} (ha : SndT g W tt fun ρ => (ra ρ).tru) (hb : SndT g W tu fun ρ => (rb ρ).tru) : SndT g W (tOr tt tu) fun ρ => ((ra ρ).held.bind fun x ρ => seen ρ x fun d => match truD d with
    | some true => .ok x ρ
    | some false => rb ρ
    | none => .no).tru := fun ρ F σ H Q rl k => by
  refine ha ρ F σ H _ rl ?_
  dsimp only at k ⊢
  cases e : ra ρ with
  | no => rw [e] at k; exact k
  | er c fs ρ1 => rw [e] at k; exact k
  | ok v ρ1 =>
    rw [e] at k
    obtain ⟨v', h1, h2⟩ := kpF_vw v ρ1
    have k : Good ((seen ρ1 v' fun d => match truD d with
      | some true => R.ok v' ρ1
      | some false => rb ρ1
      | none => .no).tru) (OkB g ρ F σ H Q) (ErQ g W ρ F σ H) := by
      have : (R.ok v ρ1).held = R.ok v' ρ1 := h1
      rw [this] at k
      exact k
    show Good (seen ρ1 v fun d => match truD d with
      | some b => R.ok b ρ1
      | none => .no) _ _
    unfold seen at k ⊢
    rw [h2] at k
    cases q : vw ρ1 v with
    | none => rw [q] at k; exact k
    | some d =>
      rw [q] at k
      dsimp only at k ⊢
      cases q2 : truD d with
      | none => rw [q2] at k; exact k
      | some b =>
        rw [q2] at k
        cases b with
        | false =>
          intro F1 H1 s
          rw [if_neg (by decide)]
          exact hb ρ1 F1 σ H1 Q s.rel (k.mono (fun b ρ' z F' H' q => z F' H' (s.trans q)) fun _ _ _ z => z.later s)
        | true =>
          intro F1 H1 s
          rw [if_pos rfl]
          have k : Good (seen ρ1 v' fun d => match truD d with
            | some b => R.ok b ρ1
            | none => .no) (OkB g ρ F σ H Q) (ErQ g W ρ F σ H) := k
          unfold seen at k
          rw [h2, q] at k
          dsimp only at k
          rw [q2] at k
          exact k F1 H1 s
theorem sT_not {tt : TT} (ha : SndT g W tt fun ρ => (ra ρ).tru) : SndT g W (tNot tt) fun ρ => ((ra ρ).tru.bind fun b ρ => .ok (.d (.bl (!b))) ρ).tru := fun ρ F σ H Q rl k => by
  refine ha ρ F σ H _ rl ?_
  have k := Good.bind.mp (Good.bind.mp k)
  exact k.mono (fun b ρ1 z F1 H1 s => z F1 H1 s) fun _ _ _ z => z
theorem s_no {te : TE} : Snd g W te fun ρ => .no := fun ρ F σ H Q rl k => k.elim
/-- what the readings name -/
def sg (g : G0) (fn : Fn) : Sg := ⟨g, spN g fn⟩
theorem s_pN {te : List (TE × TE)} : SndPs g W te fun ρ => .no := fun ρ F σ H Q rl k => k.elim
theorem isiR_b {ty : TY} {x : IV} : OnlyB (isiR T ty x ρ) := fun v ρ' e => by
  unfold isiR at e
  split at e
  · split at e
    · cases e; exact ⟨_, rfl⟩
    · refine OnlyB.seen (fun d => ?_) v ρ' e
      cases isTyN d with
      | true => exact OnlyB.mk
      | false => exact fun _ _ z => nomatch z
  · cases e
variable (K : KF g) (fn : Fn)
include K
mutual
theorem snd : ∀ (e : IE) (W : WX), Snd g W (rd (sg g fn) W e) fun ρ => ev g.T fn g.np e ρ
  | .var i, W => s_var
  | .lit d, W => s_lit
  | .tup es, W => s_tup (sndL es W)
  | .lst es, W => s_lst (sndL es W)
  | .dct .nil, W => s_dct0
  | .dct (.cons e es), W => s_dct (sndPs (.cons e es) W)
  | .bin op a b, W => s_bin (snd a W) (snd b W)
  | .neg a, W => s_neg (snd a W)
  | .gc n, W => s_gc
  | .ch op op' a b c, W => s_ch (snd a W) (snd b W) (snd c W)
  | .bm m a es, W => s_bm (snd a W) (sndV es W)
  | .cmp op a b, W => s_cmp (snd a W) (snd b W)
  | .isN a, W => s_isN (snd a W)
  | .notN a, W => s_notN (snd a W)
  | .and a b, W => s_and (snd a W) (snd b W)
  | .or a b, W => s_or (snd a W) (snd b W)
  | .not a, W => s_not (snd a W)
  | .ife c a b, W => s_ife (sndT c W) (snd a W) (snd b W)
  | .ix a b, W => s_ix (snd a W) (snd b W)
  | .slc a lo hi, W => s_slc (snd a W) (s_prt (snd lo W)) (s_prt (snd hi W))
  | .call f es, W => s_call rfl (sndV es W)
  | .bi f es, W => s_bi (sndV es W)
  | .isi a t, W => s_isi K (snd a W)
  | .fld a n, W => s_fld K (snd a W)
  | .lc elt i it true c, W => s_lc (tt := fun W' => rdT _ W' c) (sndI it W) (fun W' => sndT c W') (fun W' => snd elt W')
  | .lc elt i it false c, W => s_lc (tt := fun _ => tYes) (sndI it W) (fun W' ρ F σ H Q rl k => k F H (Stp.refl rl)) (fun W' => snd elt W')
  | .scnt a lo hi b, W => s_scnt (snd a W) (s_prt (snd lo W)) (s_prt (snd hi W)) (snd b W)
  | .isiT a ts, W => s_isiT K (snd a W)
  | .revL a, W => s_revL (snd a W)
  | .revT a, W => s_revT (snd a W)
  | .dctT, W => s_dctT
  | .dcT ks v i it true c, W => s_dcT (sndI it W) (sndT c W0) (sndL ks W0) (snd v W0)
  | .dcT ks v i it false c, W => s_dcT (sndI it W) (fun ρ F σ H Q rl k => k F H (Stp.refl rl)) (sndL ks W0) (snd v W0)
  | .new c es, W => s_new rfl (sndV es W)
  | .ixO c f o i, W => s_ixO rfl (snd o W) (snd i W)
  | .mt c f o es, W => s_mt rfl (snd o W) (sndL es W)
  | .inO neg c f a o, W => s_inO rfl (snd a W) (snd o W)
theorem sndT : ∀ (e : IE) (W : WX), SndT g W (rdT (sg g fn) W e) fun ρ => (ev g.T fn g.np e ρ).tru
  | .var i, W => s_tru s_var
  | .lit d, W => s_tru s_lit
  | .tup es, W => s_tru (s_tup (sndL es W))
  | .lst es, W => s_tru (s_lst (sndL es W))
  | .dct .nil, W => s_tru s_dct0
  | .dct (.cons e es), W => s_tru (s_dct (sndPs (.cons e es) W))
  | .bin op a b, W => s_tru (s_bin (snd a W) (snd b W))
  | .neg a, W => s_tru (s_neg (snd a W))
  | .gc n, W => s_tru s_gc
  | .ch op op' a b c, W => s_test (s_ch (snd a W) (snd b W) (snd c W)) fun ρ => OnlyB.bind fun _ _ => OnlyB.bind fun _ _ => OnlyB.seen fun dx => OnlyB.seen fun dy => by
      cases e : opC op dx dy with
      | none => exact fun _ _ z => nomatch z
      | some q =>
        cases q with
        | false => exact OnlyB.mk
        | true => exact OnlyB.bind fun _ _ => OnlyB.seen fun _ => OnlyB.seen fun _ => OnlyB.bool
  | .bm m a es, W => s_tru (s_bm (snd a W) (sndV es W))
  | .cmp op a b, W => s_test (s_cmp (snd a W) (snd b W)) fun ρ => OnlyB.bind fun _ _ => OnlyB.bind fun _ _ => OnlyB.seen fun _ => OnlyB.seen fun _ => OnlyB.bool
  | .isN a, W => s_test (s_isN (snd a W)) fun ρ => OnlyB.bind fun _ _ => OnlyB.seen fun d => by cases d <;> exact OnlyB.mk
  | .notN a, W => s_test (s_notN (snd a W)) fun ρ => OnlyB.bind fun _ _ => OnlyB.seen fun d => by cases d <;> exact OnlyB.mk
  | .and a b, W => sT_and (sndT a W) (sndT b W)
  | .or a b, W => sT_or (sndT a W) (sndT b W)
  | .not a, W => sT_not (sndT a W)
  | .ife c a b, W => s_tru (s_ife (sndT c W) (snd a W) (snd b W))
  | .ix a b, W => s_tru (s_ix (snd a W) (snd b W))
  | .slc a lo hi, W => s_tru (s_slc (snd a W) (s_prt (snd lo W)) (s_prt (snd hi W)))
  | .call f es, W => s_tru (s_call rfl (sndV es W))
  | .bi f es, W => s_tru (s_bi (sndV es W))
  | .isi a t, W => s_tru (s_isi K (snd a W))
  | .fld a n, W => s_tru (s_fld K (snd a W))
  | .lc elt i it true c, W => s_tru (s_lc (tt := fun W' => rdT _ W' c) (sndI it W) (fun W' => sndT c W') (fun W' => snd elt W'))
  | .lc elt i it false c, W => s_tru (s_lc (tt := fun _ => tYes) (sndI it W) (fun W' ρ F σ H Q rl k => k F H (Stp.refl rl)) (fun W' => snd elt W'))
  | .scnt a lo hi b, W => s_tru (s_scnt (snd a W) (s_prt (snd lo W)) (s_prt (snd hi W)) (snd b W))
  | .isiT a ts, W => s_tru (s_isiT K (snd a W))
  | .revL a, W => s_tru (s_revL (snd a W))
  | .revT a, W => s_tru (s_revT (snd a W))
  | .dctT, W => s_tru s_dctT
  | .dcT ks v i it true c, W => s_tru (s_dcT (sndI it W) (sndT c W0) (sndL ks W0) (snd v W0))
  | .dcT ks v i it false c, W => s_tru (s_dcT (sndI it W) (fun ρ F σ H Q rl k => k F H (Stp.refl rl)) (sndL ks W0) (snd v W0))
  | .new c es, W => s_tru (s_new rfl (sndV es W))
  | .ixO c f o i, W => s_tru (s_ixO rfl (snd o W) (snd i W))
  | .mt c f o es, W => s_tru (s_mt rfl (snd o W) (sndL es W))
  | .inO neg c f a o, W => s_test (s_inO rfl (snd a W) (snd o W)) fun ρ => OnlyB.bind fun _ _ => OnlyB.bind fun _ y => by
      split
      · refine OnlyB.bind fun v _ => ?_
        split
        · exact OnlyB.mk
        · exact fun _ _ z => nomatch z
      · exact fun _ _ z => nomatch z
theorem sndL : ∀ (es : IEs) (W : WX), SndL g W (rdA (sg g fn) W es) fun ρ => evs g.T fn g.np es ρ
  | .nil, W => s_nil
  | .cons e es, W => s_cons (snd e W) (sndL es W)
theorem sndV : ∀ (es : IEs) (W : WX), SndV g W (rdA (sg g fn) W es) fun ρ => evA g.T fn g.np es ρ
  | .nil, W => s_nilV
  | .cons e es, W => s_consV (snd e W) (sndV es W)
theorem sndPs : ∀ (es : IEs) (W : WX), SndPs g W (rdP (sg g fn) W es) fun ρ => evp g.T fn g.np es ρ
  | .nil, W => s_pnil
  | .cons e .nil, W => s_pN
  | .cons k (.cons v ps), W => s_pcons (snd k W) (snd v W) (sndPs ps W)
theorem sndI : ∀ (it : IT) (W : WX), SndI g W (rdI (sg g fn) W it) fun ρ => evI g.T fn g.np it ρ
  | .e a, W => s_itE (snd a W)
  | .rng a, W => s_rng (snd a W)
  | .rng2 a b, W => s_rng2 (snd a W) (snd b W)
  | .txt a, W => s_txt (snd a W)
end
end
end EN
/-! Readings of statements. -/
namespace EN
open PySem L2
def rSetX : TSet := fun o i v H Q => rSetL o i v H Q ∨ rSetD o i v H Q
def gNames : List Nat → TGs
  | [] => gNil
  | i :: is => gCons (gName i) (gNames is)
/-- raise C(e, ..) -/
def tRaise (g : G0) (W : WX) (c : Nat) (t : TA) : TS := fun _ σ H => t σ H fun xs H1 => xs.length = (g.T.ef c).length ∧ xs.length ≤ 20 ∧ c < g.T.ne ∧ ∀ dd ws, H1 dd = none → (∀ n v, ((g.T.ef c).zip xs).lookup n = some v → ws.lookup n = some v) → W (.ref (g.ec c)) (some dd) σ (upd H1 dd (.xd ws))
/-- ends behind a suite that holds an error in slot i -/
def endE (i : Nat) (D : Ends) : Ends := { nx := fun σ' H' => D.nx (σ'.set i none) H', rt := D.rt, bk := fun σ' H' => D.bk (σ'.set i none) H', ct := fun σ' H' => D.ct (σ'.set i none) H' }
def rAug : BO → TIp
  | .add => ipI fun i j => i + j
  | .sub => ipI fun i j => i - j
  | _ => fun _ _ _ _ => False
theorem rAug_ok {X : Cx} (op : BO) : PIp X op.op (rAug op) := by
  cases op with
  | add => exact ip_add
  | sub => exact ip_sub
  | _ => exact fun _ _ _ _ _ _ _ _ _ _ _ _ z => z.elim
mutual
def rs (g : G0) (fn : Fn) (W : WX) : IS → TS
  | .asg i e => tAsg (rd (sg g fn) W e) (gName i)
  | .asgT is e => tAsg (rd (sg g fn) W e) (gTup g.K is.length (gNames is))
  | .put i k v => tAsg (rd (sg g fn) W v) (gSub (tVar i) (rd (sg g fn) W k) rSetX)
  | .putT i ks v => tAsg (rd (sg g fn) W v) (gSub (tVar i) (tTup (rdA (sg g fn) W ks)) rSetD)
  | .expr e => tDrop (rd (sg g fn) W e)
  | .app i e => tDrop (tBM g.K "list" rAppend (tVar i) (tCons (rd (sg g fn) W e) tNil))
  | .sadd i e => tDrop (tSAddK g.P g.w (tVar i) (tCons (rd (sg g fn) W e) tNil))
  | .fst i n e => sFld g.K (tVar i) (rd (sg g fn) W e) n
  | .ret e => tRet (rd (sg g fn) W e)
  | .retN => tRetN
  | .ifS c a b => tIfS (rdT (sg g fn) W c) (rss g fn W a) (rss g fn W b)
  | .forS i it b => tFor (rdI (sg g fn) W it) (gName i) (rss g fn W b)
  | .forT is it b => tFor (rdI (sg g fn) W it) (gTup g.K is.length (gNames is)) (rss g fn W b)
  | .aug i op e => tAug i (rd (sg g fn) W e) (rAug op)
  | .whl c b => tWhile (rdT (sg g fn) W c) (rss g fn W b)
  | .brk => tBreak
  | .cont => tCont
  | .pass => tNext
  | .raise c es => tRaise g W c (rdA (sg g fn) W es)
  | .tryS b hs => fun D σ H => rss g fn (rh g fn W hs D) b D σ H
def rss (g : G0) (fn : Fn) (W : WX) : ISs → TS
  | .nil => tNext
  | .cons s ss => tSeq (rs g fn W s) (rss g fn W ss)
/-- what the clauses wish of an error -/
def rh (g : G0) (fn : Fn) (W : WX) : IHs → Ends → WX
  | .nil, _ => W
  | .cons k i s hs, D => fun cls d σ H => ∃ b, PySem.W.exmOne g.K cls (.ref (g.ec k)) = some b ∧
    (b = true → ∀ a, H a = none → rss { g with pn := some (a, cls, d) } fn W0 s (endE i D) (σ.set i (some (.ref a))) H) ∧ (b = false → rh g fn W hs D cls d σ H)
end
end EN
/-! Statements: steps. -/
namespace EN
open PySem L2
def RvS (g : Gam) (F' H' : Hp) (x : V) : IV → Prop
  | .d y => Rep g F' x y
  | .fr c => ∃ p, x = .ref p ∧ g.h0 p = none ∧ F' p = none ∧ CRep g F' H' p c ∧ c.fit g.T = true
  | .sl _ => False
def GoodO (g : Gam) (W : WX) (D : Ends) (ρ : Env) (F : Hp) (σ : L2.St) (H : Hp) : O → Prop
  | .nx ρ' => ∀ σ' F' H', Stp g ρ F σ H ρ' F' σ' H' → D.nx σ' H'
  | .rt v ρ' => ∀ x σ' F' H', Stp g ρ F σ H ρ' F' σ' H' → RvS g F' H' x v → D.rt x H'
  | .bk ρ' => ∀ σ' F' H', Stp g ρ F σ H ρ' F' σ' H' → D.bk σ' H'
  | .ct ρ' => ∀ σ' F' H', Stp g ρ F σ H ρ' F' σ' H' → D.ct σ' H'
  | .er c fs ρ' => ∀ d σ' F' H', Stp g ρ F σ H ρ' F' σ' H' → ExF g F' d c fs → W (.ref (g.ec c)) d σ' H'
  | .no => False
/-- the heap has what it had at the def's entry -/
def Dm (g : Gam) (H : Hp) : Prop := ∀ a, H a = none → g.h0 a = none
def SndS (g : Gam) (W : WX) (t : TS) (r : Env → O) : Prop := ∀ ρ F σ H D, Dm g H → Rl g ρ F σ H → GoodO g W D ρ F σ H (r ρ) → t D σ H
section
variable {g : Gam} {W : WX} {ρ ρ' ρ1 ρ2 : Env} {F F1 F2 F' H H1 H2 H0 H' : Hp} {σ σ' σ1 σ2 : L2.St} {p : Addr} {o : HO} {i j : Nat} {Q : VK} {t u : TE} {ra rb : Env → R IV} {T : Tb} {fn : Fn} {f : Nat} {Z : Ends}
theorem Dm.later (h : Dm g H) (s : Stp g ρ F σ H ρ1 F1 σ1 H1) : Dm g H1 := fun a e => h a (s.dom a e)
theorem GoodO.later {r : O} (s : Stp g ρ F σ H ρ1 F1 σ1 H1) (k : GoodO g W Z ρ F σ H r) : GoodO g W Z ρ1 F1 σ1 H1 r := by
  cases r with
  | nx ρ' => exact fun σ' F' H' q => k σ' F' H' (s.trans q)
  | rt v ρ' => exact fun x σ' F' H' q => k x σ' F' H' (s.trans q)
  | bk ρ' => exact fun σ' F' H' q => k σ' F' H' (s.trans q)
  | ct ρ' => exact fun σ' F' H' q => k σ' F' H' (s.trans q)
  | er c fs ρ' => exact fun d σ' F' H' q => k d σ' F' H' (s.trans q)
  | no => exact k
theorem good_to {α : Type} {r : R α} {f : α → Env → O} (k : GoodO g W Z ρ F σ H (r.to f)) : Good r (fun a ρ' => GoodO g W Z ρ F σ H (f a ρ')) (ErQ g W ρ F σ H) := by
  cases r with
  | ok a ρ' => exact k
  | er c fs ρ' => exact fun d F' H' s x => k d σ F' H' s x
  | no => exact k
theorem Rl.put {x : V} {d : D} (r : Rl g ρ F σ H) (h : Rep g F x d) : Rl g (ρ.set i (.d d)) F (σ.set i (some x)) H := by
  have r2 := (r.set (i := i) notOB_un .un).bnd (i := i) (by rw [set_un_at]; exact nob_un) h
  rw [List.set_set] at r2
  exact r2
theorem own_set2 {s : Slot} {x : Option V} {q : Addr} (hs : ∀ c, s ≠ .own c) (h : Own (ρ.set i s) (σ.set i x) j q) : Own ρ σ j q := by
  by_cases e : i = j
  · subst e
    obtain ⟨⟨c, z⟩, w⟩ := h
    rw [at_set] at z
    split at z
    · exact absurd z (hs c)
    · rename_i q
      have : ρ.at i = .un := at_un fun z => q ⟨rfl, z⟩
      rw [this] at z; cases z
  · obtain ⟨⟨c, z⟩, w⟩ := h
    rw [at_set_ne e] at z
    rw [List.getElem?_set_ne e] at w
    exact ⟨⟨c, z⟩, w⟩
theorem Stp.put {x : V} {d : D} (s : Stp g ρ F σ H ρ1 F1 σ1 H1) (h : Rep g F1 x d) : Stp g ρ F σ H (ρ1.set i (.d d)) F1 (σ1.set i (some x)) H1 where
  rel := s.rel.put h
  ext := s.ext
  new := s.new
  keep := s.keep
  dom := s.dom
  ow := fun a ⟨j, z⟩ => s.ow a ⟨j, own_set2 (fun c => (notOB_d c).1) z⟩
  brw := fun j c z => by
    by_cases e : i = j
    · subst e
      rw [at_set] at z
      split at z
      · cases z
      · rename_i q
        have : ρ1.at i = .un := at_un fun z => q ⟨rfl, z⟩
        rw [this] at z; cases z
    · rw [at_set_ne e] at z
      rw [List.getElem?_set_ne e]
      exact s.brw j c z
/-- a slot forgotten -/
theorem Stp.un (s : Stp g ρ F σ H ρ1 F1 σ1 H1) : Stp g ρ F σ H (ρ1.set i .un) F1 σ1 H1 where
  rel := s.rel.set notOB_un .un
  ext := s.ext
  new := s.new
  keep := s.keep
  dom := s.dom
  ow := fun a ⟨j, z⟩ => s.ow a ⟨j, own_set (fun c => (notOB_un c).1) z⟩
  brw := fun j c z => by
    rw [at_set] at z
    split at z
    · cases z
    · exact s.brw j c z
/-- a fresh object in a slot of its own -/
theorem Stp.putOwn {c : Cn} (s : Stp g ρ F σ H ρ1 F1 σ1 H1) (dm : Dm g H) (hi : ¬ i < g.np) (hp : H p = none) (hf : F1 p = none) (hc : CRep g F1 H1 p c) (ft : c.fit g.T = true) (nh : ∀ j, ¬ Held ρ1 σ1 j p) : Stp g ρ F σ H (ρ1.set i (.own c)) F1 (σ1.set i (some (.ref p))) H1 := by
  by_cases hl : i < ρ1.length
  · have hlσ : i < σ1.length := by rw [← s.rel.len]; exact hl
    have ob : ∀ {j q}, Own (ρ1.set i (.own c)) (σ1.set i (some (.ref p))) j q → (j = i ∧ q = p) ∨ (j ≠ i ∧ Own ρ1 σ1 j q) := fun {j q} ⟨⟨c', z⟩, w⟩ => by
      by_cases e : j = i
      · subst e
        rw [List.getElem?_set_self hlσ] at w
        cases w
        exact .inl ⟨rfl, rfl⟩
      · rw [at_set_ne fun z => e z.symm] at z
        rw [List.getElem?_set_ne fun z => e z.symm] at w
        exact .inr ⟨e, ⟨c', z⟩, w⟩
    have hb : ∀ {j q}, Held (ρ1.set i (.own c)) (σ1.set i (some (.ref p))) j q → (j = i ∧ q = p) ∨ (j ≠ i ∧ Held ρ1 σ1 j q) := fun {j q} ⟨z, w⟩ => by
      by_cases e : j = i
      · subst e
        rw [List.getElem?_set_self hlσ] at w
        cases w
        exact .inl ⟨rfl, rfl⟩
      · rw [at_set_ne fun z => e z.symm] at z
        rw [List.getElem?_set_ne fun z => e z.symm] at w
        exact .inr ⟨e, z, w⟩
    refine ⟨⟨s.rel.same, by rw [List.length_set, List.length_set]; exact s.rel.len, fun j => ?_, fun a b q n x y => ?_, fun a q x h => ?_, fun a q x h => ?_⟩, s.ext, s.new, s.keep, s.dom, fun a ⟨j, z⟩ => ?_, fun j c' z => ?_⟩
    · by_cases e : i = j
      · subst e
        rw [at_set_same hl]
        exact .own (List.getElem?_set_self hlσ) hf hc ft
      · rw [at_set_ne e]
        exact (s.rel.sl j).off (List.getElem?_set_ne e).symm
    · rcases ob x with ⟨rfl, rfl⟩ | ⟨h1, x2⟩
      · rcases hb y with ⟨rfl, _⟩ | ⟨_, y2⟩
        · exact n rfl
        · exact nh b y2
      · rcases hb y with ⟨rfl, rfl⟩ | ⟨_, y2⟩
        · exact nh a x2.held
        · exact s.rel.apart a b q n x2 y2
    · rcases ob x with ⟨rfl, rfl⟩ | ⟨h1, x2⟩
      · exact absurd h hi
      · exact s.rel.old a q x2 h
    · rcases ob x with ⟨rfl, rfl⟩ | ⟨h1, x2⟩
      · exact dm _ hp
      · exact s.rel.new a q x2 h
    · rcases ob z with ⟨rfl, rfl⟩ | ⟨h1, x2⟩
      · exact .inr hp
      · exact s.ow a ⟨j, x2⟩
    · by_cases e : i = j
      · subst e; rw [at_set_same hl] at z; cases z
      · rw [at_set_ne e] at z
        rw [List.getElem?_set_ne e]
        exact s.brw j c' z
  · have e1 : ρ1.set i (.own c) = ρ1 := List.set_eq_of_length_le (Nat.le_of_not_lt hl)
    have e2 : σ1.set i (some (.ref p)) = σ1 := List.set_eq_of_length_le (by rw [← s.rel.len]; exact Nat.le_of_not_lt hl)
    rw [e1, e2]
    exact s
theorem kp_ok {x : V} {v : IV} {B : Nat → List D → Env → Prop} {A : D → Env → Prop} (rl : Rl g ρ F σ H) (iv : IvOk g ρ F σ H0 H x v) (nf : ∀ c, v ≠ .fr c) (k : Good (kp g.np ρ v) A B) : ∃ d ρ2 F2, Stp g ρ F σ H ρ2 F2 σ H ∧ Rep g F2 x d ∧ A d ρ2 := by
  cases v with
  | d y => exact ⟨y, ρ, F, Stp.refl rl, iv, k⟩
  | fr c => exact absurd rfl (nf c)
  | sl i =>
    have h : σ[i]? = some (some x) := iv
    simp only [kp] at k
    cases e : ρ.at i with
    | d y =>
      rw [e] at k
      obtain ⟨v, a, b⟩ := rl.dAt e
      rw [h] at a; cases a
      exact ⟨y, ρ, F, Stp.refl rl, b, k⟩
    | own c =>
      rw [e] at k
      dsimp only at k
      split at k
      · exact k.elim
      · obtain ⟨F2, p, a, b, s2⟩ := rl.keepOwn e
        rw [h] at a; cases a
        exact ⟨_, _, F2, s2, b, k⟩
    | _ => rw [e] at k; exact k.elim
/-- slot i = a value -/
theorem store_ok2 {x : V} {v : IV} {f : Env → O} (dm : Dm g H) (s : Stp g ρ F σ H ρ1 F1 σ H1) (iv : IvOk g ρ1 F1 σ H H1 x v) (k : GoodO g W Z ρ F σ H ((store g.np i ρ1 v).to fun _ ρ => f ρ)) : ∃ ρ2 F2, Stp g ρ F σ H ρ2 F2 (σ.set i (some x)) H1 ∧ GoodO g W Z ρ F σ H (f ρ2) := by
  have dat : ∀ {d ρ2 F2}, Stp g ρ F σ H ρ2 F2 σ H1 → Rep g F2 x d → Good (if i < g.np then (match ρ2.at i with
      | .own _ => R.no
      | _ => R.ok () (ρ2.set i (.d d))) else R.ok () (ρ2.set i (.d d))) (fun _ ρ' => GoodO g W Z ρ F σ H (f ρ')) (ErQ g W ρ F σ H) → ∃ ρ2 F2, Stp g ρ F σ H ρ2 F2 (σ.set i (some x)) H1 ∧ GoodO g W Z ρ F σ H (f ρ2) := fun {d ρ2 F2} s2 r k => by
    have s3 := s2.put (i := i) r
    by_cases hi : i < g.np
    · rw [if_pos hi] at k
      cases e : ρ2.at i with
      | own c => rw [e] at k; exact k.elim
      | _ => rw [e] at k; exact ⟨_, _, s3, k⟩
    · rw [if_neg hi] at k
      exact ⟨_, _, s3, k⟩
  cases v with
  | fr c =>
    obtain ⟨p, rfl, h1, h2, h3, h4, h5⟩ := iv
    simp only [store] at k
    split at k
    · obtain ⟨F2, a, b, e, uu⟩ := s.rel.keepNew h2 h3 h4 h5
      have s2 : Stp g ρ F σ H ρ1 F2 σ H1 := ⟨b, s.ext.trans e, fun y z z' => by
        by_cases hy : y = p
        · subst hy; exact .inl h1
        · rw [uu y hy] at z'
          exact s.new y z z', s.keep, s.dom, s.ow, s.brw⟩
      split at k
      · exact k.elim
      · exact ⟨_, _, s2.put a, k⟩
    · rename_i hi
      exact ⟨_, _, s.putOwn dm hi h1 h2 h3 h4 h5, k⟩
  | d y => exact dat s iv (good_to k)
  | sl j =>
    have k1 := good_to k
    have k2 := Good.bind.mp k1
    obtain ⟨d, ρ2, F2, s2, r, k3⟩ := kp_ok s.rel iv (fun c => IV.noConfusion) k2
    exact dat (s.trans s2) r k3
end
end EN
/-! Statements: the rules. -/
namespace EN
open PySem L2
section
variable {g : Gam} {W : WX} {ρ ρ' ρ1 ρ2 : Env} {F F1 F2 F' H H1 H2 H0 H' : Hp} {σ σ' σ1 σ2 : L2.St} {p : Addr} {o : HO} {i j : Nat} {Q : VK} {t u : TE} {ra rb : Env → R IV} {T : Tb} {fn : Fn} {f : Nat} {Z : Ends}
/-- what follows an expression in a statement -/
theorem Snd.st {f : IV → Env → O} {Q : VK} (h : Snd g W t ra) (rl : Rl g ρ F σ H) (k : GoodO g W Z ρ F σ H ((ra ρ).to f)) (n : ∀ v ρ1 x F1 H1, Stp g ρ F σ H ρ1 F1 σ H1 → IvOk g ρ1 F1 σ H H1 x v → GoodO g W Z ρ F σ H (f v ρ1) → Q x H1) : t σ H Q :=
  h ρ F σ H Q rl ((good_to k).mono (fun v ρ1 k x F1 H1 s iv => n v ρ1 x F1 H1 s iv k) fun _ _ _ q => q)
theorem SndD.st {r : Env → R D} {f : D → Env → O} {Q : VK} (h : SndD g W t r) (rl : Rl g ρ F σ H) (k : GoodO g W Z ρ F σ H ((r ρ).to f)) (n : ∀ v ρ1 x F1 H1, Stp g ρ F σ H ρ1 F1 σ H1 → Rep g F1 x v → GoodO g W Z ρ F σ H (f v ρ1) → Q x H1) : t σ H Q :=
  h ρ F σ H Q rl ((good_to k).mono (fun v ρ1 k x F1 H1 s iv => n v ρ1 x F1 H1 s iv k) fun _ _ _ q => q)
theorem SndT.st {tt : TT} {r : Env → R Bool} {f : Bool → Env → O} {Q : Bool → Hp → Prop} (h : SndT g W tt r) (rl : Rl g ρ F σ H) (k : GoodO g W Z ρ F σ H ((r ρ).to f)) (n : ∀ v ρ1 F1 H1, Stp g ρ F σ H ρ1 F1 σ H1 → GoodO g W Z ρ F σ H (f v ρ1) → Q v H1) : tt σ H Q :=
  h ρ F σ H Q rl ((good_to k).mono (fun v ρ1 k F1 H1 s => n v ρ1 F1 H1 s k) fun _ _ _ q => q)
theorem SndL.st {ts : TA} {r : Env → R (List D)} {f : List D → Env → O} {Q : List V → Hp → Prop} (h : SndL g W ts r) (rl : Rl g ρ F σ H) (k : GoodO g W Z ρ F σ H ((r ρ).to f)) (n : ∀ v ρ1 x F1 H1, Stp g ρ F σ H ρ1 F1 σ H1 → Rps g F1 x v → GoodO g W Z ρ F σ H (f v ρ1) → Q x H1) : ts σ H Q :=
  h ρ F σ H Q rl ((good_to k).mono (fun v ρ1 k x F1 H1 s iv => n v ρ1 x F1 H1 s iv k) fun _ _ _ q => q)
theorem ss_asg (ha : Snd g W t ra) : SndS g W (tAsg t (gName i)) fun ρ => (ra ρ).to fun v ρ => (store g.np i ρ v).to fun _ ρ => .nx ρ := fun ρ F σ H Z dm rl k => by
  refine ha.st rl k fun v ρ1 x F1 H1 s iv k => ?_
  obtain ⟨ρ2, F2, s2, k⟩ := store_ok2 dm s iv k
  exact k _ F2 H1 s2
theorem store_d {np : Nat} {d : D} : store np i ρ (.d d) = .ok () (ρ.set i (.d d)) ∨ store np i ρ (.d d) = .no := by
  simp only [store, kp, R.bind]
  by_cases h : i < np
  · rw [if_pos h]
    cases ρ.at i with
    | own c => exact .inr rfl
    | _ => exact .inl rfl
  · rw [if_neg h]; exact .inl rfl
theorem storeAll_ok {f : Env → O} : ∀ {is : List Nat} {ds : List D} {xs : List V} {ρ1 : Env} {F1 : Hp} {σ1 : L2.St} {Q : L2.St → Hp → Prop}, Stp g ρ F σ H ρ1 F1 σ1 H1 → Rps g F1 xs ds → GoodO g W Z ρ F σ H ((storeAll g.np is ds ρ1).to fun _ ρ => f ρ) →
    (∀ ρ2 F2 σ2, Stp g ρ F σ H ρ2 F2 σ2 H1 → GoodO g W Z ρ F σ H (f ρ2) → Q σ2 H1) → is.length = xs.length ∧ gNames is xs σ1 H1 Q := by
  intro is
  induction is with
  | nil =>
    intro ds xs ρ1 F1 σ1 Q s r k n
    cases ds with
    | nil =>
      have : xs = [] := List.eq_nil_of_length_eq_zero r.1
      subst this
      exact ⟨rfl, rfl, n _ _ _ s k⟩
    | cons d ds => exact k.elim
  | cons i is ih =>
    intro ds xs ρ1 F1 σ1 Q s r k n
    cases ds with
    | nil => exact k.elim
    | cons d ds =>
      cases xs with
      | nil => have := r.1; simp at this
      | cons x xs =>
        have s3 := s.put (i := i) r.head
        have go : GoodO g W Z ρ F σ H ((storeAll g.np is ds (ρ1.set i (.d d))).to fun _ ρ => f ρ) → (i :: is).length = (x :: xs).length ∧ gNames (i :: is) (x :: xs) σ1 H1 Q := fun k => by
          obtain ⟨a, b⟩ := ih s3 r.tail k n
          exact ⟨by simp [a], x, xs, rfl, b⟩
        rcases store_d (np := g.np) (i := i) (ρ := ρ1) (d := d) with h | h
        · simp only [storeAll, h, R.bind] at k; exact go k
        · simp only [storeAll, h, R.bind] at k; exact k.elim
theorem ss_asgT {is : List Nat} {ra : Env → R D} (ha : SndD g W t ra) : SndS g W (tAsg t (gTup g.K is.length (gNames is))) fun ρ => (ra ρ).to fun x ρ => match x with
    | .tup xs => (storeAll g.np is xs ρ).to fun _ ρ => .nx ρ
    | _ => .no := fun ρ F σ H Z dm rl k => by
  refine ha.st rl k fun v ρ1 x F1 H1 s iv k => ?_
  cases v with
  | tup ds =>
    cases iv with
    | @tup a vs _ h e r =>
      have q := storeAll_ok (f := fun ρ => .nx ρ) (Q := Z.nx) s ⟨e, r⟩ k fun ρ2 F2 σ2 s2 k2 => k2 σ2 F2 H1 s2
      exact ⟨a, vs, rfl, sm_t s.rel.same h, q.1.symm, q.2⟩
  | _ => exact k.elim
/-- an owned object written -/
theorem Stp.wrOwn {c c' : Cn} (rl : Rl g ρ F σ H) (e : ρ.at i = .own c) (hσ : σ[i]? = some (some (.ref p))) (hc : CRep g F (upd H p o) p c') (ft : c'.fit g.T = true) : Stp g ρ F σ H (ρ.set i (.own c')) F σ (upd H p o) := by
  have hi : i < ρ.length := at_lt (by rw [e]; exact fun z => nomatch z)
  have ow0 : Own ρ σ i p := ⟨⟨c, e⟩, hσ⟩
  obtain ⟨p', h1, hf, h2, _⟩ := rl.ownAt e
  rw [hσ] at h1
  cases h1
  have own : ∀ {j q}, Own (ρ.set i (.own c')) σ j q → Own ρ σ j q := fun {j q} ⟨⟨c2, z⟩, w⟩ => by
    by_cases h : i = j
    · subst h; exact ⟨⟨c, e⟩, w⟩
    · rw [at_set_ne h] at z; exact ⟨⟨c2, z⟩, w⟩
  have held : ∀ {j q}, Held (ρ.set i (.own c')) σ j q → Held ρ σ j q := fun {j q} ⟨z, w⟩ => by
    by_cases h : i = j
    · subst h; exact ⟨.inl ⟨c, e⟩, w⟩
    · rw [at_set_ne h] at z; exact ⟨z, w⟩
  refine ⟨⟨fun a u z => ?_, by rw [List.length_set]; exact rl.len, fun j => ?_, fun a b q n x y => rl.apart a b q n (own x) (held y), fun a q x => rl.old a q (own x), fun a q x => rl.new a q (own x)⟩, Same.refl _, fun a x y => absurd x y, fun a u z w => ?_, fun a z => ?_, fun a ⟨j, z⟩ => .inl ⟨j, own z⟩, fun j c2 z => ?_⟩
  · rw [upd_ne (ne_of_none z hf)]; exact rl.same a u z
  · by_cases h : i = j
    · subst h; rw [at_set_same hi]; exact .own hσ hf hc ft
    · rw [at_set_ne h]
      refine (rl.sl j).mono (Same.refl _) (fun c2 q z w => (held_of z w |>.there rl).1) fun c2 q u z w hu => ?_
      have : q ≠ p := fun y => rl.apart i j p h ow0 (y ▸ held_of z w)
      rw [upd_ne this]; exact hu
  · have : a ≠ p := fun y => w (y ▸ ⟨i, ow0⟩)
    rw [upd_ne this]; exact z
  · by_cases y : a = p
    · subst y; rw [upd_same] at z; cases z
    · rw [upd_ne y] at z; exact z
  · by_cases h : i = j
    · subst h; rw [at_set_same hi] at z; cases z
    · rw [at_set_ne h] at z; exact ⟨z, rfl⟩
theorem isOwn_of {s : Slot} (h : isOwn s = true) : ∃ c, s = .own c := by cases s <;> first | exact ⟨_, rfl⟩ | cases h
theorem isLst_of {s : Slot} (h : isLst s = true) : ∃ ds, s = .own (.lst ds) := by
  cases s with
  | own c => cases c <;> first | exact ⟨_, rfl⟩ | cases h
  | _ => cases h
theorem ss_put {rv rk : Env → R D} (hv : SndD g W t rv) (hk : SndD g W u rk) : SndS g W (tAsg t (gSub (tVar i) u rSetX)) fun ρ => match isOwn (ρ.at i) with
    | true => (rv ρ).to fun v ρ => (rk ρ).to fun k ρ => match ρ.at i with
      | .own c => match cnPut k v c with
        | some c => .nx (ρ.set i (.own c))
        | none => .no
      | _ => .no
    | false => .no := fun ρ F σ H Z dm rl k => by
  cases e0 : isOwn (ρ.at i) with
  | false => simp only [e0] at k; exact k.elim
  | true =>
    simp only [e0] at k
    obtain ⟨c0, e0⟩ := isOwn_of e0
    obtain ⟨p, hσ, _⟩ := rl.ownAt e0
    refine hv.st rl k fun v ρ1 x F1 H1 s iv k => ⟨_, hσ, hk.st s.rel (k.later s) fun w ρ2 y F2 H2 s2 iw k => ?_⟩
    cases e : ρ2.at i with
    | own c =>
      rw [e] at k
      dsimp only at k
      cases e2 : cnPut w v c with
      | none => rw [e2] at k; exact k.elim
      | some c' =>
        rw [e2] at k
        obtain ⟨q, h1, h2, h3, h4⟩ := s2.rel.ownAt e
        rw [hσ] at h1
        cases h1
        have ix := iv.mono s2.ext
        cases c with
        | lst ds =>
          cases h3 with
          | lst hp r =>
            cases w with
            | int z =>
              simp only [cnPut] at e2
              cases e3 : ixN ds.length z with
              | none => rw [e3] at e2; cases e2
              | some j =>
                rw [e3] at e2
                cases e2
                cases iw
                rename_i vs
                refine .inl ⟨p, vs, z, j, rfl, rfl, hp, by rw [r.1]; exact e3, k σ F2 _ (s2.trans (Stp.wrOwn s2.rel e hσ (.lst upd_same (r.set ix j)) rfl))⟩
            | _ => cases e2
        | dK es =>
          cases h3 with
          | dK hp hk r =>
            simp only [cnPut] at e2
            split at e2
            · rename_i key e3
              split at e2
              · rename_i hl
                cases e2
                rename_i kvs _
                have kr : KR g F2 (putK kvs key x) (put es key v) := (KR.of hk r).put ix
                have hl2 : kvs.length < sizeLine := by
                  have : kvs.length = es.length := (KR.of hk r).len
                  rw [this]
                  exact Nat.lt_trans hl line_lt
                rw [iw.key e3]
                exact .inr ⟨p, _, rfl, DPut.k hp hl2, k σ F2 _ (s2.trans (Stp.wrOwn s2.rel e hσ (.dK upd_same kr.keys kr.vals) rfl))⟩
              · cases e2
            · cases e2
        | _ => cases e2
    | _ => rw [e] at k; exact k.elim
theorem ss_putT {rv : Env → R D} {ts : TA} {rs : Env → R (List D)} (hv : SndD g W t rv) (hs : SndL g W ts rs) : SndS g W (tAsg t (gSub (tVar i) (tTup ts) rSetD)) fun ρ => match isOwn (ρ.at i) with
    | true => (rv ρ).to fun v ρ => (rs ρ).to fun ks ρ => match ρ.at i with
      | .own c => match cnPutT ks v c with
        | some c => .nx (ρ.set i (.own c))
        | none => .no
      | _ => .no
    | false => .no := fun ρ F σ H Z dm rl k => by
  cases e0 : isOwn (ρ.at i) with
  | false => simp only [e0] at k; exact k.elim
  | true =>
    simp only [e0] at k
    obtain ⟨c0, e0⟩ := isOwn_of e0
    obtain ⟨p, hσ, _⟩ := rl.ownAt e0
    refine hv.st rl k fun v ρ1 x F1 H1 s iv k => ⟨_, hσ, hs.st s.rel (k.later s) fun ks ρ2 ys F2 H2 s2 iw k => ?_⟩
    cases e : ρ2.at i with
    | own c =>
      rw [e] at k
      dsimp only at k
      cases e2 : cnPutT ks v c with
      | none => rw [e2] at k; exact k.elim
      | some c' =>
        rw [e2] at k
        obtain ⟨q, h1, h2, h3, h4⟩ := s2.rel.ownAt e
        rw [hσ] at h1
        cases h1
        have ix := iv.mono s2.ext
        cases c with
        | dT es =>
          cases h3 with
          | dT hp hk r =>
            simp only [cnPutT] at e2
            split at e2
            · rename_i key e3
              split at e2
              · rename_i hl
                cases e2
                rename_i kvs _
                refine ⟨by rw [iw.1]; exact Nat.le_trans hl.1 line_le, fun q hq => ?_⟩
                have ek := keys_rel iw e3
                subst ek
                have kr : KR g F2 (putK kvs key x) (put es key v) := (KR.of hk r).put ix
                have hl2 : kvs.length < sizeLine := by
                  have : kvs.length = es.length := (KR.of hk r).len
                  rw [this]
                  exact Nat.lt_trans hl.2 line_lt
                have s3 := Stp.alloc (o := .tup (key.map kV)) s2.rel hq
                have hp2 : upd H2 q (.tup (key.map kV)) p = some (.dT kvs) := by rw [upd_ne (ne_of_none hp hq)]; exact hp
                exact ⟨p, _, rfl, DPut.t hp2 upd_same hl2, k σ F2 _ ((s2.trans s3).trans (Stp.wrOwn s3.rel e hσ (.dT upd_same kr.keys kr.vals) rfl))⟩
              · cases e2
            · cases e2
        | _ => cases e2
    | _ => rw [e] at k; exact k.elim
theorem ss_app {ra : Env → R D} (ha : SndD g W t ra) : SndS g W (tDrop (tBM g.K "list" rAppend (tVar i) (tCons t tNil))) fun ρ => match isLst (ρ.at i) with
    | true => (ra ρ).to fun x ρ => match ρ.at i with
      | .own (.lst xs) => if xs.length < line then .nx (ρ.set i (.own (.lst (xs ++ [x])))) else .no
      | _ => .no
    | false => .no := fun ρ F σ H Z dm rl k => by
  cases e0 : isLst (ρ.at i) with
  | false => simp only [e0] at k; exact k.elim
  | true =>
    simp only [e0] at k
    obtain ⟨ds0, e0⟩ := isLst_of e0
    obtain ⟨p, hσ, _, h3, _⟩ := rl.ownAt e0
    cases h3 with
    | lst hp0 _ =>
      refine ⟨_, hσ, .inl ⟨rfl, _, SqL.of hp0⟩, ha.st rl k fun v ρ1 x F1 H1 s iv k => ?_⟩
      cases e : ρ1.at i with
      | own c =>
        rw [e] at k
        cases c with
        | lst ds =>
          dsimp only at k
          split at k
          · rename_i hl
            obtain ⟨q, h1, h2, h3, h4⟩ := s.rel.ownAt e
            rw [hσ] at h1
            cases h1
            cases h3 with
            | lst hp r =>
              rename_i vs
              exact ⟨p, vs, x, rfl, rfl, hp, by rw [r.1]; exact Nat.lt_trans hl line_lt, k σ F1 _ (s.trans (Stp.wrOwn s.rel e hσ (.lst upd_same (r.append (.cons iv .nil))) rfl))⟩
          · exact k.elim
        | _ => exact k.elim
      | _ => rw [e] at k; exact k.elim
theorem isSet_of {s : Slot} (h : isSet s = true) : ∃ ks, s = .own (.st ks) := by
  cases s with
  | own c => cases c <;> first | exact ⟨_, rfl⟩ | cases h
  | _ => cases h
theorem isOb_of {s : Slot} (h : isOb s = true) : ∃ c es, s = .own (.ob c es) := by
  cases s with
  | own c => cases c <;> first | exact ⟨_, _, rfl⟩ | cases h
  | _ => cases h
theorem hset_add {P : Program} {w : World} {a : Addr} {ks : List Key} {k : Key} : SetK P w a (fun j => decide (j ∈ ks) || decide (j = k)) (if decide (k ∈ ks) = true then ks.length else ks.length + 1) = HSet P w a (addK ks k) := by
  unfold HSet
  rw [addK_len]
  congr 1
  funext j
  exact addK_mem
theorem ss_sadd {ra : Env → R D} (ha : SndD g W t ra) : SndS g W (tDrop (tSAddK g.P g.w (tVar i) (tCons t tNil))) fun ρ => match isSet (ρ.at i) with
    | true => (ra ρ).to fun x ρ => match ρ.at i, x.key? with
      | .own (.st ks), some k => if ks.length < 4000 then .nx (ρ.set i (.own (.st (addK ks k)))) else .no
      | _, _ => .no
    | false => .no := fun ρ F σ H Z dm rl k => by
  cases e0 : isSet (ρ.at i) with
  | false => simp only [e0] at k; exact k.elim
  | true =>
    simp only [e0] at k
    obtain ⟨ks0, e0⟩ := isSet_of e0
    obtain ⟨p, hσ, _, h3, _⟩ := rl.ownAt e0
    cases h3 with
    | st hp0 =>
      refine ⟨_, hσ, ⟨p, _, _, rfl, hp0⟩, ha.st rl k fun v ρ1 x F1 H1 s iv k => ?_⟩
      split at k
      · rename_i ks key e e2
        split at k
        · rename_i hl
          obtain ⟨q, h1, h2, h3, h4⟩ := s.rel.ownAt e
          rw [hσ] at h1
          cases h1
          cases h3 with
          | st hp =>
            rw [iv.key e2]
            refine ⟨p, key, _, _, rfl, rfl, hp, by unfold scanBound; omega, ?_⟩
            rw [hset_add]
            exact k σ F1 _ (s.trans (Stp.wrOwn s.rel e hσ (.st upd_same) rfl))
        · exact k.elim
      · exact k.elim
theorem putF_new {n : Str} {v : V} : ∀ {fs : List (Str × V)}, n ∉ fs.map (·.1) → putF n v fs = fs ++ [(n, v)]
  | [], _ => rfl
  | (m, u) :: fs, h => by
    simp only [List.map_cons, List.mem_cons, not_or] at h
    unfold putF
    rw [if_neg (Ne.symm h.1), putF_new h.2]
    rfl
theorem ss_fst (K : KF g) {n : Str} {ra : Env → R D} (ha : SndD g W t ra) : SndS g W (sFld g.K (tVar i) t n) fun ρ => match isOb (ρ.at i) with
    | true => (ra ρ).to fun x ρ => match ρ.at i with
      | .own (.ob c es) => if ((g.T.of c)[es.length]? = some n ∧ es.length < 900) ∧ n ∉ es.map (·.1) then .nx (ρ.set i (.own (.ob c (es ++ [(n, x)])))) else .no
      | _ => .no
    | false => .no := fun ρ F σ H Z dm rl k => by
  cases e0 : isOb (ρ.at i) with
  | false => simp only [e0] at k; exact k.elim
  | true =>
    simp only [e0] at k
    obtain ⟨c0, es0, e0⟩ := isOb_of e0
    obtain ⟨p, hσ, _⟩ := rl.ownAt e0
    refine ha.st rl k fun v ρ1 x F1 H1 s iv k => ⟨_, hσ, ?_⟩
    split at k
    · rename_i c es e
      split at k
      · rename_i hh
        obtain ⟨⟨hn, hl⟩, hm⟩ := hh
        obtain ⟨q, h1, h2, h3, h4⟩ := s.rel.ownAt e
        rw [hσ] at h1
        cases h1
        cases h3 with
        | @ob dx _ fs _ hc hp hk r =>
          obtain ⟨cl, _, _, na⟩ := K.cls c hc
          have hlen : fs.length = es.length := by have := congrArg List.length hk; simpa using this
          refine ⟨p, _, dx, fs, rfl, hp, cl, na n (List.mem_of_getElem? hn), by rw [hlen]; omega, ?_⟩
          have e4 : putF n x fs = fs ++ [(n, x)] := putF_new (by rw [hk]; exact hm)
          rw [e4]
          refine k σ F1 _ (s.trans (Stp.wrOwn s.rel e hσ (.ob hc upd_same ?_ ?_) ?_))
          · rw [List.map_append, List.map_append, hk]; rfl
          · rw [List.map_append, List.map_append]; exact r.append (.cons iv .nil)
          · refine decide_eq_true ?_
            have h5 : es.map (·.1) = (g.T.of c).take es.length := of_decide_eq_true h4
            rw [List.map_append, h5, List.length_append]
            show _ ++ [n] = (g.T.of c).take (es.length + 1)
            rw [List.take_add_one, hn]
            rfl
      · exact k.elim
    · exact k.elim
theorem ss_aug {op : BO} {ra : Env → R D} (ha : SndD g W t ra) : SndS g W (tAug i t (rAug op)) fun ρ => match ρ.at i with
    | .d x => (ra ρ).to fun y ρ => match ρ.at i with
      | .d _ => match augD op x y with
        | some z => .nx (ρ.set i (.d z))
        | none => .no
      | _ => .no
    | _ => .no := fun ρ F σ H Z dm rl k => by
  dsimp only at k
  cases e0 : ρ.at i with
  | d x =>
    rw [e0] at k
    obtain ⟨v, hσ, rv⟩ := rl.dAt e0
    refine ⟨v, hσ, ha.st rl k fun y ρ1 w F1 H1 s iw k => ?_⟩
    cases e1 : ρ1.at i with
    | d x' =>
      rw [e1] at k
      dsimp only at k
      have rv1 := rv.mono s.ext
      cases e2 : augD op x y with
      | none => rw [e2] at k; exact k.elim
      | some z =>
        rw [e2] at k
        unfold augD at e2
        split at e2
        · cases e2; cases rv1; cases iw
          exact ⟨_, _, rfl, rfl, k _ F1 H1 (s.put (.int _))⟩
        · cases e2; cases rv1; cases iw
          exact ⟨_, _, rfl, rfl, k _ F1 H1 (s.put (.int _))⟩
        · cases e2
    | _ => rw [e1] at k; exact k.elim
  | _ => rw [e0] at k; exact k.elim
theorem ss_expr (ha : Snd g W t ra) : SndS g W (tDrop t) fun ρ => (ra ρ).to fun _ ρ => .nx ρ := fun ρ F σ H Z dm rl k => ha.st rl k fun v ρ1 x F1 H1 s iv k => k σ F1 H1 s
theorem ss_ret (ha : Snd g W t ra) : SndS g W (tRet t) fun ρ => (ra ρ).to fun v ρ => retO g.np v ρ := fun ρ F σ H Z dm rl k => by
  refine ha.st rl k fun v ρ1 x F1 H1 s iv k => ?_
  cases v with
  | d y => exact k x σ F1 H1 s iv
  | fr c =>
    obtain ⟨p, rfl, h1, h2, h3, h4, h5⟩ := iv
    exact k _ σ F1 H1 s ⟨p, rfl, dm p h1, h2, h3, h4⟩
  | sl i =>
    have hx : σ[i]? = some (some x) := iv
    simp only [retO] at k
    cases e : ρ1.at i with
    | own c =>
      rw [e] at k
      dsimp only at k
      split at k
      · exact k.elim
      · rename_i hi
        obtain ⟨p, h1, h2, h3, h4⟩ := s.rel.ownAt e
        rw [hx] at h1
        cases h1
        exact k _ σ F1 H1 s.un ⟨p, rfl, s.rel.new i p ⟨⟨c, e⟩, hx⟩ (Nat.le_of_not_lt hi), h2, h3, h4⟩
    | _ => rw [e] at k; exact k.elim
theorem ss_retN : SndS g W tRetN fun ρ => .rt (.d .non) ρ := fun ρ F σ H Z dm rl k => k .non σ F H (Stp.refl rl) .non
theorem ss_if {tc : TT} {rc : Env → R Bool} {ta tb : TS} {xa xb : Env → O} (hc : SndT g W tc rc) (ha : SndS g W ta xa) (hb : SndS g W tb xb) : SndS g W (tIfS tc ta tb) fun ρ => (rc ρ).to fun t ρ => match t with
    | true => xa ρ
    | false => xb ρ := fun ρ F σ H Z dm rl k => by
  refine hc.st rl k fun v ρ1 F1 H1 s k => ?_
  cases v with
  | true => rw [if_pos rfl]; exact ha ρ1 F1 σ H1 Z (dm.later s) s.rel (k.later s)
  | false => rw [if_neg (by decide)]; exact hb ρ1 F1 σ H1 Z (dm.later s) s.rel (k.later s)
theorem ss_brk : SndS g W tBreak fun ρ => .bk ρ := fun ρ F σ H Z dm rl k => k σ F H (Stp.refl rl)
theorem ss_cont : SndS g W tCont fun ρ => .ct ρ := fun ρ F σ H Z dm rl k => k σ F H (Stp.refl rl)
theorem ss_next : SndS g W tNext fun ρ => .nx ρ := fun ρ F σ H Z dm rl k => k σ F H (Stp.refl rl)
theorem ss_seq {ta tb : TS} {xa xb : Env → O} (ha : SndS g W ta xa) (hb : SndS g W tb xb) : SndS g W (tSeq ta tb) fun ρ => (xa ρ).then fun ρ => xb ρ := fun ρ F σ H Z dm rl k => by
  refine ha ρ F σ H { Z with nx := tb Z } dm rl ?_
  cases e : xa ρ with
  | nx ρ1 =>
    simp only [e] at k
    exact fun σ' F' H' s => hb ρ1 F' σ' H' Z (dm.later s) s.rel (k.later s)
  | rt v ρ1 => simp only [e] at k; exact k
  | bk ρ1 => simp only [e] at k; exact k
  | ct ρ1 => simp only [e] at k; exact k
  | er c fs ρ1 => simp only [e] at k; exact k
  | no => simp only [e] at k; exact k
theorem ss_raise {c : Nat} {ts : TA} {rs : Env → R (List D)} (hr : SndL g W ts rs) : SndS g W (tRaise g W c ts) fun ρ => (rs ρ).to fun ds ρ => if c < g.T.ne ∧ ds.length = (g.T.ef c).length ∧ ds.length ≤ 20 then .er c ds ρ else .no := fun ρ F σ H Z dm rl k => by
  refine hr.st rl k fun v ρ1 x F1 H1 s iv k => ?_
  split at k
  · rename_i h
    obtain ⟨h1, h2, h3⟩ := h
    refine ⟨by rw [iv.1]; exact h2, by rw [iv.1]; exact h3, h1, fun dd ws hd hw => ?_⟩
    have fr := s.rel.free hd
    refine k (some dd) σ (upd F1 dd (.xd ws)) _ (s.trans (Stp.allocD s.rel hd)) ⟨h1, dd, ws, rfl, upd_same, fun n y e => ?_⟩
    unfold fieldE at e
    split at e
    · have : ∀ {ns : List Str} {xs : List V} {ds : List D}, Rps g F1 xs ds → (ns.zip ds).lookup n = some y → ∃ v, (ns.zip xs).lookup n = some v ∧ Rep g F1 v y := by
        intro ns
        induction ns with
        | nil => intro xs ds _ e; cases e
        | cons m ns ih =>
          intro xs ds r e
          cases ds with
          | nil => cases e
          | cons d ds =>
            cases xs with
            | nil => have := r.1; simp at this
            | cons x xs =>
              simp only [List.zip_cons_cons, List.lookup_cons] at e ⊢
              cases q : n == m with
              | true => rw [q] at e; cases e; exact ⟨x, rfl, r.head⟩
              | false => rw [q] at e; exact ih r.tail e
      obtain ⟨v', a, b⟩ := this iv e
      exact ⟨v', hw n v' a, b.mono (same_new fr.1)⟩
    · cases e
  · exact k.elim
end
end EN
/-! Loops, except clauses. -/
namespace EN
open PySem L2
section
variable {g : Gam} {W : WX} {ρ ρ' ρ1 ρ2 : Env} {F F1 F2 F' H H1 H2 H0 H' : Hp} {σ σ' σ1 σ2 : L2.St} {p : Addr} {o : HO} {i j : Nat} {Q : VK} {t u : TE} {ra rb : Env → R IV} {T : Tb} {fn : Fn} {f : Nat} {Z : Ends}
theorem ss_for {wi : TI} {ri : Env → R (IV × List D)} {tb : TS} {xb : Env → O} (hi : SndI g W wi ri) (hb : SndS g W tb xb) : SndS g W (tFor wi (gName i) tb) fun ρ => (ri ρ).to fun p ρ => (forRun g.np i xb p.2 (lend ρ p.1)).back ρ p.1 := fun ρ F σ H Z dm rl k => by
  refine hi ρ F σ H _ rl ((good_to k).mono (fun q ρ1 k J F1 H1 s w hl => ?_) fun _ _ _ q => q)
  obtain ⟨v, ds⟩ := q
  have k := k.later s
  have dm1 := dm.later s
  have rl1 := s.rel
  clear s rl dm
  dsimp only at k w hl
  have b0 : Stp g (lend ρ1 v) F1 σ H1 (lend ρ1 v) F1 σ H1 := Stp.refl rl1.lend
  let WW : Nat → Nat → L2.St → Hp → Prop := fun n m σk Hk => n + m = ds.length ∧ ∃ ρk Fk, Stp g (lend ρ1 v) F1 σ H1 ρk Fk σk Hk ∧ GoodO g W Z ρ1 F1 σ H1 ((forRun g.np i xb (ds.drop n) ρk).back ρ1 v)
  refine ⟨WW, ⟨ds.length, by omega, lend ρ1 v, F1, b0, k⟩, ?_⟩
  rintro n m σk Hk ⟨nm, ρk, Fk, st, kk⟩
  cases e : ds[n]? with
  | none =>
    have hn : ds.length ≤ n := List.getElem?_eq_none_iff.mp e
    refine .inl ⟨w.stop st hn, ?_⟩
    rw [List.drop_eq_nil_of_le hn] at kk
    exact kk σk Fk Hk (Stp.unlend rl1 st)
  | some d =>
    obtain ⟨hn, _⟩ := List.getElem?_eq_some_iff.mp e
    obtain ⟨go, yl⟩ := w.go st e
    refine .inr ⟨go, WW (n + 1) (m - 1), fun σ' H' h => ⟨m - 1, by omega, h⟩, fun x H' y => ?_⟩
    obtain ⟨rfl, rx⟩ := yl x H' y
    rw [drop_at e] at kk
    have st2 := st.put (i := i) rx
    rcases store_d (np := g.np) (i := i) (ρ := ρk) (d := d) with h | h
    · refine hb (ρk.set i (.d d)) Fk (σk.set i (some x)) H' _ (fun a e => dm1 a (st2.dom a e)) st2.rel ?_
      simp only [forRun, h] at kk
      dsimp only [R.to] at kk
      cases e2 : xb (ρk.set i (.d d)) with
      | nx ρ3 =>
        rw [e2] at kk
        exact fun σ3 F3 H3 s3 => ⟨by omega, ρ3, F3, st2.trans s3, kk⟩
      | ct ρ3 =>
        rw [e2] at kk
        exact fun σ3 F3 H3 s3 => ⟨by omega, ρ3, F3, st2.trans s3, kk⟩
      | bk ρ3 =>
        rw [e2] at kk
        exact fun σ3 F3 H3 s3 => kk σ3 F3 H3 (Stp.unlend rl1 (st2.trans s3))
      | rt v3 ρ3 =>
        rw [e2] at kk
        exact fun x3 σ3 F3 H3 s3 rv => kk x3 σ3 F3 H3 (Stp.unlend rl1 (st2.trans s3)) rv
      | er c fs ρ3 =>
        rw [e2] at kk
        exact fun dd σ3 F3 H3 s3 ex => kk dd σ3 F3 H3 (Stp.unlend rl1 (st2.trans s3)) ex
      | no => rw [e2] at kk; exact kk
    · simp only [forRun, h] at kk
      exact kk.elim
theorem storeAll_two {np : Nat} : ∀ {is : List Nat} {ds : List D} {ρ : Env}, (∃ ρ2, storeAll np is ds ρ = .ok () ρ2) ∨ storeAll np is ds ρ = .no
  | [], [], ρ => .inl ⟨ρ, rfl⟩
  | [], _ :: _, ρ => .inr rfl
  | _ :: _, [], ρ => .inr rfl
  | i :: is, d :: ds, ρ => by
    rcases store_d (np := np) (i := i) (ρ := ρ) (d := d) with h | h
    · simp only [storeAll, h, R.bind]; exact storeAll_two
    · simp only [storeAll, h, R.bind]; exact .inr trivial
theorem storeAll_run : ∀ {is : List Nat} {ds : List D} {xs : List V} {ρ1 ρ2 : Env} {F1 : Hp} {σ1 : L2.St}, Stp g ρ F σ H ρ1 F1 σ1 H1 → Rps g F1 xs ds → storeAll g.np is ds ρ1 = .ok () ρ2 →
    is.length = xs.length ∧ ∃ σ2, Stp g ρ F σ H ρ2 F1 σ2 H1 ∧ ∀ Q : L2.St → Hp → Prop, Q σ2 H1 → gNames is xs σ1 H1 Q
  | [], [], xs, ρ1, ρ2, F1, σ1, s, r, e => by
    cases e
    have : xs = [] := List.eq_nil_of_length_eq_zero r.1
    subst this
    exact ⟨rfl, σ1, s, fun Q q => ⟨rfl, q⟩⟩
  | [], _ :: _, xs, ρ1, ρ2, F1, σ1, s, r, e => nomatch e
  | _ :: _, [], xs, ρ1, ρ2, F1, σ1, s, r, e => nomatch e
  | i :: is, d :: ds, [], ρ1, ρ2, F1, σ1, s, r, e => by have := r.1; simp at this
  | i :: is, d :: ds, x :: xs, ρ1, ρ2, F1, σ1, s, r, e => by
    rcases store_d (np := g.np) (i := i) (ρ := ρ1) (d := d) with h | h
    · simp only [storeAll, h, R.bind] at e
      obtain ⟨a, σ2, b, c⟩ := storeAll_run (s.put (i := i) r.head) r.tail e
      exact ⟨by simp [a], σ2, b, fun Q q => ⟨x, xs, rfl, c Q q⟩⟩
    · simp only [storeAll, h, R.bind] at e; cases e
theorem ss_forT {is : List Nat} {wi : TI} {ri : Env → R (IV × List D)} {tb : TS} {xb : Env → O} (hi : SndI g W wi ri) (hb : SndS g W tb xb) : SndS g W (tFor wi (gTup g.K is.length (gNames is)) tb) fun ρ => (ri ρ).to fun p ρ => (forRunT g.np is xb p.2 (lend ρ p.1)).back ρ p.1 := fun ρ F σ H Z dm rl k => by
  refine hi ρ F σ H _ rl ((good_to k).mono (fun q ρ1 k J F1 H1 s w hl => ?_) fun _ _ _ q => q)
  obtain ⟨v, ds⟩ := q
  have k := k.later s
  have dm1 := dm.later s
  have rl1 := s.rel
  clear s rl dm
  dsimp only at k w hl
  have b0 : Stp g (lend ρ1 v) F1 σ H1 (lend ρ1 v) F1 σ H1 := Stp.refl rl1.lend
  let WW : Nat → Nat → L2.St → Hp → Prop := fun n m σk Hk => n + m = ds.length ∧ ∃ ρk Fk, Stp g (lend ρ1 v) F1 σ H1 ρk Fk σk Hk ∧ GoodO g W Z ρ1 F1 σ H1 ((forRunT g.np is xb (ds.drop n) ρk).back ρ1 v)
  refine ⟨WW, ⟨ds.length, by omega, lend ρ1 v, F1, b0, k⟩, ?_⟩
  rintro n m σk Hk ⟨nm, ρk, Fk, st, kk⟩
  cases e : ds[n]? with
  | none =>
    have hn : ds.length ≤ n := List.getElem?_eq_none_iff.mp e
    refine .inl ⟨w.stop st hn, ?_⟩
    rw [List.drop_eq_nil_of_le hn] at kk
    exact kk σk Fk Hk (Stp.unlend rl1 st)
  | some d =>
    obtain ⟨hn, _⟩ := List.getElem?_eq_some_iff.mp e
    obtain ⟨go, yl⟩ := w.go st e
    refine .inr ⟨go, WW (n + 1) (m - 1), fun σ' H' h => ⟨m - 1, by omega, h⟩, fun x H' y => ?_⟩
    obtain ⟨rfl, rx⟩ := yl x H' y
    rw [drop_at e] at kk
    cases d with
    | tup ds' =>
      cases rx with
      | @tup a vs _ hq ln rr =>
        rcases storeAll_two (np := g.np) (is := is) (ds := ds') (ρ := ρk) with ⟨ρ2, h⟩ | h
        · obtain ⟨hl2, σ2, st2, go2⟩ := storeAll_run st ⟨ln, rr⟩ h
          refine ⟨a, vs, rfl, sm_t st.rel.same hq, hl2.symm, go2 _ ?_⟩
          refine hb ρ2 Fk σ2 H' _ (fun a e => dm1 a (st2.dom a e)) st2.rel ?_
          simp only [forRunT, h] at kk
          dsimp only [R.to] at kk
          cases e2 : xb ρ2 with
          | nx ρ3 =>
            rw [e2] at kk
            exact fun σ3 F3 H3 s3 => ⟨by omega, ρ3, F3, st2.trans s3, kk⟩
          | ct ρ3 =>
            rw [e2] at kk
            exact fun σ3 F3 H3 s3 => ⟨by omega, ρ3, F3, st2.trans s3, kk⟩
          | bk ρ3 =>
            rw [e2] at kk
            exact fun σ3 F3 H3 s3 => kk σ3 F3 H3 (Stp.unlend rl1 (st2.trans s3))
          | rt v3 ρ3 =>
            rw [e2] at kk
            exact fun x3 σ3 F3 H3 s3 rv => kk x3 σ3 F3 H3 (Stp.unlend rl1 (st2.trans s3)) rv
          | er c fs ρ3 =>
            rw [e2] at kk
            exact fun dd σ3 F3 H3 s3 ex => kk dd σ3 F3 H3 (Stp.unlend rl1 (st2.trans s3)) ex
          | no => rw [e2] at kk; exact kk
        · simp only [forRunT, h] at kk
          exact kk.elim
    | _ => exact kk.elim
theorem ss_while {tc : TT} {rc : Env → R Bool} {tb : TS} {xb : Env → O} {n : Nat} (hc : SndT g W tc rc) (hb : SndS g W tb xb) : SndS g W (tWhile tc tb) fun ρ => whRun rc xb n ρ := fun ρ F σ H Z dm rl k => by
  let WW : Nat → L2.St → Hp → Prop := fun m σk Hk => ∃ ρk Fk, Stp g ρ F σ H ρk Fk σk Hk ∧ GoodO g W Z ρ F σ H (whRun rc xb m ρk)
  refine ⟨WW, ⟨n, ρ, F, Stp.refl rl, k⟩, ?_⟩
  rintro m σk Hk ⟨ρk, Fk, st, kk⟩
  cases m with
  | zero => exact kk.elim
  | succ m =>
    refine hc ρk Fk σk Hk _ st.rel ?_
    cases e : rc ρk with
    | no => simp only [whRun, e] at kk; exact kk.elim
    | er c fs ρ1 => simp only [whRun, e] at kk; exact fun d F' H' s x => kk d σk F' H' (st.trans s) x
    | ok v ρ1 =>
      simp only [whRun, e] at kk
      intro F1 H1 s1
      have st1 := st.trans s1
      cases v with
      | false => rw [if_neg Bool.false_ne_true]; exact kk σk F1 H1 st1
      | true =>
        rw [if_pos rfl]
        refine ⟨WW m, fun σ' H' h => ⟨m, Nat.lt_succ_self m, h⟩, ?_⟩
        refine hb ρ1 F1 σk H1 _ (fun a e => dm a (st1.dom a e)) st1.rel ?_
        dsimp only [R.to] at kk
        cases e2 : xb ρ1 with
        | nx ρ3 => rw [e2] at kk; exact fun σ3 F3 H3 s3 => ⟨ρ3, F3, st1.trans s3, kk⟩
        | ct ρ3 => rw [e2] at kk; exact fun σ3 F3 H3 s3 => ⟨ρ3, F3, st1.trans s3, kk⟩
        | bk ρ3 => rw [e2] at kk; exact fun σ3 F3 H3 s3 => kk σ3 F3 H3 (st1.trans s3)
        | rt v3 ρ3 => rw [e2] at kk; exact fun x3 σ3 F3 H3 s3 rv => kk x3 σ3 F3 H3 (st1.trans s3) rv
        | er c fs ρ3 => rw [e2] at kk; exact fun dd σ3 F3 H3 s3 ex => kk dd σ3 F3 H3 (st1.trans s3) ex
        | no => rw [e2] at kk; exact kk
/-! ### an error held -/
theorem Rep.pn {g g' : G0} (hK : g'.K = g.K) (hT : g'.T = g.T) (ho : g'.oc = g.oc) (hP : g'.P = g.P) (hw : g'.w = g.w) {x : V} {d : D} (h : Rep g F x d) : Rep g' F x d := by
  induction h with
  | non => exact .non
  | bl b => exact .bl b
  | int i => exact .int i
  | str x => exact .str x
  | tup h e r ih => exact .tup (by rw [hK]; exact h) e ih
  | lst h e r ih => exact .lst h e ih
  | scr h => exact .scr (by rw [hK]; exact h)
  | dK h hk e r ih => exact .dK h hk e ih
  | dT h hk e r ih => exact .dT h hk e ih
  | st h => exact .st (by rw [hP, hw]; exact h)
  | obj hc h hk e r ih => exact .obj (by rw [hT]; exact hc) (by rw [ho]; exact h) (by rw [hT]; exact hk) e ih
theorem CRep.pn {g g' : G0} (hK : g'.K = g.K) (hT : g'.T = g.T) (ho : g'.oc = g.oc) (hP : g'.P = g.P) (hw : g'.w = g.w) {c : Cn} (h : CRep g F H p c) : CRep g' F H p c := by
  have rs : ∀ {vs : List V} {ds : List D}, Rps g F vs ds → Rps g' F vs ds := fun r => ⟨r.1, fun i v d a b => (r.2 i v d a b).pn hK hT ho hP hw⟩
  cases h with
  | lst h r => exact .lst h (rs r)
  | dK h hk r => exact .dK h hk (rs r)
  | dT h hk r => exact .dT h hk (rs r)
  | st h => exact .st (by rw [hP, hw]; exact h)
  | ob hc h hk r => exact .ob (by rw [hT]; exact hc) (by rw [ho]; exact h) hk (rs r)
theorem ExF.pn {g g' : G0} (hK : g'.K = g.K) (hT : g'.T = g.T) (ho : g'.oc = g.oc) (hP : g'.P = g.P) (hw : g'.w = g.w) {d : Option Addr} {c : Nat} {fs : List D} (h : ExF g F d c fs) : ExF g' F d c fs := by
  obtain ⟨h0, dd, ws, h1, h2, h3⟩ := h
  exact ⟨by rw [hT]; exact h0, dd, ws, h1, h2, fun n x q => by
    rw [hT] at q
    obtain ⟨v, a, b⟩ := h3 n x q
    exact ⟨v, a, b.pn hK hT ho hP hw⟩⟩
/-- a body that holds an error -/
def Gam.hot (g : Gam) (q : Option (Addr × Value × Option Addr)) : Gam := { g with pn := q }
theorem SlOk.hot {q : Option (Addr × Value × Option Addr)} {s : Slot} (ns : ∀ c fs, s ≠ .exc c fs) (h : SlOk g F σ H i s) : SlOk (g.hot q) F σ H i s := by
  cases h with
  | un => exact .un
  | d h r => exact .d h (r.pn (g := g.toG0) (g' := (g.hot q).toG0) rfl rfl rfl rfl rfl)
  | own h hf r ft => exact .own h hf (r.pn (g := g.toG0) (g' := (g.hot q).toG0) rfl rfl rfl rfl rfl) ft
  | bor h hf r ft => exact .bor h hf (r.pn (g := g.toG0) (g' := (g.hot q).toG0) rfl rfl rfl rfl rfl) ft
  | exc hp h f => exact absurd rfl (ns _ _)
theorem SlOk.cold {q : Option (Addr × Value × Option Addr)} {s : Slot} (ns : ∀ c fs, s ≠ .exc c fs) (h : SlOk (g.hot q) F σ H i s) : SlOk g F σ H i s := by
  cases h with
  | un => exact .un
  | d h r => exact .d h (r.pn (g := (g.hot q).toG0) (g' := g.toG0) rfl rfl rfl rfl rfl)
  | own h hf r ft => exact .own h hf (r.pn (g := (g.hot q).toG0) (g' := g.toG0) rfl rfl rfl rfl rfl) ft
  | bor h hf r ft => exact .bor h hf (r.pn (g := (g.hot q).toG0) (g' := g.toG0) rfl rfl rfl rfl rfl) ft
  | exc hp h f => exact absurd rfl (ns _ _)
theorem map_at {f : Slot → Slot} (h : f .un = .un) : Env.at (ρ.map f) i = f (ρ.at i) := by
  unfold Env.at
  rw [List.getD_eq_getElem?_getD, List.getD_eq_getElem?_getD, List.getElem?_map]
  cases ρ[i]? with
  | none => exact h.symm
  | some s => rfl
theorem unE_own {s : Slot} {c : Cn} : s.unE = .own c → s = .own c := by cases s <;> intro h <;> first | exact h | cases h
theorem unE_bor {s : Slot} {c : Cn} : s.unE = .bor c → s = .bor c := by cases s <;> intro h <;> first | exact h | cases h
theorem unE_exc {s : Slot} : ∀ c fs, s.unE ≠ .exc c fs := by cases s <;> intro c fs h <;> cases h
theorem goneE_at : (goneE i ρ).at j = if i = j ∧ i < ρ.length then .un else (ρ.at j).unE := by
  unfold goneE
  rw [at_set, map_at rfl, List.length_map]
/-- into a suite that holds an error -/
theorem Rl.hot {a : Addr} {c : Nat} {fs : List D} {d : Option Addr} (hp : g.pn = none) (r : Rl g ρ F σ H) (h : ExF g F d c fs) : Rl (g.hot (some (a, .ref (g.ec c), d))) (ρ.set i (.exc c fs)) F (σ.set i (some (.ref a))) H := by
  have ns : ∀ j c fs, ρ.at j ≠ .exc c fs := fun j c fs e => by
    have y := r.sl j
    rw [e] at y
    cases y with
    | exc hp' h f => rw [hp] at hp'; cases hp'
  have own : ∀ {j q}, Own (ρ.set i (.exc c fs)) (σ.set i (some (.ref a))) j q → Own ρ σ j q := fun {j q} z => own_set2 (fun c => Slot.noConfusion) z
  have held : ∀ {j q}, Held (ρ.set i (.exc c fs)) (σ.set i (some (.ref a))) j q → Held ρ σ j q := fun {j q} ⟨z, w⟩ => by
    by_cases e : i = j
    · subst e
      rw [at_set] at z
      split at z
      · rcases z with ⟨_, z⟩ | ⟨_, z⟩ <;> cases z
      · rename_i q
        have : ρ.at i = .un := at_un fun z => q ⟨rfl, z⟩
        rw [this] at z
        rcases z with ⟨_, z⟩ | ⟨_, z⟩ <;> cases z
    · rw [at_set_ne e] at z
      rw [List.getElem?_set_ne e] at w
      exact ⟨z, w⟩
  refine ⟨r.same, by rw [List.length_set, List.length_set]; exact r.len, fun j => ?_, fun a b q n x y => r.apart a b q n (own x) (held y), fun a q x => r.old a q (own x), fun a q x => r.new a q (own x)⟩
  by_cases e : i = j
  · subst e
    rw [at_set]
    split
    · rename_i q
      exact .exc rfl (List.getElem?_set_self (by rw [← r.len]; exact q.2)) (h.pn (g := g.toG0) (g' := (g.hot (some (a, .ref (g.ec c), d))).toG0) rfl rfl rfl rfl rfl)
    · rename_i q
      have : ρ.at i = .un := at_un fun z => q ⟨rfl, z⟩
      rw [this]; exact .un
  · rw [at_set_ne e]
    exact ((r.sl j).off (List.getElem?_set_ne e).symm).hot (ns j)
/-- .. and behind it -/
theorem Stp.cold {a : Addr} {c : Nat} {fs : List D} {d : Option Addr} (hp : g.pn = none) (r : Rl g ρ F σ H) (s : Stp (g.hot (some (a, .ref (g.ec c), d))) (ρ.set i (.exc c fs)) F (σ.set i (some (.ref a))) H ρ1 F1 σ1 H1) : Stp g ρ F σ H (goneE i ρ1) F1 (σ1.set i none) H1 := by
  have own : ∀ {j q}, Own (goneE i ρ1) (σ1.set i none) j q → Own ρ1 σ1 j q := fun {j q} ⟨⟨c, z⟩, w⟩ => by
    rw [goneE_at] at z
    split at z
    · cases z
    · rename_i h
      have z := unE_own z
      by_cases e : i = j
      · subst e; rw [at_un fun z => h ⟨rfl, z⟩] at z; cases z
      · rw [List.getElem?_set_ne e] at w; exact ⟨⟨c, z⟩, w⟩
  have held : ∀ {j q}, Held (goneE i ρ1) (σ1.set i none) j q → Held ρ1 σ1 j q := fun {j q} ⟨z, w⟩ => by
    rw [goneE_at] at z
    split at z
    · rcases z with ⟨_, z⟩ | ⟨_, z⟩ <;> cases z
    · rename_i h
      have z : (∃ c, ρ1.at j = .own c) ∨ ∃ c, ρ1.at j = .bor c := z.elim (fun ⟨c, z⟩ => .inl ⟨c, unE_own z⟩) fun ⟨c, z⟩ => .inr ⟨c, unE_bor z⟩
      by_cases e : i = j
      · subst e
        rw [at_un fun z => h ⟨rfl, z⟩] at z
        rcases z with ⟨_, z⟩ | ⟨_, z⟩ <;> cases z
      · rw [List.getElem?_set_ne e] at w; exact ⟨z, w⟩
  have ow0 : ∀ {q}, Ow (ρ.set i (.exc c fs)) (σ.set i (some (.ref a))) q → Ow ρ σ q := fun {q} ⟨j, z⟩ => ⟨j, own_set2 (fun c => Slot.noConfusion) z⟩
  refine ⟨⟨s.rel.same, ?_, fun j => ?_, fun a b q n x y => s.rel.apart a b q n (own x) (held y), fun a q x => s.rel.old a q (own x), fun a q x => s.rel.new a q (own x)⟩, s.ext, fun a x y => (s.new a x y).imp_right ow0, ?_, s.dom, fun a ⟨j, z⟩ => (s.ow a ⟨j, own z⟩).imp_left ow0, fun j c' z => ?_⟩
  · unfold goneE
    rw [List.length_set, List.length_map, List.length_set]; exact s.rel.len
  · rw [goneE_at]
    split
    · exact .un
    · rename_i h
      by_cases e : i = j
      · subst e; rw [at_un fun z => h ⟨rfl, z⟩]; exact .un
      · have y := (s.rel.sl j).off (List.getElem?_set_ne (a := none) e).symm
        cases q : ρ1.at j with
        | exc c fs => exact .un
        | un => exact .un
        | d x => rw [q] at y; exact y.cold fun c fs z => nomatch z
        | own x => rw [q] at y; exact y.cold fun c fs z => nomatch z
        | bor x => rw [q] at y; exact y.cold fun c fs z => nomatch z
  · exact fun b u hb nb => s.keep b u hb fun w => nb (ow0 w)
  · rw [goneE_at] at z
    split at z
    · cases z
    · rename_i h
      have z := unE_bor z
      by_cases e : i = j
      · subst e; rw [at_un fun z => h ⟨rfl, z⟩] at z; cases z
      · obtain ⟨x, y⟩ := s.brw j c' z
        rw [at_set_ne e] at x
        rw [List.getElem?_set_ne e] at y ⊢
        exact ⟨x, y⟩
end
end EN
/-! Every statement's reading follows from its run. -/
namespace EN
open PySem L2
section
variable {W : WX} {ρ ρ' ρ1 ρ2 : Env} {F F1 F2 F' H H1 H2 H0 H' : Hp} {σ σ' σ1 σ2 : L2.St} {p : Addr} {o : HO} {i j : Nat} {Q : VK} {t u : TE} {ra rb : Env → R IV} {T : Tb} {f : Nat} {Z : Ends}
theorem KF.hot {g : Gam} {q : Option (Addr × Value × Option Addr)} (K : KF g) : KF (g.hot q) := ⟨K.isi, K.ise, K.cls, K.exm, K.cget, K.ctak⟩
theorem RvS.cold {g : Gam} {q : Option (Addr × Value × Option Addr)} {x : V} {v : IV} (h : RvS (g.hot q) F H x v) : RvS g F H x v := by
  cases v with
  | d y => exact Rep.pn (g := (g.hot q).toG0) (g' := g.toG0) rfl rfl rfl rfl rfl h
  | fr c =>
    obtain ⟨p, a, b, c', e, ft⟩ := h
    exact ⟨p, a, b, c', e.pn (g := (g.hot q).toG0) (g' := g.toG0) rfl rfl rfl rfl rfl, ft⟩
  | sl i => exact h
theorem suite_ok {g : Gam} {a : Addr} {c : Nat} {fs : List D} {d : Option Addr} {r : O} (hp : g.pn = none) (rl : Rl g ρ F σ H) (k : GoodO g W Z ρ F σ H (gone i r)) : GoodO (g.hot (some (a, .ref (g.ec c), d))) W0 (endE i Z) (ρ.set i (.exc c fs)) F (σ.set i (some (.ref a))) H r := by
  cases r with
  | nx ρ2 => exact fun σ2 F2 H2 s => k _ F2 H2 (Stp.cold hp rl s)
  | rt v ρ2 => exact fun x σ2 F2 H2 s rv => k x _ F2 H2 (Stp.cold hp rl s) rv.cold
  | bk ρ2 => exact fun σ2 F2 H2 s => k _ F2 H2 (Stp.cold hp rl s)
  | ct ρ2 => exact fun σ2 F2 H2 s => k _ F2 H2 (Stp.cold hp rl s)
  | er c fs ρ2 => exact k.elim
  | no => exact k
variable (fn : Fn)
mutual
theorem sndS : ∀ (s : IS) (g : Gam) (W : WX), KF g → (s.noTry = true ∨ g.pn = none) → SndS g W (rs g fn W s) fun ρ => ex g.T fn g.np s ρ
  | .asg i e, g, W, K, h => ss_asg (snd K fn e W)
  | .asgT is e, g, W, K, h => ss_asgT (snd K fn e W).kept
  | .put i k v, g, W, K, h => ss_put (snd K fn v W).kept (snd K fn k W).kept
  | .putT i ks v, g, W, K, h => ss_putT (snd K fn v W).kept (sndL K fn ks W)
  | .expr e, g, W, K, h => ss_expr (snd K fn e W)
  | .app i e, g, W, K, h => ss_app (snd K fn e W).kept
  | .sadd i e, g, W, K, h => ss_sadd (snd K fn e W).kept
  | .fst i n e, g, W, K, h => ss_fst K (snd K fn e W).kept
  | .ret e, g, W, K, h => ss_ret (snd K fn e W)
  | .retN, g, W, K, h => ss_retN
  | .ifS c a b, g, W, K, h => ss_if (sndT K fn c W) (sndSs a g W K (h.imp_left fun h => (Bool.and_eq_true_iff.mp h).1)) (sndSs b g W K (h.imp_left fun h => (Bool.and_eq_true_iff.mp h).2))
  | .forS i it b, g, W, K, h => ss_for (sndI K fn it W) (sndSs b g W K h)
  | .forT is it b, g, W, K, h => ss_forT (sndI K fn it W) (sndSs b g W K h)
  | .aug i op e, g, W, K, h => ss_aug (snd K fn e W).kept
  | .whl c b, g, W, K, h => ss_while (sndT K fn c W) (sndSs b g W K (.inr (h.elim (fun z => nomatch z) id)))
  | .brk, g, W, K, h => ss_brk
  | .cont, g, W, K, h => ss_cont
  | .pass, g, W, K, h => ss_next
  | .raise c es, g, W, K, h => ss_raise (sndL K fn es W)
  | .tryS b hs, g, W, K, h => fun ρ F σ H Z dm rl k => by
    have hp : g.pn = none := h.elim (fun z => nomatch z) id
    refine sndSs b g (rh g fn W hs Z) K (.inr hp) ρ F σ H Z dm rl ?_
    have k : GoodO g W Z ρ F σ H (match exs g.T fn g.np b ρ with
      | .er c fs ρ => exh g.T fn g.np hs c fs ρ
      | o => o) := k
    show GoodO g (rh g fn W hs Z) Z ρ F σ H (exs g.T fn g.np b ρ)
    cases e : exs g.T fn g.np b ρ with
    | er c fs ρ1 =>
      rw [e] at k
      exact fun d σ' F' H' s x => sndH hs g W K hp ρ1 F' σ' H' Z c fs d (dm.later s) s.rel x (k.later s)
    | _ => rw [e] at k; exact k
theorem sndSs : ∀ (s : ISs) (g : Gam) (W : WX), KF g → (s.noTry = true ∨ g.pn = none) → SndS g W (rss g fn W s) fun ρ => exs g.T fn g.np s ρ
  | .nil, g, W, K, h => ss_next
  | .cons s ss, g, W, K, h => ss_seq (sndS s g W K (h.imp_left fun h => (Bool.and_eq_true_iff.mp h).1)) (sndSs ss g W K (h.imp_left fun h => (Bool.and_eq_true_iff.mp h).2))
theorem sndH : ∀ (hs : IHs) (g : Gam) (W : WX), KF g → g.pn = none → ∀ (ρ : Env) (F : Hp) (σ : L2.St) (H : Hp) (Z : Ends) (c : Nat) (fs : List D) (d : Option Addr), Dm g H → Rl g ρ F σ H → ExF g F d c fs →
    GoodO g W Z ρ F σ H (exh g.T fn g.np hs c fs ρ) → rh g fn W hs Z (.ref (g.ec c)) d σ H
  | .nil, g, W, K, hp, ρ, F, σ, H, Z, c, fs, d, dm, rl, x, k => k d σ F H (Stp.refl rl) x
  | .cons n i s hs, g, W, K, hp, ρ, F, σ, H, Z, c, fs, d, dm, rl, x, k => by
    have k : GoodO g W Z ρ F σ H (if n < g.T.ne ∧ s.noTry = true then match g.T.es c n with
      | true => gone i (exs g.T fn g.np s (ρ.set i (.exc c fs)))
      | false => exh g.T fn g.np hs c fs ρ
      else .no) := k
    split at k
    · rename_i h
      obtain ⟨h1, h2⟩ := h
      refine ⟨_, K.exm c n x.1 h1, fun e a ha => ?_, fun e => ?_⟩
      · rw [e] at k
        exact sndSs s (g.hot (some (a, .ref (g.ec c), d))) W0 K.hot (.inl h2) (ρ.set i (.exc c fs)) F (σ.set i (some (.ref a))) H (endE i Z) dm (Rl.hot hp rl x) (suite_ok hp rl k)
      · rw [e] at k
        exact sndH hs g W K hp ρ F σ H Z c fs d dm rl x k
    · exact k.elim
end
end
end EN
/-! Defs: what a body must bring. -/
namespace EN
open PySem L2
section
variable {g : G0} {F F1 F2 F' H H1 H2 H0 H' : Hp} {p : Addr} {o : HO} {i j : Nat} {Q : VK} {E : XK}
/-- the context of a def's body at an entry -/
def gam (g : G0) (np : Nat) (σ : L2.St) (H : Hp) : Gam := { g with np := np, s0 := σ, h0 := H }
theorem st_at {xs : List V} {n : Nat} : (xs.map some ++ List.replicate n none)[i]? = if i < xs.length then (xs.map some)[i]? else if i < xs.length + n then some none else none := by
  by_cases h : i < xs.length
  · rw [if_pos h, List.getElem?_append_left (by simpa using h)]
  · rw [if_neg h, List.getElem?_append_right (by simpa using Nat.le_of_not_lt h), List.getElem?_replicate, List.length_map]
    by_cases h2 : i < xs.length + n
    · rw [if_pos h2, if_pos (by omega)]
    · rw [if_neg h2, if_neg (by omega)]
theorem env_at {as : Env} {n : Nat} : Env.at (as ++ List.replicate n .un) i = as.at i := by
  unfold Env.at
  rw [List.getD_eq_getElem?_getD, List.getD_eq_getElem?_getD]
  by_cases h : i < as.length
  · rw [List.getElem?_append_left h]
  · rw [List.getElem?_append_right (Nat.le_of_not_lt h), List.getElem?_replicate, List.getElem?_eq_none (Nat.le_of_not_lt h)]
    split <;> rfl
/-- the points at an entry -/
theorem ent_rl {as : Env} {xs : List V} {n : Nat} (e : Ent g as F xs H) : Rl (gam g xs.length (xs.map some ++ List.replicate n none) H) (as ++ List.replicate n .un) F (xs.map some ++ List.replicate n none) H := by
  have lt : ∀ {i}, as.at i ≠ .un → i < xs.length := fun h => by rw [← e.len]; exact at_lt h
  have sσ : ∀ {i}, i < xs.length → (xs.map some ++ List.replicate n none)[i]? = (xs.map some)[i]? := fun h => by rw [st_at, if_pos h]
  have own : ∀ {i q}, Own (as ++ List.replicate n .un) (xs.map some ++ List.replicate n none) i q → Own as (xs.map some) i q := fun {i q} ⟨⟨c, z⟩, w⟩ => by
    rw [env_at] at z
    rw [sσ (lt (by rw [z]; exact fun z => nomatch z))] at w
    exact ⟨⟨c, z⟩, w⟩
  have held : ∀ {i q}, Held (as ++ List.replicate n .un) (xs.map some ++ List.replicate n none) i q → Held as (xs.map some) i q := fun {i q} ⟨z, w⟩ => by
    rw [env_at] at z
    rw [sσ (lt (by rcases z with ⟨c, z⟩ | ⟨c, z⟩ <;> rw [z] <;> exact fun z => nomatch z))] at w
    exact ⟨z, w⟩
  refine ⟨e.same, by simp [e.len], fun i => ?_, fun a b q n x y => e.apart a b q n (own x) (held y), fun a q x _ => x.2, fun a q x h => ?_⟩
  · rw [env_at]
    by_cases h : as.at i = .un
    · rw [h]; exact .un
    · exact (e.sl i).off (sσ (lt h)).symm
  · obtain ⟨⟨c, z⟩, _⟩ := own x
    exact absurd (lt (by rw [z]; exact fun z => nomatch z)) (Nat.not_lt.mpr h)
theorem mask_at : ∀ {as ρ : Env} {j : Nat} {c : Cn}, (mask as ρ).at j = .own c → (∃ c0, as.at j = .own c0) ∧ ρ.at j = .own c
  | [], ρ, j, c, h => by cases h
  | a :: as, [], j, c, h => by
    have : mask (a :: as) [] = [] := by cases a <;> rfl
    rw [this] at h; cases h
  | a :: as, s :: ρ, j, c, h => by
    cases j with
    | zero =>
      cases a with
      | own c0 => exact ⟨⟨c0, rfl⟩, h⟩
      | _ => cases h
    | succ j =>
      have : (mask as ρ).at j = .own c := by cases a <;> exact h
      have r := mask_at (as := as) (ρ := ρ) this
      exact r
/-- what a body leaves -/
theorem out_of {as : Env} {xs : List V} {n : Nat} {ρ' : Env} {σ' : L2.St} (e : Ent g as F xs H) (s : Stp (gam g xs.length (xs.map some ++ List.replicate n none) H) (as ++ List.replicate n .un) F (xs.map some ++ List.replicate n none) H ρ' F' σ' H') : Out g as F xs H (mask as ρ') F' H' := by
  have lt : ∀ {i}, as.at i ≠ .un → i < xs.length := fun h => by rw [← e.len]; exact at_lt h
  have own : ∀ {q}, Ow (as ++ List.replicate n .un) (xs.map some ++ List.replicate n none) q → Ow as (xs.map some) q := fun {q} ⟨i, ⟨c, z⟩, w⟩ => by
    rw [env_at] at z
    rw [st_at, if_pos (lt (by rw [z]; exact fun z => nomatch z))] at w
    exact ⟨i, ⟨c, z⟩, w⟩
  refine ⟨s.rel.same, s.ext, fun a x y => (s.new a x y).imp_right own, fun a u h z => s.keep a u h fun w => z (own w), s.dom, fun j c h => ?_⟩
  obtain ⟨⟨c0, h0⟩, h1⟩ := mask_at h
  have hj := lt (i := j) (by rw [h0]; exact fun z => nomatch z)
  obtain ⟨q, h2, h3, h4, h5⟩ := s.rel.ownAt h1
  have := s.rel.old j q ⟨⟨c, h1⟩, h2⟩ hj
  have this : (xs.map some ++ List.replicate n none)[j]? = some (some (V.ref q)) := this
  rw [st_at, if_pos hj, List.getElem?_map] at this
  cases e2 : xs[j]? with
  | none => rw [e2] at this; cases this
  | some x => rw [e2] at this; cases this; exact ⟨q, rfl, h3, h4, h5⟩
/-- THE RULE for a def: its promise gives its body's reading -/
theorem body_ok {T : Tb} {fds : Nat → Option Fd} {k f : Nat} {fd : Fd} {xs : List V} (K : KF g) (hT : g.T = T) (hfd : fds f = some fd) (hn : g.pn = none ∨ fd.body.noTry = true) (h : spN g (runF T fds (k + 1)) f xs H Q E) :
    xs.length = fd.np ∧ rss g (runF T fds k) (fun cls d _ H => E cls d H) fd.body { nx := fun _ H' => Q .non H', rt := Q } (xs.map some ++ List.replicate (fd.ns - fd.np) none) H := by
  subst hT
  obtain ⟨as, F, e, q⟩ := h
  have hl : as.length = fd.np := by
    by_cases hl : as.length = fd.np
    · exact hl
    · simp only [runF, hfd, if_neg hl] at q
  have hx : xs.length = fd.np := by rw [← e.len]; exact hl
  refine ⟨hx, ?_⟩
  simp only [runF, hfd, if_pos hl] at q
  have rl := ent_rl (n := fd.ns - fd.np) e
  have := sndSs (runF g.T fds k) fd.body (gam g xs.length (xs.map some ++ List.replicate (fd.ns - fd.np) none) H) (fun cls d _ H => E cls d H) K (hn.elim .inr .inl) _ F _ H { nx := fun _ H' => Q .non H', rt := Q } (fun a h => h) rl
  refine this ?_
  have np : (gam g xs.length (xs.map some ++ List.replicate (fd.ns - fd.np) none) H).np = fd.np := hx
  show GoodO _ _ _ _ _ _ _ (exs g.T (runF g.T fds k) (gam g xs.length (xs.map some ++ List.replicate (fd.ns - fd.np) none) H).np fd.body (as ++ List.replicate (fd.ns - fd.np) .un))
  rw [np]
  cases r : exs g.T (runF g.T fds k) fd.np fd.body (as ++ List.replicate (fd.ns - fd.np) .un) with
  | nx ρ' =>
    rw [r] at q
    exact fun σ' F' H' s => q .non F' H' (out_of e s) .non
  | rt v ρ' =>
    rw [r] at q
    exact fun x σ' F' H' s rv => q x F' H' (out_of e s) (by
      cases v with
      | d y => exact rv
      | fr c => exact rv
      | sl i => exact rv)
  | bk ρ' => rw [r] at q; exact q.elim
  | ct ρ' => rw [r] at q; exact q.elim
  | er c fs ρ' =>
    rw [r] at q
    exact fun d σ' F' H' s ex => q d F' H' (out_of e s) ex
  | no => rw [r] at q; exact q.elim
end
end EN
/-! The program's tree beside ours. -/
namespace EN
open PySem L2
/-- the text's names: defs, classes of errors, own classes -/
structure Cc where
  gn : Nat → Str
  /-- which defs may be called (true: while an error is held) -/
  cl : Bool → Nat → Bool
  en : Nat → Str
  cn : Nat → Str
  /-- the module's constants -/
  kn : Nat → Str := fun _ => ""
  /-- the parameters of a def, which may be called by keywords -/
  pn : Nat → List Str := fun _ => []
  kw : Nat → Bool := fun _ => false
  /-- the own class whose def f is -/
  me : Nat → Option Nat := fun _ => none
def visB (sc : Scope) (x : Str) : Bool := match sc.names.lookup x with
  | some .local => true
  | some .cell => true
  | some .free => true
  | _ => false
def glB (sc : Scope) (x : Str) : Bool := decide (sc.names.lookup x = some .globalImplicit) && !(x == ("__debug__" : Str))
def locT (sc : Scope) (x : Str) : Bool := decide (sc.names.lookup x = some .local) || decide (sc.names.lookup x = some .cell)
def locB (sc : Scope) (x : Str) : Bool := decide (sc.names.lookup x = some .local)
def BI.nm : BI → Str
  | .len => "len" | .int => "int" | .sum => "sum" | .list => "list" | .tuple => "tuple" | .str => "str" | .all => "all" | .max => "max" | .set => "set"
/-- also while an error is held -/
def BI.hotOk : BI → Bool
  | .all => false
  | .max => false
  | .set => false
  | _ => true
/-- may be called with nothing -/
def BI.none : BI → Bool
  | .set => true
  | _ => false
def MT.nm : MT → Str
  | .rmp => "removeprefix" | .find => "find" | .join => "join"
def TY.nm (C : Cc) : TY → Str
  | .int => "int" | .str => "str" | .bool => "bool" | .list => "list" | .tuple => "tuple" | .dict => "dict"
  | .cls c => C.cn c | .exc c => C.en c | .ve => "ValueError"
/-- no star -/
def plainE : Expr → Bool
  | .Starred _ _ => false
  | _ => true
def noSlice : Expr → Bool
  | .Slice _ _ _ _ => false
  | _ => true
def noCall : Expr → Bool
  | .Call _ _ _ _ => false
  | _ => true
def noSet : Expr → Bool
  | .Set _ _ _ => false
  | _ => true
def isNil {α : Type} : List α → Bool
  | [] => true
  | _ => false
variable (C : Cc) (T : Tb) (N : List Str)
/-- names of types -/
def cTs (sc : Scope) : List TY → List Expr → Bool
  | [], es => isNil es
  | t :: ts, es => match es with
    | .Name y _ :: es => decide (y = t.nm C) && glB sc y && T.tok t && cTs sc ts es
    | _ => false
def nmB (sc : Scope) (i : Nat) (x : Str) : Bool := decide (N[i]? = some x) && visB sc x && !(x == ("__debug__" : Str)) && !(x == ("__classdict__" : Str))
def tgB (sc : Scope) (i : Nat) (x : Str) : Bool := decide (N[i]? = some x) && locB sc x
/-- a target in a def's body -/
def tgT (sc : Scope) (i : Nat) (x : Str) : Bool := decide (N[i]? = some x) && locT sc x
section
variable (hot : Bool)
mutual
/-- tt: as a test -/
def cE (tt : Bool) (sc : Scope) : IE → Expr → Bool
  | .var i, e => match e with
    | .Name x _ => nmB N sc i x
    | _ => false
  | .lit d, e => match d, e with
    | .non, .Constant .none _ _ => true
    | .bl b, .Constant (.bool b') _ _ => b == b'
    | .int b, .Constant (.int b') _ _ => decide (b = b')
    | .str b, .Constant (.str b') _ _ => decide (b = b')
    | _, _ => false
  | .tup es, e => match e with
    | .Tuple es' _ _ => !tt && cA sc es es'
    | _ => false
  | .lst es, e => match e with
    | .List es' _ => !tt && cA sc es es'
    | _ => false
  | .dct ps, e => match e with
    | .Dict ks vs _ => !tt && cP sc ps ks vs && decide (ks.length ≤ 15) && ks.all (·.isSome) && decide (ks.length = vs.length)
    | _ => false
  | .bin op a b, e => match e with
    | .BinOp a' op' b' _ => decide (op' = op.op) && cE false sc a a' && cE false sc b b'
    | _ => false
  | .neg a, e => match e with
    | .UnaryOp .USub a' _ => !tt && cE false sc a a'
    | _ => false
  | .cmp op a b, e => match e with
    | .Compare a' [op'] [b'] _ => decide (op' = op.op) && cE false sc a a' && cE false sc b b' && noSet b'
    | _ => false
  | .gc n, e => match e with
    | .Name x _ => decide (x = C.kn n) && glB sc x && decide (n < T.nk) && flatD (T.gc n)
    | _ => false
  | .ch op op' a b c, e => match e with
    | .Compare a' [o1, o2] [b', c'] _ => decide (o1 = op.op) && decide (o2 = op'.op) && cE false sc a a' && cE false sc b b' && cE false sc c c' && noSet c'
    | _ => false
  | .bm m a es, e => match e with
    | .Call (.Attribute o n p) es' [] q => decide (n = m.nm) && cE false sc a o && noCall o && cA sc es es' && !isNil es' && decide (es'.length < 30) && p.endLine == q.line
    | _ => false
  | .isN a, e => match e with
    | .Compare a' [.Is] [.Constant .none _ _] _ => cE false sc a a'
    | _ => false
  | .notN a, e => match e with
    | .Compare a' [.IsNot] [.Constant .none _ _] _ => cE false sc a a'
    | _ => false
  | .and a b, e => match e with
    | .BoolOp .And (a' :: b' :: r) p => cE tt sc a a' && (match r with
      | [] => cE tt sc b b'
      | c' :: r => cE tt sc b (.BoolOp .And (b' :: c' :: r) p))
    | _ => false
  | .or a b, e => match e with
    | .BoolOp .Or (a' :: b' :: r) p => cE tt sc a a' && (match r with
      | [] => cE tt sc b b'
      | c' :: r => cE tt sc b (.BoolOp .Or (b' :: c' :: r) p))
    | _ => false
  | .not a, e => match e with
    | .UnaryOp .Not a' _ => cE tt sc a a'
    | _ => false
  | .ife c a b, e => match e with
    | .IfExp c' a' b' _ => !tt && cE true sc c c' && cE false sc a a' && cE false sc b b'
    | _ => false
  | .ix a b, e => match e with
    | .Subscript a' b' _ => cE false sc a a' && cE false sc b b' && noSlice b'
    | _ => false
  | .slc a lo hi, e => match e with
    | .Subscript a' (.Slice lo' hi' none _) _ => !tt && cE false sc a a' && (match lo' with
      | none => lo.nl
      | some l => !lo.nl && cE false sc lo l) && (match hi' with
      | none => hi.nl
      | some l => !hi.nl && cE false sc hi l)
    | _ => false
  | .call f es, e => match e with
    | .Call (.Name x _) es' [] _ => decide (x = C.gn f) && C.cl hot f && glB sc x && cA sc es es' && !isNil es'
    | .Call (.Name x _) [] (k :: ks) _ => decide (x = C.gn f) && C.cl hot f && glB sc x && cK sc es (k :: ks) && !hot && C.kw f && decide ((k :: ks).map (·.arg) = (C.pn f).map some)
    | _ => false
  | .bi f es, e => match e with
    | .Call (.Name x _) es' [] _ => decide (x = f.nm) && glB sc x && cA sc es es' && (!isNil es' || f.none) && (!hot || f.hotOk)
    | _ => false
  | .isi a t, e => match e with
    | .Call (.Name x _) [a', .Name y _] [] _ => decide (x = ("isinstance" : Str)) && glB sc x && cE false sc a a' && plainE a' && decide (y = t.nm C) && glB sc y && T.tok t
    | _ => false
  | .fld a n, e => match e with
    | .Attribute a' n' _ => decide (n' = n) && noCall a' && cE false sc a a'
    | _ => false
  | .lc elt i it hasIf c, e => match e with
    | .ListComp elt' [⟨.Name x _, iter', ifs', k⟩] scope _ => !tt && decide (k = 0) && blkC N sc scope [(x, i)] && tgB N (relS scope sc) i x && cI sc it iter' && cE false (relS scope sc) elt elt' && (match hasIf, ifs' with
      | true, [c'] => cE true (relS scope sc) c c'
      | false, [] => true
      | _, _ => false)
    | _ => false
  | .scnt a lo hi b, e => match e with
    | .Call (.Attribute (.Subscript a' (.Slice lo' hi' none _) _) n p) [b'] [] q => decide (n = ("count" : Str)) && cE false sc a a' && (match lo' with
      | none => lo.nl
      | some l => !lo.nl && cE false sc lo l) && (match hi' with
      | none => hi.nl
      | some l => !hi.nl && cE false sc hi l) && cE false sc b b' && plainE b' && p.endLine == q.line
    | _ => false
  | .isiT a ts, e => match e with
    | .Call (.Name x _) [a', .Tuple ns _ _] [] _ => !hot && decide (x = ("isinstance" : Str)) && glB sc x && cE false sc a a' && plainE a' && cTs C T sc ts ns
    | _ => false
  | .revL a, e => match e with
    | .Call (.Name x _) [.Call (.Name y _) [a'] [] _] [] _ => !hot && decide (x = ("list" : Str)) && glB sc x && decide (y = ("reversed" : Str)) && glB sc y && cE false sc a a' && plainE a'
    | _ => false
  | .revT a, e => match e with
    | .Call (.Name x _) [.Call (.Name y _) [a'] [] _] [] _ => !hot && decide (x = ("tuple" : Str)) && glB sc x && decide (y = ("reversed" : Str)) && glB sc y && cE false sc a a' && plainE a'
    | _ => false
  | .dcT ks v i it hasIf c, e => match e with
    | .DictComp (.Tuple ks' _ _) v' [⟨.Name x _, iter', ifs', k⟩] scope _ => !tt && !hot && decide (k = 0) && blkC N sc scope [(x, i)] && tgB N (relS scope sc) i x && cI sc it iter' && cE false (relS scope sc) v v' && cA (relS scope sc) ks ks' && (match hasIf, ifs' with
      | true, [c'] => cE true (relS scope sc) c c'
      | false, [] => true
      | _, _ => false)
    | _ => false
  | .dctT, e => match e with
    | .Dict [] [] _ => !tt
    | _ => false
  | .new c es, e => match e with
    | .Call (.Name x _) es' [] _ => !hot && decide (x = C.cn c) && decide (c < T.nc) && decide (C.me (T.ini c) = some c) && decide (C.gn (T.ini c) = ("__init__" : Str)) && glB sc x && cA sc es es' && !isNil es'
    | _ => false
  | .inO neg c f a o, e => match e with
    | .Compare a' [op'] [o'] _ => !hot && decide (op' = (match neg with
      | true => CmpOp.NotIn
      | false => CmpOp.In)) && cE false sc a a' && cE false sc o o' && noSet o' && decide (C.me f = some c) && decide (C.gn f = ("__contains__" : Str))
    | _ => false
  | .ixO c f o i, e => match e with
    | .Subscript o' i' _ => !hot && cE false sc o o' && cE false sc i i' && noSlice i' && decide (C.me f = some c) && decide (C.gn f = ("__getitem__" : Str))
    | _ => false
  | .mt c f o es, e => match e with
    | .Call (.Attribute o' n p) es' [] q => !hot && decide (n = C.gn f) && cE false sc o o' && noCall o' && cA sc es es' && !isNil es' && decide (C.me f = some c) && decide (T.mn f = C.gn f) && decide (es'.length < 30) && p.endLine == q.line
    | _ => false
def cA (sc : Scope) : IEs → List Expr → Bool
  | .nil, es => isNil es
  | .cons e es, l => match l with
    | e' :: l => cE false sc e e' && plainE e' && cA sc es l
    | [] => false
def cK (sc : Scope) : IEs → List Keyword → Bool
  | .nil, es => isNil es
  | .cons e es, l => match l with
    | ⟨_, e', _⟩ :: l => cE false sc e e' && cK sc es l
    | [] => false
def cP (sc : Scope) : IEs → List (Option Expr) → List Expr → Bool
  | .nil, ks, vs => isNil ks && isNil vs
  | .cons _ .nil, _, _ => false
  | .cons k (.cons v ps), ks, vs => match ks, vs with
    | some k' :: ks, v' :: vs => cE false sc k k' && cE false sc v v' && cP sc ps ks vs
    | _, _ => false
def cI (sc : Scope) : IT → Expr → Bool
  | .txt a, e => !hot && cE false sc a e && noSet e
  | .e a, e => cE false sc a e && noSet e
  | .rng a, e => match e with
    | .Call (.Name x _) [a'] [] _ => decide (x = ("range" : Str)) && glB sc x && cE false sc a a' && plainE a'
    | _ => false
  | .rng2 a b, e => match e with
    | .Call (.Name x _) [a', b'] [] _ => decide (x = ("range" : Str)) && glB sc x && cE false sc a a' && plainE a' && cE false sc b b' && plainE b'
    | _ => false
end
end
/-- a comprehension -/
def isLc : Expr → Bool
  | .ListComp _ _ _ _ => true
  | .SetComp _ _ _ _ => true
  | .DictComp _ _ _ _ _ => true
  | _ => false
def cNs (sc : Scope) : List Nat → List Expr → Bool
  | [], es => isNil es
  | i :: is, es => match es with
    | .Name x _ :: es => tgT N sc i x && cNs sc is es
    | _ => false
/-- x = [..] on one line -/
def swp (sc : Scope) (x : Str) (p : Pos) : Expr → Bool
  | .DictComp _ _ _ scope q => sc.kind == .function && decide (sc.names.lookup x = some .local) && (p.line == q.line) && !(scope.names.any fun (n, k) => n == x && (k == .local || k == .cell))
  | .ListComp _ _ scope q => sc.kind == .function && decide (sc.names.lookup x = some .local) && (p.line == q.line) && !(scope.names.any fun (n, k) => n == x && (k == .local || k == .cell))
  | _ => false
def oneH : IHs → Bool
  | .cons _ _ _ .nil => true
  | _ => false
def isLcE : IE → Bool
  | .dcT _ _ _ _ _ _ => true
  | .lc _ _ _ _ _ => true
  | _ => false
mutual
def cS (hot : Bool) (sc : Scope) : IS → Stmt → Bool
  | .asg i e, s => match s with
    | .Assign [.Name x p] e' _ => tgT N sc i x && cE C T N hot false sc e e' && (!isLc e' || (!hot && tgB N sc i x && swp sc x p e' && isLcE e))
    | _ => false
  | .asgT is e, s => match s with
    | .Assign [.Tuple ts _ _] e' _ => !hot && cNs N sc is ts && cE C T N hot false sc e e' && !isLc e' && (match e' with
      | .Tuple _ _ _ => false
      | _ => true)
    | _ => false
  | .put i k v, s => match s with
    | .Assign [.Subscript (.Name x _) k' _] v' _ => nmB N sc i x && cE C T N hot false sc k k' && noSlice k' && cE C T N hot false sc v v' && !isLc v'
    | _ => false
  | .putT i ks v, s => match s with
    | .Assign [.Subscript (.Name x _) (.Tuple ks' _ _) _] v' _ => nmB N sc i x && cA C T N hot sc ks ks' && cE C T N hot false sc v v' && !isLc v'
    | _ => false
  | .expr e, s => match s with
    | .Expr e' _ => cE C T N hot false sc e e' && !isLc e'
    | _ => false
  | .app i e, s => match s with
    | .Expr (.Call (.Attribute (.Name x _) m p) [e'] [] q) _ => decide (m = ("append" : Str)) && nmB N sc i x && cE C T N hot false sc e e' && plainE e' && p.endLine == q.line
    | _ => false
  | .sadd i e, s => match s with
    | .Expr (.Call (.Attribute (.Name x _) m p) [e'] [] q) _ => decide (m = ("add" : Str)) && nmB N sc i x && cE C T N hot false sc e e' && plainE e' && p.endLine == q.line
    | _ => false
  | .fst i n e, s => match s with
    | .Assign [.Attribute (.Name x _) n' _] e' _ => decide (n' = n) && nmB N sc i x && cE C T N hot false sc e e' && !isLc e'
    | _ => false
  | .ret e, s => match s with
    | .Return (some e') _ => cE C T N hot false sc e e'
    | _ => false
  | .retN, s => match s with
    | .Return none _ => true
    | _ => false
  | .ifS c a b, s => match s with
    | .If c' a' b' _ => cE C T N hot true sc c c' && cSs hot sc a a' && cSs hot sc b b'
    | _ => false
  | .forS i it b, s => match s with
    | .For (.Name x _) it' b' [] _ => !hot && tgT N sc i x && cI C T N hot sc it it' && cSs hot sc b b'
    | _ => false
  | .forT is it b, s => match s with
    | .For (.Tuple ts _ _) it' b' [] _ => !hot && cNs N sc is ts && cI C T N hot sc it it' && cSs hot sc b b'
    | _ => false
  | .aug i op e, s => match s with
    | .AugAssign (.Name x _) op' e' _ => decide (op' = op.op) && tgT N sc i x && cE C T N hot false sc e e'
    | _ => false
  | .whl c b, s => match s with
    | .While c' b' [] _ => !hot && cE C T N hot true sc c c' && cSs hot sc b b'
    | _ => false
  | .brk, s => match s with
    | .Break _ => true
    | _ => false
  | .cont, s => match s with
    | .Continue _ => true
    | _ => false
  | .pass, s => match s with
    | .Pass _ => true
    | _ => false
  | .raise c es, s => match s with
    | .Raise (some (.Call (.Name x _) es' [] _)) none _ => !hot && decide (x = C.en c) && glB sc x && decide (c < T.ne) && cA C T N hot sc es es' && !isNil es' && decide ((T.ef c).Nodup) && !isNil (T.ef c)
    | _ => false
  | .tryS b hs, s => match s with
    | .Try b' hs' [] [] _ => !hot && cSs hot sc b b' && cHs sc hs hs' && !isNil hs'
    | _ => false
def cSs (hot : Bool) (sc : Scope) : ISs → List Stmt → Bool
  | .nil, l => isNil l
  | .cons s ss, l => match l with
    | s' :: l => cS hot sc s s' && cSs hot sc ss l
    | [] => false
def cHs (sc : Scope) : IHs → List ExceptHandler → Bool
  | .nil, l => isNil l
  | .cons k i s hs, l => match l with
    | .ExceptHandler (some (.Name x _)) (some n) (b :: bs) _ :: l => decide (x = C.en k) && decide (k < T.ne) && glB sc x && tgB N sc i n && s.noTry && cSs true sc s (b :: bs) && cHs sc hs l
    | _ => false
end
end EN
/-! What a family of contexts must offer; then every expression that cE lets pass has its reading. -/
namespace EN
open PySem L2 PySem.Spec PyProof.Rows
/-- what must be known of a context -/
structure Bas (C : Cc) (N : List Str) (g : G0) (X : Cx) (sc : Scope) : Prop where
  K : X.K = g.K
  N : X.N = N
  sc : X.env.scope = sc
  hu : X.A.units + 65 < cLine
  pr : X.prog = g.P
  wd : X.w = g.w
  bl : ∀ x : Str, x ∈ (["len", "int", "sum", "list", "tuple", "isinstance", "range", "str", "bool", "dict", "ValueError", "all", "max", "set", "reversed"] : List Str) → X.mg x = none
  en : ∀ c, c < g.T.ne → X.mg (C.en c) = some (.ref (g.ec c))
  cn : ∀ c, c < g.T.nc → X.mg (C.cn c) = some (.ref (g.oc c))
  kc : ∀ n, n < g.T.nk → ∃ u, X.mg (C.kn n) = some u ∧ RelV (vD (g.T.gc n)) u
/-- a method as it stands in the text, and its promise -/
def FnM (C : Cc) (g : G0) (fn : Fn) (X : Cx) (f c : Nat) : Prop := ∃ (fa : Addr) (fd : FuncData) (ps : List Str) (k : Nat), Meth X.K (g.oc c) (C.gn f) fa ∧ PySem.W.fnIn X.K fa = true ∧ Binds X.K fd ps [] ∧
  FnOk X.prog X.w X.K X.mg X.base (L2N.CX X.prog X.w) k fa fd ps (spN g fn f) ∧ Room (k + 1) X.A
/-- .. and a class -/
def FnI (C : Cc) (g : G0) (fn : Fn) (X : Cx) (c : Nat) : Prop := ∃ (fa : Addr) (fd : FuncData) (ps : List Str) (k : Nat), Mk X.K (g.oc c) fa ∧ Binds X.K fd ps [] ∧
  FnOk X.prog X.w X.K X.mg X.base (L2N.CX X.prog X.w) k fa fd ps (spN g fn (g.T.ini c)) ∧ Room (k + 1) X.A
structure Rul (C : Cc) (N : List Str) (g : G0) (fn : Fn) (hot : Bool) (I : Cx → Expr → Expr → TI → Prop) (P : Cx → Scope → WX → Prop) : Prop where
  bas : ∀ {X sc W}, P X sc W → Bas C N g X sc
  call : ∀ {X sc W} {f : Nat} {e : Expr} {es : List Expr} {t : TA} {p pos : Pos}, P X sc W → C.cl hot f = true → Gl X (C.gn f) → (C.gn f == ("__debug__" : Str)) = false → PA X (e :: es) t → starEach (e :: es) X.env = (false, eval e X.env) :: starEach es X.env → (backTo pos (starEach es X.env)).any (·.1) = false →
    PE X (.Call (.Name (C.gn f) p) (e :: es) [] pos) (tCallS (spN g fn f) (WE W) t)
  callK : ∀ {X sc W} {f : Nat} {k : Keyword} {ks : List Keyword} {t : TA} {p pos : Pos}, hot = false → P X sc W → C.cl false f = true → C.kw f = true → Gl X (C.gn f) → (C.gn f == ("__debug__" : Str)) = false → PK X (k :: ks) t → (k :: ks).map (·.arg) = (C.pn f).map some →
    PE X (.Call (.Name (C.gn f) p) [] (k :: ks) pos) (tCallS (spN g fn f) (WE W) t)
  calm : ∀ {X sc W}, hot = false → P X sc W → X.calm = true
  tk : ∀ {X sc W}, hot = false → P X sc W → Tk X W
  me : ∀ {X sc W} {f c : Nat}, hot = false → P X sc W → C.me f = some c → FnM C g fn X f c
  mki : ∀ {X sc W} {c : Nat}, hot = false → P X sc W → c < g.T.nc → C.me (g.T.ini c) = some c → C.gn (g.T.ini c) = ("__init__" : Str) → FnI C g fn X c
  kcl : ∀ c, c < g.T.nc → Cls g.K (g.oc c)
  mec : ∀ f c, C.me f = some c → c < g.T.nc
  txt : ∀ {X sc W} {tg l : Expr} {tl : TE}, hot = false → P X sc W → PE X l tl → I X tg l (iStr tl)
  bi : ∀ {X sc W} (b : BI), (hot = true → b.hotOk = true) → P X sc W → CallR X b.val (rBI X.K X.prog X.w b)
  isi : ∀ {X sc W}, P X sc W → CallR X (.builtin "isinstance") (rIsX g)
  fld : ∀ {X sc W} {o : Expr} {ta : TE} {n : Str} {pos : Pos}, P X sc W → PE X o ta → attributeBase o n X.env (eval o X.env) = eval o X.env → PE X (.Attribute o n pos) (tFldX g ta n)
  seq : ∀ {X sc W} {tg l : Expr} {tl : TE}, P X sc W → PE X l tl → I X tg l (iSeq X.K tl)
  rng1 : ∀ {X sc W} {tg a : Expr} {ta : TA} {p pos : Pos}, P X sc W → Gl X "range" → X.mg "range" = none → PA X [a] ta → starEach [a] X.env = [(false, eval a X.env)] → I X tg (.Call (.Name "range" p) [a] [] pos) (iRng1 ta)
  rng2 : ∀ {X sc W} {tg a b : Expr} {ta : TA} {p pos : Pos}, P X sc W → Gl X "range" → X.mg "range" = none → PA X [a, b] ta → starEach [a, b] X.env = [(false, eval a X.env), (false, eval b X.env)] → starEach [b] X.env = [(false, eval b X.env)] → I X tg (.Call (.Name "range" p) [a, b] [] pos) (iRng2 ta)
  lc : ∀ {X sc W} {elt iter : Expr} {ifs : List Expr} {scope : Scope} {x : Str} {i : Nat} {p pos : Pos} {wi : TI} {tt : WX → TT} {te : WX → TE}, P X sc W → blkC N sc scope [(x, i)] = true → N[i]? = some x → (relS scope sc).names.lookup x = some .local → I X (.Name x p) iter wi →
    (∀ X' W', P X' (relS scope sc) W' → PTs X' ifs (tt W')) → (∀ X' W', P X' (relS scope sc) W' → PE X' elt (te W')) → (∀ y, foldedSetIterable iter X.env y = pure y) → PE X (.ListComp elt [⟨.Name x p, iter, ifs, 0⟩] scope pos) (tLcW W wi (gName i) tt te [i])
  dcT : ∀ {X sc W} {kx vx iter : Expr} {ifs : List Expr} {scope : Scope} {x : Str} {i : Nat} {p pos : Pos} {wi : TI} {tt : TT} {tk tv : TE}, hot = false → P X sc W → blkC N sc scope [(x, i)] = true → N[i]? = some x → (relS scope sc).names.lookup x = some .local → I X (.Name x p) iter wi →
    (∀ X', P X' (relS scope sc) W0 → PTs X' ifs tt) → (∀ X', P X' (relS scope sc) W0 → PE X' kx tk) → (∀ X', P X' (relS scope sc) W0 → PE X' vx tv) → (∀ y, foldedSetIterable iter X.env y = pure y) → PE X (.DictComp kx vx [⟨.Name x p, iter, ifs, 0⟩] scope pos) (tDcT wi (gName i) tt tk tv [i])
section
variable {C : Cc} {N : List Str} {g : G0} {fn : Fn} {P : Cx → Scope → WX → Prop} {X : Cx} {sc : Scope} {W : WX}
theorem and2 {a b : Bool} (h : (a && b) = true) : a = true ∧ b = true := Bool.and_eq_true_iff.mp h
theorem star_plain {e : Expr} {es : List Expr} {env : PySem.Env} (h : plainE e = true) : starEach (e :: es) env = (false, eval e env) :: starEach es env := by
  cases e <;> first | rfl | cases h
theorem Bas.gl (b : Bas C N g X sc) {x : Str} (h : glB sc x = true) : Gl X x ∧ (x == ("__debug__" : Str)) = false := by
  obtain ⟨h1, h2⟩ := and2 h
  refine ⟨?_, by simpa using h2⟩
  show X.env.scope.names.lookup x = _
  rw [b.sc]
  exact of_decide_eq_true h1
theorem Bas.vis (b : Bas C N g X sc) {x : Str} (h : visB sc x = true) : Vis X.env.scope x := by
  rw [b.sc]
  unfold visB at h
  split at h
  · exact .inl (by assumption)
  · exact .inr (.inl (by assumption))
  · exact .inr (.inr (by assumption))
  · cases h
theorem ad_var (b : Bas C N g X sc) {i : Nat} {x : Str} {p : Pos} (h : nmB N sc i x = true) : PE X (.Name x p) (tVar i) := by
  obtain ⟨h, h4⟩ := and2 h
  obtain ⟨h, h3⟩ := and2 h
  obtain ⟨h1, h2⟩ := and2 h
  exact pe_var (by rw [b.N]; exact of_decide_eq_true h1) (b.vis h2) (by simpa using h3) (by simpa using h4)
theorem plainIx_of {b : Expr} (h : noSlice b = true) : PlainIx b := fun o i => by
  cases b <;> first | rfl | cases h
theorem noMarks {op : CmpOp} {b : Expr} (h : noSet b = true) : behindInMarks op b = false := by
  cases b <;> first | rfl | cases h
theorem PE.toK {e : Expr} {t t' : TE} (h : PE X e t) (e' : t = t') : PE X e t' := e' ▸ h
theorem noBase {o : Expr} {n : Str} {env : PySem.Env} (h : noCall o = true) : attributeBase o n env (eval o env) = eval o env := by
  cases o <;> first | rfl | cases h
theorem noFold {e : Expr} {env : PySem.Env} (h : noSet e = true) : ∀ y, foldedSetIterable e env y = pure y := fun y => by
  cases e <;> first | rfl | cases h
theorem truth_of {e : Expr} {t : TE} (h : PE X e t) (he : ∀ whole, isTrue e X.env whole = (do let v ← whole; standAt e.pos; holding [v] (truthy v))) (hK : X.K = g.K) : PT X e (tTru g.K t) := by
  have := pt_truth h he
  rw [hK] at this
  exact this
theorem cons_of {es : List Expr} (h : isNil es = false) : ∃ e r, es = e :: r := by
  cases es with
  | nil => cases h
  | cons e r => exact ⟨e, r, rfl⟩
theorem BI.boot (b : BI) : (∃ id, b.val = .builtin id ∧ bootBuiltins b.nm = some (.builtin id)) ∨ ∃ T, b.val = .type T ∧ bootBuiltins b.nm = some (.type T) := by
  cases b with
  | len => exact .inl ⟨_, rfl, Boot.len⟩
  | int => exact .inr ⟨_, rfl, Boot.int⟩
  | sum => exact .inl ⟨_, rfl, Boot.sum⟩
  | list => exact .inr ⟨_, rfl, Boot.list⟩
  | tuple => exact .inr ⟨_, rfl, Boot.tuple⟩
  | str => exact .inr ⟨_, rfl, Boot.str⟩
  | all => exact .inl ⟨_, rfl, Boot.all⟩
  | max => exact .inl ⟨_, rfl, Boot.max⟩
  | set => exact .inr ⟨_, rfl, Boot.set⟩
theorem BI.nm_mem (b : BI) : b.nm ∈ (["len", "int", "sum", "list", "tuple", "isinstance", "range", "str", "bool", "dict", "ValueError", "all", "max", "set", "reversed"] : List Str) := by cases b <;> simp [BI.nm]
theorem BI.nm_ne (b : BI) : b.nm ≠ "__name__" := by cases b <;> decide
end
end EN
/-! Every expression that cE lets pass has its reading. -/
namespace EN
open PySem L2 PySem.Spec PyProof.Rows
section
variable {C : Cc} {N : List Str} {g : G0} {fn : Fn} {hot : Bool} {I : Cx → Expr → Expr → TI → Prop} {P : Cx → Scope → WX → Prop} (R : Rul C N g fn hot I P)
theorem ad_ty {X : Cx} {sc : Scope} (b : Bas C N g X sc) {t : TY} {y : Str} {p : Pos} (hy : y = t.nm C) (hg : glB sc y = true) (ht : g.T.tok t = true) : PE X (.Name y p) (tC (tyV g t)) := by
  obtain ⟨g1, g2⟩ := b.gl hg
  subst hy
  have bt : ∀ {n : String}, (t.nm C) ∈ (["len", "int", "sum", "list", "tuple", "isinstance", "range", "str", "bool", "dict", "ValueError", "all", "max", "set", "reversed"] : List Str) → bootBuiltins (t.nm C) = some (.type n) → (t.nm C) ≠ "__name__" → tyV g t = .ty n → PE X (.Name (t.nm C) p) (tC (tyV g t)) := fun hm hb hn e => by
    rw [e]; exact pe_bltn g1 (b.bl _ hm) hb rfl hn g2
  cases t with
  | int => exact bt (by simp [TY.nm]) Boot.int (by simp only [TY.nm]; decide) rfl
  | str => exact bt (by simp [TY.nm]) Boot.str (by simp only [TY.nm]; decide) rfl
  | bool => exact bt (by simp [TY.nm]) Boot.bool (by simp only [TY.nm]; decide) rfl
  | list => exact bt (by simp [TY.nm]) Boot.list (by simp only [TY.nm]; decide) rfl
  | tuple => exact bt (by simp [TY.nm]) Boot.tuple (by simp only [TY.nm]; decide) rfl
  | dict => exact bt (by simp [TY.nm]) Boot.dict (by simp only [TY.nm]; decide) rfl
  | ve => exact bt (by simp [TY.nm]) Boot.«ValueError» (by simp only [TY.nm]; decide) rfl
  | cls c => exact pe_glob g1 (b.cn c (of_decide_eq_true ht)) rfl g2
  | exc c => exact pe_glob g1 (b.en c (of_decide_eq_true ht)) rfl g2
def AD (tt : Bool) (X : Cx) (e : Expr) (t : TE) (u : TT) : Prop := match tt with
  | false => PE X e t
  | true => PT X e u
theorem both {X : Cx} {e : Expr} {t : TE} {tt : Bool} (hK : X.K = g.K) (h : PE X e t) (he : ∀ whole, isTrue e X.env whole = (do let v ← whole; standAt e.pos; holding [v] (truthy v))) : AD tt X e t (tTru g.K t) := by
  cases tt with
  | false => exact h
  | true => exact truth_of h he hK
theorem pw_to {X : Cx} {e : Expr} {t : TT} (h : PW X e t) : PT X e t := ⟨fun pins s σ H Q I q => h.run _ pins s σ H Q I q⟩
theorem pw_of {X : Cx} {op : BoolOp} {b c : Expr} {r : List Expr} {p : Pos} {t : TT} (h : PT X (.BoolOp op (b :: c :: r) p) t) : PW X (.BoolOp op (b :: c :: r) p) t := ⟨fun whole pins s σ H Q I q => by
  have := h.run pins s σ H Q I q
  exact this⟩
theorem pl_all {sc : Scope} {env : PySem.Env} {pos : Pos} : ∀ {es : IEs} {l : List Expr}, cA C g.T N hot sc es l = true → (backTo pos (starEach l env)).any (·.1) = false
  | .nil, l, c => by
    unfold cA at c
    cases l with
    | nil => rfl
    | cons e es => cases c
  | .cons e es, l, c => by
    unfold cA at c
    split at c
    · obtain ⟨c, c3⟩ := and2 c
      obtain ⟨c1, c2⟩ := and2 c
      rw [star_plain c2]
      have := pl_all (env := env) (pos := pos) c3
      show (false || (backTo pos (starEach _ env)).any (·.1)) = false
      rw [this]; rfl
    · cases c
theorem pl_all' {sc : Scope} {env : PySem.Env} : ∀ {es : IEs} {l : List Expr}, cA C g.T N hot sc es l = true → ∀ pos, (backTo pos (starEach l env)).all (fun x => !x.1) = true ∧ (backTo pos (starEach l env)).length = l.length
  | .nil, l, c, pos => by
    unfold cA at c
    cases l with
    | nil => exact ⟨rfl, rfl⟩
    | cons e es => cases c
  | .cons e es, l, c, pos => by
    unfold cA at c
    split at c
    · obtain ⟨c, c3⟩ := and2 c
      obtain ⟨c1, c2⟩ := and2 c
      rw [star_plain c2]
      have := pl_all' (env := env) c3 pos
      refine ⟨?_, congrArg Nat.succ this.2⟩
      show (true && (backTo pos (starEach _ env)).all (fun x => !x.1)) = true
      rw [this.1]; rfl
    · cases c
/-- every argument is plain -/
theorem pl_of {X : Cx} {sc : Scope} {es : IEs} {e : Expr} {r : List Expr} (c : cA C g.T N hot sc es (e :: r) = true) : starEach (e :: r) X.env = (false, eval e X.env) :: starEach r X.env ∧ ∀ pos, (backTo pos (starEach r X.env)).any (·.1) = false := by
  cases es with
  | nil => unfold cA at c; cases c
  | cons a es =>
    unfold cA at c
    obtain ⟨c, c3⟩ := and2 c
    obtain ⟨c1, c2⟩ := and2 c
    exact ⟨star_plain c2, fun pos => pl_all c3⟩
theorem po_of {X : Cx} {sc : Scope} {W : WX} {lo : IE} {lo' : Option Expr} (c : (match lo' with
      | none => lo.nl
      | some l => !lo.nl && cE C g.T N hot false sc lo l) = true) (ih : ∀ l, cE C g.T N hot false sc lo l = true → PE X l (rd (sg g fn) W lo)) : PO X lo' (prt lo.nl (rd (sg g fn) W lo)) := by
  cases lo' with
  | none =>
    have c : lo.nl = true := c
    rw [c]; exact po_none
  | some l =>
    obtain ⟨c5, c6⟩ := and2 c
    have c5 : lo.nl = false := by simpa using c5
    rw [c5]; exact po_some (ih l c6)
theorem ad_tys {X : Cx} {sc : Scope} (b : Bas C N g X sc) : ∀ {ts : List TY} {ns : List Expr}, cTs C g.T sc ts ns = true → PA X ns (tCs (ts.map (tyV g)))
  | [], ns, c => by
    unfold cTs at c
    cases ns with
    | nil => exact pa_nil
    | cons e es => cases c
  | t :: ts, ns, c => by
    unfold cTs at c
    split at c
    · obtain ⟨c, c4⟩ := and2 c
      obtain ⟨c, c3⟩ := and2 c
      obtain ⟨c1, c2⟩ := and2 c
      exact pa_cons (ad_ty b (of_decide_eq_true c1) c2 c3) (ad_tys b c4) rfl
    · cases c
theorem own_hsl {b : Expr} (h : noSlice b = true) : ∀ v i, subscripted b true v i = runValue (.builtin "lifetime.subscript" ⟨[v, i], []⟩) := fun v i => by
  cases b <;> first | rfl | cases h
theorem meth_ht {X : Cx} {o e : Expr} {es : List Expr} {m : Str} {apos pos : Pos} (h : noCall o = true) (hf : methodCallForm ((e :: es).length + ([] : List Keyword).length) (backTo pos (starEach (e :: es) X.env)) (backToKw pos (keywordEach [] X.env)) = true) (hl : (apos.endLine == pos.line) = true) :
    eval (.Call (.Attribute o m apos) (e :: es) [] pos) X.env = (do
      let ov ← eval o X.env
      standAt apos.atName
      let g ← holding [ov] (getMethod ov m (do return (← importBound o X.env).getD true))
      callWith pos g.1 g.2 (backTo pos (starEach (e :: es) X.env)) (backToKw pos (keywordEach [] X.env))) := by
  rw [arm_eval_Call, noBase h]
  simp only [methodCall, calleeOf, methodCallPos, hf, hl, if_true, Bool.not_true, Bool.false_or, pure_bind]
theorem noFalse {X : Cx} : ∀ σ, PassesAt (L2N.CX X.prog X.w) X σ E00 := fun σ pins H s er t I q => by
  obtain ⟨_, _, _, _, _, _, _, _, _, _, _, _, z⟩ := q
  exact z.elim
theorem tests0 {X : Cx} {c : Expr} {t : TT} (h : PT X c t) : PTs X [c] t := pts_one h
include R
mutual
theorem adE : ∀ (e : IE) {X : Cx} {sc : Scope} {W : WX} (h : P X sc W) (tt : Bool) (e' : Expr), cE C g.T N hot tt sc e e' = true → AD tt X e' (rd (sg g fn) W e) (rdT (sg g fn) W e)
  | .var i, X, sc, W, h, tt, e', c => by
    unfold cE at c
    split at c
    · exact both (R.bas h).K (ad_var (R.bas h) c) fun _ => rfl
    · cases c
  | .lit d, X, sc, W, h, tt, e', c => by
    unfold cE at c
    split at c
    · exact both (R.bas h).K pe_non fun _ => rfl
    · cases eq_of_beq c; exact both (R.bas h).K pe_bl fun _ => rfl
    · cases of_decide_eq_true c; exact both (R.bas h).K pe_int fun _ => rfl
    · cases of_decide_eq_true c; exact both (R.bas h).K pe_str fun _ => rfl
    · cases c
  | .tup es, X, sc, W, h, tt, e', c => by
    unfold cE at c
    split at c
    · obtain ⟨c1, c2⟩ := and2 c
      cases tt with
      | true => cases c1
      | false => exact pe_tup (adA es h _ c2)
    · cases c
  | .lst es, X, sc, W, h, tt, e', c => by
    unfold cE at c
    split at c
    · obtain ⟨c1, c2⟩ := and2 c
      cases tt with
      | true => cases c1
      | false => exact pe_lst (adA es h _ c2)
    · cases c
  | .dct ps, X, sc, W, h, tt, e', c => by
    unfold cE at c
    split at c
    · rename_i ks vs pos
      obtain ⟨c, c5⟩ := and2 c
      obtain ⟨c, c4⟩ := and2 c
      obtain ⟨c, c3⟩ := and2 c
      obtain ⟨c1, c2⟩ := and2 c
      cases tt with
      | true => cases c1
      | false =>
        cases ps with
        | nil =>
          unfold cP at c2
          obtain ⟨a, b⟩ := and2 c2
          cases ks with
          | cons k ks => cases a
          | nil =>
            cases vs with
            | cons v vs => cases b
            | nil => exact pe_dnewK
        | cons k ps =>
          refine pe_disp (adP (.cons k ps) h pos _ _ c2) c4 (of_decide_eq_true c5) (fun z => ?_) (of_decide_eq_true c3)
          subst z
          cases ps with
          | nil => unfold cP at c2; cases c2
          | cons v ps => unfold cP at c2; cases c2
    · cases c
  | .bin op a b, X, sc, W, h, tt, e', c => by
    unfold cE at c
    split at c
    · obtain ⟨c, c3⟩ := and2 c
      obtain ⟨c1, c2⟩ := and2 c
      cases of_decide_eq_true c1
      refine both (R.bas h).K ?_ fun _ => rfl
      have ok := rBO_ok (X := X) op
      rw [(R.bas h).K] at ok
      exact pe_op ok (adE a h false _ c2) (adE b h false _ c3)
    · cases c
  | .neg a, X, sc, W, h, tt, e', c => by
    unfold cE at c
    split at c
    · obtain ⟨c1, c2⟩ := and2 c
      cases tt with
      | true => cases c1
      | false => exact pe_un un_neg (adE a h false _ c2)
    · cases c
  | .cmp op a b, X, sc, W, h, tt, e', c => by
    unfold cE at c
    split at c
    · obtain ⟨c, c4⟩ := and2 c
      obtain ⟨c, c3⟩ := and2 c
      obtain ⟨c1, c2⟩ := and2 c
      cases of_decide_eq_true c1
      have ok := rCO_ok (R.bas h).hu op
      rw [(R.bas h).K, (R.bas h).pr, (R.bas h).wd] at ok
      cases tt with
      | false => exact pe_cmpR ok (adE a h false _ c2) (adE b h false _ c3) (noMarks c4)
      | true => exact pt_cmpR ok (adE a h false _ c2) (adE b h false _ c3) (noMarks c4)
    · cases c
  | .gc n, X, sc, W, h, tt, e', c => by
    unfold cE at c
    split at c
    · obtain ⟨c, c4⟩ := and2 c
      obtain ⟨c, c3⟩ := and2 c
      obtain ⟨c1, c2⟩ := and2 c
      cases of_decide_eq_true c1
      obtain ⟨g1, g2⟩ := (R.bas h).gl c2
      obtain ⟨u, m, r⟩ := (R.bas h).kc n (of_decide_eq_true c3)
      exact both (R.bas h).K (pe_glob g1 m r g2) fun _ => rfl
    · cases c
  | .ch op op' a b d, X, sc, W, h, tt, e', c => by
    unfold cE at c
    split at c
    · obtain ⟨c, c6⟩ := and2 c
      obtain ⟨c, c5⟩ := and2 c
      obtain ⟨c, c4⟩ := and2 c
      obtain ⟨c, c3⟩ := and2 c
      obtain ⟨c1, c2⟩ := and2 c
      cases of_decide_eq_true c1
      cases of_decide_eq_true c2
      have ok := rCO_ok (R.bas h).hu op
      have ok' := rCO_ok (R.bas h).hu op'
      rw [(R.bas h).K, (R.bas h).pr, (R.bas h).wd] at ok ok'
      cases tt with
      | false => exact pe_chain ok ok' (adE a h false _ c3) (adE b h false _ c4) (adE d h false _ c5) (noMarks c6)
      | true => exact pt_chain ok ok' (adE a h false _ c3) (adE b h false _ c4) (adE d h false _ c5) (noMarks c6)
    · cases c
  | .bm m a es, X, sc, W, h, tt, e', c => by
    unfold cE at c
    split at c
    · rename_i o n p es' q
      obtain ⟨c, c7⟩ := and2 c
      obtain ⟨c, c6⟩ := and2 c
      obtain ⟨c, c5⟩ := and2 c
      obtain ⟨c, c4⟩ := and2 c
      obtain ⟨c, c3⟩ := and2 c
      obtain ⟨c1, c2⟩ := and2 c
      cases of_decide_eq_true c1
      have pa := adA es h _ c4
      obtain ⟨e, r, rfl⟩ := cons_of (by simpa using c5)
      refine both (R.bas h).K ?_ fun _ => rfl
      have st := pl_of (X := X) c4
      have go : ∀ {name : Str} {id : String}, PySem.Slot "str" name id → typeOf (.builtin id) = pure (.type "method_descriptor") → MtR X id (rMT X.K m) → name = m.nm → PE X (.Call (.Attribute o m.nm p) (e :: r) [] q) (tBM g.K "str" (rMT g.K m) (rd (sg g fn) W a) (rdA (sg g fn) W es)) := fun s1 s2 s3 s4 => by
        subst s4
        have := pe_bm (X := X) (cpos := q) (apos := p) F.plainAttrs_str s1 s2 s3 (adE a h false _ c2) pa (noBase c3) (by
          rw [Bool.and_eq_true, Bool.and_eq_true]
          refine ⟨⟨(pl_all' c4 q).1, rfl⟩, ?_⟩
          exact c6) c7 st.1 (st.2 _)
        rw [(R.bas h).K] at this
        exact this
      cases m with
      | rmp => exact go F.slot_str_removeprefix F.type_str_removeprefix (rMT_ok .rmp) rfl
      | find => exact go F.slot_str_find F.type_str_find (rMT_ok .find) rfl
      | join => exact go F.slot_str_join F.type_str_join (rMT_ok .join) rfl
    · cases c
  | .isN a, X, sc, W, h, tt, e', c => by
    unfold cE at c
    split at c
    · cases tt with
      | false => exact pe_cmp (pc_isN (adE a h false _ c))
      | true => exact pt_cmp (pc_isN (adE a h false _ c))
    · cases c
  | .notN a, X, sc, W, h, tt, e', c => by
    unfold cE at c
    split at c
    · cases tt with
      | false => exact pe_cmp (pc_notN (adE a h false _ c))
      | true => exact pt_cmp (pc_notN (adE a h false _ c))
    · cases c
  | .not a, X, sc, W, h, tt, e', c => by
    unfold cE at c
    split at c
    · cases tt with
      | false =>
        refine ⟨fun pins s σ H Q I q => ?_⟩
        refine (pe_notT (adE a h false _ c)).run pins s σ H Q I ?_
        rw [(R.bas h).K]
        exact q
      | true => exact pt_not (adE a h true _ c)
    · cases c
  | .and a b, X, sc, W, h, tt, e', c => by
    unfold cE at c
    split at c
    · rename_i a' b' r p
      obtain ⟨c1, c2⟩ := and2 c
      cases tt with
      | false =>
        have hb : PE X (.BoolOp .And (b' :: r) p) (rd (sg g fn) W b) := by
          cases r with
          | nil => exact pe_one (adE b h false _ c2)
          | cons c' r => exact adE b h false _ c2
        refine ⟨fun pins s σ H Q I q => ?_⟩
        refine (pe_andT (adE a h false _ c1) hb).run pins s σ H Q I ?_
        rw [(R.bas h).K]
        exact q
      | true =>
        have hb : PW X (.BoolOp .And (b' :: r) p) (rdT (sg g fn) W b) := by
          cases r with
          | nil => exact pw_and1 (adE b h true _ c2)
          | cons c' r => exact pw_of (adE b h true _ c2)
        exact pw_to (pw_and (adE a h true _ c1) hb)
    · cases c
  | .or a b, X, sc, W, h, tt, e', c => by
    unfold cE at c
    split at c
    · rename_i a' b' r p
      obtain ⟨c1, c2⟩ := and2 c
      cases tt with
      | false =>
        have hb : PE X (.BoolOp .Or (b' :: r) p) (rd (sg g fn) W b) := by
          cases r with
          | nil => exact pe_one (adE b h false _ c2)
          | cons c' r => exact adE b h false _ c2
        refine ⟨fun pins s σ H Q I q => ?_⟩
        refine (pe_orT (adE a h false _ c1) hb).run pins s σ H Q I ?_
        rw [(R.bas h).K]
        exact q
      | true =>
        have hb : PW X (.BoolOp .Or (b' :: r) p) (rdT (sg g fn) W b) := by
          cases r with
          | nil => exact pw_or1 (adE b h true _ c2)
          | cons c' r => exact pw_of (adE b h true _ c2)
        exact pw_to (pw_or (adE a h true _ c1) hb)
    · cases c
  | .ife a b d, X, sc, W, h, tt, e', c => by
    unfold cE at c
    split at c
    · obtain ⟨c, c4⟩ := and2 c
      obtain ⟨c, c3⟩ := and2 c
      obtain ⟨c1, c2⟩ := and2 c
      cases tt with
      | true => cases c1
      | false => exact pe_ifExp (adE a h true _ c2) (adE b h false _ c3) (adE d h false _ c4)
    · cases c
  | .ix a b, X, sc, W, h, tt, e', c => by
    unfold cE at c
    split at c
    · obtain ⟨c, c3⟩ := and2 c
      obtain ⟨c1, c2⟩ := and2 c
      refine both (R.bas h).K ?_ fun _ => rfl
      have ok := rIXX_ok (X := X) (by have := (R.bas h).hu; omega)
      rw [(R.bas h).K] at ok
      exact pe_ix ok (adE a h false _ c1) (adE b h false _ c2) (plainIx_of c3)
    · cases c
  | .slc a lo hi, X, sc, W, h, tt, e', c => by
    unfold cE at c
    split at c
    · rename_i a' lo' hi' _ _
      obtain ⟨c, c4⟩ := and2 c
      obtain ⟨c, c3⟩ := and2 c
      obtain ⟨c1, c2⟩ := and2 c
      cases tt with
      | true => cases c1
      | false =>
        have ok := rSLL_ok (X := X)
        rw [(R.bas h).K] at ok
        refine pe_slice ok (adE a h false _ c2) ?_ ?_
        · cases lo' with
          | none =>
            have c3 : lo.nl = true := c3
            rw [c3]; exact po_none
          | some l =>
            obtain ⟨c5, c6⟩ := and2 c3
            have c5 : lo.nl = false := by simpa using c5
            rw [c5]; exact po_some (adE lo h false _ c6)
        · cases hi' with
          | none =>
            have c4 : hi.nl = true := c4
            rw [c4]; exact po_none
          | some l =>
            obtain ⟨c5, c6⟩ := and2 c4
            have c5 : hi.nl = false := by simpa using c5
            rw [c5]; exact po_some (adE hi h false _ c6)
    · cases c
  | .call f es, X, sc, W, h, tt, e', c => by
    unfold cE at c
    split at c
    · rename_i x _ es' _
      obtain ⟨c, c5⟩ := and2 c
      obtain ⟨c, c4⟩ := and2 c
      obtain ⟨c, c3⟩ := and2 c
      obtain ⟨c1, c2⟩ := and2 c
      cases of_decide_eq_true c1
      obtain ⟨g1, g2⟩ := (R.bas h).gl c3
      have pa := adA es h _ c4
      obtain ⟨e, r, rfl⟩ := cons_of (by simpa using c5)
      refine both (R.bas h).K ?_ fun _ => rfl
      have st := pl_of (X := X) c4
      exact R.call h c2 g1 g2 pa st.1 (st.2 _)
    · rename_i x _ k ks _
      obtain ⟨c, c7⟩ := and2 c
      obtain ⟨c, c6⟩ := and2 c
      obtain ⟨c, c5⟩ := and2 c
      obtain ⟨c, c4⟩ := and2 c
      obtain ⟨c, c3⟩ := and2 c
      obtain ⟨c1, c2⟩ := and2 c
      cases of_decide_eq_true c1
      obtain ⟨g1, g2⟩ := (R.bas h).gl c3
      have hh : hot = false := by simpa using c5
      refine both (R.bas h).K ?_ fun _ => rfl
      exact R.callK hh h (by rw [← hh]; exact c2) c6 g1 g2 (adK es h _ c4) (of_decide_eq_true c7)
    · cases c
  | .bi f es, X, sc, W, h, tt, e', c => by
    unfold cE at c
    split at c
    · rename_i x _ es' _
      obtain ⟨c, c9⟩ := and2 c
      obtain ⟨c, c4⟩ := and2 c
      obtain ⟨c, c3⟩ := and2 c
      obtain ⟨c1, c2⟩ := and2 c
      cases of_decide_eq_true c1
      obtain ⟨g1, g2⟩ := (R.bas h).gl c2
      have pa := adA es h _ c3
      have ok := R.bi f (fun z => by rw [z] at c9; simpa using c9) h
      rw [(R.bas h).K, (R.bas h).pr, (R.bas h).wd] at ok
      refine both (R.bas h).K ?_ fun _ => rfl
      cases hn : isNil es' with
      | true =>
        rw [hn] at c4
        have c4 : f.none = true := by simpa using c4
        cases es' with
        | cons a as => cases hn
        | nil =>
          cases es with
          | cons a as => unfold cA at c3; cases c3
          | nil =>
            cases f with
            | set => exact pe_callTy0 ok g1 ((R.bas h).bl _ (BI.nm_mem .set)) Boot.set (BI.nm_ne .set) g2
            | _ => cases c4
      | false =>
      obtain ⟨e, r, rfl⟩ := cons_of hn
      have st := pl_of (X := X) c3
      rcases f.boot with ⟨id, e1, e2⟩ | ⟨T, e1, e2⟩
      · rw [e1] at ok
        exact pe_callB ok g1 ((R.bas h).bl _ f.nm_mem) e2 pa f.nm_ne g2 st.1 (st.2 _)
      · rw [e1] at ok
        exact pe_callTy ok g1 ((R.bas h).bl _ f.nm_mem) e2 pa f.nm_ne g2 st.1 (st.2 _)
    · cases c
  | .isi a t, X, sc, W, h, tt, e', c => by
    unfold cE at c
    split at c
    · rename_i x _ a' y _ _
      obtain ⟨c, c7⟩ := and2 c
      obtain ⟨c, c6⟩ := and2 c
      obtain ⟨c, c5⟩ := and2 c
      obtain ⟨c, c4⟩ := and2 c
      obtain ⟨c, c3⟩ := and2 c
      obtain ⟨c1, c2⟩ := and2 c
      cases of_decide_eq_true c1
      obtain ⟨g1, g2⟩ := (R.bas h).gl c2
      refine both (R.bas h).K ?_ fun _ => rfl
      exact pe_callB (R.isi h) g1 ((R.bas h).bl _ (by simp)) Boot.isinstance (pa_cons (adE a h false _ c3) (pa_cons (ad_ty (R.bas h) (of_decide_eq_true c5) c6 c7) pa_nil rfl) (star_plain c4)) (by decide) g2 (star_plain c4) rfl
    · cases c
  | .fld a n, X, sc, W, h, tt, e', c => by
    unfold cE at c
    split at c
    · obtain ⟨c, c3⟩ := and2 c
      obtain ⟨c1, c2⟩ := and2 c
      cases of_decide_eq_true c1
      exact both (R.bas h).K (R.fld h (adE a h false _ c3) (noBase c2)) fun _ => rfl
    · cases c
  | .lc elt i it hasIf cc, X, sc, W, h, tt, e', c => by
    unfold cE at c
    split at c
    · rename_i elt' x px iter' ifs' k scope pe
      obtain ⟨c, c7⟩ := and2 c
      obtain ⟨c, c6⟩ := and2 c
      obtain ⟨c, c5⟩ := and2 c
      obtain ⟨c, c4⟩ := and2 c
      obtain ⟨c, c3⟩ := and2 c
      obtain ⟨c1, c2⟩ := and2 c
      cases of_decide_eq_true c2
      obtain ⟨t1, t2⟩ := and2 c4
      cases tt with
      | true => cases c1
      | false =>
        have hi := adI it h (.Name x px) iter' c5
        cases hasIf with
        | true =>
          refine R.lc (tt := fun W' => rdT (sg g fn) W' cc) (te := fun W' => rd (sg g fn) W' elt) h c3 (of_decide_eq_true t1) (of_decide_eq_true t2) hi.1 (fun X' W' h' => ?_) (fun X' W' h' => adE elt h' false _ c6) hi.2
          match ifs', c7 with
          | [c'], c7 => exact pts_one (adE cc h' true _ c7)
        | false =>
          refine R.lc (tt := fun _ => tYes) (te := fun W' => rd (sg g fn) W' elt) h c3 (of_decide_eq_true t1) (of_decide_eq_true t2) hi.1 (fun X' W' h' => ?_) (fun X' W' h' => adE elt h' false _ c6) hi.2
          match ifs', c7 with
          | [], c7 => exact pts_nil
    · cases c
  | .dcT ks v i it hasIf cc, X, sc, W, h, tt, e', c => by
    unfold cE at c
    split at c
    · rename_i ks' ck kp v' x px iter' ifs' k scope pe
      obtain ⟨c, c9⟩ := and2 c
      obtain ⟨c, c8⟩ := and2 c
      obtain ⟨c, c6⟩ := and2 c
      obtain ⟨c, c5⟩ := and2 c
      obtain ⟨c, c4⟩ := and2 c
      obtain ⟨c, c3⟩ := and2 c
      obtain ⟨c, c2⟩ := and2 c
      obtain ⟨c1, c0⟩ := and2 c
      cases of_decide_eq_true c2
      obtain ⟨t1, t2⟩ := and2 c4
      cases tt with
      | true => cases c1
      | false =>
        have hi := adI it h (.Name x px) iter' c5
        refine R.dcT (by simpa using c0) h c3 (of_decide_eq_true t1) (of_decide_eq_true t2) hi.1 (fun X' h' => ?_) (fun X' h' => pe_tup (adA ks h' _ c8)) (fun X' h' => adE v h' false _ c6) hi.2
        cases hasIf with
        | true =>
          match ifs', c9 with
          | [c'], c9 => exact pts_one (adE cc h' true _ c9)
        | false =>
          match ifs', c9 with
          | [], c9 => exact pts_nil
    · cases c
  | .scnt a lo hi b, X, sc, W, h, tt, e', c => by
    unfold cE at c
    split at c
    · rename_i a' lo' hi' p2 ps n p b' q
      obtain ⟨c, c7⟩ := and2 c
      obtain ⟨c, c6⟩ := and2 c
      obtain ⟨c, c5⟩ := and2 c
      obtain ⟨c, c4⟩ := and2 c
      obtain ⟨c, c3⟩ := and2 c
      obtain ⟨c1, c2⟩ := and2 c
      cases of_decide_eq_true c1
      refine both (R.bas h).K ?_ fun _ => rfl
      have := pe_scnt (X := X) (p2 := p2) (pos := ps) (apos := p) (cpos := q) (adE a h false _ c2) (po_of c3 fun l z => adE lo h false l z) (po_of c4 fun l z => adE hi h false l z) (pa_cons (adE b h false _ c5) pa_nil (star_plain c6)) rfl (by rw [star_plain c6]; rfl) c7 (star_plain c6) rfl
      rw [(R.bas h).K] at this
      exact this
    · cases c
  | .isiT a ts, X, sc, W, h, tt, e', c => by
    unfold cE at c
    split at c
    · rename_i x _ a' ns _ _ _
      obtain ⟨c, c6⟩ := and2 c
      obtain ⟨c, c5⟩ := and2 c
      obtain ⟨c, c4⟩ := and2 c
      obtain ⟨c, c3⟩ := and2 c
      obtain ⟨c1, c2⟩ := and2 c
      cases of_decide_eq_true c2
      obtain ⟨g1, g2⟩ := (R.bas h).gl c3
      refine both (R.bas h).K ?_ fun _ => rfl
      have ok := call_isiT (X := X)
      rw [(R.bas h).K] at ok
      exact pe_callB ok g1 ((R.bas h).bl _ (by simp)) Boot.isinstance (pa_cons (adE a h false _ c4) (pa_cons (pe_tup (ad_tys (R.bas h) c6)) pa_nil rfl) (star_plain c5)) (by decide) g2 (star_plain c5) rfl
    · cases c
  | .revL a, X, sc, W, h, tt, e', c => by
    unfold cE at c
    split at c
    · obtain ⟨c, c7⟩ := and2 c
      obtain ⟨c, c6⟩ := and2 c
      obtain ⟨c, c5⟩ := and2 c
      obtain ⟨c, c4⟩ := and2 c
      obtain ⟨c, c3⟩ := and2 c
      obtain ⟨c1, c2⟩ := and2 c
      cases of_decide_eq_true c2
      cases of_decide_eq_true c4
      obtain ⟨g1, _⟩ := (R.bas h).gl c3
      obtain ⟨g3, _⟩ := (R.bas h).gl c5
      refine both (R.bas h).K ?_ fun _ => rfl
      show PE X _ (tRevL g.K (rd (sg g fn) W a))
      rw [← (R.bas h).K]
      exact pe_revL (R.calm (by simpa using c1) h) g1 ((R.bas h).bl _ (by simp)) g3 ((R.bas h).bl _ (by simp)) (adE a h false _ c6) (star_plain c7)
    · cases c
  | .revT a, X, sc, W, h, tt, e', c => by
    unfold cE at c
    split at c
    · obtain ⟨c, c7⟩ := and2 c
      obtain ⟨c, c6⟩ := and2 c
      obtain ⟨c, c5⟩ := and2 c
      obtain ⟨c, c4⟩ := and2 c
      obtain ⟨c, c3⟩ := and2 c
      obtain ⟨c1, c2⟩ := and2 c
      cases of_decide_eq_true c2
      cases of_decide_eq_true c4
      obtain ⟨g1, _⟩ := (R.bas h).gl c3
      obtain ⟨g3, _⟩ := (R.bas h).gl c5
      refine both (R.bas h).K ?_ fun _ => rfl
      show PE X _ (tRevT g.K (rd (sg g fn) W a))
      rw [← (R.bas h).K]
      exact pe_revT (R.calm (by simpa using c1) h) g1 ((R.bas h).bl _ (by simp)) g3 ((R.bas h).bl _ (by simp)) (adE a h false _ c6) (star_plain c7)
    · cases c
  | .dctT, X, sc, W, h, tt, e', c => by
    unfold cE at c
    split at c
    · cases tt with
      | true => cases c
      | false => exact pe_dnewT
    · cases c
  | .new k es, X, sc, W, h, tt, e', c => by
    unfold cE at c
    split at c
    · obtain ⟨c, c8⟩ := and2 c
      obtain ⟨c, c7⟩ := and2 c
      obtain ⟨c, c6⟩ := and2 c
      obtain ⟨c, c5⟩ := and2 c
      obtain ⟨c, c4⟩ := and2 c
      obtain ⟨c, c3⟩ := and2 c
      obtain ⟨c1, c2⟩ := and2 c
      cases of_decide_eq_true c2
      have hh : hot = false := by simpa using c1
      obtain ⟨g1, g2⟩ := (R.bas h).gl c6
      have pa := adA es h _ c7
      obtain ⟨e, r, rfl⟩ := cons_of (by simpa using c8)
      have st := pl_of (X := X) c7
      refine both (R.bas h).K ?_ fun _ => rfl
      have hc := of_decide_eq_true c3
      obtain ⟨fa, fd, ps, n, M, b, F, room⟩ := R.mki hh h hc (of_decide_eq_true c4) (of_decide_eq_true c5)
      exact pe_makeS M F room g1 ((R.bas h).cn _ hc) b (R.tk hh h).pass pa g2 st.1 (st.2 _)
    · cases c
  | .inO neg k f a o, X, sc, W, h, tt, e', c => by
    unfold cE at c
    split at c
    · obtain ⟨c, c7⟩ := and2 c
      obtain ⟨c, c6⟩ := and2 c
      obtain ⟨c, c5⟩ := and2 c
      obtain ⟨c, c4⟩ := and2 c
      obtain ⟨c, c3⟩ := and2 c
      obtain ⟨c1, c2⟩ := and2 c
      have hh : hot = false := by simpa using c1
      obtain ⟨fa, fd, ps, n, M, fi, b, F, room⟩ := R.me hh h (of_decide_eq_true c6)
      have e7 : C.gn f = ("__contains__" : Str) := of_decide_eq_true c7
      rw [e7] at M
      have r0 : Room n X.A := room.mono (Nat.le_succ _)
      cases neg with
      | false =>
        cases of_decide_eq_true c2
        have ok := op_ownIn F r0 b noFalse M.at_ M.fn
        cases tt with
        | false => exact pe_cmpR ok (adE a h false _ c3) (adE o h false _ c4) (noMarks c5)
        | true => exact pt_cmpR ok (adE a h false _ c3) (adE o h false _ c4) (noMarks c5)
      | true =>
        cases of_decide_eq_true c2
        have ok := op_ownNotIn F r0 b noFalse M.at_ M.fn
        cases tt with
        | false => exact pe_cmpR ok (adE a h false _ c3) (adE o h false _ c4) (noMarks c5)
        | true => exact pt_cmpR ok (adE a h false _ c3) (adE o h false _ c4) (noMarks c5)
    · cases c
  | .ixO k f o i, X, sc, W, h, tt, e', c => by
    unfold cE at c
    split at c
    · obtain ⟨c, c6⟩ := and2 c
      obtain ⟨c, c5⟩ := and2 c
      obtain ⟨c, c4⟩ := and2 c
      obtain ⟨c, c3⟩ := and2 c
      obtain ⟨c1, c2⟩ := and2 c
      have hh : hot = false := by simpa using c1
      obtain ⟨fa, fd, ps, n, M, fi, b, F, room⟩ := R.me hh h (of_decide_eq_true c5)
      have e7 : C.gn f = ("__getitem__" : Str) := of_decide_eq_true c6
      rw [e7] at M
      refine both (R.bas h).K ?_ fun _ => rfl
      exact pe_ownIx F (room.mono (Nat.le_succ _)) room.in1 b (R.tk hh h).pass M.at_ M.fn fi (adE o h false _ c2) (adE i h false _ c3) (own_hsl c4)
    · cases c
  | .mt k f o es, X, sc, W, h, tt, e', c => by
    unfold cE at c
    split at c
    · obtain ⟨c, c10⟩ := and2 c
      obtain ⟨c, c9⟩ := and2 c
      obtain ⟨c, c8⟩ := and2 c
      obtain ⟨c, c7⟩ := and2 c
      obtain ⟨c, c6⟩ := and2 c
      obtain ⟨c, c5⟩ := and2 c
      obtain ⟨c, c4⟩ := and2 c
      obtain ⟨c, c3⟩ := and2 c
      obtain ⟨c1, c2⟩ := and2 c
      cases of_decide_eq_true c2
      have hh : hot = false := by simpa using c1
      have em := of_decide_eq_true c7
      obtain ⟨fa, fd, ps, n, M, fi, b, F, room⟩ := R.me hh h em
      have pa := adA es h _ c5
      obtain ⟨e, r, rfl⟩ := cons_of (by simpa using c6)
      have st := pl_of (X := X) c5
      have cl := R.kcl k (R.mec f k em)
      rw [← (R.bas h).K] at cl
      refine both (R.bas h).K ?_ fun _ => rfl
      have e8 : g.T.mn f = C.gn f := of_decide_eq_true c8
      show PE X _ (tMethX (g.oc k) (g.T.mn f) (spN g fn f) (WE W) (rd (sg g fn) W o) (rdA (sg g fn) W es))
      rw [e8]
      exact pe_methX (adE o h false _ c3) cl M F (room.mono (Nat.le_succ _)) b (R.tk hh h).pass pa st.1 (st.2 _) (meth_ht c4 (by
        unfold methodCallForm
        rw [Bool.and_eq_true, Bool.and_eq_true]
        exact ⟨⟨(pl_all' c5 _).1, rfl⟩, c9⟩) c10)
    · cases c
theorem adI : ∀ (it : IT) {X : Cx} {sc : Scope} {W : WX} (h : P X sc W) (tg : Expr) (e' : Expr), cI C g.T N hot sc it e' = true → I X tg e' (rdI (sg g fn) W it) ∧ ∀ y, foldedSetIterable e' X.env y = pure y
  | .e a, X, sc, W, h, tg, e', c => by
    unfold cI at c
    obtain ⟨c1, c2⟩ := and2 c
    have := R.seq (tg := tg) h (adE a h false _ c1)
    rw [(R.bas h).K] at this
    exact ⟨this, noFold c2⟩
  | .txt a, X, sc, W, h, tg, e', c => by
    unfold cI at c
    obtain ⟨c, c3⟩ := and2 c
    obtain ⟨c1, c2⟩ := and2 c
    exact ⟨R.txt (by simpa using c1) h (adE a h false _ c2), noFold c3⟩
  | .rng a, X, sc, W, h, tg, e', c => by
    unfold cI at c
    split at c
    · obtain ⟨c, c4⟩ := and2 c
      obtain ⟨c, c3⟩ := and2 c
      obtain ⟨c1, c2⟩ := and2 c
      cases of_decide_eq_true c1
      obtain ⟨g1, g2⟩ := (R.bas h).gl c2
      exact ⟨R.rng1 h g1 ((R.bas h).bl _ (by simp)) (pa_cons (adE a h false _ c3) pa_nil (star_plain c4)) (star_plain c4), fun _ => rfl⟩
    · cases c
  | .rng2 a b, X, sc, W, h, tg, e', c => by
    unfold cI at c
    split at c
    · obtain ⟨c, c6⟩ := and2 c
      obtain ⟨c, c5⟩ := and2 c
      obtain ⟨c, c4⟩ := and2 c
      obtain ⟨c, c3⟩ := and2 c
      obtain ⟨c1, c2⟩ := and2 c
      cases of_decide_eq_true c1
      obtain ⟨g1, g2⟩ := (R.bas h).gl c2
      have s1 : ∀ env, starEach [_, _] env = [(false, eval _ env), (false, eval _ env)] := fun env => (star_plain c4).trans (congrArg _ (star_plain c6))
      exact ⟨R.rng2 h g1 ((R.bas h).bl _ (by simp)) (pa_cons (adE a h false _ c3) (pa_cons (adE b h false _ c5) pa_nil (star_plain c6)) (star_plain c4)) (s1 _) (star_plain c6), fun _ => rfl⟩
    · cases c
theorem adA : ∀ (es : IEs) {X : Cx} {sc : Scope} {W : WX} (h : P X sc W) (es' : List Expr), cA C g.T N hot sc es es' = true → PA X es' (rdA (sg g fn) W es)
  | .nil, X, sc, W, h, es', c => by
    unfold cA at c
    cases es' with
    | nil => exact pa_nil
    | cons e es => cases c
  | .cons e es, X, sc, W, h, es', c => by
    unfold cA at c
    split at c
    · obtain ⟨c, c3⟩ := and2 c
      obtain ⟨c1, c2⟩ := and2 c
      exact pa_cons (adE e h false _ c1) (adA es h _ c3) (star_plain c2)
    · cases c
theorem adK : ∀ (es : IEs) {X : Cx} {sc : Scope} {W : WX} (h : P X sc W) (es' : List Keyword), cK C g.T N hot sc es es' = true → PK X es' (rdA (sg g fn) W es)
  | .nil, X, sc, W, h, es', c => by
    unfold cK at c
    cases es' with
    | nil => exact pk_nil
    | cons e es => cases c
  | .cons e es, X, sc, W, h, es', c => by
    unfold cK at c
    split at c
    · obtain ⟨c1, c2⟩ := and2 c
      exact pk_cons (adE e h false _ c1) (adK es h _ c2)
    · cases c
theorem adP : ∀ (ps : IEs) {X : Cx} {sc : Scope} {W : WX} (h : P X sc W) (pos : Pos) (ks : List (Option Expr)) (vs : List Expr), cP C g.T N hot sc ps ks vs = true → PPs X pos ks vs (rdP (sg g fn) W ps)
  | .nil, X, sc, W, h, pos, ks, vs, c => by
    unfold cP at c
    obtain ⟨a, b⟩ := and2 c
    cases ks with
    | cons k ks => cases a
    | nil =>
      cases vs with
      | cons v vs => cases b
      | nil => exact pps_nil
  | .cons k .nil, X, sc, W, h, pos, ks, vs, c => by unfold cP at c; cases c
  | .cons k (.cons v ps), X, sc, W, h, pos, ks, vs, c => by
    unfold cP at c
    split at c
    · obtain ⟨c, c3⟩ := and2 c
      obtain ⟨c1, c2⟩ := and2 c
      exact pps_cons (adE k h false _ c1) (adE v h false _ c2) (adP ps h pos _ _ c3)
    · cases c
end
end
end EN
/-! Every statement that cS lets pass has its reading. -/
namespace EN
open PySem L2 PySem.Spec PyProof.Rows
structure RulS (C : Cc) (N : List Str) (g : G0) (fn : Fn) (hot : Bool) (I : Cx → Expr → Expr → TI → Prop) (P Q : Cx → Scope → WX → Prop) : Prop where
  R : Rul C N g fn hot I P
  q2p : ∀ {X sc W}, Q X sc W → P X sc W
  nd : N.Nodup
  fnT : ∀ {X sc W}, Q X sc W → ∀ x, X.fn x = true
  kind : ∀ {X sc W}, Q X sc W → X.env.scope.kind = .function
  tup : ∀ {X sc W} {ts : List Expr} {k n : Nat} {t : TGs} {pos : Pos}, hot = false → Q X sc W → PGs X ts t → (assignEach ts X.env).length = n → (assignEach ts X.env).findIdx? (·.1) = none → PG X (.Tuple ts k pos) (gTup X.K n t)
  aug : ∀ {X sc W} {i : Nat} {x : Str} {e : Expr} {te : TE} {op : BO} {p pos : Pos}, Q X sc W → N[i]? = some x → Loc X.env.scope x → PE X e te → PS X (.AugAssign (.Name x p) op.op e pos) (tAug i te (rAug op))
  whl : ∀ {X sc W} {c : Expr} {b : List Stmt} {tc : TT} {tb : TS} {pos : Pos}, hot = false → Q X sc W → PT X c tc → PSs X b tb → PS X (.While c b [] pos) (tWhile tc tb)
  for_ : ∀ {X sc W} {tg iter : Expr} {body : List Stmt} {wi : TI} {gg : TG} {tb : TS} {pos : Pos}, hot = false → Q X sc W → I X tg iter wi → PG X tg gg → PSs X body tb → (∀ x, foldedSetIterable iter X.env x = pure x) → PS X (.For tg iter body [] pos) (tFor wi gg tb)
  raise : ∀ {X sc W} {c : Nat} {e : Expr} {es : List Expr} {t : TA} {p q pos : Pos}, hot = false → Q X sc W → c < g.T.ne → (g.T.ef c).Nodup → g.T.ef c ≠ [] → Gl X (C.en c) → (C.en c == ("__debug__" : Str)) = false → PA X (e :: es) t → starEach (e :: es) X.env = (false, eval e X.env) :: starEach es X.env → (backTo q (starEach es X.env)).any (·.1) = false →
    PS X (.Raise (some (.Call (.Name (C.en c) p) (e :: es) [] q)) none pos) (tRaise g W c t)
  setLc : ∀ {X sc W} {elt iter : Expr} {ifs : List Expr} {scope : Scope} {x y : Str} {i j : Nat} {p py pos spos : Pos} {wi : TI} {tt : WX → TT} {te : WX → TE}, hot = false → Q X sc W → N[j]? = some y → X.env.scope.names.lookup y = some .local → swapsWith (.ListComp elt [⟨.Name x p, iter, ifs, 0⟩] scope pos) (some (.Name y py)) spos.line X.env = pure true →
    blkC N sc scope [(x, i)] = true → N[i]? = some x → (relS scope sc).names.lookup x = some .local → I X (.Name x p) iter wi →
    (∀ X' W', P X' (relS scope sc) W' → PTs X' ifs (tt W')) → (∀ X' W', P X' (relS scope sc) W' → PE X' elt (te W')) → (∀ z, foldedSetIterable iter X.env z = pure z) → PS X (.Assign [.Name y py] (.ListComp elt [⟨.Name x p, iter, ifs, 0⟩] scope pos) spos) (tAsg (tLcW W wi (gName i) tt te [i]) (gName j))
  setDcT : ∀ {X sc W} {kx vx iter : Expr} {ifs : List Expr} {scope : Scope} {x y : Str} {i j : Nat} {p py pos spos : Pos} {wi : TI} {tt : TT} {tk tv : TE}, hot = false → Q X sc W → N[j]? = some y → X.env.scope.names.lookup y = some .local → swapsWith (.DictComp kx vx [⟨.Name x p, iter, ifs, 0⟩] scope pos) (some (.Name y py)) spos.line X.env = pure true →
    blkC N sc scope [(x, i)] = true → N[i]? = some x → (relS scope sc).names.lookup x = some .local → I X (.Name x p) iter wi →
    (∀ X', P X' (relS scope sc) W0 → PTs X' ifs tt) → (∀ X', P X' (relS scope sc) W0 → PE X' kx tk) → (∀ X', P X' (relS scope sc) W0 → PE X' vx tv) → (∀ z, foldedSetIterable iter X.env z = pure z) → PS X (.Assign [.Name y py] (.DictComp kx vx [⟨.Name x p, iter, ifs, 0⟩] scope pos) spos) (tAsg (tDcT wi (gName i) tt tk tv [i]) (gName j))
  try_ : ∀ {X sc W} {b : ISs} {hs : IHs} {b' : List Stmt} {hs' : List ExceptHandler} {pos : Pos}, hot = false → Q X sc W → (∀ X' W', Q X' sc W' → PSs X' b' (rss g fn W' b)) → cHs C g.T N sc hs hs' = true → isNil hs' = false → PS X (.Try b' hs' [] [] pos) (rs g fn W (.tryS b hs))
section
variable {C : Cc} {N : List Str} {g : G0} {fn : Fn} {hot : Bool} {I : Cx → Expr → Expr → TI → Prop} {P Q : Cx → Scope → WX → Prop} (A : RulS C N g fn hot I P Q)
include A
theorem RulS.loc {X : Cx} {sc : Scope} {W : WX} (h : Q X sc W) {i : Nat} {x : Str} (c : tgT N sc i x = true) : X.N[i]? = some x ∧ Loc X.env.scope x := by
  obtain ⟨c1, c2⟩ := and2 c
  have b := A.R.bas (A.q2p h)
  refine ⟨by rw [b.N]; exact of_decide_eq_true c1, ?_⟩
  rw [b.sc]
  unfold locT at c2
  rcases Bool.or_eq_true_iff.mp c2 with c2 | c2
  · exact .inl (of_decide_eq_true c2)
  · exact .inr (of_decide_eq_true c2)
theorem RulS.ndX {X : Cx} {sc : Scope} {W : WX} (h : Q X sc W) : X.N.Nodup := by rw [(A.R.bas (A.q2p h)).N]; exact A.nd
theorem RulS.gname {X : Cx} {sc : Scope} {W : WX} (h : Q X sc W) {i : Nat} {x : Str} {p : Pos} (c : tgT N sc i x = true) : PG X (.Name x p) (gName i) := by
  obtain ⟨a, b⟩ := A.loc h c
  exact pg_name (A.ndX h) a b (.inl (A.fnT h x))
theorem RulS.ad_names {X : Cx} {sc : Scope} {W : WX} (h : Q X sc W) : ∀ {is : List Nat} {ts : List Expr}, cNs N sc is ts = true → PGs X ts (gNames is) ∧ (assignEach ts X.env).length = is.length ∧ (assignEach ts X.env).findIdx? (·.1) = none
  | [], ts, c => by
    unfold cNs at c
    cases ts with
    | nil => exact ⟨pgs_nil, rfl, rfl⟩
    | cons t ts => cases c
  | i :: is, ts, c => by
    unfold cNs at c
    split at c
    · obtain ⟨c1, c2⟩ := and2 c
      obtain ⟨a, b, d⟩ := RulS.ad_names h c2
      refine ⟨pgs_cons (A.gname h c1) a rfl, by show (assignEach _ X.env).length + 1 = _; rw [b]; rfl, ?_⟩
      show List.findIdx? (·.1) ((false, _) :: assignEach _ X.env) = none
      rw [List.findIdx?_cons]
      simp [d]
    · cases c
omit A in
theorem noSwap {e : Expr} {o : Option Expr} {l : Nat} {env : PySem.Env} (h : isLc e = false) : swapsWith e o l env = pure false := by
  cases e <;> first | rfl | cases h
theorem RulS.ad_asg {X : Cx} {sc : Scope} {W : WX} (h : Q X sc W) {tg e : Expr} {te : TE} {gg : TG} {pos : Pos} (he : PE X e te) (hg : PG X tg gg) (hl : isLc e = false) (hw : swappedStores [tg] e X.env = pure none) (h1 : (assignEach [tg] X.env).map (·.2) = [assign tg X.env]) : PS X (.Assign [tg] e pos) (tAsg te gg) :=
  ps_asg he hg (noSwap hl) hw h1
theorem RulS.sw_eq {X : Cx} {sc : Scope} {W : WX} (h : Q X sc W) {elt : Expr} {gens : List Comprehension} {scope : Scope} {x : Str} {p q : Pos} {l : Nat} (c : swp sc x p (.ListComp elt gens scope q) = true) : swapsWith (.ListComp elt gens scope q) (some (.Name x p)) l X.env = pure true := by
  have b := A.R.bas (A.q2p h)
  obtain ⟨c, c4⟩ := and2 c
  obtain ⟨c, c3⟩ := and2 c
  obtain ⟨c1, c2⟩ := and2 c
  have hk := A.kind h
  have e1 : (X.env.blockKind == .function) = true := by
    unfold PySem.Env.blockKind
    rw [hk]; rfl
  have e2 : (X.env.kindOf x == some .local) = true := by
    show (X.env.scope.names.lookup x == some .local) = true
    rw [b.sc, of_decide_eq_true c2]; rfl
  unfold swapsWith
  have c3 : (p.line == (Expr.ListComp elt gens scope q).pos.line) = true := c3
  simp only [e1, e2, c3, c4, Bool.true_and, pure_bind]
theorem RulS.sw_eqD {X : Cx} {sc : Scope} {W : WX} (h : Q X sc W) {kx vx : Expr} {gens : List Comprehension} {scope : Scope} {x : Str} {p q : Pos} {l : Nat} (c : swp sc x p (.DictComp kx vx gens scope q) = true) : swapsWith (.DictComp kx vx gens scope q) (some (.Name x p)) l X.env = pure true := by
  have b := A.R.bas (A.q2p h)
  obtain ⟨c, c4⟩ := and2 c
  obtain ⟨c, c3⟩ := and2 c
  obtain ⟨c1, c2⟩ := and2 c
  have hk := A.kind h
  have e1 : (X.env.blockKind == .function) = true := by
    unfold PySem.Env.blockKind
    rw [hk]; rfl
  have e2 : (X.env.kindOf x == some .local) = true := by
    show (X.env.scope.names.lookup x == some .local) = true
    rw [b.sc, of_decide_eq_true c2]; rfl
  unfold swapsWith
  have c3 : (p.line == (Expr.DictComp kx vx gens scope q).pos.line) = true := c3
  simp only [e1, e2, c3, c4, Bool.true_and, pure_bind]
mutual
theorem adS : ∀ (s : IS) {X : Cx} {sc : Scope} {W : WX} (h : Q X sc W) (s' : Stmt), cS C g.T N hot sc s s' = true → PS X s' (rs g fn W s)
  | .asg i e, X, sc, W, h, s', c => by
    unfold cS at c
    split at c
    · rename_i x p e' pos
      obtain ⟨c, c3⟩ := and2 c
      obtain ⟨c1, c2⟩ := and2 c
      obtain ⟨a, b⟩ := A.loc h c1
      cases hl : isLc e' with
      | false => exact ps_set (A.ndX h) a b (adE A.R e (A.q2p h) false _ c2) (noSwap hl) (.inl (A.fnT h x))
      | true =>
        rw [hl] at c3
        obtain ⟨e3, e5⟩ := and2 c3
        obtain ⟨f3, e4⟩ := and2 e3
        obtain ⟨f0, f3⟩ := and2 f3
        clear c3 e3
        cases e with
        | lc elt j it hasIf cc =>
          unfold cE at c2
          split at c2
          · rename_i elt' x' px iter' ifs' k scope pe _
            obtain ⟨c2, d7⟩ := and2 c2
            obtain ⟨c2, d6⟩ := and2 c2
            obtain ⟨c2, d5⟩ := and2 c2
            obtain ⟨c2, d4⟩ := and2 c2
            obtain ⟨c2, d3⟩ := and2 c2
            obtain ⟨d1, d2⟩ := and2 c2
            cases of_decide_eq_true d2
            obtain ⟨t1, t2⟩ := and2 d4
            have hi := adI A.R it (A.q2p h) (.Name x' px) iter' d5
            have sw := A.sw_eq h (l := pos.line) e4
            have bs := A.R.bas (A.q2p h)
            have y1 := and2 f3
            cases hasIf with
            | true =>
              refine A.setLc (tt := fun W' => rdT (sg g fn) W' cc) (te := fun W' => rd (sg g fn) W' elt) (by simpa using f0) h (of_decide_eq_true y1.1) (by rw [bs.sc]; exact of_decide_eq_true y1.2) sw d3 (of_decide_eq_true t1) (of_decide_eq_true t2) hi.1 (fun X' W' h' => ?_) (fun X' W' h' => adE A.R elt h' false _ d6) hi.2
              match ifs', d7 with
              | [c'], d7 => exact pts_one (adE A.R cc h' true _ d7)
            | false =>
              refine A.setLc (tt := fun _ => tYes) (te := fun W' => rd (sg g fn) W' elt) (by simpa using f0) h (of_decide_eq_true y1.1) (by rw [bs.sc]; exact of_decide_eq_true y1.2) sw d3 (of_decide_eq_true t1) (of_decide_eq_true t2) hi.1 (fun X' W' h' => ?_) (fun X' W' h' => adE A.R elt h' false _ d6) hi.2
              match ifs', d7 with
              | [], d7 => exact pts_nil
          · cases c2
        | dcT ks v j it hasIf cc =>
          unfold cE at c2
          split at c2
          · rename_i ks' ck kp v' x' px iter' ifs' k scope pe _
            obtain ⟨c2, d7⟩ := and2 c2
            obtain ⟨c2, d8⟩ := and2 c2
            obtain ⟨c2, d6⟩ := and2 c2
            obtain ⟨c2, d5⟩ := and2 c2
            obtain ⟨c2, d4⟩ := and2 c2
            obtain ⟨c2, d3⟩ := and2 c2
            obtain ⟨c2, d2⟩ := and2 c2
            obtain ⟨d1, d0⟩ := and2 c2
            cases of_decide_eq_true d2
            obtain ⟨t1, t2⟩ := and2 d4
            have hi := adI A.R it (A.q2p h) (.Name x' px) iter' d5
            have sw := A.sw_eqD h (l := pos.line) e4
            have bs := A.R.bas (A.q2p h)
            have y1 := and2 f3
            refine A.setDcT (by simpa using f0) h (of_decide_eq_true y1.1) (by rw [bs.sc]; exact of_decide_eq_true y1.2) sw d3 (of_decide_eq_true t1) (of_decide_eq_true t2) hi.1 (fun X' h' => ?_) (fun X' h' => pe_tup (adA A.R ks h' _ d8)) (fun X' h' => adE A.R v h' false _ d6) hi.2
            cases hasIf with
            | true =>
              match ifs', d7 with
              | [c'], d7 => exact pts_one (adE A.R cc h' true _ d7)
            | false =>
              match ifs', d7 with
              | [], d7 => exact pts_nil
          · cases c2
        | _ => cases e5
    · cases c
  | .asgT is e, X, sc, W, h, s', c => by
    unfold cS at c
    split at c
    · rename_i ts k p e' pos
      obtain ⟨c, c4⟩ := and2 c
      obtain ⟨c, c3⟩ := and2 c
      obtain ⟨c, c2⟩ := and2 c
      obtain ⟨c0, c1⟩ := and2 c
      obtain ⟨a, b, d⟩ := A.ad_names h c1
      have hg := A.tup (k := k) (pos := p) (by simpa using c0) h a b d
      have K := (A.R.bas (A.q2p h)).K
      rw [K] at hg
      refine A.ad_asg h (adE A.R e (A.q2p h) false _ c2) hg (by simpa using c3) ?_ rfl
      cases e' <;> first | rfl | cases c4
    · cases c
  | .put i k v, X, sc, W, h, s', c => by
    unfold cS at c
    split at c
    · rename_i x px k' p v' pos
      obtain ⟨c, c5⟩ := and2 c
      obtain ⟨c, c4⟩ := and2 c
      obtain ⟨c, c3⟩ := and2 c
      obtain ⟨c1, c2⟩ := and2 c
      have bs := A.R.bas (A.q2p h)
      have st : PSet X rSetX := fun pins s σ H o i v ov iv u Q I ro ri rv q => q.elim (fun q => set_list pins s σ H o i v ov iv u Q I ro ri rv q) fun q => set_dict (by have := bs.hu; omega) pins s σ H o i v ov iv u Q I ro ri rv q
      refine A.ad_asg h (adE A.R v (A.q2p h) false _ c4) (pg_sub (ad_var bs c1) (adE A.R k (A.q2p h) false _ c2) st ?_) (by simpa using c5) rfl rfl
      intro w
      cases k' <;> first | rfl | cases c3
    · cases c
  | .putT i ks v, X, sc, W, h, s', c => by
    unfold cS at c
    split at c
    · rename_i x px ks' p1 p2 p3 v' pos
      obtain ⟨c, c4⟩ := and2 c
      obtain ⟨c, c3⟩ := and2 c
      obtain ⟨c1, c2⟩ := and2 c
      have bs := A.R.bas (A.q2p h)
      have st : PSet X rSetD := set_dict (by have := bs.hu; omega)
      exact A.ad_asg h (adE A.R v (A.q2p h) false _ c3) (pg_sub (ad_var bs c1) (pe_tup (adA A.R ks (A.q2p h) _ c2)) st (fun _ => rfl)) (by simpa using c4) rfl rfl
    · cases c
  | .expr e, X, sc, W, h, s', c => by
    unfold cS at c
    split at c
    · obtain ⟨c1, c2⟩ := and2 c
      exact ps_expr (adE A.R e (A.q2p h) false _ c1) (noSwap (by simpa using c2))
    · cases c
  | .app i e, X, sc, W, h, s', c => by
    unfold cS at c
    split at c
    · rename_i x px m p e' q pos
      obtain ⟨c, c5⟩ := and2 c
      obtain ⟨c, c4⟩ := and2 c
      obtain ⟨c, c3⟩ := and2 c
      obtain ⟨c1, c2⟩ := and2 c
      cases of_decide_eq_true c1
      have bs := A.R.bas (A.q2p h)
      have := pe_bm (X := X) (cpos := q) (apos := p) F.plainAttrs_list F.slot_list_append rfl mt_append (ad_var (p := px) bs c2) (pa_cons (adE A.R e (A.q2p h) false _ c3) pa_nil (star_plain c4)) rfl (by rw [star_plain c4]; rfl) c5 (star_plain c4) rfl
      rw [bs.K] at this
      exact ps_expr this rfl
    · cases c
  | .sadd i e, X, sc, W, h, s', c => by
    unfold cS at c
    split at c
    · rename_i x px m p e' q pos
      obtain ⟨c, c5⟩ := and2 c
      obtain ⟨c, c4⟩ := and2 c
      obtain ⟨c, c3⟩ := and2 c
      obtain ⟨c1, c2⟩ := and2 c
      cases of_decide_eq_true c1
      have bs := A.R.bas (A.q2p h)
      have := pe_saddK (X := X) (cpos := q) (apos := p) (ad_var (p := px) bs c2) (pa_cons (adE A.R e (A.q2p h) false _ c3) pa_nil (star_plain c4)) rfl (by rw [star_plain c4]; rfl) c5 (star_plain c4) rfl
      rw [bs.pr, bs.wd] at this
      exact ps_expr this rfl
    · cases c
  | .fst i n e, X, sc, W, h, s', c => by
    unfold cS at c
    split at c
    · obtain ⟨c, c4⟩ := and2 c
      obtain ⟨c, c3⟩ := and2 c
      obtain ⟨c1, c2⟩ := and2 c
      cases of_decide_eq_true c1
      have bs := A.R.bas (A.q2p h)
      show PS X _ (sFld g.K (tVar i) (rd (sg g fn) W e) n)
      rw [← bs.K]
      exact ps_fld (ad_var bs c2) (adE A.R e (A.q2p h) false _ c3) (noSwap (by simpa using c4))
    · cases c
  | .ret e, X, sc, W, h, s', c => by
    unfold cS at c
    split at c
    · exact ps_ret (adE A.R e (A.q2p h) false _ c)
    · cases c
  | .retN, X, sc, W, h, s', c => by
    unfold cS at c
    split at c
    · exact ps_retN
    · cases c
  | .ifS a b d, X, sc, W, h, s', c => by
    unfold cS at c
    split at c
    · obtain ⟨c, c3⟩ := and2 c
      obtain ⟨c1, c2⟩ := and2 c
      exact ps_if (adE A.R a (A.q2p h) true _ c1) (adSs b h _ c2) (adSs d h _ c3)
    · cases c
  | .forS i it b, X, sc, W, h, s', c => by
    unfold cS at c
    split at c
    · rename_i x px it' b' pos
      obtain ⟨c, c3⟩ := and2 c
      obtain ⟨c, c2⟩ := and2 c
      obtain ⟨c0, c1⟩ := and2 c
      have hi := adI A.R it (A.q2p h) (.Name x px) it' c2
      exact A.for_ (by simpa using c0) h hi.1 (A.gname h c1) (adSs b h _ c3) hi.2
    · cases c
  | .forT is it b, X, sc, W, h, s', c => by
    unfold cS at c
    split at c
    · rename_i ts k p it' b' pos
      obtain ⟨c, c3⟩ := and2 c
      obtain ⟨c, c2⟩ := and2 c
      obtain ⟨c0, c1⟩ := and2 c
      obtain ⟨a, b', d⟩ := A.ad_names h c1
      have hg := A.tup (k := k) (pos := p) (by simpa using c0) h a b' d
      have K := (A.R.bas (A.q2p h)).K
      rw [K] at hg
      have hi := adI A.R it (A.q2p h) (.Tuple ts k p) it' c2
      exact A.for_ (by simpa using c0) h hi.1 hg (adSs b h _ c3) hi.2
    · cases c
  | .aug i op e, X, sc, W, h, s', c => by
    unfold cS at c
    split at c
    · obtain ⟨c, c3⟩ := and2 c
      obtain ⟨c1, c2⟩ := and2 c
      cases of_decide_eq_true c1
      obtain ⟨a, b⟩ := A.loc h c2
      rw [(A.R.bas (A.q2p h)).N] at a
      exact A.aug h a b (adE A.R e (A.q2p h) false _ c3)
    · cases c
  | .whl a b, X, sc, W, h, s', c => by
    unfold cS at c
    split at c
    · obtain ⟨c, c3⟩ := and2 c
      obtain ⟨c1, c2⟩ := and2 c
      exact A.whl (by simpa using c1) h (adE A.R a (A.q2p h) true _ c2) (adSs b h _ c3)
    · cases c
  | .brk, X, sc, W, h, s', c => by
    unfold cS at c
    split at c
    · exact ps_break
    · cases c
  | .cont, X, sc, W, h, s', c => by
    unfold cS at c
    split at c
    · exact ps_continue
    · cases c
  | .pass, X, sc, W, h, s', c => by
    unfold cS at c
    split at c
    · exact ps_pass
    · cases c
  | .raise k es, X, sc, W, h, s', c => by
    unfold cS at c
    split at c
    · rename_i x px es' q pos
      obtain ⟨c, c7⟩ := and2 c
      obtain ⟨c, c6⟩ := and2 c
      obtain ⟨c, c5⟩ := and2 c
      obtain ⟨c, c4⟩ := and2 c
      obtain ⟨c, c3⟩ := and2 c
      obtain ⟨c, c2⟩ := and2 c
      obtain ⟨c0, c1⟩ := and2 c
      cases of_decide_eq_true c1
      obtain ⟨g1, g2⟩ := (A.R.bas (A.q2p h)).gl c2
      have nn : g.T.ef k ≠ [] := fun z => by rw [z] at c7; cases c7
      have pa := adA A.R es (A.q2p h) _ c4
      obtain ⟨e, r, rfl⟩ := cons_of (by simpa using c5)
      have st := pl_of (X := X) c4
      exact A.raise (by simpa using c0) h (of_decide_eq_true c3) (of_decide_eq_true c6) nn g1 g2 pa st.1 (st.2 _)
    · cases c
  | .tryS b hs, X, sc, W, h, s', c => by
    unfold cS at c
    split at c
    · obtain ⟨c, c3⟩ := and2 c
      obtain ⟨c, c2⟩ := and2 c
      obtain ⟨c0, c1⟩ := and2 c
      exact A.try_ (by simpa using c0) h (fun X' W' h' => adSs b h' _ c1) c2 (by simpa using c3)
    · cases c
theorem adSs : ∀ (s : ISs) {X : Cx} {sc : Scope} {W : WX} (h : Q X sc W) (s' : List Stmt), cSs C g.T N hot sc s s' = true → PSs X s' (rss g fn W s)
  | .nil, X, sc, W, h, s', c => by
    unfold cSs at c
    cases s' with
    | nil => exact pss_nil
    | cons a as => cases c
  | .cons s ss, X, sc, W, h, s', c => by
    unfold cSs at c
    split at c
    · obtain ⟨c1, c2⟩ := and2 c
      exact pss_cons (adS s h _ c1) (adSs ss h _ c2)
    · cases c
end
end
end EN
/-! Where no error is held: the family of contexts. -/
namespace EN
open PySem L2 PySem.Spec PyProof.Rows
/-- all parameters by keywords, in order -/
def KwB (K : Frag) (fd : FuncData) (ps : List Str) : Prop := ∀ (s : Shared) (ws : List Value), K.In s.heap → ws.length = ps.length → BindsTo s fd ⟨[], ps.zip ws⟩ (ps.zip ws)
theorem kw_all {env : PySem.Env} {pos : Pos} : ∀ {kws : List Keyword} {ps : List Str}, kws.map (·.arg) = ps.map some → (backToKw pos (keywordEach kws env)).all (·.1.isSome) = true ∧ (backToKw pos (keywordEach kws env)).filterMap (·.1) = ps ∧ (backToKw pos (keywordEach kws env)).any (·.1.isNone) = false
  | [], ps, h => by
    cases ps with
    | nil => exact ⟨rfl, rfl, rfl⟩
    | cons p ps => cases h
  | ⟨a, e, q⟩ :: kws, ps, h => by
    cases ps with
    | nil => cases h
    | cons p ps =>
      simp only [List.map_cons, List.cons.injEq] at h
      obtain ⟨h1, h2⟩ := h
      have h1 : a = some p := h1
      subst h1
      obtain ⟨r1, r2, r3⟩ := kw_all (env := env) (pos := pos) h2
      unfold backToKw at r1 r2 r3 ⊢
      unfold keywordEach
      simp only [List.map_cons, List.all_cons, List.any_cons, List.filterMap_cons]
      refine ⟨by rw [r1]; rfl, by rw [r2], by rw [r3]; rfl⟩
section
variable {X : Cx} {CX : CXT} {k : Nat} {f : Addr} {fd : FuncData} {ps : List Str} {sp : Sp} {E : L2.St → XK} {x : Str} {p pos : Pos} {kw : Keyword} {kws : List Keyword} {t : TA}
theorem pe_callKw (F : FnOk X.prog X.w X.K X.mg X.base CX k f fd ps sp) (hr : Room k X.A) (hg : Gl X x) (hm : X.mg x = some (.ref f)) (hk : PySem.W.keepIn X.K (.ref f) = true) (hb : KwB X.K fd ps) (hx : ∀ σ, L2.PassesAt CX X σ (E σ))
    (hkw : PK X (kw :: kws) t) (hn : (kw :: kws).map (·.arg) = ps.map some) (hdb : (x == ("__debug__" : Str)) = false) : PE X (.Call (.Name x p) [] (kw :: kws) pos) (L2.tCallS sp E t) := by
  obtain ⟨n1, n2, n3⟩ := kw_all (env := X.env) (pos := pos) hn
  refine ⟨fun pins s σ H Q I h => ?_⟩
  refine wpAny_Call_Name_kw (ld_glob I hg hm ?_ hdb)
  refine PySem.W.callWith_KW0 (h₀ := X.base) I.ok.mod.kin hk n1 ?_ (by rw [n3]; rfl)
  refine thn (hkw.run pos pins s σ H _ I h) fun ws s2 ⟨zs, H2, I2, rz, q2⟩ => ⟨I2.kIn, ?_⟩
  rw [n2]
  have hl : ws.length = ps.length := by rw [← rz.length]; exact F.len _ _ _ _ q2
  refine wpAny_call (codeAny_mono (F.run X.A X.stack s2 H2 ⟨[], ps.zip ws⟩ ws zs Q (E σ) hr I2.env0 (hb s2 ws I2.kIn hl) rz q2) fun r s' hq => ?_)
  cases r with
  | error e => exact hx σ pins H2 s2 e s' I2 hq
  | ok fl =>
    cases fl with
    | ret u => exact I2.after hq
    | next => exact False.elim hq
    | brk => exact False.elim hq
    | cont => exact False.elim hq
end
/-- a def as it stands in the text, and its promise -/
def FnF (C : Cc) (g : G0) (fn : Fn) (X : Cx) (f : Nat) : Prop := ∃ (fa : Addr) (fd : FuncData) (ps : List Str) (k : Nat), X.mg (C.gn f) = some (.ref fa) ∧ PySem.W.keepIn X.K (.ref fa) = true ∧ Binds X.K fd ps [] ∧
  FnOk X.prog X.w X.K X.mg X.base (L2N.CX X.prog X.w) k fa fd ps (spN g fn f) ∧ Room k X.A ∧ (C.kw f = true → C.pn f = ps ∧ KwB X.K fd ps)
structure PC (C : Cc) (N : List Str) (g : G0) (fn : Fn) (X : Cx) (sc : Scope) (W : WX) : Prop where
  bas : Bas C N g X sc
  calm : X.calm = true
  nd : N.Nodup
  tk : Tk X W
  ff : ∀ f, C.cl false f = true → FnF C g fn X f
  me : ∀ f c, C.me f = some c → FnM C g fn X f c
  mki : ∀ c, c < g.T.nc → C.me (g.T.ini c) = some c → C.gn (g.T.ini c) = ("__init__" : Str) → FnI C g fn X c
  kcl : ∀ c, c < g.T.nc → Cls g.K (g.oc c)
  mec : ∀ f c, C.me f = some c → c < g.T.nc
section
variable {C : Cc} {N : List Str} {g : G0} {fn : Fn} {X : Cx} {sc : Scope} {W : WX}
theorem pi_seq {tg l : Expr} {tl : TE} (hl : PE X l tl) : PI X tg l (iSeq X.K tl) := by
  refine ⟨fun pins s σ H Z I h => ?_⟩
  refine thn (hl.run pins s σ H _ I h) fun v s1 ⟨x, H1, I1, r1, q1⟩ => ?_
  obtain ⟨a, e, q⟩ := q1
  subst e
  cases r1
  have ok : FpOk X pins H1 s1.heap.objs.size := I1.fpOk (Nat.le_refl _) (I1.hok.fresh (Nat.le_refl _))
  have one : ∀ b ∈ [s1.heap.objs.size], FpOk X pins H1 b := fun b hb => by rw [List.mem_singleton.mp hb]; exact ok
  rcases q with ⟨xs, hq, q⟩ | ⟨xs, hq, q⟩
  · obtain ⟨its, rv, p, hz⟩ := I1.list hq
    exact wpAny_pyIter_list p.isList ⟨_, [s1.heap.objs.size], _, _, H1, rfl, I1.kept (t' := s1.toks) fun b o e => Heap.get?_push_of_some _ e, turn_list a _, ⟨_, Heap.get?_push_size _ rfl, rfl, rfl⟩, one, q⟩
  · obtain ⟨its, rv, p, hz⟩ := I1.tuple hq
    exact wpAny_pyIter_tuple (show s1.heap.IsTuple a its.toArray from p) ⟨_, [s1.heap.objs.size], _, _, H1, rfl, I1.kept (t' := s1.toks) fun b o e => Heap.get?_push_of_some _ e, turn_tuple a _, ⟨_, Heap.get?_push_size _ rfl, rfl, rfl⟩, one, q⟩
theorem Tk.no (tk : Tk X W) {Y : Cx} (hs : Y.stack = X.stack) (hf : Y.env.frame = X.env.frame) : Tk Y W0 := by
  obtain ⟨e0, out, L, h1, h2, h3, _⟩ := tk
  exact tk_none (hs.trans h1) h2 (hf.trans h3)
theorem Bas.blkE (b : Bas C N g X sc) {pn : List (Addr × Obj)} {s : Shared} {H : Hp} {scope : Scope} {A : Addr} {cl : List (Str × Addr)} {fp : List Addr} : Bas C N g (eblk X pn s H scope (compEnvC scope cl A X.env) fp) (relS scope sc) :=
  ⟨b.K, b.N, by
    show relabel scope X.env = relS scope sc
    rw [← b.sc]; rfl, b.hu, b.pr, b.wd, b.bl, b.en, b.cn, b.kc⟩
theorem bas_tgt {Y : Cx} {sc' : Scope} (b : Bas C N g Y sc') (nd : N.Nodup) {i : Nat} {x : Str} {p : Pos} (h1 : N[i]? = some x) (h2 : sc'.names.lookup x = some .local) : PG Y (.Name x p) (gName i) := by
  have h2 : Y.env.scope.names.lookup x = some .local := by rw [b.sc]; exact h2
  exact pg_name (by rw [b.N]; exact nd) (by rw [b.N]; exact h1) (.inl h2) (.inr h2)
theorem PC.blkE (h : PC C N g fn X sc W) {s : Shared} {H : Hp} {scope : Scope} {A : Addr} {cl : List (Str × Addr)} {fp : List Addr} {W' : WX} (tk : Tk (eblk X [] s H scope (compEnvC scope cl A X.env) fp) W') : PC C N g fn (eblk X [] s H scope (compEnvC scope cl A X.env) fp) (relS scope sc) W' where
  bas := h.bas.blkE
  calm := h.calm
  nd := h.nd
  tk := tk
  ff := h.ff
  me := h.me
  mki := h.mki
  kcl := h.kcl
  mec := h.mec
theorem PC.blk (h : PC C N g fn X sc W) {s : Shared} {H : Hp} {scope : Scope} {A : Addr} {cl : List (Str × Addr)} {fp : List Addr} : PC C N g fn (X.blk s H scope (compEnvC scope cl A X.env) fp) (relS scope sc) W0 where
  bas := ⟨h.bas.K, h.bas.N, by
    show relabel scope X.env = relS scope sc
    rw [← h.bas.sc]; rfl, h.bas.hu, h.bas.pr, h.bas.wd, h.bas.bl, h.bas.en, h.bas.cn, h.bas.kc⟩
  calm := h.calm
  nd := h.nd
  tk := h.tk.no rfl rfl
  ff := h.ff
  me := h.me
  mki := h.mki
  kcl := h.kcl
  mec := h.mec
theorem PC.tgt {Y : Cx} {sc' : Scope} (h : PC C N g fn Y sc' W) {i : Nat} {x : Str} {p : Pos} (h1 : N[i]? = some x) (h2 : sc'.names.lookup x = some .local) : PG Y (.Name x p) (gName i) := by
  have h2 : Y.env.scope.names.lookup x = some .local := by rw [h.bas.sc]; exact h2
  exact pg_name (by rw [h.bas.N]; exact h.nd) (by rw [h.bas.N]; exact h1) (.inl h2) (.inr h2)
theorem rulC (hp : g.pn = none) (kcl : ∀ c, c < g.T.nc → Cls g.K (g.oc c)) (mec : ∀ f c, C.me f = some c → c < g.T.nc) : Rul C N g fn false PI (PC C N g fn) where
  bas h := h.bas
  calm _ h := h.calm
  tk _ h := h.tk
  me _ h hm := h.me _ _ hm
  mki _ h a b c := h.mki _ a b c
  kcl := kcl
  mec := mec
  call := fun {X sc W f e es t p pos} h hf g1 g2 pa st pl => by
    obtain ⟨fa, fd, ps, k, m, kp, b, F, r, _⟩ := h.ff f hf
    exact pe_callS (E := WE W) F r g1 m kp b h.tk.pass pa g2 st pl
  callK := fun {X sc W f k ks t p pos} _ h hf hw g1 g2 pk hn => by
    obtain ⟨fa, fd, ps, k, m, kp, b, F, r, hb⟩ := h.ff f hf
    obtain ⟨e, hb⟩ := hb hw
    exact pe_callKw (E := WE W) F r g1 m kp hb h.tk.pass pk (by rw [← e]; exact hn) g2
  txt := fun _ h he => pi_str he
  bi := fun b _ h => rBI_ok b fun _ => h.calm
  isi := fun {X sc W} h pins s σ H xs us Q I r q => by
    rcases q with q | ⟨a, c, d, dd, ws, u, cv, b, z, _⟩
    · rw [← h.bas.K] at q
      exact call_isi pins s σ H xs us Q I r q
    · rw [hp] at z; cases z
  fld := fun {X sc W o ta n pos} h he hb => by
    refine ⟨fun pins s σ H Q I q => ?_⟩
    refine (pe_fld he hb).run pins s σ H Q I ?_
    unfold tFldX at q
    unfold tFld
    rw [h.bas.K]
    have : (fun (x : V) (H1 : Hp) => (∃ a C dx fs v, x = .ref a ∧ H1 a = some (.ins C dx fs) ∧ Cls g.K C ∧ NoAttr g.K C n ∧ fs.lookup n = some v ∧ Q v H1) ∨ ∃ (a : Addr) (c : Nat) (d : Option Addr) (dd : Addr) (ws : List (Str × V)) (v : V), g.pn = some (a, .ref (g.ec c), d) ∧ c < g.T.ne ∧ (∃ k, k < g.T.ne ∧ n ∈ g.T.ef k) ∧ x = .ref a ∧ d = some dd ∧ H1 dd = some (.xd ws) ∧ ws.lookup n = some v ∧ Q v H1) =
        fun x H1 => ∃ a C dx fs v, x = .ref a ∧ H1 a = some (.ins C dx fs) ∧ Cls g.K C ∧ NoAttr g.K C n ∧ fs.lookup n = some v ∧ Q v H1 := by
      funext x H1
      refine propext ⟨fun z => z.elim id fun ⟨a, c, d, dd, ws, v, z, _⟩ => ?_, .inl⟩
      rw [hp] at z; cases z
    rw [this] at q
    exact q
  seq := fun h hl => pi_seq hl
  rng1 := fun h g1 m pa st => pi_range1 g1 m pa st
  rng2 := fun h g1 m pa st st2 => pi_range2 g1 m pa st st2
  dcT := fun {X sc W kx vx iter ifs scope x i p pos wi tt tk tv} hot h hb h1 h2 hi ht hk he hs => by
    have bs := h.bas
    have bo : BlkOk X.N X.env.scope scope [(x, i)] := by rw [bs.N, bs.sc]; exact blkOk_by hb
    exact pe_dcT h.calm (by have := bs.hu; omega) (by rw [bs.N]; exact h.nd) hi bo (fun s H A cl fp => PC.tgt h.blk h1 h2) (fun s H A cl fp => ht _ h.blk) (fun s H A cl fp => hk _ h.blk) (fun s H A cl fp => he _ h.blk) hs
  lc := fun {X sc W elt iter ifs scope x i p pos wi tt te} h hb h1 h2 hi ht he hs => by
    have bs := h.bas
    have bo : BlkOk X.N X.env.scope scope [(x, i)] := by rw [bs.N, bs.sc]; exact blkOk_by hb
    exact pe_lcE h.calm (by rw [bs.N]; exact h.nd) h.tk hi bo (fun s H A cl fp => bas_tgt bs.blkE h.nd h1 h2) (fun s H A cl fp W' tk => ht _ _ (h.blkE tk)) (fun s H A cl fp W' tk => he _ _ (h.blkE tk)) hs
end
end EN
/-! Errors made: their class's __init__ keeps its arguments. -/
namespace EN
open PySem L2 PySem.Spec PyProof.Rows
/-- what __init__ of the c-th class promises -/
def spI (g : G0) (c : Nat) : Sp := fun xs H Q _ => ∃ (a : Addr) (vs : List V), xs = .ref a :: vs ∧ vs.length = (g.T.ef c).length ∧ vs.length ≤ 20 ∧ (g.T.ef c) ≠ [] ∧ H a = some (exo a (g.ec c) none) ∧
  ∀ dx, H dx = none → dx ≠ a → Q .non (upd (upd H dx (exd dx ((g.T.ef c).zip vs).reverse)) a (exo a (g.ec c) (some dx)))
/-- a class of errors as it stands in the text -/
def ErF (C : Cc) (g : G0) (X : Cx) (c : Nat) : Prop := OexC X.K (g.ec c) ∧ ((g.T.ef c) ≠ [] → ∃ (fI : Addr) (fd : FuncData) (ps : List Str) (k : Nat), PySem.W.findIn X.K (.ref (g.ec c)) "__init__" = some (some (.ref fI)) ∧ PySem.W.typeIn X.K (.ref fI) = some (.type "function") ∧
  FnOk X.prog X.w X.K X.mg X.base (L2N.CX X.prog X.w) k fI fd ps (spI g c) ∧ Room (k + 1) X.A ∧ Binds X.K fd ps [])
section
variable {C : Cc} {N : List Str} {g : G0} {fn : Fn} {X : Cx} {sc : Scope} {W : WX}
theorem passN : Passes (L2N.CX X.prog X.w) X E0 := fun _ _ _ _ _ _ _ h => by
  obtain ⟨_, _, _, _, _, _, _, _, _, _, _, _, z⟩ := h
  exact z.elim
theorem heap_eq {H : Hp} {a dx : Addr} {o1 o2 o3 : HO} (ha : H a = none) (hd : H dx = none) (ne : dx ≠ a) (fs : List (Str × V)) : upd (del (upd (upd (upd H a o1) dx o2) a o3) a) dx (.xd fs) = upd H dx (.xd fs) := by
  funext b
  by_cases h1 : b = dx
  · subst h1; rw [upd_same, upd_same]
  · rw [upd_ne h1, upd_ne h1]
    by_cases h2 : b = a
    · subst h2; rw [del_same, ha]
    · rw [del_ne h2, upd_ne h2, upd_ne h1, upd_ne h2]
theorem look_append {n : Str} : ∀ {l r : List (Str × V)}, (l ++ r).lookup n = match l.lookup n with
    | some v => some v
    | none => r.lookup n
  | [], r => rfl
  | (m, v) :: l, r => by
    simp only [List.cons_append, List.lookup_cons]
    cases n == m with
    | true => rfl
    | false => exact look_append
theorem look_none {n : Str} : ∀ {l : List (Str × V)}, n ∉ l.map (·.1) → l.lookup n = none
  | [], _ => rfl
  | (m, v) :: l, h => by
    simp only [List.map_cons, List.mem_cons, not_or] at h
    simp only [List.lookup_cons]
    rw [show (n == m) = false from by simpa using h.1]
    exact look_none h.2
theorem zip_rev {n : Str} {v : V} : ∀ {ns : List Str} {vs : List V}, ns.Nodup → (ns.zip vs).lookup n = some v → ((ns.zip vs).reverse).lookup n = some v
  | [], vs, _, h => by cases h
  | m :: ns, [], _, h => by cases h
  | m :: ns, w :: vs, nd, h => by
    obtain ⟨n1, n2⟩ := List.nodup_cons.mp nd
    simp only [List.zip_cons_cons, List.reverse_cons, List.lookup_cons] at h ⊢
    rw [look_append]
    cases e : n == m with
    | true =>
      rw [e] at h
      cases h
      have hm := eq_of_beq e
      subst hm
      have : (ns.zip vs).reverse.lookup n = none := look_none fun z => by
        rw [List.map_reverse, List.mem_reverse] at z
        obtain ⟨p, hp, rfl⟩ := List.mem_map.mp z
        exact n1 (List.of_mem_zip hp).1
      rw [this]
      simp
    | false =>
      rw [e] at h
      rw [zip_rev n2 h]
/-- C(e, ..): a new error -/
theorem pmkN {c : Nat} {e : Expr} {es : List Expr} {ta : TA} {p q : Pos} (b : Bas C N g X sc) (hc : c < g.T.ne) (F : ErF C g X c) (hnd : (g.T.ef c).Nodup) (ne : g.T.ef c ≠ []) (g1 : Gl X (C.en c)) (g2 : (C.en c == ("__debug__" : Str)) = false) (ha : PA X (e :: es) ta)
    (he : starEach (e :: es) X.env = (false, eval e X.env) :: starEach es X.env) (hpl : (backTo q (starEach es X.env)).any (·.1) = false) :
    L2N.PMk X (.Call (.Name (C.en c) p) (e :: es) [] q) fun σ H Q => ta σ H fun xs H1 => xs.length = (g.T.ef c).length ∧ xs.length ≤ 20 ∧ c < g.T.ne ∧ ∀ dd ws, H1 dd = none → (∀ n v, ((g.T.ef c).zip xs).lookup n = some v → ws.lookup n = some v) → Q (.ref (g.ec c)) (some dd) (upd H1 dd (.xd ws)) := by
  intro pins s σ H Q I h
  obtain ⟨T, hI⟩ := F
  obtain ⟨nm, qq, M, bs, bm, sn, sub, ab, col, dd, k0, k1, k2, k3, k5, hC, hbm⟩ := T.cls
  refine wpAny_Call_Name_kw (ld_glob I g1 (b.en c hc) ?_ g2)
  refine PySem.W.callWith_K (h₀ := X.base) I.ok.mod.kin T.kC (thn (ha.run q pins s σ H _ I h) fun us s1 ⟨vs, H1, I1, r1, l1, l2, _, q1⟩ => ⟨I1.kIn, ?_⟩) he hpl
  obtain ⟨fI, fd, ps, k, iC, tI, F1, hr, hb⟩ := hI ne
  show wpAny _ _ (call (.ref (g.ec c)) us) _ _ _
  obtain ⟨hp, gg, dr, tk, os⟩ := s1
  generalize hA : hp.objs.size + 1 = a
  have hsz : hp.objs.size ≤ a := by omega
  have hn : H1 a = none := I1.hok.fresh hsz
  have kk : ∀ b o, hp.get? b = some o → ((hp.push (PySem.W.kdv_tup us)).push (PySem.HandSPX.excO (g.ec c) hp.objs.size)).get? b = some o := fun b o e => Heap.get?_push_of_some _ (Heap.get?_push_of_some _ e)
  have hget : ((hp.push (PySem.W.kdv_tup us)).push (PySem.HandSPX.excO (g.ec c) hp.objs.size)).get? a = some (PySem.HandSPX.excO (g.ec c) hp.objs.size) := by subst hA; heap_get
  have I2 : Inv X pins σ (upd H1 a (exo a (g.ec c) none)) ⟨(hp.push (PySem.W.kdv_tup us)).push (PySem.HandSPX.excO (g.ec c) hp.objs.size), gg, dr, tk, os⟩ :=
    I1.laid (t' := tk) (a := a) (o := exo a (g.ec c) none) kk hsz (exo_ok hget)
  have hq : spI g c (.ref a :: vs) (upd H1 a (exo a (g.ec c) none)) (fun v H2 => v = .non ∧ ∃ (d : Addr) (fs : List (Str × V)), H2 a = some (exo a (g.ec c) (some d)) ∧ H2 d = some (exd d fs) ∧ H1 d = none ∧ Q (.ref (g.ec c)) (some d) (upd (del H2 a) d (.xd fs))) E0 := by
    refine ⟨a, vs, rfl, l1, l2, ne, upd_same, fun dx hd na => ⟨rfl, dx, _, upd_same, by rw [upd_ne na, upd_same], ?_, ?_⟩⟩
    · rw [upd_ne na] at hd; exact hd
    · rw [upd_ne na] at hd
      rw [heap_eq hn hd na]
      exact q1 dx _ hd fun n v hv => zip_rev hnd hv
  have r2 : Vals (V.ref a :: vs) (Value.ref a :: us) := .cons rfl r1
  have hl : (Value.ref a :: us ++ ([] : List Value)).length = ps.length := by
    rw [List.append_nil, ← r2.length, F1.len _ _ _ _ hq]
  have hus : us.length ≤ sizeLine := by
    rw [← Paired.length r1, sizeLine_eq]
    omega
  have bd := hb ⟨(hp.push (PySem.W.kdv_tup us)).push (PySem.HandSPX.excO (g.ec c) hp.objs.size), gg, dr, tk, os⟩ (Value.ref a :: us) I2.kIn hl
  rw [List.append_nil] at bd
  subst hA
  refine wpAny_call (PySem.HandSPX.call_own F.excBase_ValueError (fun Y => PySem.HandSPX.refsVE_contains Y bm hbm) (I1.kIn _ _ hC) (PySem.W.looks_findIn I1.kIn iC) (fun self => PySem.W.bind_fn I1.kIn self tI) hus
    (codeAny_mono (F1.run _ X.stack _ _ ⟨Value.ref (hp.objs.size + 1) :: us, []⟩ (Value.ref (hp.objs.size + 1) :: us) _ _ E0 (hr.make (g.ec c) us []) (I2.env0.make (g.ec c) us []) bd r2 hq) fun r s' hq' => ?_))
  cases r with
  | error er => exact passN pins σ _ _ er s' I2 hq'
  | ok fl =>
    cases fl with
    | ret u =>
      obtain ⟨v, H2, os2, bare2, un2, hok2, rv, ev, d, fs, ea, ed, hd1, q2⟩ := hq'
      subst ev
      obtain ⟨h2, g2, d2, t2, os'⟩ := s'
      obtain ⟨t0, G, J, kG, ge, hoe, na⟩ := mk_end0 (d2 := d2) (t2 := t2) I1 hsz kk un2 hok2 os2 bare2 ea ed hd1
      exact ⟨rv, _, _, _, ⟨G, g2, d2, t2, os'⟩, _, .ref (g.ec c), some d, rfl, J, kG, ge, hoe, ⟨rfl, rfl, fun w e => by cases e; rfl⟩, rfl, rfl, na, rfl, bare2, raises_own T.exC T.tyC, q2⟩
    | next => exact False.elim hq'
    | brk => exact False.elim hq'
    | cont => exact False.elim hq'
/-- raise C(e, ..) -/
theorem raiseC {c : Nat} {e : Expr} {es : List Expr} {t : TA} {p q pos : Pos} (b : Bas C N g X sc) (hcalm : X.calm = true) (tk : L2N.Takes X W) (hc : c < g.T.ne) (F : ErF C g X c) (hnd : (g.T.ef c).Nodup) (hne : g.T.ef c ≠ []) (g1 : Gl X (C.en c)) (g2 : (C.en c == ("__debug__" : Str)) = false) (ha : PA X (e :: es) t)
    (he : starEach (e :: es) X.env = (false, eval e X.env) :: starEach es X.env) (hpl : (backTo q (starEach es X.env)).any (·.1) = false) :
    PS X (.Raise (some (.Call (.Name (C.en c) p) (e :: es) [] q)) none pos) (tRaise g W c t) := L2N.ps_raise (W := W) hcalm tk (pmkN (p := p) b hc F hnd hne g1 g2 ha he hpl)
end
end EN
/-! Bodies of defs where no error is held. -/
namespace EN
open PySem L2 PySem.Spec PyProof.Rows
/-- a suite that holds an error: what its body must have -/
def HotS (C : Cc) (N : List Str) (g : G0) (fn : Fn) (X : Cx) (sc : Scope) : Prop := ∀ (a : Addr) (oe : Obj) (cls : Value) (d : Option Addr) (pn : List (Addr × Obj)) (s : ISs) (s' : List Stmt), L2N.Zn cls d oe → (∃ vs, oe.data = .fields vs) → cSs C g.T N true sc s s' = true → s.noTry = true →
  PSs (X.suite a ((a, oe) :: pn)) s' (rss { g with pn := some (a, cls, d) } fn W0 s)
structure QC (C : Cc) (N : List Str) (g : G0) (fn : Fn) (X : Cx) (sc : Scope) (W : WX) : Prop extends PC C N g fn X sc W where
  fnT : ∀ x, X.fn x = true
  kind : X.env.scope.kind = .function
  own : PassesOwn (model X.prog X.w) X.A X.env X.xe
  stk : X.stack = X.env :: X.outer
  frm : X.env.frame = some X.env.locals
  er : ∀ c, c < g.T.ne → ErF C g X c
  hot : HotS C N g fn X sc
section
variable {C : Cc} {N : List Str} {g : G0} {fn : Fn} {X : Cx} {sc : Scope} {W : WX}
theorem QC.tr (h : QC C N g fn X sc W) {pn : List (Addr × Obj)} {xe : Value → Shared → Prop} {W' : WX} (tk : L2N.Takes (X.tr pn xe) W') (po : PassesOwn (model X.prog X.w) X.A X.env xe) : QC C N g fn (X.tr pn xe) sc W' where
  bas := ⟨h.bas.K, h.bas.N, h.bas.sc, h.bas.hu, h.bas.pr, h.bas.wd, h.bas.bl, h.bas.en, h.bas.cn, h.bas.kc⟩
  calm := h.calm
  nd := h.nd
  tk := Tk.of h.stk h.frm tk
  ff := h.ff
  me := h.me
  mki := h.mki
  kcl := h.kcl
  mec := h.mec
  fnT := h.fnT
  kind := h.kind
  own := po
  stk := h.stk
  frm := h.frm
  er := h.er
  hot := h.hot
theorem hs_of (h : QC C N g fn X sc W) : ∀ {hs : IHs} {hs' : List ExceptHandler}, cHs C g.T N sc hs hs' = true → ∃ l, Cls' X hs' l ∧ ∀ D, wCl X.K W D l = rh g fn W hs D
  | .nil, hs', hc => by
    unfold cHs at hc
    cases hs' with
    | nil => exact ⟨[], .nil, fun _ => rfl⟩
    | cons a as => cases hc
  | .cons k i s hs, hs', hc => by
    unfold cHs at hc
    split at hc
    · rename_i x px n b0 bs ph l
      obtain ⟨hc, c7⟩ := and2 hc
      obtain ⟨hc, c6⟩ := and2 hc
      obtain ⟨hc, c5⟩ := and2 hc
      obtain ⟨hc, c4⟩ := and2 hc
      obtain ⟨hc, c3⟩ := and2 hc
      obtain ⟨c1, c2⟩ := and2 hc
      cases of_decide_eq_true c1
      have hk := of_decide_eq_true c2
      obtain ⟨g1, g2⟩ := h.bas.gl c3
      obtain ⟨t1, t2⟩ := and2 c4
      obtain ⟨l', k', e'⟩ := hs_of h c7
      refine ⟨(.ref (g.ec k), i, fun a cls d => rss { g with pn := some (a, cls, d) } fn W0 s) :: l', .cons (by rw [h.bas.N]; exact of_decide_eq_true t1) (by show X.env.scope.names.lookup n = _; rw [h.bas.sc]; exact of_decide_eq_true t2) ⟨g1, g2, .inl (h.bas.en k hk)⟩
        (fun a oe cls d pn z hd => h.hot a oe cls d pn s (b0 :: bs) z hd c6 c5) k', fun D => ?_⟩
      unfold wCl
      funext cls d σ H
      rw [e' D, h.bas.K]
      rfl
    · cases hc
theorem rulSC (hp : g.pn = none) (nd : N.Nodup) (kcl : ∀ c, c < g.T.nc → Cls g.K (g.oc c)) (mec : ∀ f c, C.me f = some c → c < g.T.nc) : RulS C N g fn false PI (PC C N g fn) (QC C N g fn) where
  R := rulC hp kcl mec
  q2p h := h.toPC
  nd := nd
  fnT h := h.fnT
  kind h := h.kind
  tup := fun _ h pg hl hs => pg_tup h.calm pg hl hs
  aug := fun {X sc W i x e te op p pos} h hi hx he => ps_aug (by rw [h.bas.N]; exact nd) (by rw [h.bas.N]; exact hi) hx he (rAug_ok op) (.inl (h.fnT x))
  whl := fun _ h hc hb => ps_while h.own hc hb
  for_ := fun _ h hi hg hb hs => ps_for h.own h.calm hi hg hb hs
  raise := fun {X sc W c e es t p q pos} _ h hc nd ne g1 g2 pa st pl => raiseC h.bas h.calm (h.tk.takes h.frm) hc (h.er c hc) nd ne g1 g2 pa st pl
  setLc := fun {X sc W elt iter ifs scope x y i j p py pos spos wi tt te} _ h hj hy sw hb h1 h2 hi ht he hs => by
    have bs := h.bas
    have bo : BlkOk X.N X.env.scope scope [(x, i)] := by rw [bs.N, bs.sc]; exact blkOk_by hb
    exact ps_setLcE h.calm (by rw [bs.N]; exact h.nd) h.tk (by rw [bs.N]; exact hj) hy sw hi bo (fun s H A cl fp => bas_tgt bs.blkE h.nd h1 h2) (fun s H A cl fp W' tk => ht _ _ (h.toPC.blkE tk)) (fun s H A cl fp W' tk => he _ _ (h.toPC.blkE tk)) hs
  setDcT := fun {X sc W kx vx iter ifs scope x y i j p py pos spos wi tt tk tv} _ h hj hy sw hb h1 h2 hi ht hk he hs => by
    have bs := h.bas
    have bo : BlkOk X.N X.env.scope scope [(x, i)] := by rw [bs.N, bs.sc]; exact blkOk_by hb
    exact ps_setDcT h.calm (by have := bs.hu; omega) (by rw [bs.N]; exact h.nd) (by rw [bs.N]; exact hj) hy sw hi bo (fun s H A cl fp => PC.tgt h.toPC.blk h1 h2) (fun s H A cl fp => ht _ h.toPC.blk) (fun s H A cl fp => hk _ h.toPC.blk) (fun s H A cl fp => he _ h.toPC.blk) hs
  try_ := fun {X sc W b hs b' hs' pos} _ h hb hc ho => by
    obtain ⟨l, k, e⟩ := hs_of (W := W) h hc
    match hs', ho, hc, k with
    | h₀ :: hs', _, hc, k =>
      have q := ps_tryAs (pos := pos) (tb := fun W' => rss g fn W' b) (W := W) h.stk h.frm (by rw [h.bas.N]; exact nd) (h.tk.takes h.frm) (fun W' pn xe tk po => hb _ _ (h.tr tk po)) k
      refine ⟨fun pins s0 σ H D I r => q.run pins s0 σ H D I ?_⟩
      rw [e D]
      exact r
end
end EN
/-! Where an error is held: rules. -/
namespace EN
open PySem PySem.Spec PyProof.Rows L2
/-- an error class, as its held instances are looked at -/
structure HotK (K : PySem.W.Frag) (g : G0) (D : Addr) : Prop where
  c : ExcC K D
  no : ∀ n, (∃ k, k < g.T.ne ∧ n ∈ g.T.ef k) → PySem.W.findIn K (.ref D) n = some none
section
variable {X : Cx} {g : G0} {a D dd : Addr} {oe : Obj} {pins : List (Addr × Obj)} {σ : L2.St} {H : Hp} {s : Shared} {ws : List (Str × V)}
/-- the held error as the heap has it -/
theorem held_inst (I : Inv X pins σ H s) (hp : (a, oe) ∈ X.pn) (hz : L2N.Zn (.ref D) (some dd) oe) (hf : ∃ vs, oe.data = .fields vs) (hx : H dd = some (.xd ws)) :
    ∃ od, PySem.W.InstAt s.heap a oe D (some od) ∧ ∀ n v, ws.lookup n = some v → ∃ u, PySem.W.lookIn n od = some (some u) ∧ L2.RelV v u := by
  obtain ⟨here, _⟩ := I.pin (a, oe) (List.mem_append_left _ hp)
  obtain ⟨vs, hd⟩ := hf
  obtain ⟨mA, ns, rel⟩ := (show ObjOk X.prog X.w H s.heap dd (.xd ws) from I.hok dd _ hx)
  obtain ⟨od, ho, hl⟩ := lookIn_ns ns
  refine ⟨od, ⟨here, hz.1, by unfold PySem.W.notCls; rw [hd] <;> rfl, by rw [hz.2.1]; exact ho⟩, fun n v e => ?_⟩
  obtain ⟨u, hu, ru⟩ := RelO.some_of (v := v) (o := mA n) (by rw [← e]; exact rel n)
  exact ⟨u, by rw [hl, hu], ru⟩
/-- isinstance of any value, of the held error -/
theorem hot_isi {d : Option Addr} {cl : Value} (hK : X.K = g.K) (hg : g.pn = some (a, cl, d)) (hp : (a, oe) ∈ X.pn) (hz : L2N.Zn cl d oe) (hf : ∃ vs, oe.data = .fields vs) (F : ∀ c, c < g.T.ne → HotK X.K g (g.ec c)) : CallR X (.builtin "isinstance") (rIsX g) := by
  intro pins s σ H xs us Q I r q
  rcases q with q | ⟨a', c, d', dd, ws, u, cv, b, e1, c0, rfl, hu, e2, hx, kt, q⟩
  · rw [← hK] at q
    exact call_isi pins s σ H xs us Q I r q
  · rw [hg] at e1
    cases e1
    subst e2
    cases r with
    | cons rx r =>
      cases r with
      | cons rt r =>
        cases r
        cases rx
        cases hu.eq rt
        obtain ⟨od, J, _⟩ := held_inst I hp hz hf hx
        have T := (F c c0).c
        rw [← hK] at kt
        refine PySem.W.kia_one (PySem.W.kitx_exc ?_ T.hg T.hk T.hs T.ha T.hn T.ht T.hm) I.kIn J kt (fun z => nomatch z) fun tk => ⟨.bl b, H, I.tok tk, rfl, q⟩
        obtain ⟨cd, h1, _⟩ := PySem.W.any_some T.hd
        rw [h1]; rfl
/-- e.n of an instance, of the held error -/
theorem hot_fld {d : Option Addr} {cl : Value} {o : Expr} {ta : TE} {n : Str} {pos : Pos} (hK : X.K = g.K) (hg : g.pn = some (a, cl, d)) (hp : (a, oe) ∈ X.pn) (hz : L2N.Zn cl d oe) (hf : ∃ vs, oe.data = .fields vs) (F : ∀ c, c < g.T.ne → HotK X.K g (g.ec c))
    (he : PE X o ta) (hb : attributeBase o n X.env (eval o X.env) = eval o X.env) : PE X (.Attribute o n pos) (tFldX g ta n) := by
  refine ⟨fun pins s σ H Q I h => ?_⟩
  refine attr_of hb (thn (he.run pins s σ H _ I h) fun u s1 ⟨x, H1, I1, rx, q⟩ => ?_)
  rcases q with ⟨b, C, dx, fs, v, ex, ea, cl, nn, l, q⟩ | ⟨a', c, d', dd, ws, v, e1, c0, hn, ex, e2, hx, l, q⟩
  · subst ex
    obtain rfl : u = Value.ref b := rx
    rw [← hK] at cl nn
    exact getattr_ok I1 ea cl nn l fun u' s2 I2 ru => ⟨v, H1, I2, ru, q⟩
  · rw [hg] at e1
    cases e1
    subst e2 ex
    obtain rfl : u = Value.ref a := rx
    obtain ⟨od, J, hl⟩ := held_inst I1 hp hz hf hx
    obtain ⟨w, hw, rw'⟩ := hl n v l
    have T := F c c0
    exact HandSPX.exc_get I1.kIn J T.c.hg T.c.hk T.c.hs (PySem.W.findObj_own T.c.hd (T.no n hn) rfl hw) (handed_of rw') ⟨v, H1, I1.tok _, rw', q⟩
end
end EN
/-! Where an error is held: the end of a walk. -/
namespace EN
open PySem PySem.Spec PyProof.Rows L2 HotX
section
variable {prog : Program} {w : World} {A : Around} {E : Value → Shared → Prop} {s : Shared}
/-- StopIteration, raised while an error is held -/
theorem stopH {α : Type} {x1 : Addr} {Q : α → Shared → Prop} (hot : HotAt A x1 s.heap)
    (k : ∀ (a : Addr) (o : Obj) (h' : Heap), h'.get? a = some o → o.cls = .type "StopIteration" → (∀ b u, s.heap.get? b = some u → h'.get? b = some u) → E (.ref a) { s with heap := h' }) :
    wpAny (model prog w) A (newExc (.type "StopIteration") [] >>= fun e => (raiseNew e : Sem α)) Q E s := by
  obtain ⟨h0, o1, vs1, there, d1, c1⟩ := hot
  refine wpAny_bind ?_
  simp only [newTuple, newExc]
  refine wpAny_bind (wpAny_newObj_type ?_ (by size_fits))
  have first0 : firstArgMember (.type "StopIteration") [] = (pure Value.none : Sem Value) := by
    first
      | rfl
      | (simp only [firstArgMember]; rfl)
  refine wpAny_bind (wpAny_of_eq first0 ?_)
  refine wpAny_newObj_type ?_ (by size_fits)
  have g1 := Heap.get?_push_of_some { cls := .type "tuple", dict := none, data := .seq ([] : List Value).toArray } there
  have lt1 := Heap.lt_size g1
  refine raiseNew_hot (x1 := x1) ⟨h0, o1, vs1, Heap.get?_push_of_some _ g1, d1, c1⟩ (Nat.ne_of_lt lt1) (Heap.get?_push_size _ rfl) rfl ?_ ?_
  · first
      | (simp; done)
      | (simp; omega)
      | (simp only [Array.size_append]; simp; omega)
  · refine k _ _ _ (Heap.get?_update_self _ (Heap.get?_push_size _ rfl) rfl) rfl fun b u e => ?_
    have e2 := Heap.get?_push_of_some { cls := .type "tuple", dict := none, data := .seq ([] : List Value).toArray } e
    exact (Heap.get?_update_other _ _ (Nat.ne_of_gt (Heap.lt_size e2))).trans (Heap.get?_push_of_some _ e2)
/-- a tuple's walk ends -/
theorem tupEndH {it t x1 : Addr} {i : Nat} {items : Array Value} {Q : Option Value → Shared → Prop} (hot : HotAt A x1 s.heap) (ne : x1 ≠ it) (hit : s.heap.IsTupleIter it t i) (ht : s.heap.IsTuple t items) (hx : items[i]? = none)
    (hQ : ∀ h', Heap.ExtBut it s.heap h' → Q none { s with heap := h' }) : wpAny (model prog w) A (pyNext (.ref it)) Q E s := by
  obtain ⟨o, ho, hc, hd⟩ := id hit
  obtain ⟨ol, hol, _, nl, hdl⟩ := ht
  obtain ⟨h0, o1, vs1, there, d1, c1⟩ := hot
  have tys := hit.typeIs
  unfold pyNext
  refine wpAny_bind (wpAny_attempt (wpAny_callSpecial?_slot (name := Str.ofString "__next__") tys F.slot_tuple_iterator_next (wpAny_call_entry F.slot_tuple_iterator_next tys F.entry_tuple_iterator_next ?_ (F.args_tuple_iterator_next_1 _))))
  change wpAny _ _ (field (.ref it) 0 >>= _) _ _ _
  refine wpAny_bind (wpAny_field ho hd (x := .ref t) rfl ?_)
  change wpAny _ _ (if (Value.ref t == Value.none) = true then _ else _) _ _ _
  rw [if_neg (show ¬ ((Value.ref t == Value.none) = true) from Bool.false_ne_true)]
  change wpAny _ _ (field (.ref it) 1 >>= _) _ _ _
  refine wpAny_bind (wpAny_field ho hd (x := .int i 0) rfl ?_)
  change wpAny _ _ (seqItems? (.ref t) >>= _) _ _ _
  refine wpAny_bind (wpAny_seqItems hol hdl ?_)
  simp only [Int.toNat_natCast, hx]
  refine wpAny_bind (wpAny_rule (wpAny_bind (wpAny_setField ho hd (by simp) ?_)))
  refine stopH (x1 := x1) ⟨h0, o1, vs1, (Heap.get?_update_other _ _ ne.symm).trans there, d1, c1⟩ fun a oa h' ha hca keep => ?_
  refine wpAny_bind (wpAny_isInstance (T := "StopIteration") (b := true) ⟨_, ha, hca⟩ isSubtype_stop (wpAny_pure (hQ _ fun b u hb e => keep b u ?_)))
  exact (Heap.get?_update_other _ _ (Ne.symm hb)).trans e
/-- a list's walk ends -/
theorem lstEndH {it l x1 : Addr} {i : Nat} {items : Array Value} {Q : Option Value → Shared → Prop} (hot : HotAt A x1 s.heap) (ne : x1 ≠ it) (hit : s.heap.IsListIter it l i) (hl : s.heap.IsList l items) (hx : items[i]? = none)
    (hQ : ∀ h', Heap.ExtBut it s.heap h' → Q none { s with heap := h' }) : wpAny (model prog w) A (pyNext (.ref it)) Q E s := by
  obtain ⟨o, ho, hc, hd⟩ := id hit
  obtain ⟨ol, hol, _, nl, hdl⟩ := hl
  obtain ⟨h0, o1, vs1, there, d1, c1⟩ := hot
  have tys := hit.typeIs
  unfold pyNext
  refine wpAny_bind (wpAny_attempt (wpAny_callSpecial?_slot (name := Str.ofString "__next__") tys slot_listiter_next (wpAny_call_entry slot_listiter_next tys entry_listiter_next ?_ (args_listiter_next _))))
  change wpAny _ _ (field (.ref it) 0 >>= _) _ _ _
  refine wpAny_bind (wpAny_field ho hd (x := .ref l) rfl ?_)
  change wpAny _ _ (if (Value.ref l == Value.none) = true then _ else _) _ _ _
  rw [if_neg (show ¬ ((Value.ref l == Value.none) = true) from Bool.false_ne_true)]
  change wpAny _ _ (field (.ref it) 1 >>= _) _ _ _
  refine wpAny_bind (wpAny_field ho hd (x := .int i 0) rfl ?_)
  change wpAny _ _ (seqItems? (.ref l) >>= _) _ _ _
  refine wpAny_bind (wpAny_seqItems hol hdl ?_)
  simp only [Int.toNat_natCast, hx]
  refine wpAny_bind (wpAny_rule (wpAny_bind (wpAny_setField ho hd (by simp) ?_)))
  refine stopH (x1 := x1) ⟨h0, o1, vs1, (Heap.get?_update_other _ _ ne.symm).trans there, d1, c1⟩ fun a oa h' ha hca keep => ?_
  refine wpAny_bind (wpAny_isInstance (T := "StopIteration") (b := true) ⟨_, ha, hca⟩ isSubtype_stop (wpAny_pure (hQ _ fun b u hb e => keep b u ?_)))
  exact (Heap.get?_update_other _ _ (Ne.symm hb)).trans e
end
end EN
/-! Where an error is held: comprehensions. -/
namespace EN
open PySem PySem.Spec PyProof.Rows L2 HotX L2H
section
variable {P : Program} {w : World} {K : PySem.W.Frag} {tg : Expr}
theorem HotC.apart {X : Cx} {pins : List (Addr × Obj)} {σ : L2.St} {H : Hp} {s : Shared} {it : Addr} (c : HotC X) (I : Inv X pins σ H s) (f : FpOk X pins H it) : ∃ x1, HotAt X.A x1 s.heap ∧ x1 ≠ it := by
  obtain ⟨p, ⟨hh, v1, e1, c1⟩, hp⟩ := c
  exact ⟨p.1, ⟨hh, p.2, v1, (I.pin p (List.mem_append_left _ hp)).1, e1, c1⟩, f.2.2.2.2.2 p (List.mem_append_left _ hp)⟩
theorem turnLH (a it : Addr) : TurnH P w K tg (Itl K a) [it] it (fun i h => h.IsListIter it a i) where
  mem := List.mem_singleton.mpr rfl
  obj := fun i h st b hb => by
    rw [List.mem_singleton.mp hb]
    obtain ⟨o, e, _, d⟩ := st
    exact ⟨o, e, fun v z => by rw [d] at z; cases z⟩
  keep := fun i h h' st k => st.at fun o e => k it (List.mem_singleton.mpr rfl) o e
  item := fun X hP hw hK hc i pins s σ H E I hf st hg => by
    subst hP hw hK
    obtain ⟨xs, x, hq, hx⟩ := hg
    obtain ⟨its, rv, p, _⟩ := I.list hq
    obtain ⟨u, hu, ru⟩ := rv.get hx
    have f := hf it (List.mem_singleton.mpr rfl)
    refine wpAny_pyNext_list_item st p.isList (x := u) (by simpa using hu) fun h' st' sb => ?_
    have I1 : Inv X pins σ H { s with heap := h' } := I.turned (t' := s.toks) (fun b o hb e => (sb.2 b hb).trans e) f.1 f.2.1 f.2.2.2.1 f.2.2.2.2.1 f.2.2.2.2.2
    obtain ⟨o, e, c, d⟩ := id st'
    exact ⟨u, rfl, go_of (s := { s with heap := h' }) e c d (by decide) ⟨x, H, I1, ru, ⟨rfl, fun ys hy => by rw [I.list_inj hy hq]; exact hx⟩, st', fun b hb => (hf b hb).1⟩⟩
  done := fun X hP hw hK hc i pins s σ H E I hf st hg => by
    subst hP hw hK
    obtain ⟨xs, hq, hx⟩ := hg
    obtain ⟨its, rv, p, _⟩ := I.list hq
    have f := hf it (List.mem_singleton.mpr rfl)
    have hl := rv.length
    obtain ⟨x1, hot, ne⟩ := HotC.apart hc I f
    exact lstEndH hot ne st p.isList (by simp; omega) fun h' eb => ⟨rfl, I.turned (t' := s.toks) (fun b o hb e => eb b o hb e) f.1 f.2.1 f.2.2.2.1 f.2.2.2.2.1 f.2.2.2.2.2⟩
  self := fun _ _ _ _ _ st h => wpAny_pyIter_listiter st h
theorem turnTH (a it : Addr) : TurnH P w K tg (Itt K a) [it] it (fun i h => h.IsTupleIter it a i) where
  mem := List.mem_singleton.mpr rfl
  obj := fun i h st b hb => by
    rw [List.mem_singleton.mp hb]
    obtain ⟨o, e, _, d⟩ := st
    exact ⟨o, e, fun v z => by rw [d] at z; cases z⟩
  keep := fun i h h' st k => st.at fun o e => k it (List.mem_singleton.mpr rfl) o e
  item := fun X hP hw hK hc i pins s σ H E I hf st hg => by
    subst hP hw hK
    obtain ⟨xs, x, hq, hx⟩ := hg
    obtain ⟨its, rv, p, _⟩ := I.tuple hq
    obtain ⟨u, hu, ru⟩ := rv.get hx
    have f := hf it (List.mem_singleton.mpr rfl)
    refine wpAny_pyNext_tuple_item st (show s.heap.IsTuple a its.toArray from p) (x := u) (by simpa using hu) fun h' st' sb => ?_
    have I1 : Inv X pins σ H { s with heap := h' } := I.turned (t' := s.toks) (fun b o hb e => (sb.2 b hb).trans e) f.1 f.2.1 f.2.2.2.1 f.2.2.2.2.1 f.2.2.2.2.2
    obtain ⟨o, e, c, d⟩ := id st'
    exact ⟨u, rfl, go_of (s := { s with heap := h' }) e c d (by decide) ⟨x, H, I1, ru, ⟨rfl, fun ys hy => by rw [I.tuple_inj hy hq]; exact hx⟩, st', fun b hb => (hf b hb).1⟩⟩
  done := fun X hP hw hK hc i pins s σ H E I hf st hg => by
    subst hP hw hK
    obtain ⟨xs, hq, hx⟩ := hg
    obtain ⟨its, rv, p, _⟩ := I.tuple hq
    have f := hf it (List.mem_singleton.mpr rfl)
    have hl := rv.length
    obtain ⟨x1, hot, ne⟩ := HotC.apart hc I f
    exact tupEndH hot ne st (show s.heap.IsTuple a its.toArray from p) (by simp; omega) fun h' eb => ⟨rfl, I.turned (t' := s.toks) (fun b o hb e => eb b o hb e) f.1 f.2.1 f.2.2.2.1 f.2.2.2.2.1 f.2.2.2.2.2⟩
  self := fun _ _ _ _ _ st h => wpAny_pyIter_tupleiter st h
theorem pi_seqH {X : Cx} {tg l : Expr} {tl : TE} (hl : PE X l tl) : PIH X tg l (iSeq X.K tl) := by
  refine ⟨fun pins s σ H Z I h => ?_⟩
  refine thn (hl.run pins s σ H _ I h) fun v s1 ⟨x, H1, I1, r1, q1⟩ => ?_
  obtain ⟨a, e, q⟩ := q1
  subst e
  cases r1
  have ok : FpOk X pins H1 s1.heap.objs.size := I1.fpOk (Nat.le_refl _) (I1.hok.fresh (Nat.le_refl _))
  have one : ∀ b ∈ [s1.heap.objs.size], FpOk X pins H1 b := fun b hb => by rw [List.mem_singleton.mp hb]; exact ok
  rcases q with ⟨xs, hq, q⟩ | ⟨xs, hq, q⟩
  · obtain ⟨its, rv, p, hz⟩ := I1.list hq
    exact wpAny_pyIter_list p.isList ⟨_, [s1.heap.objs.size], _, _, H1, rfl, I1.kept (t' := s1.toks) fun b o e => Heap.get?_push_of_some _ e, turnLH a _, ⟨_, Heap.get?_push_size _ rfl, rfl, rfl⟩, one, q⟩
  · obtain ⟨its, rv, p, hz⟩ := I1.tuple hq
    exact wpAny_pyIter_tuple (show s1.heap.IsTuple a its.toArray from p) ⟨_, [s1.heap.objs.size], _, _, H1, rfl, I1.kept (t' := s1.toks) fun b o e => Heap.get?_push_of_some _ e, turnTH a _, ⟨_, Heap.get?_push_size _ rfl, rfl, rfl⟩, one, q⟩
end
/-- a comprehension's block where p's error is held -/
abbrev hblk (X : Cx) (p : Addr × Obj) (s : Shared) (H : Hp) (scope : Scope) (ce : PySem.Env) (fp : List Addr) : Cx := (X.blk s H scope ce fp).tr [p] (outX X ce)
section
variable {X : Cx} {p : Addr × Obj}
/-- into the block -/
theorem blkIn {σ : L2.St} {s0 s1 : Shared} {H0 H : Hp} {scope : Scope} {ce : PySem.Env} {fp : List Addr} (I : Inv (X.blk s0 H0 scope ce fp) [] σ H s1)
    (f : s1.heap.get? p.1 = some p.2 ∧ H p.1 = none ∧ p.1 ≠ ce.locals ∧ p.1 ∉ frs X.stack ∧ ∀ v, p.2.data ≠ .cell v) : Inv (hblk X p s0 H0 scope ce fp) [] σ H s1 :=
  Inv.toTry (X := X.blk s0 H0 scope ce fp) (pins := [p]) (I.pins_of fun q hq => by rw [List.mem_singleton.mp hq]; exact f) _
/-- [elt for tg in iter if ..] where p's error is held -/
theorem lcH {W : WX} {elt tg iter : Expr} {ifs : List Expr} {scope : Scope} {own : List (Str × Nat)} {pos : Pos} {wi : TI} {gg : TG} {tt : WX → TT} {te : WX → TE} (tk : Tk X W) (hot : Hot1 X.A p) (hpn : p ∈ X.pn) (hN : X.N.Nodup) (hi : PIH X tg iter wi) (ok : BlkOk X.N X.env.scope scope own)
    (hg : ∀ s H C cl fp, PG (hblk X p s H scope (compEnvC scope cl C X.env) fp) tg gg) (ht : ∀ s H C cl fp W', Tk (hblk X p s H scope (compEnvC scope cl C X.env) fp) W' → PTs (hblk X p s H scope (compEnvC scope cl C X.env) fp) ifs (tt W'))
    (he : ∀ s H C cl fp W', Tk (hblk X p s H scope (compEnvC scope cl C X.env) fp) W' → PE (hblk X p s H scope (compEnvC scope cl C X.env) fp) elt (te W'))
    (hs : ∀ x, foldedSetIterable iter X.env x = pure x) : PE X (.ListComp elt [⟨tg, iter, ifs, 0⟩] scope pos) (tLcW W wi gg tt te (own.map (·.2))) := by
  refine ⟨fun pins s σ H Q I h => ?_⟩
  rw [eval_ListComp]
  have clo : ∀ y ∈ scope.names, y.2 = .free → ∃ c, X.env.cells.lookup y.1 = some c := fun y hy e => (ok.free y hy e).elim (fun k => I.ok.has _ (.inl k)) fun k => I.ok.has _ (.inr k)
  refine comp_own (use := none) rfl hs (closure_ok clo) ok.kind (fun y hy e => by rw [ok.uniq y hy, e]) (thn (hi.run pins s σ H _ I h) fun xv s1 hx => thn hx fun itv s2 h2 => ?_)
  obtain ⟨it, fp, tn, J, H2, rfl, I2, T, st2, f2, q⟩ := h2
  refine wpAny_newObj_type (newEnv_comp ?_) (by show 0 ≤ sizeLine; decide)
  obtain ⟨D, hD⟩ : ∃ D, s2.heap.objs.size = D := ⟨_, rfl⟩
  rw [hD]
  have hDn : H2 D = none := I2.hok.fresh (Nat.le_of_eq hD)
  obtain ⟨WW, ⟨m0, w0⟩, turn⟩ := q D hDn
  -- the new list stands
  have I3 : Inv X pins σ (upd H2 D (.lst [])) { s2 with heap := s2.heap.push { cls := .type "list", data := .seq ([] : List Value).toArray } } :=
    I2.laid (t' := s2.toks) (fun b o e => Heap.get?_push_of_some _ e) (Nat.le_of_eq hD) ⟨Nat.zero_le _, [], 0, .nil, by rw [← hD]; exact Heap.get?_push_size _ rfl⟩
  have inFp : ∀ b ∈ fp, b < s2.heap.objs.size := fun b hb => let ⟨o, e, _⟩ := T.obj _ _ st2 b hb; Heap.lt_size e
  have f3 : ∀ b ∈ fp, FpOk X pins (upd H2 D (.lst [])) b ∧ b < (s2.heap.push { cls := .type "list", data := .seq ([] : List Value).toArray }).objs.size := fun b hb => by
    have lt := inFp b hb
    refine ⟨⟨?_, (f2 b hb).2⟩, by rw [Heap.size_push]; exact Nat.lt_succ_of_lt lt⟩
    rw [upd_ne (by rw [← hD]; exact Nat.ne_of_lt lt)]
    exact (f2 b hb).1
  have st3 : tn 0 (s2.heap.push { cls := .type "list", data := .seq ([] : List Value).toArray }) := T.keep _ _ _ st2 fun b _ o e => Heap.get?_push_of_some _ e
  generalize hs3 : ({ s2 with heap := s2.heap.push { cls := .type "list", data := .seq ([] : List Value).toArray } } : Shared) = s3 at I3
  have hh : s2.heap.push { cls := .type "list", data := .seq ([] : List Value).toArray } = s3.heap := by rw [← hs3]
  rw [hh] at f3 st3
  generalize hH : upd H2 D (.lst []) = H3 at I3 f3 w0
  have I4 := block_start I3 ok hN f3
  have pg := hg s3 H3 s3.heap.objs.size (cellsFrom (s3.heap.objs.size + 1) scope.names (cloFrom X.env.cells scope.names [])) fp
  have tkB := tk_blk (pn := [p]) (scope := scope) (ce := compEnvC scope (cellsFrom (s3.heap.objs.size + 1) scope.names (cloFrom X.env.cells scope.names [])) s3.heap.objs.size X.env) tk I3 rfl rfl fun b hb => (f3 b hb).1
  have pt := ht s3 H3 s3.heap.objs.size (cellsFrom (s3.heap.objs.size + 1) scope.names (cloFrom X.env.cells scope.names [])) fp _ tkB
  have pe := he s3 H3 s3.heap.objs.size (cellsFrom (s3.heap.objs.size + 1) scope.names (cloFrom X.env.cells scope.names [])) fp _ tkB
  have pinP := I3.pin p (List.mem_append_left _ hpn)
  have kpc : ∀ b o, s3.heap.get? b = some o → (pushCells (s3.heap.push { cls := .type "dict", data := .dict #[] }) scope.names).get? b = some o := fun b o e => pushCells_keeps _ _ _ _ (Heap.get?_push_of_some _ e)
  have ce0 : (compEnvC scope (cellsFrom (s3.heap.objs.size + 1) scope.names (cloFrom X.env.cells scope.names [])) s3.heap.objs.size X.env).locals = s3.heap.objs.size := rfl
  show codeAny _ _ (.compStart (.ListComp elt [⟨tg, iter, ifs, 0⟩] scope pos) 0 (.ref it) (.ref D) (compEnvC scope (cellsFrom (s3.heap.objs.size + 1) scope.names (cloFrom X.env.cells scope.names [])) s3.heap.objs.size X.env))
    (cPost _ _ _ _ _ _ (compEnvC scope (cellsFrom (s3.heap.objs.size + 1) scope.names (cloFrom X.env.cells scope.names [])) s3.heap.objs.size X.env)) _
  generalize compEnvC scope (cellsFrom (s3.heap.objs.size + 1) scope.names (cloFrom X.env.cells scope.names [])) s3.heap.objs.size X.env = ce at I4 pg pt pe ce0 ⊢
  have notFr : p.1 ∉ frs X.stack := fun hm => (List.mem_cons.mp (I3.stkSub p.1 hm)).elim pinP.2.2.1 pinP.2.2.2.1
  have I5 := blkIn (p := p) I4 ⟨kpc _ _ pinP.1, pinP.2.1, by rw [ce0]; exact Nat.ne_of_lt (Heap.lt_size pinP.1), notFr, pinP.2.2.2.2⟩
  have nfp : ∀ b ∈ fp, H3 b = none := fun b hb => (f3 b hb).1.1
  have st4 : tn 0 (pushCells (s3.heap.push { cls := .type "dict", data := .dict #[] }) scope.names) := T.keep _ _ _ st3 fun b _ o e => kpc b o e
  have hotY : HotC (hblk X p s3 H3 scope ce fp) := ⟨p, hot, List.mem_singleton.mpr rfl⟩
  -- the iterator's objects, seen from the block
  have stat : ∀ {σ' : L2.St} {H' : Hp} {s' : Shared}, Inv (hblk X p s3 H3 scope ce fp) [] σ' H' s' → (∀ b ∈ fp, H' b = none) → ∀ b ∈ fp, FpOk (hblk X p s3 H3 scope ce fp) [] H' b := fun {σ' H' s'} I' hn b hb =>
    ⟨hn b hb, (I'.ok.exf b hb).1, I'.ok.exfs b hb, .inl hb, fun x c e => (I'.ok.exf b hb).2 x c e, fun q hq => by
      rw [List.append_nil] at hq
      rw [List.mem_singleton.mp hq]
      exact (f3 b hb).1.2.2.2.2.2 p (List.mem_append_left _ hpn)⟩
  have loop : codeAny (model X.prog X.w) X.A (.compLoop (.ListComp elt [⟨tg, iter, ifs, 0⟩] scope pos) 0 (.ref it) (.ref D) ce) (cPost (model X.prog X.w) X.A X.xe none (EP X pins σ Q) (.ref D) ce) { s3 with heap := pushCells (s3.heap.push { cls := .type "dict", data := .dict #[] }) scope.names } := by
    refine compLoop_any (fun n s' => ∃ i H', Inv (hblk X p s3 H3 scope ce fp) [] (wipe σ (own.map (·.2))) H' s' ∧ tn i s'.heap ∧ (∀ b ∈ fp, H' b = none) ∧ WW i n H') ?_ m0 ⟨0, H3, I5, st4, nfp, w0⟩
    rintro n s5 ⟨i, H5, J5, t5, n5, w5⟩
    rcases turn i n H5 w5 with ⟨stop, qq⟩ | ⟨go, Nx, hNx, step⟩
    · refine thnF (T.done (hblk X p s3 H3 scope ce fp) rfl rfl rfl hotY i [] s5 _ H5 (fun _ _ => False) J5 (stat J5 n5) t5 stop) fun r s6 ⟨hr, I6⟩ => ?_
      subst hr
      have I7 : Inv X pins σ H5 s6 := I3.call' (ch := fp) I6.os I6.base I6.hok I6.bare fun b hb => let z := (f3 b hb).1.2; ⟨z.2.2.1, z.1, z.2.2.2.1, z.2.2.2.2⟩
      have nC : H5 ce.locals = none := I6.free
      obtain ⟨m, hn, _⟩ := I6.loc
      have fC : FpOk X pins H5 ce.locals := I3.fpOk (by rw [ce0]; exact Nat.le_refl _) nC
      exact ⟨m, hn, fun h'' sb => ⟨.ref D, H5, I7.turned (t' := s6.toks) (fun b o hb e => (sb.2 b hb).trans e) fC.1 fC.2.1 fC.2.2.2.1 fC.2.2.2.2.1 fC.2.2.2.2.2, rfl, qq⟩⟩
    · refine thnF (T.item (hblk X p s3 H3 scope ce fp) rfl rfl rfl hotY i [] s5 _ H5 (fun _ _ => False) J5 (stat J5 n5) t5 go) fun r s6 ⟨u, hr, h6⟩ => ?_
      subst hr
      refine thnF h6 fun _ s7 ⟨x, H7, J7, r7, y7, t7, n7⟩ => ?_
      refine wpAny_mono (pg.run _ s7 _ H7 x u _ (J7.pinned (stat J7 n7) (T.obj _ _ t7)) r7 (step x H7 y7)) (fun _ s8 ⟨σ8, H8, J8, hw8, q8⟩ => ?_) fun _ _ z => z
      refine wpAny_mono (pt.run _ s8 σ8 H8 _ J8 q8) (fun b s9 ⟨H9, J9, q9⟩ => ?_) fun _ _ z => z
      have fin : ∀ {s' : Shared} {H' : Hp}, Inv (hblk X p s3 H3 scope ce fp) ([] ++ pinsAt fp s7.heap) σ8 H' s' → Nx H' → ∃ m, m < n ∧ ∃ i H', Inv (hblk X p s3 H3 scope ce fp) [] (wipe σ (own.map (·.2))) H' s' ∧ tn i s'.heap ∧ (∀ b ∈ fp, H' b = none) ∧ WW i m H' := fun {s' H'} J' nx => by
        obtain ⟨m', hm, w'⟩ := hNx H' nx
        have still : ∀ b ∈ fp, ∀ o, s7.heap.get? b = some o → s'.heap.get? b = some o ∧ H' b = none := fun b hb o e => let z := J'.pin (b, o) (List.mem_append_right _ (List.mem_append_right _ (mem_pinsAt hb e))); ⟨z.1, z.2.1⟩
        refine ⟨m', hm, i + 1, H', (J'.unpinned (pins := [])).weak (by rw [← hw8, wipe_length]) (fun j v e => ?_), T.keep _ _ _ t7 fun b hb o e => (still b hb o e).1, fun b hb => ?_, w'⟩
        · rw [← hw8] at e
          exact (wipe_some e).1
        · obtain ⟨o, e, _⟩ := T.obj _ _ t7 b hb
          exact (still b hb o e).2
      cases b with
      | false => exact fin J9 q9
      | true =>
        refine wpAny_mono (pe.run _ s9 σ8 H9 _ J9 q9) (fun z s10 ⟨yv, H10, J10, r10, acc, hD10, hz10, nx⟩ => ?_) fun _ _ z => z
        exact app_ok (X := hblk X p s3 H3 scope ce fp) J10 hD10 hz10 r10 fun s11 J11 => fin J11 nx
  exact codeAny_compStart_list loop (T.self X.A 0 _ _ _ st4 loop)
end
end EN
/-! Where an error is held: sum, calls, bodies. -/
namespace EN
open PySem PySem.Spec PyProof.Rows L2 HotX L2H
/-- a list's walk where x1's error is held -/
theorem walkLH {prog : Program} {w : World} {A : Around} {x1 : Addr} {o1 : Obj} {vs1 : Array Value} (hh : A.handled = some (.ref x1)) (d1 : o1.data = .fields vs1) (c1 : vs1[2]? = some .none) (I l : Addr) (ne : l ≠ I) (ne1 : x1 ≠ I) (items : Array Value) :
    Walks prog w A I [I, l, x1] [I] items.size (fun i v => items[i]? = some v) (fun i h => (h.IsListIter I l i ∧ h.IsList l items) ∧ h.get? x1 = some o1) where
  sub := fun b hb => by rw [List.mem_singleton.mp hb]; exact List.mem_cons_self
  frame := fun _ _ _ st k => ⟨⟨st.1.1.at fun o e => k I List.mem_cons_self o e, st.1.2.at fun o e => k l (List.mem_cons_of_mem _ List.mem_cons_self) o e⟩, k x1 (by simp) _ st.2⟩
  item := fun i s Q E hi st hQ => by
    refine wpAny_pyNext_list_item st.1.1 st.1.2 (x := items[i]) (by simp [hi]) fun h' it' same => ?_
    exact hQ _ h' s.toks (by simp [hi]) ⟨⟨it', st.1.2.extBut same.extBut ne⟩, (same.2 x1 ne1).trans st.2⟩ fun b o hb e => same.extBut b o (fun z => hb (by simp [z])) e
  done := fun s Q E st hQ => lstEndH ⟨hh, o1, vs1, st.2, d1, c1⟩ ne1 st.1.1 st.1.2 (by simp) fun h' ext => hQ h' s.toks fun b o hb e => ext b o (fun z => hb (by simp [z])) e
  self := fun _ _ _ _ st hQ => wpAny_pyIter_listiter st.1.1 hQ
/-- sum of a list of ints -/
theorem sumH {X : Cx} (hc : HotC X) : CallR X (.builtin "sum") (rSum X.K) := by
  intro pins s σ H vs us Q I r h
  obtain ⟨a, ns, rfl, hs, q⟩ := h
  obtain ⟨its, rv, hl, _⟩ := I.list hs
  rw [Vals.ref1 r]
  have nums := rv.ints
  obtain ⟨xs, ex⟩ := nums.allInts.items
  have hn : numsOf (intItems xs).toList = ns := by rw [← ex]; exact nums.numsOf
  rw [nums_intItems] at hn
  have hl2 := hl.isList
  rw [ex] at hl2
  obtain ⟨p, ⟨hh, v1, e1, c1⟩, hp⟩ := hc
  have there := (I.pin p (List.mem_append_left _ hp)).1
  refine call_sum_walkG (iter_intList hl2 fun s₂ e st hfp hne => ?_)
  subst e
  refine ⟨_, _, _, _, _, _, numAt xs, rfl, walkLH (A := X.A.in1) hh e1 c1 _ a hne (Nat.ne_of_lt (Heap.lt_size there)) (intItems xs), ⟨st, Heap.get?_push_of_some _ there⟩, fun b hb => ?_, fun _ _ => intItems_at, fun h' tk t' hk => ?_⟩
  · rcases List.mem_cons.mp hb with z | hb
    · exact hfp b (z ▸ List.mem_cons_self)
    · rcases List.mem_cons.mp hb with z | hb
      · exact hfp b (z ▸ List.mem_cons_of_mem _ List.mem_cons_self)
      · rw [List.mem_singleton.mp hb]
        exact Heap.lt_size (Heap.get?_push_of_some _ there)
  · have sum : preSum (numAt xs) (intItems xs).size = ns.sum := by
      rw [preSum_eq, List.take_of_length_le (by simp [intItems]), hn]
    rw [sum]
    exact ⟨.int _, H, I.kept (old_kept hk), ⟨_, rfl⟩, q⟩
/-! ### calls -/
/-- what a def promises while p's error is held -/
structure FnP (P : Program) (w : World) (K : PySem.W.Frag) (mg : Str → Option Value) (base : Heap) (CX : CXT) (p : Addr × Obj) (k : Nat) (f : Addr) (fd : FuncData) (ps : List Str) (sp : Sp) : Prop where
  len : ∀ vs H Q E, sp vs H Q E → vs.length = ps.length
  run : ∀ (A : Around) (outer : List PySem.Env) (s : Shared) (H : Hp) (args : Args) (us : List Value) (vs : List V) (Q : VK) (E : XK), RoomH k A → Hot1 A p → PinOk outer H s p → Env0 P w K mg base A outer s H →
    BindsTo s fd args (ps.zip us) → Vals vs us → sp vs H Q E → codeAny (model P w) A (.call (.ref f) args) (CR CX outer P w H s Q E) s
section
variable {X : Cx} {CX : CXT} {p : Addr × Obj} {k : Nat} {f : Addr} {fd : FuncData} {ps : List Str} {sp : Sp} {W : WX}
theorem callP {x : Str} {q pos : Pos} {e : Expr} {es : List Expr} {t : TA} (F : FnP X.prog X.w X.K X.mg X.base CX p k f fd ps sp) (hr : RoomH k X.A) (hot : Hot1 X.A p) (hpn : p ∈ X.pn) (hg : Gl X x) (hm : X.mg x = some (.ref f)) (hk : PySem.W.keepIn X.K (.ref f) = true)
    (hb : Binds X.K fd ps []) (hx : ∀ σ, PassesAt CX X σ (WE W σ)) (ha : PA X (e :: es) t) (hdb : (x == ("__debug__" : Str)) = false) (he : starEach (e :: es) X.env = (false, eval e X.env) :: starEach es X.env) (hpl : (backTo pos (starEach es X.env)).any (·.1) = false) :
    PE X (.Call (.Name x q) (e :: es) [] pos) (tCallS sp (WE W) t) := by
  refine ⟨fun pins s σ H Q I h => wpAny_Call_Name_kw (ld_glob I hg hm (PySem.W.callWith_K (h₀ := X.base) I.ok.mod.kin hk (thn (ha.run pos pins s σ H _ I h) fun us s1 ⟨vs, H1, I1, r, sp1⟩ => ⟨I1.kIn, ?_⟩) he hpl) hdb)⟩
  have pin := I1.pin p (List.mem_append_left _ hpn)
  have stands : PinOk X.stack H1 s1 p := ⟨pin.1, pin.2.1, fun hm => (List.mem_cons.mp (I1.stkSub p.1 hm)).elim pin.2.2.1 pin.2.2.2.1, pin.2.2.2.2⟩
  have few : us.length = ps.length := r.length.symm.trans (F.len _ _ _ _ sp1)
  have bd := hb s1 us I1.kIn (by rw [List.append_nil]; exact few)
  rw [List.append_nil] at bd
  refine wpAny_call (codeAny_mono (F.run X.A X.stack s1 H1 ⟨us, []⟩ us vs Q (WE W σ) hr hot stands I1.env0 bd r sp1) fun res s2 hq => ?_)
  match res, hq with
  | .error e, hq => exact hx σ pins H1 s1 e s2 I1 hq
  | .ok (.ret u), hq => exact I1.after hq
  | .ok .next, hq => exact hq.elim
  | .ok .brk, hq => exact hq.elim
  | .ok .cont, hq => exact hq.elim
end
/-- THE RULE for a def called while p's error is held -/
theorem fn_ofP {CX : CXT} {P : Program} {w : World} {K : PySem.W.Frag} {mg : Str → Option Value} {base : Heap} {p : Addr × Obj} {k : Nat} {f : Addr} {name qual : Str} {params : Arguments} {body : List Stmt} {scope : Scope} {dV kV doc pm cdv ct oc : Value} {an od : Option Addr} {osl : Array (Option Value)} {N ps : List Str} {sp : Sp}
    (lk : K.lookup f = some ⟨oc, od, .func (PySem.W.fnOf name qual params body scope dV kV doc pm an cdv ct), osl⟩) (hcd : PySem.W.codeIn K cdv qual = true) (S : FnScope N ps scope) (len : ∀ vs H Q E, sp vs H Q E → vs.length = ps.length)
    (hbody : ∀ (A : Around) (outer : List PySem.Env) (s : Shared) (H : Hp) (vs : List V) (Q : VK) (E : XK), Hot1 A p → RoomH k (A.deeper (envOfC qual scope s.heap.objs.size f cdv)) → sp vs H Q E →
      ∃ t, PSs (cxH CX P w K mg base N qual scope f cdv A outer s H E p) body t ∧ t { nx := fun _ H' => Q .non H', rt := Q } (L2.start N vs) H) : FnP P w K mg base CX p (k + 1) f (PySem.W.fnOf name qual params body scope dV kV doc pm an cdv ct) ps sp := by
  refine ⟨len, fun A outer s H args us vs Q E room hot pin e0 bd r hsp => ?_⟩
  have kin : K.In s.heap := e0.mod.kin.keeps fun b o e => (e0.bs b o e).1
  have nolim : s.heap.NoLimit := e0.mod.nolimit.keeps fun b o e => (e0.bs b o e).1
  have slots : ∀ y ∈ ps.zip us, scope.names.lookup y.1 = some .local ∨ (scope.names.lookup y.1 = some .cell ∧ ((cellsFrom (s.heap.objs.size + 1) scope.names []).lookup y.1).isSome = true) := by
    rintro ⟨n, v⟩ hy
    refine (S.par n (List.of_mem_zip hy).1).imp_right fun q => ⟨q, PySem.W.cellsFrom_some _ _ _ (.inl q)⟩
  refine codeAny_call_function room.depth (kin _ _ lk) rfl S.co S.gen rfl (PySem.W.codeRec_of kin hcd) (bd _ _ _ _ (wpAny_newFunctionEnv_cells S.kind slots fun env he s1 x => ?_))
  subst he
  refine ⟨nolim.keeps x.toInCall.keep, codeAny_func ?_⟩
  obtain ⟨t, ht, hq⟩ := hbody A outer s H vs Q E hot (room.deeper _) hsp
  have I := inv_startH (CX := CX) (E := E) S pin e0 (len _ _ _ _ hsp) r x
  refine wpAny_mono (ht.run [] s1 (L2.start N vs) H _ I hq) (fun fl s' hs => ?_) fun e s' hs => hs
  match fl, hs with
  | .ret u, ⟨v, σ', H', J, rv, q⟩ => exact ⟨v, H', J.os, J.bare, J.base, J.hok, rv, q⟩
  | .next, ⟨σ', H', J, q⟩ => exact ⟨.non, H', J.os, J.bare, J.base, J.hok, rfl, q⟩
  | .brk, ⟨_, _, _, q⟩ => exact q.elim
  | .cont, ⟨_, _, _, q⟩ => exact q.elim
end EN
/-! Where an error is held: the family of contexts. -/
namespace EN
open PySem PySem.Spec PyProof.Rows L2 HotX L2H
/-- a def as it stands in the text, and its promise while p's error is held -/
def FnFP (C : Cc) (g : G0) (fn : Fn) (p : Addr × Obj) (X : Cx) (f : Nat) : Prop := ∃ (fa : Addr) (fd : FuncData) (ps : List Str) (k : Nat), X.mg (C.gn f) = some (.ref fa) ∧ PySem.W.keepIn X.K (.ref fa) = true ∧ Binds X.K fd ps [] ∧
  FnP X.prog X.w X.K X.mg X.base (L2N.CX X.prog X.w) p k fa fd ps (spN g fn f) ∧ RoomH k X.A
structure PH (C : Cc) (N : List Str) (g : G0) (fn : Fn) (p : Addr × Obj) (X : Cx) (sc : Scope) (W : WX) : Prop where
  bas : Bas C N g X sc
  nd : N.Nodup
  tk : Tk X W
  hot : Hot1 X.A p
  pn : p ∈ X.pn
  ff : ∀ f, C.cl true f = true → FnFP C g fn p X f
  ek : ∀ c, c < g.T.ne → HotK X.K g (g.ec c)
  gp : ∃ cl d, g.pn = some (p.1, cl, d) ∧ L2N.Zn cl d p.2
section
variable {C : Cc} {N : List Str} {g : G0} {fn : Fn} {p : Addr × Obj} {X : Cx} {sc : Scope} {W : WX}
theorem PH.dat (h : PH C N g fn p X sc W) : ∃ vs, p.2.data = .fields vs := let ⟨_, vs, e, _⟩ := h.hot; ⟨vs, e⟩
theorem PH.blk (h : PH C N g fn p X sc W) {s : Shared} {H : Hp} {scope : Scope} {A : Addr} {cl : List (Str × Addr)} {fp : List Addr} {W' : WX} (tk : Tk (hblk X p s H scope (compEnvC scope cl A X.env) fp) W') : PH C N g fn p (hblk X p s H scope (compEnvC scope cl A X.env) fp) (relS scope sc) W' where
  bas := ⟨h.bas.K, h.bas.N, by
    show relabel scope X.env = relS scope sc
    rw [← h.bas.sc]; rfl, h.bas.hu, h.bas.pr, h.bas.wd, h.bas.bl, h.bas.en, h.bas.cn, h.bas.kc⟩
  nd := h.nd
  tk := tk
  hot := h.hot
  pn := List.mem_singleton.mpr rfl
  ff := h.ff
  ek := h.ek
  gp := h.gp
theorem PH.tgt {Y : Cx} {sc' : Scope} (h : PH C N g fn p Y sc' W) {i : Nat} {x : Str} {q : Pos} (h1 : N[i]? = some x) (h2 : sc'.names.lookup x = some .local) : PG Y (.Name x q) (gName i) := by
  have h2 : Y.env.scope.names.lookup x = some .local := by rw [h.bas.sc]; exact h2
  exact pg_name (by rw [h.bas.N]; exact h.nd) (by rw [h.bas.N]; exact h1) (.inl h2) (.inr h2)
theorem pi_range2H {tg a b : Expr} {ta : TA} {q pos : Pos} (hg : Gl X "range") (hm : X.mg "range" = none) (ha : PA X [a, b] ta) (hs : starEach [a, b] X.env = [(false, eval a X.env), (false, eval b X.env)]) (hs2 : starEach [b] X.env = [(false, eval b X.env)]) :
    PIH X tg (.Call (.Name "range" q) [a, b] [] pos) (iRng2 ta) := by
  refine ⟨fun pins s σ H Z I h => Call_ (ld_blt I hg hm boot_range (PyProof.Rows.callWith_type1 (thn (ha.run pos pins s σ H _ I h) fun us s1 ⟨vs, H1, I1, r1, q1⟩ => ?_) (by rw [hs, hs2]) (by rw [hs2]; rfl)))⟩
  obtain ⟨i, j, rfl, ⟨h1, h2, h3, h4⟩, z⟩ := q1
  obtain ⟨t, u, rfl⟩ := Vals.int2 r1
  exact call_range_2 (range_itH I1 h1 h2 h3 h4 z)
theorem rulH (kcl : ∀ c, c < g.T.nc → Cls g.K (g.oc c)) (mec : ∀ f c, C.me f = some c → c < g.T.nc) : Rul C N g fn true PIH (PH C N g fn p) where
  bas h := h.bas
  calm z := nomatch z
  tk z := nomatch z
  me z := nomatch z
  mki z := nomatch z
  kcl := kcl
  mec := mec
  call := fun {X sc W f e es t q pos} h hf g1 g2 pa st pl => by
    obtain ⟨fa, fd, ps, k, m, kp, b, F, r⟩ := h.ff f hf
    exact callP F r h.hot h.pn g1 m kp b h.tk.pass pa g2 st pl
  callK := fun h => nomatch h
  txt := fun h => nomatch h
  bi := fun b hh h => by
    cases b with
    | all => exact nomatch hh rfl
    | max => exact nomatch hh rfl
    | set => exact nomatch hh rfl
    | str => exact rBI_ok .str fun z => nomatch z
    | sum => exact sumH ⟨p, h.hot, h.pn⟩
    | len => exact rBI_ok .len fun z => nomatch z
    | int => exact rBI_ok .int fun z => nomatch z
    | list => exact rBI_ok .list fun z => nomatch z
    | tuple => exact rBI_ok .tuple fun z => nomatch z
  isi := fun h => by
    obtain ⟨cl, d, e, z⟩ := h.gp
    exact hot_isi h.bas.K e h.pn z h.dat h.ek
  fld := fun h he hb => by
    obtain ⟨cl, d, e, z⟩ := h.gp
    exact hot_fld h.bas.K e h.pn z h.dat h.ek he hb
  seq := fun h hl => pi_seqH hl
  rng1 := fun h g1 m pa st => pi_range1H g1 m pa st
  rng2 := fun h g1 m pa st st2 => pi_range2H g1 m pa st st2
  dcT := fun h => nomatch h
  lc := fun {X sc W elt iter ifs scope x i q pos wi tt te} h hb h1 h2 hi ht he hs => by
    have bs := h.bas
    have bo : BlkOk X.N X.env.scope scope [(x, i)] := by rw [bs.N, bs.sc]; exact blkOk_by hb
    exact lcH h.tk h.hot h.pn (by rw [bs.N]; exact h.nd) hi bo (fun s H A cl fp => bas_tgt bs.blkE h.nd h1 h2) (fun s H A cl fp W' tk => ht _ _ (h.blk tk)) (fun s H A cl fp W' tk => he _ _ (h.blk tk)) hs
structure QH (C : Cc) (N : List Str) (g : G0) (fn : Fn) (p : Addr × Obj) (X : Cx) (sc : Scope) (W : WX) : Prop extends PH C N g fn p X sc W where
  fnT : ∀ x, X.fn x = true
  kind : X.env.scope.kind = .function
theorem rulSH (nd : N.Nodup) (kcl : ∀ c, c < g.T.nc → Cls g.K (g.oc c)) (mec : ∀ f c, C.me f = some c → c < g.T.nc) : RulS C N g fn true PIH (PH C N g fn p) (QH C N g fn p) where
  R := rulH kcl mec
  q2p h := h.toPH
  nd := nd
  fnT h := h.fnT
  kind h := h.kind
  tup := fun h => nomatch h
  aug := fun {X sc W i x e te op p pos} h hi hx he => ps_aug (by rw [h.bas.N]; exact nd) (by rw [h.bas.N]; exact hi) hx he (rAug_ok op) (.inl (h.fnT x))
  whl := fun h => nomatch h
  for_ := fun h => nomatch h
  raise := fun h => nomatch h
  setLc := fun h => nomatch h
  setDcT := fun h => nomatch h
  try_ := fun h => nomatch h
/-- what a calm body must know, so that its suites may hold errors -/
theorem hotS_of {W : WX} (h : PC C N g fn X sc W) (fnT : ∀ x, X.fn x = true) (kind : X.env.scope.kind = .function) (ek : ∀ c, c < g.T.ne → HotK X.K g (g.ec c))
    (ff : ∀ (a : Addr) (oe : Obj) (cls : Value) (d : Option Addr) (pn : List (Addr × Obj)), L2N.Zn cls d oe → ∀ f, C.cl true f = true → FnFP C { g with pn := some (a, cls, d) } fn (a, oe) (X.suite a ((a, oe) :: pn)) f) : HotS C N g fn X sc := by
  intro a oe cls d pn s s' z hd hc _
  obtain ⟨vs, hd⟩ := hd
  have ph : QH C N { g with pn := some (a, cls, d) } fn (a, oe) (X.suite a ((a, oe) :: pn)) sc W0 :=
    { bas := ⟨h.bas.K, h.bas.N, h.bas.sc, h.bas.hu, h.bas.pr, h.bas.wd, h.bas.bl, h.bas.en, h.bas.cn, h.bas.kc⟩
      nd := h.nd
      tk := h.tk.no rfl rfl
      hot := ⟨rfl, vs, hd, z.2.2 vs hd⟩
      pn := List.mem_cons_self
      ff := ff a oe cls d pn z
      ek := fun c hc => ⟨(ek c hc).c, (ek c hc).no⟩
      gp := ⟨cls, d, rfl, z⟩
      fnT := fnT
      kind := kind }
  exact adSs (rulSH (g := { g with pn := some (a, cls, d) }) h.nd h.kcl h.mec) s ph s' hc
end
end EN
/-! The whole text: every def keeps its promise. -/
namespace EN
open PySem PySem.Spec PyProof.Rows L2 HotX L2H
/-- a def that promises -/
def okF (C : Cc) (f : Nat) : Bool := C.cl false f || (C.me f).isSome
theorem ok_cl {C : Cc} {f : Nat} (h : C.cl false f = true) : okF C f = true := by unfold okF; rw [h]; rfl
theorem ok_me {C : Cc} {f c : Nat} (h : C.me f = some c) : okF C f = true := by unfold okF; rw [h]; exact Bool.or_true _
structure Txt (P : Program) (w : World) (K : PySem.W.Frag) (mg : Str → Option Value) (base : Heap) (C : Cc) (g : G0) (fds : Nat → Option Fd) (N ps : Nat → List Str) (ql : Nat → Str) (st : Nat → Stmt) (fa : Nat → Addr) (fd : Nat → FuncData) : Prop where
  pn : g.pn = none
  hK : K = g.K
  hP : P = g.P
  hw : w = g.w
  kf : KF g
  bl : ∀ x : Str, x ∈ (["len", "int", "sum", "list", "tuple", "isinstance", "range", "str", "bool", "dict", "ValueError", "all", "max", "set", "reversed"] : List Str) → mg x = none
  en : ∀ c, c < g.T.ne → mg (C.en c) = some (.ref (g.ec c))
  cn : ∀ c, c < g.T.nc → mg (C.cn c) = some (.ref (g.oc c))
  kc : ∀ n, n < g.T.nk → ∃ u, mg (C.kn n) = some u ∧ RelV (vD (g.T.gc n)) u
  kw : ∀ f, C.cl false f = true → C.kw f = true → C.pn f = ps f ∧ KwB K (fd f) (ps f)
  mec : ∀ f c, C.me f = some c → c < g.T.nc
  gl : ∀ f, C.cl false f = true → mg (C.gn f) = some (.ref (fa f))
  mth : ∀ f c, C.me f = some c → Meth K (g.oc c) (C.gn f) (fa f) ∧ PySem.W.fnIn K (fa f) = true
  mki : ∀ c, c < g.T.nc → C.me (g.T.ini c) = some c → C.gn (g.T.ini c) = ("__init__" : Str) → Mk K (g.oc c) (fa (g.T.ini c))
  fn : ∀ f, okF C f = true → Fun K (C.gn f) (ql f) (st f) (fa f) (fd f) ∧ FnScope (N f) (ps f) (defScope (st f)) ∧ Binds K (fd f) (ps f) [] ∧
    ∃ d, fds f = some d ∧ cSs C g.T (N f) false (defScope (st f)) d.body (defBody (st f)) = true ∧ (ps f).length = d.np ∧ (N f).length = d.ns
  fh : ∀ f, C.cl true f = true → C.cl false f = true ∧ ∀ d, fds f = some d → cSs C g.T (N f) true (defScope (st f)) d.body (defBody (st f)) = true ∧ d.body.noTry = true
  ek : ∀ c, c < g.T.ne → HotK K g (g.ec c)
  er : ∀ c, c < g.T.ne → OexC K (g.ec c) ∧ ((g.T.ef c) ≠ [] → ∃ (fI : Addr) (fd : FuncData) (ps : List Str), PySem.W.findIn K (.ref (g.ec c)) "__init__" = some (some (.ref fI)) ∧ PySem.W.typeIn K (.ref fI) = some (.type "function") ∧
    FnOk P w K mg base (L2N.CX P w) 1 fI fd ps (spI g c) ∧ Binds K fd ps [])
section
variable {P : Program} {w : World} {K : PySem.W.Frag} {mg : Str → Option Value} {base : Heap} {C : Cc} {g : G0} {fds : Nat → Option Fd} {N ps : Nat → List Str} {ql : Nat → Str} {st : Nat → Stmt} {fa : Nat → Addr} {fd : Nat → FuncData}
theorem sp_len {g : G0} {T : Tb} {f k : Nat} {d : Fd} {vs : List V} {H : Hp} {Q : VK} {E : XK} (hd : fds f = some d) (h : spN g (runF T fds k) f vs H Q E) : vs.length = d.np := by
  obtain ⟨as, F, e, q⟩ := h
  rw [← e.len]
  cases k with
  | zero => exact q.elim
  | succ k =>
    by_cases hl : as.length = d.np
    · exact hl
    · simp only [runF, hd, if_neg hl] at q
theorem sp_no {g : G0} {T : Tb} {f : Nat} {vs : List V} {H : Hp} {Q : VK} {E : XK} (h : spN g (runF T fds 0) f vs H Q E) : False := let ⟨_, _, _, q⟩ := h; q.elim
/-- while p's error is held -/
theorem Txt.allH (X : Txt P w K mg base C g fds N ps ql st fa fd) (p : Addr × Obj) (cl : Value) (d : Option Addr) (z : L2N.Zn cl d p.2) : ∀ (k f : Nat), C.cl true f = true →
    FnP P w K mg base (L2N.CX P w) p (k + 3) (fa f) (fd f) (ps f) (spN { g with pn := some (p.1, cl, d) } (runF g.T fds k) f)
  | 0, f, hf => ⟨fun _ _ _ _ h => (sp_no h).elim, fun _ _ _ _ _ _ _ _ _ _ _ _ _ _ _ h => (sp_no h).elim⟩
  | k + 1, f, hf => by
    obtain ⟨hc, hh⟩ := X.fh f hf
    obtain ⟨Fu, S, hb, dd, e1, e2, e3, e4⟩ := X.fn f (ok_cl hc)
    obtain ⟨h1, h2⟩ := hh dd e1
    obtain ⟨oc, od, kV, doc, pm, an, cdv, ct, osl, e, lk, hcd⟩ := Fu.ex
    rw [e] at lk ⊢
    refine fn_ofP lk hcd S (fun vs H Q E h => (sp_len e1 h).trans e3.symm) fun A outer s H vs Q E hot room hsp => ?_
    have K2 : KF { g with pn := some (p.1, cl, d) } := ⟨X.kf.isi, X.kf.ise, X.kf.cls, X.kf.exm, X.kf.cget, X.kf.ctak⟩
    obtain ⟨hx, rd⟩ := body_ok (g := { g with pn := some (p.1, cl, d) }) (T := g.T) K2 rfl e1 (.inr h2) hsp
    refine ⟨_, adSs (rulSH (C := C) (N := N f) (g := { g with pn := some (p.1, cl, d) }) (fn := runF g.T fds k) (p := p) S.nd (fun c hc => (K2.cls c hc).1) X.mec) dd.body (sc := defScope (st f)) (W := fun cls d _ H => E cls d H) ?_ _ h1, ?_⟩
    · exact
        { bas := ⟨X.hK, rfl, rfl, by have := room.un; exact (by omega : (A.deeper (envOfC (ql f) (defScope (st f)) s.heap.objs.size (fa f) cdv)).units + 65 < cLine), X.hP, X.hw, X.bl, X.en, X.cn, X.kc⟩
          nd := S.nd
          tk := Tk.of rfl rfl (L2N.takes_of rfl rfl rfl rfl)
          hot := hot
          pn := List.mem_singleton.mpr rfl
          ff := fun f' hf' => let ⟨F', _, b', _⟩ := X.fn f' (ok_cl (X.fh f' hf').1); ⟨fa f', fd f', ps f', k + 3, X.gl f' (X.fh f' hf').1, F'.kp, b', Txt.allH X p cl d z k f' hf', room⟩
          ek := fun c hc => ⟨(X.ek c hc).c, (X.ek c hc).no⟩
          gp := ⟨cl, d, rfl, z⟩
          fnT := fun _ => rfl
          kind := S.kind }
    · show rss _ _ _ _ _ (vs.map some ++ List.replicate ((N f).length - vs.length) none) H
      rw [e4, hx]
      exact rd
/-- where no error is held -/
theorem Txt.allC (X : Txt P w K mg base C g fds N ps ql st fa fd) : ∀ (k f : Nat), okF C f = true → FnOk P w K mg base (L2N.CX P w) (2 * k + 3) (fa f) (fd f) (ps f) (spN g (runF g.T fds k) f)
  | 0, f, hf => ⟨fun _ _ _ _ h => (sp_no h).elim, fun _ _ _ _ _ _ _ _ _ _ _ _ _ h => (sp_no h).elim⟩
  | k + 1, f, hf => by
    obtain ⟨Fu, S, hb, dd, e1, e2, e3, e4⟩ := X.fn f hf
    obtain ⟨oc, od, kV, doc, pm, an, cdv, ct, osl, e, lk, hcd⟩ := Fu.ex
    rw [e] at lk ⊢
    have lv : 2 * (k + 1) + 3 = (2 * k + 4) + 1 := by omega
    rw [lv]
    refine fn_of lk hcd S (fun vs H Q E h => (sp_len e1 h).trans e3.symm) fun A outer s H vs Q E room hsp => ?_
    obtain ⟨hx, rd⟩ := body_ok (T := g.T) X.kf rfl e1 (.inl X.pn) hsp
    have room3 : Room (2 * k + 3) (A.deeper (envOfC (ql f) (defScope (st f)) s.heap.objs.size (fa f) cdv)) := room.mono (Nat.le_succ _)
    have pc : PC C (N f) g (runF g.T fds k) (cxOf (L2N.CX P w) P w K mg base (N f) (ql f) (defScope (st f)) (fa f) cdv A outer s H E) (defScope (st f)) (fun cls d _ H => E cls d H) :=
      { bas := ⟨X.hK, rfl, rfl, by have := room.un; exact (by omega : (A.deeper (envOfC (ql f) (defScope (st f)) s.heap.objs.size (fa f) cdv)).units + 65 < cLine), X.hP, X.hw, X.bl, X.en, X.cn, X.kc⟩
        calm := rfl
        nd := S.nd
        tk := Tk.of rfl rfl (L2N.takes_of rfl rfl rfl rfl)
        ff := fun f' hf' => let ⟨F', _, b', _⟩ := X.fn f' (ok_cl hf'); ⟨fa f', fd f', ps f', 2 * k + 3, X.gl f' hf', F'.kp, b', Txt.allC X k f' (ok_cl hf'), room3, X.kw f' hf'⟩
        me := fun f' c hf' => let ⟨F', _, b', _⟩ := X.fn f' (ok_me hf'); ⟨fa f', fd f', ps f', 2 * k + 3, (X.mth f' c hf').1, (X.mth f' c hf').2, b', Txt.allC X k f' (ok_me hf'), room⟩
        mki := fun c hc hm hn => let ⟨F', _, b', _⟩ := X.fn _ (ok_me hm); ⟨fa _, fd _, ps _, 2 * k + 3, X.mki c hc hm hn, b', Txt.allC X k _ (ok_me hm), room⟩
        kcl := fun c hc => (X.kf.cls c hc).1
        mec := X.mec }
    refine ⟨_, adSs (rulSC (C := C) (N := N f) (g := g) (fn := runF g.T fds k) X.pn S.nd (fun c hc => (X.kf.cls c hc).1) X.mec) dd.body (sc := defScope (st f)) (W := fun cls d _ H => E cls d H) ?_ _ e2, ?_⟩
    · exact
        { toPC := pc
          fnT := fun _ => rfl
          kind := S.kind
          own := passes_of rfl
          stk := rfl
          frm := rfl
          er := fun c hc => ⟨(X.er c hc).1, fun ne => let ⟨fI, fd', ps', a1, a2, a3, a4⟩ := (X.er c hc).2 ne; ⟨fI, fd', ps', 2 * k + 3, a1, a2, a3.mono (by omega), room, a4⟩⟩
          hot := hotS_of pc (fun _ => rfl) S.kind (fun c hc => ⟨(X.ek c hc).c, (X.ek c hc).no⟩) fun a oe cls d pn z f' hf' =>
            let ⟨F', _, b', _⟩ := X.fn f' (ok_cl (X.fh f' hf').1)
            ⟨fa f', fd f', ps f', k + 3, X.gl f' (X.fh f' hf').1, F'.kp, b', Txt.allH X (a, oe) cls d z k f' hf', ⟨(room.mono (show k + 3 ≤ 2 * k + 4 by omega)).dp, (room.mono (show k + 3 ≤ 2 * k + 4 by omega)).un⟩⟩ }
    · show rss _ _ _ _ _ (vs.map some ++ List.replicate ((N f).length - vs.length) none) H
      rw [e4, hx]
      exact rd
end
end EN
/-! __init__ of an error's class: each field takes its argument. -/
namespace EN
open PySem PySem.Spec PyProof.Rows L2
/-- self.f = x, for the fields from the j-th on -/
def iB (sc : Scope) (N : List Str) : List Str → Nat → List Stmt → Bool
  | [], _, l => isNil l
  | f :: fs, j, l => match l with
    | .Assign [.Attribute (.Name s _) f' _] (.Name x _) _ :: l => decide (f' = f) && nmB N sc 0 s && nmB N sc (j + 1) x && iB sc N fs (j + 1) l
    | _ => false
def tI (K : PySem.W.Frag) : List Str → Nat → TS
  | [], _ => tNext
  | f :: fs, j => tSeq (tOst K f (tVar 0) (tVar (j + 1))) (tI K fs (j + 1))
section
variable {X : Cx} {N : List Str} {sc : Scope}
theorem vis_of (hs : X.env.scope = sc) {x : Str} (h : visB sc x = true) : Vis X.env.scope x := by
  rw [hs]
  unfold visB at h
  split at h
  · exact .inl (by assumption)
  · exact .inr (.inl (by assumption))
  · exact .inr (.inr (by assumption))
  · cases h
theorem nm_of (hN : X.N = N) (hs : X.env.scope = sc) {i : Nat} {x : Str} {p : Pos} (h : nmB N sc i x = true) : PE X (.Name x p) (tVar i) := by
  obtain ⟨h, h4⟩ := and2 h
  obtain ⟨h, h3⟩ := and2 h
  obtain ⟨h1, h2⟩ := and2 h
  exact pe_var (by rw [hN]; exact of_decide_eq_true h1) (vis_of hs h2) (by simpa using h3) (by simpa using h4)
theorem iB_ok (hN : X.N = N) (hs : X.env.scope = sc) : ∀ {fs : List Str} {j : Nat} {l : List Stmt}, iB sc N fs j l = true → PSs X l (tI X.K fs j)
  | [], j, l, h => by
    unfold iB at h
    cases l with
    | nil => exact pss_nil
    | cons a as => cases h
  | f :: fs, j, l, h => by
    unfold iB at h
    split at h
    · obtain ⟨h, h4⟩ := and2 h
      obtain ⟨h, h3⟩ := and2 h
      obtain ⟨h1, h2⟩ := and2 h
      cases of_decide_eq_true h1
      exact pss_cons (ps_ost (nm_of hN hs h2) (nm_of hN hs h3) rfl) (iB_ok hN hs h4)
    · cases h
/-- the fields that are there, then the others -/
theorem tI_run {K : PySem.W.Frag} {a C dx : Addr} {D : Ends} {σ : L2.St} {H : Hp} (T : OexC K C) (h0 : σ[0]? = some (some (.ref a))) (na : dx ≠ a) : ∀ {fs : List Str} {vs : List V} {j : Nat} {ws : List (Str × V)}, (∀ f ∈ fs, PySem.W.findIn K (.ref C) f = some none) → fs.length = vs.length →
    (∀ i v, vs[i]? = some v → σ[j + 1 + i]? = some (some v)) → ws.length + fs.length ≤ 900 → D.nx σ (upd (upd H dx (exd dx ((fs.zip vs).reverse ++ ws))) a (exo a C (some dx))) → tI K fs j D σ (upd (upd H dx (exd dx ws)) a (exo a C (some dx)))
  | [], vs, j, ws, hf, hl, hv, hw, k => by
    have : vs = [] := List.eq_nil_of_length_eq_zero hl.symm
    subst this
    exact k
  | f :: fs, [], j, ws, hf, hl, hv, hw, k => by cases hl
  | f :: fs, v :: vs, j, ws, hf, hl, hv, hw, k => by
    have hw2 : ws.length + (fs.length + 1) ≤ 900 := hw
    refine ⟨v, hv 0 v rfl, .ref a, h0, a, C, rfl, T, hf f List.mem_cons_self, .inr ⟨dx, ws, upd_same, by rw [upd_ne na, upd_same], by omega, ?_⟩⟩
    have e : upd (upd (upd H dx (exd dx ws)) a (exo a C (some dx))) dx (exd dx ((f, v) :: ws)) = upd (upd H dx (exd dx ((f, v) :: ws))) a (exo a C (some dx)) := by
      funext b
      by_cases h1 : b = dx
      · subst h1; rw [upd_same, upd_ne na, upd_same]
      · rw [upd_ne h1]
        by_cases h2 : b = a
        · subst h2; rw [upd_same, upd_same]
        · rw [upd_ne h2, upd_ne h2, upd_ne h1, upd_ne h1]
    rw [e]
    refine tI_run T h0 na (fun g hg => hf g (List.mem_cons_of_mem _ hg)) (by simpa using hl) (fun i u hu => ?_) (by simp; omega) ?_
    · have := hv (i + 1) u (by simpa using hu)
      rw [show j + 1 + 1 + i = j + 1 + (i + 1) by omega]
      exact this
    · have e2 : ((f :: fs).zip (v :: vs)).reverse ++ ws = (fs.zip vs).reverse ++ (f, v) :: ws := by simp
      rw [e2] at k
      exact k
/-- .. from the beginning -/
theorem tI_run0 {K : PySem.W.Frag} {a C : Addr} {D : Ends} {σ : L2.St} {H : Hp} (T : OexC K C) (h0 : σ[0]? = some (some (.ref a))) (ha : H a = some (exo a C none)) {fs : List Str} {vs : List V} (ne : fs ≠ []) (hf : ∀ f ∈ fs, PySem.W.findIn K (.ref C) f = some none) (hl : fs.length = vs.length)
    (hv : ∀ i v, vs[i]? = some v → σ[i + 1]? = some (some v)) (hw : fs.length ≤ 20) (k : ∀ dx, H dx = none → dx ≠ a → D.nx σ (upd (upd H dx (exd dx (fs.zip vs).reverse)) a (exo a C (some dx)))) : tI K fs 0 D σ H := by
  match fs, vs, hl with
  | f :: fs, v :: vs, hl =>
    refine ⟨v, hv 0 v rfl, .ref a, h0, a, C, rfl, T, hf f List.mem_cons_self, .inl ⟨ha, fun dx hd na => ?_⟩⟩
    have hw2 : fs.length + 1 ≤ 20 := hw
    refine tI_run T h0 na (fun g hg => hf g (List.mem_cons_of_mem _ hg)) (by simpa using hl) (fun i u hu => ?_) (by simp; omega) ?_
    · have := hv (i + 1) u (by simpa using hu)
      rw [show 0 + 1 + 1 + i = i + 1 + 1 by omega]
      exact this
    · have := k dx hd na
      have e2 : ((f :: fs).zip (v :: vs)).reverse = (fs.zip vs).reverse ++ [(f, v)] := by simp
      rw [e2] at this
      exact this
/-- THE RULE for such an __init__ -/
theorem init_ok {P : Program} {w : World} {K : PySem.W.Frag} {mg : Str → Option Value} {base : Heap} {g : G0} {c : Nat} {x ql : Str} {st : Stmt} {f : Addr} {fd : FuncData} {N : List Str} (Fu : Fun K x ql st f fd) (S : FnScope N N (defScope st)) (T : OexC K (g.ec c))
    (hb : iB (defScope st) N (g.T.ef c) 0 (defBody st) = true) (hN : N.length = (g.T.ef c).length + 1) (hf : ∀ n ∈ g.T.ef c, PySem.W.findIn K (.ref (g.ec c)) n = some none) : FnOk P w K mg base (L2N.CX P w) 1 f fd N (spI g c) := by
  obtain ⟨oc, od, kV, doc, pm, an, cdv, ct, osl, e, lk, hcd⟩ := Fu.ex
  rw [e] at lk ⊢
  refine fn_of lk hcd S (fun vs H Q E h => ?_) fun A outer s H vs Q E room h => ?_
  · obtain ⟨a, ws, rfl, h1, _⟩ := h
    rw [hN, List.length_cons, h1]
  · obtain ⟨a, ws, rfl, h1, h2, ne, ha, k⟩ := h
    refine ⟨_, iB_ok rfl rfl hb, ?_⟩
    have at0 : (L2.start N (.ref a :: ws))[0]? = some (some (.ref a)) := rfl
    refine tI_run0 T at0 ha ne hf h1.symm (fun i v hv => ?_) (by rw [← h1]; exact h2) k
    show ((V.ref a :: ws).map some ++ _)[i + 1]? = _
    have hi : i < ws.length := (List.getElem?_eq_some_iff.mp hv).1
    rw [List.getElem?_append_left (by simp; omega), List.getElem?_map]
    have : (V.ref a :: ws)[i + 1]? = some v := by simpa using hv
    rw [this]; rfl
end
end EN
/-! The written part: what one look at it tells. -/
namespace EN
open PySem PySem.Spec PyProof.Rows L2
def adr (K : PySem.W.Frag) (n : Str) : Addr := match PySem.W.nsIn K mainGlobals n with
  | some (some (.ref a)) => a
  | _ => 0
def iad (K : PySem.W.Frag) (C : Addr) : Addr := match PySem.W.findIn K (.ref C) "__init__" with
  | some (some (.ref a)) => a
  | _ => 0
def fdOf (K : PySem.W.Frag) (f : Addr) : FuncData := match K.lookup f with
  | some ⟨_, _, .func d, _⟩ => d
  | _ => default
/-- a method's address -/
def mad (K : PySem.W.Frag) (D : Addr) (n : Str) : Addr := match PySem.W.findIn K (.ref D) n with
  | some (some (.ref a)) => a
  | _ => 0
def fad (K : PySem.W.Frag) (C : Cc) (f : Nat) : Addr := match C.me f with
  | none => adr K (C.gn f)
  | some c => mad K (adr K (C.cn c)) (C.gn f)
def gOf (K : PySem.W.Frag) (C : Cc) (T : Tb) (P : Program) (w : World) : G0 := { K := K, T := T, ec := fun c => adr K (C.en c), oc := fun c => adr K (C.cn c), pn := none, P := P, w := w }
/-- the classes' values: they need no program -/
def tyUK (K : PySem.W.Frag) (C : Cc) : TY → Value
  | .int => .type "int" | .str => .type "str" | .bool => .type "bool" | .list => .type "list" | .tuple => .type "tuple" | .dict => .type "dict"
  | .cls c => .ref (adr K (C.cn c)) | .exc c => .ref (adr K (C.en c)) | .ve => .type "ValueError"
def tyDK : D → Value
  | .non => .type "NoneType" | .bl _ => .type "bool" | .int _ => .type "int" | .str _ => .type "str" | .tup _ => .type "tuple" | .lst _ => .type "list" | .scr _ => .type "list"
  | .dK _ _ => .type "dict" | .dT _ _ => .type "dict" | .obj _ _ => .none | .st _ => .none
def allT (T : Tb) : List TY := [.int, .str, .bool, .list, .tuple, .dict, .ve] ++ (List.range T.ne).map .exc ++ (List.range T.nc).map .cls
/-- what must be known of an own class -/
def clsB (K : PySem.W.Frag) (C : Cc) (T : Tb) (c : Nat) : Bool :=
  decide (PySem.W.nsIn K mainGlobals (C.cn c) = some (some (.ref (adr K (C.cn c))))) && PySem.W.plainGet K (adr K (C.cn c)) Str.empty && PySem.W.hasDictIn K (adr K (C.cn c)) && PySem.W.plainOver K (adr K (C.cn c)) &&
  decide (PySem.W.findIn K (.ref (adr K (C.cn c))) "__setattr__" = some (some (.builtin "object.__setattr__"))) && decide (PySem.W.findIn K (.ref (adr K (C.cn c))) "__class__" = some (some (.builtin "object.__class__"))) && decide (PySem.W.mroIn K (adr K (C.cn c)) (.type "object") = some true) &&
  (T.of c).all (fun n => decide (PySem.W.findIn K (.ref (adr K (C.cn c))) n = some none)) && PySem.W.makesIn K (adr K (C.cn c)) && PySem.W.keepIn K (.ref (adr K (C.cn c))) && (allT T).all (fun t => decide (PySem.W.kitOne K (.ref (adr K (C.cn c))) (tyUK K C t) = some (isTy (.obj c []) t)))
/-- .. of a method -/
def metB (K : PySem.W.Frag) (C : Cc) (T : Tb) (f : Nat) : Bool := match C.me f with
  | none => true
  | some c => decide (c < T.nc) && decide (PySem.W.findIn K (.ref (adr K (C.cn c))) (C.gn f) = some (some (.ref (fad K C f)))) && PySem.W.isFn K (.ref (fad K C f)) && PySem.W.fnIn K (fad K C f) && PySem.W.keepIn K (.ref (fad K C f))
def bltN : List Str := ["len", "int", "sum", "list", "tuple", "isinstance", "range", "str", "bool", "dict", "ValueError", "all", "max", "set", "reversed"]
def allD : List D := [.non, .bl true, .int 0, .str "", .tup [], .lst [], .scr [], .dK [] [], .dT [] []]
def excB (K : PySem.W.Frag) (D : Addr) : Bool :=
  decide (PySem.W.findIn K (.ref D) "__getattribute__" = some (some (.builtin "BaseException.__getattribute__"))) && decide (PySem.W.findIn K (.ref D) "__getattr__" = some none) && decide (PySem.W.subIn K (.ref D) (.type "BaseException") = some true) && PySem.W.hasDictIn K D &&
  decide (PySem.W.findIn K (.ref D) "__class__" = some (some (.builtin "object.__class__"))) && decide (PySem.W.mroIn K D (.type "object") = some true) && decide (PySem.W.findIn K (.ref D) "__setattr__" = some (some (.builtin "object.__setattr__"))) && decide (PySem.W.typeIn K (.ref D) = some (.type "type")) && PySem.W.keepIn K (.ref D)
def relB : D → Value → Bool
  | .int i, .int j _ => decide (i = j)
  | .str x, .str y _ => decide (x = y)
  | _, _ => false
theorem rel_of {d : D} {u : Value} (h : relB d u = true) : RelV (vD d) u := by
  unfold relB at h
  split at h
  · cases of_decide_eq_true h; exact ⟨_, rfl⟩
  · cases of_decide_eq_true h; exact ⟨_, rfl⟩
  · cases h
def kB0 (K : PySem.W.Frag) (C : Cc) (T : Tb) (n : Nat) : Bool :=
  bltN.all (fun x => decide (PySem.W.nsIn K mainGlobals x = some none)) &&
  (List.range n).all (fun f => (C.me f).isSome || (decide (PySem.W.nsIn K mainGlobals (C.gn f) = some (some (.ref (adr K (C.gn f))))) && PySem.W.keepIn K (.ref (adr K (C.gn f))))) &&
  (List.range T.ne).all (fun c => decide (PySem.W.nsIn K mainGlobals (C.en c) = some (some (.ref (adr K (C.en c))))) && excB K (adr K (C.en c)) && (List.range T.ne).all (fun k => (T.ef k).all fun n => decide (PySem.W.findIn K (.ref (adr K (C.en c))) n = some none)) &&
    (isNil (T.ef c) || (decide (PySem.W.findIn K (.ref (adr K (C.en c))) "__init__" = some (some (.ref (iad K (adr K (C.en c)))))) && decide (PySem.W.typeIn K (.ref (iad K (adr K (C.en c)))) = some (.type "function")) && PySem.W.keepIn K (.ref (iad K (adr K (C.en c)))))) &&
    (List.range T.ne).all (fun k => decide (PySem.W.exmOne K (.ref (adr K (C.en c))) (.ref (adr K (C.en k))) = some (T.es c k))) && (allT T).all (fun t => decide (PySem.W.kitOne K (.ref (adr K (C.en c))) (tyUK K C t) = some (isE T c t)))) &&
  allD.all (fun d => (allT T).all fun t => decide (PySem.W.kitOne K (tyDK d) (tyUK K C t) = some (isTy d t))) &&
  (List.range T.nk).all (fun n => match PySem.W.nsIn K mainGlobals (C.kn n) with
    | some (some u) => relB (T.gc n) u
    | _ => false) &&
  decide (PySem.W.specialIn K (.builtin "object.__class__") "__get__" = some (some (.builtin "getset_descriptor.__get__"))) && decide (PySem.W.takesIn K (.builtin "object.__class__") = some true)
def kB (K : PySem.W.Frag) (C : Cc) (T : Tb) (n : Nat) : Bool := kB0 K C T n && (List.range T.nc).all (fun c => clsB K C T c) && (List.range n).all (fun f => metB K C T f)
/-- a def's object -/
def FnL (K : PySem.W.Frag) (x ql : Str) (st : Stmt) (f : Addr) : Prop := ∃ (oc : Value) (od : Option Addr) (kV doc pm : Value) (an : Option Addr) (cdv ct : Value) (osl : Array (Option Value)),
  K.lookup f = some ⟨oc, od, .func (PySem.W.fnOf x ql (defArgs st) (defBody st) (defScope st) .none kV doc pm an cdv ct), osl⟩ ∧ PySem.W.codeIn K cdv ql = true
theorem FnL.fn {K : PySem.W.Frag} {x ql : Str} {st : Stmt} {f : Addr} (h : FnL K x ql st f) (k : PySem.W.keepIn K (.ref f) = true) : Fun K x ql st f (fdOf K f) := by
  obtain ⟨oc, od, kV, doc, pm, an, cdv, ct, osl, l, c⟩ := h
  have e : fdOf K f = PySem.W.fnOf x ql (defArgs st) (defBody st) (defScope st) .none kV doc pm an cdv ct := by
    unfold fdOf
    rw [l]
  exact ⟨⟨oc, od, kV, doc, pm, an, cdv, ct, osl, e, by rw [e]; exact l, c⟩, k⟩
/-- a class of errors -/
def ClL (K : PySem.W.Frag) (C : Addr) : Prop := ∃ nm q N bs bm sn sub ab col dd k0 k1 k2 k3 k5, K.lookup C = some (excClassObj nm q C N bs bm true sn sub ab col dd k0 k1 k2 k3 k5 "ValueError.__new__") ∧ PySem.HandSPX.refsVE bm = true
def BndL (x ql : Str) (st : Stmt) (ps : List Str) : Prop := ∀ (kV doc pm : Value) (an : Option Addr) (cdv ct : Value) (us : List Value), us.length = ps.length → bindArgs (PySem.W.fnOf x ql (defArgs st) (defBody st) (defScope st) .none kV doc pm an cdv ct) ⟨us, []⟩ = pure (ps.zip us)
def BndKL (x ql : Str) (st : Stmt) (ps : List Str) : Prop := ∀ (kV doc pm : Value) (an : Option Addr) (cdv ct : Value) (us : List Value), us.length = ps.length → bindArgs (PySem.W.fnOf x ql (defArgs st) (defBody st) (defScope st) .none kV doc pm an cdv ct) ⟨[], ps.zip us⟩ = pure (ps.zip us)
theorem kwb_of {K : PySem.W.Frag} {x ql : Str} {st : Stmt} {f : Addr} {fd : FuncData} {ps : List Str} (F : Fun K x ql st f fd) (h : BndKL x ql st ps) : KwB K fd ps := by
  obtain ⟨oc, od, kV, doc, pm, an, cdv, ct, osl, rfl, lk, hcd⟩ := F.ex
  exact fun s ws _ hl => BindsTo.of_eq (h kV doc pm an cdv ct ws hl)
def scB (N ps : List Str) (sc : Scope) : Bool := decide (sc.kind = .function) && !sc.isCoroutine && !sc.isGenerator && decide N.Nodup && decide (N.take ps.length = ps) && ps.all (fun x => decide (sc.names.lookup x = some .local) || decide (sc.names.lookup x = some .cell)) && sc.names.all (fun y => decide (y.2 ≠ .free))
theorem sc_of {N ps : List Str} {sc : Scope} (h : scB N ps sc = true) : FnScope N ps sc := by
  unfold scB at h
  simp only [Bool.and_eq_true, List.all_eq_true, Bool.or_eq_true, decide_eq_true_eq, Bool.not_eq_true'] at h
  obtain ⟨⟨⟨⟨⟨⟨h1, h2⟩, h3⟩, h4⟩, h5⟩, h6⟩, h7⟩ := h
  exact ⟨h1, h2, h3, h4, h5, h6, h7⟩
end EN
/-! From the looks at the written part to the law. -/
namespace EN
open PySem PySem.Spec PyProof.Rows L2
section
variable {K : PySem.W.Frag} {mg : Str → Option Value} {h base : Heap} {C : Cc} {T : Tb} {fds : Nat → Option Fd} {n : Nat} {P : Program} {w : World}
theorem fnL_mk {x ql : Str} {st : Stmt} {f : Addr} {oc : Value} {od : Option Addr} {kV doc pm : Value} {an : Option Addr} {cdv ct : Value} {osl : Array (Option Value)} (a : PySem.W.nsIn K mainGlobals x = some (some (.ref f)))
    (l : K.lookup f = some ⟨oc, od, .func (PySem.W.fnOf x ql (defArgs st) (defBody st) (defScope st) .none kV doc pm an cdv ct), osl⟩) (c : PySem.W.codeIn K cdv ql = true) : FnL K x ql st (adr K x) := by
  have e : adr K x = f := by unfold adr; rw [a]
  rw [e]
  exact ⟨oc, od, kV, doc, pm, an, cdv, ct, osl, l, c⟩
theorem metL_mk {x ql : Str} {st : Stmt} {D f : Addr} {i c : Nat} {oc : Value} {od : Option Addr} {kV doc pm : Value} {an : Option Addr} {cdv ct : Value} {osl : Array (Option Value)} (m : C.me i = some c) (b : PySem.W.nsIn K mainGlobals (C.cn c) = some (some (.ref D))) (a : PySem.W.findIn K (.ref D) (C.gn i) = some (some (.ref f)))
    (l : K.lookup f = some ⟨oc, od, .func (PySem.W.fnOf x ql (defArgs st) (defBody st) (defScope st) .none kV doc pm an cdv ct), osl⟩) (cc : PySem.W.codeIn K cdv ql = true) : FnL K x ql st (fad K C i) := by
  have e : adr K (C.cn c) = D := by unfold adr; rw [b]
  have e2 : fad K C i = f := by unfold fad; rw [m]; show mad K (adr K (C.cn c)) (C.gn i) = f; rw [e]; unfold mad; rw [a]
  rw [e2]
  exact ⟨oc, od, kV, doc, pm, an, cdv, ct, osl, l, cc⟩
theorem fnL_fad {x ql : Str} {st : Stmt} {i : Nat} (m : C.me i = none) (h : FnL K x ql st (adr K (C.gn i))) : FnL K x ql st (fad K C i) := by
  have e : fad K C i = adr K (C.gn i) := by unfold fad; rw [m]
  rw [e]; exact h
theorem iniL_mk {cn x ql : Str} {st : Stmt} {D f : Addr} {oc : Value} {od : Option Addr} {kV doc pm : Value} {an : Option Addr} {cdv ct : Value} {osl : Array (Option Value)} (b : PySem.W.nsIn K mainGlobals cn = some (some (.ref D))) (a : PySem.W.findIn K (.ref D) "__init__" = some (some (.ref f)))
    (l : K.lookup f = some ⟨oc, od, .func (PySem.W.fnOf x ql (defArgs st) (defBody st) (defScope st) .none kV doc pm an cdv ct), osl⟩) (c : PySem.W.codeIn K cdv ql = true) : FnL K x ql st (iad K (adr K cn)) := by
  have e : adr K cn = D := by unfold adr; rw [b]
  have e2 : iad K D = f := by unfold iad; rw [a]
  rw [e, e2]
  exact ⟨oc, od, kV, doc, pm, an, cdv, ct, osl, l, c⟩
theorem clL_mk {cn : Str} {D : Addr} {nm q : Str} {M : Addr} {bs bm : List Value} {sn : List Str} {sub : List Value} {ab : Bool} {col : Option Bool} {dd : Option Addr} {k0 k1 k2 k3 k5 : Option Value} (b : PySem.W.nsIn K mainGlobals cn = some (some (.ref D)))
    (l : K.lookup D = some (excClassObj nm q D M bs bm true sn sub ab col dd k0 k1 k2 k3 k5 "ValueError.__new__")) (r : PySem.HandSPX.refsVE bm = true) : ClL K (adr K cn) := by
  have e : adr K cn = D := by unfold adr; rw [b]
  rw [e]
  exact ⟨nm, q, M, bs, bm, sn, sub, ab, col, dd, k0, k1, k2, k3, k5, l, r⟩
/-- what is said of the text apart from the heap -/
structure TxtS (C : Cc) (T : Tb) (fds : Nat → Option Fd) (n : Nat) (N ps : Nat → List Str) (ql : Nat → Str) (st : Nat → Stmt) (qi : Nat → Str) (Ni : Nat → List Str) (sti : Nat → Stmt) : Prop where
  cl : ∀ f, okF C f = true → f < n
  clm : ∀ f, C.cl false f = true → C.me f = none
  chk : ∀ f, okF C f = true → scB (N f) (ps f) (defScope (st f)) = true ∧ ∃ d, fds f = some d ∧ cSs C T (N f) false (defScope (st f)) d.body (defBody (st f)) = true ∧ (ps f).length = d.np ∧ (N f).length = d.ns
  hot : ∀ f, C.cl true f = true → C.cl false f = true ∧ ∀ d, fds f = some d → cSs C T (N f) true (defScope (st f)) d.body (defBody (st f)) = true ∧ d.body.noTry = true
  bnd : ∀ f, okF C f = true → BndL (C.gn f) (ql f) (st f) (ps f)
  bnk : ∀ f, C.cl false f = true → C.kw f = true → C.pn f = ps f ∧ BndKL (C.gn f) (ql f) (st f) (ps f)
  ini : ∀ c, c < T.ne → T.ef c ≠ [] → scB (Ni c) (Ni c) (defScope (sti c)) = true ∧ iB (defScope (sti c)) (Ni c) (T.ef c) 0 (defBody (sti c)) = true ∧ (Ni c).length = (T.ef c).length + 1 ∧ BndL "__init__" (qi c) (sti c) (Ni c)
theorem all_lt {n : Nat} {p : Nat → Bool} (h : (List.range n).all p = true) {i : Nat} (hi : i < n) : p i = true := List.all_eq_true.mp h i (List.mem_range.mpr hi)
theorem tyD_rep (d : D) (nt : isTyN d = true) (hd : ∀ c fs, d ≠ .obj c fs) : ∃ e ∈ allD, (∀ g : G0, tyD g d = tyDK e) ∧ ∀ t, isTy d t = isTy e t := by
  cases d with
  | non => exact ⟨.non, by simp [allD], fun g => rfl, fun t => rfl⟩
  | bl b => exact ⟨.bl true, by simp [allD], fun g => rfl, fun t => by cases t <;> rfl⟩
  | int i => exact ⟨.int 0, by simp [allD], fun g => rfl, fun t => by cases t <;> rfl⟩
  | str x => exact ⟨.str "", by simp [allD], fun g => rfl, fun t => by cases t <;> rfl⟩
  | tup ds => exact ⟨.tup [], by simp [allD], fun g => rfl, fun t => by cases t <;> rfl⟩
  | lst ds => exact ⟨.lst [], by simp [allD], fun g => rfl, fun t => by cases t <;> rfl⟩
  | scr ns => exact ⟨.scr [], by simp [allD], fun g => rfl, fun t => by cases t <;> rfl⟩
  | dK ks vs => exact ⟨.dK [] [], by simp [allD], fun g => rfl, fun t => by cases t <;> rfl⟩
  | dT ks vs => exact ⟨.dT [] [], by simp [allD], fun g => rfl, fun t => by cases t <;> rfl⟩
  | obj c fs => exact absurd rfl (hd c fs)
  | st ks => cases nt
theorem allT_mem {T : Tb} {t : TY} (h : T.tok t = true) : t ∈ allT T := by
  unfold allT
  cases t with
  | exc c => exact List.mem_append_left _ (List.mem_append_right _ (List.mem_map.mpr ⟨c, List.mem_range.mpr (of_decide_eq_true h), rfl⟩))
  | cls c => exact List.mem_append_right _ (List.mem_map.mpr ⟨c, List.mem_range.mpr (of_decide_eq_true h), rfl⟩)
  | _ => exact List.mem_append_left _ (List.mem_append_left _ (by simp))
theorem txt_of {N ps : Nat → List Str} {ql : Nat → Str} {st : Nat → Stmt} {qi : Nat → Str} {Ni : Nat → List Str} {sti : Nat → Stmt} (S : TxtS C T fds n N ps ql st qi Ni sti) (X : K.In h) (G : h.Ns mainGlobals mg) (hk : kB K C T n = true)
    (fns : ∀ f, f < n → FnL K (C.gn f) (ql f) (st f) (fad K C f)) (cls : ∀ c, c < T.ne → ClL K (adr K (C.en c))) (ini : ∀ c, c < T.ne → T.ef c ≠ [] → FnL K "__init__" (qi c) (sti c) (iad K (adr K (C.en c)))) :
    Txt P w K mg base C (gOf K C T P w) fds N ps ql st (fun f => fad K C f) (fun f => fdOf K (fad K C f)) := by
  unfold kB at hk
  obtain ⟨hk, km⟩ := and2 hk
  obtain ⟨hk, kc⟩ := and2 hk
  unfold kB0 at hk
  obtain ⟨hk, k6⟩ := and2 hk
  obtain ⟨hk, k5⟩ := and2 hk
  obtain ⟨hk, kk⟩ := and2 hk
  obtain ⟨hk, k4⟩ := and2 hk
  obtain ⟨hk, k3⟩ := and2 hk
  obtain ⟨k1, k2⟩ := and2 hk
  have kg : ∀ f, f < n → C.me f = none → PySem.W.nsIn K mainGlobals (C.gn f) = some (some (.ref (fad K C f))) ∧ PySem.W.keepIn K (.ref (fad K C f)) = true := fun f hf hm => by
    have z := all_lt k2 hf
    rw [hm] at z
    have e : fad K C f = adr K (C.gn f) := by unfold fad; rw [hm]
    rw [e]
    have z : (decide (PySem.W.nsIn K mainGlobals (C.gn f) = some (some (.ref (adr K (C.gn f))))) && PySem.W.keepIn K (.ref (adr K (C.gn f)))) = true := z
    obtain ⟨z1, z2⟩ := and2 z
    exact ⟨of_decide_eq_true z1, z2⟩
  have kme : ∀ f c, f < n → C.me f = some c → c < T.nc ∧ PySem.W.findIn K (.ref (adr K (C.cn c))) (C.gn f) = some (some (.ref (fad K C f))) ∧ PySem.W.isFn K (.ref (fad K C f)) = true ∧ PySem.W.fnIn K (fad K C f) = true ∧ PySem.W.keepIn K (.ref (fad K C f)) = true := fun f c hf hm => by
    have z := all_lt km hf
    unfold metB at z
    rw [hm] at z
    obtain ⟨z, z5⟩ := and2 z
    obtain ⟨z, z4⟩ := and2 z
    obtain ⟨z, z3⟩ := and2 z
    obtain ⟨z1, z2⟩ := and2 z
    exact ⟨of_decide_eq_true z1, of_decide_eq_true z2, z3, z4, z5⟩
  have keepF : ∀ f, f < n → PySem.W.keepIn K (.ref (fad K C f)) = true := fun f hf => by
    cases hm : C.me f with
    | none => exact (kg f hf hm).2
    | some c => exact (kme f c hf hm).2.2.2.2
  have kcl := fun c (hc : c < T.nc) => by
    have z := all_lt kc hc
    unfold clsB at z
    exact z
  have ke := fun c (hc : c < T.ne) => all_lt k3 hc
  have ex : ∀ c, c < T.ne → HotK K (gOf K C T P w) (adr K (C.en c)) ∧ PySem.W.nsIn K mainGlobals (C.en c) = some (some (.ref (adr K (C.en c)))) ∧ PySem.W.findIn K (.ref (adr K (C.en c))) "__setattr__" = some (some (.builtin "object.__setattr__")) ∧ PySem.W.typeIn K (.ref (adr K (C.en c))) = some (.type "type") ∧ PySem.W.keepIn K (.ref (adr K (C.en c))) = true := fun c hc => by
    have z := ke c hc
    obtain ⟨z, _⟩ := and2 z
    obtain ⟨z, _⟩ := and2 z
    obtain ⟨z, _⟩ := and2 z
    obtain ⟨z, zn⟩ := and2 z
    obtain ⟨z1, zb⟩ := and2 z
    unfold excB at zb
    obtain ⟨zb, b9⟩ := and2 zb
    obtain ⟨zb, b8⟩ := and2 zb
    obtain ⟨zb, b7⟩ := and2 zb
    obtain ⟨zb, b6⟩ := and2 zb
    obtain ⟨zb, b5⟩ := and2 zb
    obtain ⟨zb, b4⟩ := and2 zb
    obtain ⟨zb, b3⟩ := and2 zb
    obtain ⟨b1, b2⟩ := and2 zb
    refine ⟨⟨⟨of_decide_eq_true b1, of_decide_eq_true b2, of_decide_eq_true b3, b4, of_decide_eq_true b5, of_decide_eq_true k5, of_decide_eq_true k6, of_decide_eq_true b6⟩, fun m hm => ?_⟩, of_decide_eq_true z1, of_decide_eq_true b7, of_decide_eq_true b8, b9⟩
    obtain ⟨k, hk, hm⟩ := hm
    exact of_decide_eq_true (List.all_eq_true.mp (all_lt zn hk) m hm)
  have oex : ∀ c, c < T.ne → OexC K (adr K (C.en c)) := fun c hc => let ⟨a, _, b, d, e⟩ := ex c hc; ⟨cls c hc, b, a.c.hs, d, e⟩
  refine
    { pn := rfl
      hK := rfl
      hP := rfl
      hw := rfl
      kf := ⟨fun d t nt ht hd => ?_, fun c t ht hc => ?_, fun c hc => ?_, fun c k hc hk => ?_, of_decide_eq_true k5, of_decide_eq_true k6⟩
      bl := fun x hx => PySem.W.mg_none_of X G (of_decide_eq_true (List.all_eq_true.mp k1 x hx))
      en := fun c hc => PySem.W.mg_of X G (ex c hc).2.1
      cn := fun c hc => ?_
      kc := fun n hn => by
        have z := all_lt kk hn
        split at z
        · rename_i u e
          exact ⟨u, PySem.W.mg_of X G e, rel_of z⟩
        · cases z
      kw := fun f hf hw => ?_
      mec := fun f c hm => (kme f c (S.cl f (ok_me hm)) hm).1
      gl := fun f hf => PySem.W.mg_of X G (kg f (S.cl f (ok_cl hf)) (S.clm f hf)).1
      mth := fun f c hm => let ⟨a, b, c, d, e⟩ := kme f c (S.cl f (ok_me hm)) hm; ⟨⟨b, c, e⟩, d⟩
      mki := fun c hc hm hn => ?_
      fn := fun f hf => ?_
      fh := S.hot
      ek := fun c hc => (ex c hc).1
      er := fun c hc => ⟨oex c hc, fun ne => ?_⟩ }
  · cases d with
    | obj c fs =>
      have hc : c < T.nc := hd c fs rfl
      have z := (and2 (kcl c hc)).2
      have q : PySem.W.kitOne K (.ref (adr K (C.cn c))) (tyUK K C t) = some (isTy (.obj c []) t) := of_decide_eq_true (List.all_eq_true.mp z t (allT_mem ht))
      have e3 : isTy (.obj c fs) t = isTy (.obj c []) t := by cases t <;> rfl
      have e4 : tyU (gOf K C T P w) t = tyUK K C t := by cases t <;> rfl
      show PySem.W.kitOne K (.ref (adr K (C.cn c))) (tyU (gOf K C T P w) t) = _
      rw [e3, e4]
      exact q
    | _ =>
      obtain ⟨e, he, e1, e2⟩ := tyD_rep _ nt (fun c fs z => nomatch z)
      rw [e1, e2]
      exact of_decide_eq_true (List.all_eq_true.mp (List.all_eq_true.mp k4 e he) t (allT_mem ht))
  · have z := (and2 (ke c hc)).2
    exact of_decide_eq_true (List.all_eq_true.mp z t (allT_mem ht))
  · have z := kcl c hc
    obtain ⟨z, _⟩ := and2 z
    obtain ⟨z, _⟩ := and2 z
    obtain ⟨z, _⟩ := and2 z
    obtain ⟨z, z8⟩ := and2 z
    obtain ⟨z, z7⟩ := and2 z
    obtain ⟨z, z6⟩ := and2 z
    obtain ⟨z, z5⟩ := and2 z
    obtain ⟨z, z4⟩ := and2 z
    obtain ⟨z, z3⟩ := and2 z
    obtain ⟨z1, z2⟩ := and2 z
    exact ⟨⟨z2, z3, z4, of_decide_eq_true z5⟩, of_decide_eq_true z6, of_decide_eq_true z7, fun n hn => by
      have y : PySem.W.findIn K (.ref (adr K (C.cn c))) n = some none := of_decide_eq_true (List.all_eq_true.mp z8 n hn)
      exact y⟩
  · have z := (and2 (and2 (ke c hc)).1).2
    exact of_decide_eq_true (all_lt z hk)
  · have z := kcl c hc
    obtain ⟨z, _⟩ := and2 z
    obtain ⟨z, _⟩ := and2 z
    obtain ⟨z, _⟩ := and2 z
    obtain ⟨z, _⟩ := and2 z
    obtain ⟨z, _⟩ := and2 z
    obtain ⟨z, _⟩ := and2 z
    obtain ⟨z, _⟩ := and2 z
    obtain ⟨z, _⟩ := and2 z
    obtain ⟨z, _⟩ := and2 z
    obtain ⟨z1, _⟩ := and2 z
    exact PySem.W.mg_of X G (of_decide_eq_true z1)
  · obtain ⟨a, b⟩ := S.bnk f hf hw
    have hn := S.cl f (ok_cl hf)
    exact ⟨a, kwb_of ((fns f hn).fn (keepF f hn)) b⟩
  · obtain ⟨z, _⟩ := and2 (kcl c hc)
    obtain ⟨z, z10⟩ := and2 z
    obtain ⟨z, z9⟩ := and2 z
    obtain ⟨_, b, d, _, _⟩ := kme _ c (S.cl _ (ok_me hm)) hm
    have hn : C.gn (T.ini c) = ("__init__" : Str) := hn
    have b : PySem.W.findIn K (.ref (adr K (C.cn c))) (C.gn (T.ini c)) = some (some (.ref (fad K C (T.ini c)))) := b
    rw [hn] at b
    exact ⟨z9, b, d, z10⟩
  · obtain ⟨sc, d, e1, e2, e3, e4⟩ := S.chk f hf
    have hn := S.cl f hf
    have F := (fns f hn).fn (keepF f hn)
    exact ⟨F, sc_of sc, F.binds (S.bnd f hf), d, e1, e2, e3, e4⟩
  · have z := (and2 (and2 (and2 (ke c hc)).1).1).2
    have ne : T.ef c ≠ [] := ne
    have z2 : (decide (PySem.W.findIn K (.ref (adr K (C.en c))) "__init__" = some (some (.ref (iad K (adr K (C.en c)))))) && decide (PySem.W.typeIn K (.ref (iad K (adr K (C.en c)))) = some (.type "function")) && PySem.W.keepIn K (.ref (iad K (adr K (C.en c))))) = true := by
      rcases Bool.or_eq_true_iff.mp z with y | y
      · cases e : T.ef c with
        | nil => exact absurd e ne
        | cons a b => rw [e] at y; cases y
      · exact y
    obtain ⟨y, y3⟩ := and2 z2
    obtain ⟨y1, y2⟩ := and2 y
    obtain ⟨s1, s2, s3, s4⟩ := S.ini c hc ne
    have F := (ini c hc ne).fn y3
    exact ⟨_, _, Ni c, of_decide_eq_true y1, of_decide_eq_true y2, init_ok (g := gOf K C T P w) F (sc_of s1) (oex c hc) s2 s3 fun m hm => (ex c hc).1.no m ⟨c, hc, hm⟩, F.binds s4⟩
/-- the law: it is called with the script -/
def spLaw (K : PySem.W.Frag) : Sp := fun vs H Q _ => ∃ (a : Addr) (ns : List Int), vs = [.ref a] ∧ SqL K H a (ns.map V.int) ∧ ns.length ≤ 63 ∧ ∀ H', Q (.bl true) H'
theorem law_sp {g : G0} {k f : Nat} (hr : ∀ ns : List Int, ns.length ≤ 63 → ∃ ps, runF T fds k f [.d (.scr ns)] = .ok (.d (.bl true)) ps) {vs : List V} {H : Hp} {Q : VK} {E : XK} (hs : spLaw g.K vs H Q E) : spN g (runF T fds k) f vs H Q E := by
  obtain ⟨a, ns, rfl, hS, hl, hq⟩ := hs
  obtain ⟨ps, e⟩ := hr ns hl
  let F : Hp := fun b => if b = a then H a else none
  have sm : Same F H := fun b o h => by
    by_cases hb : b = a
    · subst hb; exact (if_pos rfl).symm.trans h
    · rw [show F b = none from if_neg hb] at h; cases h
  have hF : SqL g.K F a (ns.map V.int) := by
    rcases hS with (x | ⟨o, x⟩) | x
    · exact .inl (.inl ((if_pos rfl).trans x))
    · exact .inl (.inr ⟨o, (if_pos rfl).trans x⟩)
    · exact .inr x
  refine ⟨[.d (.scr ns)], F, ⟨sm, rfl, fun i => ?_, fun i j p ne x y => ?_⟩, ?_⟩
  · cases i with
    | zero => exact .d rfl (.scr hF)
    | succ i => exact .un
  · obtain ⟨⟨c, z⟩, _⟩ := x
    cases i with
    | zero => cases z
    | succ i => cases z
  · rw [e]
    intro x F' H' out rv
    have rv : Rep g F' x (.bl true) := rv
    cases rv
    exact hq H'
end
end EN
namespace K05
open PySem EN
def b__wall : ISs :=
 (.cons (.whl (.lit (.bl true)) (.cons .pass
 .nil))
 .nil)
def b_is_integer : ISs :=
 (.cons (.ret (.and (.isi (.var 0) .int) (.not (.isi (.var 0) .bool))))
 .nil)
def b_is_number : ISs :=
 (.cons (.ret (.and (.call 1 (.cons (.var 0) .nil)) (.cmp .ge (.var 0) (.lit (.int 0)))))
 .nil)
def b_is_name : ISs :=
 (.cons (.ifS (.or (.not (.isi (.var 0) .str)) (.not (.ch .le .le (.lit (.int 1)) (.bi .len (.cons (.var 0) .nil)) (.gc 0)))) (.cons (.ret (.lit (.bl false)))
 .nil) .nil)
 (.cons (.ret (.bi .all (.cons (.lc (.ch .le .le (.lit (.str "a")) (.var 1) (.lit (.str "z"))) 1 (.txt (.var 0)) false (.lit (.bl true))) .nil)))
 .nil))
def b_is_sequence : ISs :=
 (.cons (.ret (.isiT (.var 0) [.list, .tuple]))
 .nil)
def b_has_parts : ISs :=
 (.cons (.ret (.and (.isi (.var 0) .tuple) (.cmp .eq (.bi .len (.cons (.var 0) .nil)) (.var 1))))
 .nil)
def b_is_edge : ISs :=
 (.cons (.ifS (.not (.call 5 (.cons (.var 0) (.cons (.lit (.int 5)) .nil)))) (.cons (.ret (.lit (.bl false)))
 .nil) .nil)
 (.cons (.asgT [1, 2, 3, 4, 5] (.var 0))
 (.cons (.asg 6 (.and (.call 3 (.cons (.var 1) .nil)) (.and (.call 3 (.cons (.var 2) .nil)) (.call 3 (.cons (.var 3) .nil)))))
 (.cons (.ret (.and (.var 6) (.and (.call 1 (.cons (.var 4) .nil)) (.call 2 (.cons (.var 5) .nil)))))
 .nil))))
def b_require_nodes : ISs :=
 (.cons (.forS 2 (.e (.var 1)) (.cons (.ifS (.inO true 0 30 (.var 2) (.var 0)) (.cons (.raise 3 (.cons (.var 2) .nil))
 .nil) .nil)
 .nil))
 .nil)
def b__leads : ISs :=
 (.cons (.ifS (.not (.isi (.var 3) .tuple)) (.cons (.ret (.lit (.bl false)))
 .nil) .nil)
 (.cons (.asg 4 (.var 1))
 (.cons (.forS 5 (.e (.var 3)) (.cons (.ifS (.or (.not (.isi (.var 5) .str)) (.cmp .notin (.tup (.cons (.var 5) (.cons (.var 4) .nil))) (.var 0))) (.cons (.ret (.lit (.bl false)))
 .nil) .nil)
 (.cons (.asg 4 (.ix (.var 0) (.tup (.cons (.var 5) (.cons (.var 4) .nil)))))
 .nil)))
 (.cons (.ret (.cmp .eq (.var 4) (.var 2)))
 .nil))))
def b_is_way : ISs :=
 (.cons (.expr (.call 7 (.cons (.var 0) (.cons (.tup (.cons (.var 1) (.cons (.var 2) .nil))) .nil))))
 (.cons (.asg 4 (.dcT (.cons (.ix (.var 5) (.lit (.int 0))) (.cons (.ix (.var 5) (.lit (.int 1))) .nil)) (.ix (.var 5) (.lit (.int 2))) 5 (.e (.fld (.var 0) "edges")) false (.lit (.bl true))))
 (.cons (.ret (.call 8 (.cons (.var 4) (.cons (.var 1) (.cons (.var 2) (.cons (.var 3) .nil))))))
 .nil)))
def b_is_walk : ISs :=
 (.cons (.expr (.call 7 (.cons (.var 0) (.cons (.tup (.cons (.var 1) (.cons (.var 2) .nil))) .nil))))
 (.cons (.asg 4 .dctT)
 (.cons (.forT [5, 6, 7] (.e (.lc (.slc (.var 8) (.lit .non) (.lit (.int 3))) 8 (.e (.fld (.var 0) "edges")) false (.lit (.bl true)))) (.cons (.putT 4 (.cons (.var 5) (.cons (.var 6) .nil)) (.var 7))
 (.cons (.putT 4 (.cons (.var 5) (.cons (.var 7) .nil)) (.var 6))
 .nil)))
 (.cons (.ret (.call 8 (.cons (.var 4) (.cons (.var 1) (.cons (.var 2) (.cons (.var 3) .nil))))))
 .nil))))
def b_price_of : ISs :=
 (.cons (.ret (.bi .sum (.cons (.lc (.ix (.ixO 0 31 (.var 0) (.var 2)) (.lit (.int 3))) 2 (.e (.var 1)) false (.lit (.bl true))) .nil)))
 .nil)
def b__are_unlike_names : ISs :=
 (.cons (.ifS (.or (.not (.call 4 (.cons (.var 0) .nil))) (.not (.bi .all (.cons (.lc (.call 3 (.cons (.var 1) .nil)) 1 (.e (.var 0)) false (.lit (.bl true))) .nil)))) (.cons (.ret (.lit (.bl false)))
 .nil) .nil)
 (.cons (.ret (.cmp .eq (.bi .len (.cons (.bi .set (.cons (.var 0) .nil)) .nil)) (.bi .len (.cons (.var 0) .nil))))
 .nil))
def b__check_edges : ISs :=
 (.cons (.asg 2 (.bi .set (.cons (.var 0) .nil)))
 (.cons (.asg 3 (.bi .set .nil))
 (.cons (.forS 4 (.e (.var 1)) (.cons (.ifS (.or (.not (.call 6 (.cons (.var 4) .nil))) (.cmp .isin (.ix (.var 4) (.lit (.int 0))) (.var 3))) (.cons (.raise 1 (.cons (.var 4) .nil))
 .nil) .nil)
 (.cons (.ifS (.or (.cmp .notin (.ix (.var 4) (.lit (.int 1))) (.var 2)) (.cmp .notin (.ix (.var 4) (.lit (.int 2))) (.var 2))) (.cons (.raise 1 (.cons (.var 4) .nil))
 .nil) .nil)
 (.cons (.sadd 3 (.ix (.var 4) (.lit (.int 0))))
 .nil))))
 .nil)))
def b__law_mixed : ISs :=
 (.cons (.asg 2 (.bin .mod (.bi .int (.cons (.bin .add (.bin .add (.bin .mul (.bi .int (.cons (.var 0) .nil)) (.lit (.int 48271))) (.bin .mul (.var 1) (.lit (.int 69621)))) (.lit (.int 11))) .nil)) (.lit (.int 2147483647))))
 (.cons (.ret (.bin .mod (.bi .int (.cons (.bin .add (.bin .add (.bin .mul (.var 2) (.lit (.int 40692))) (.bin .mul (.bin .fdiv (.var 2) (.lit (.int 127))) (.lit (.int 131)))) (.bin .mul (.var 1) (.lit (.int 7)))) .nil)) (.lit (.int 2147483399))))
 .nil))
def b__law_draw : ISs :=
 (.cons (.put 1 (.lit (.str "count")) (.bin .add (.ix (.var 1) (.lit (.str "count"))) (.lit (.int 1))))
 (.cons (.ifS (.and (.cmp .eq (.ix (.var 1) (.lit (.str "rest"))) (.lit (.int 0))) (.cmp .lt (.ix (.var 1) (.lit (.str "next"))) (.bi .len (.cons (.var 0) .nil)))) (.cons (.asg 3 (.ix (.var 0) (.ix (.var 1) (.lit (.str "next")))))
 (.cons (.put 1 (.lit (.str "next")) (.bin .add (.ix (.var 1) (.lit (.str "next"))) (.lit (.int 1))))
 (.cons (.ifS (.or (.cmp .lt (.var 3) (.bin .pow (.lit (.int 10)) (.lit (.int 18)))) (.cmp .eq (.bin .mod (.bi .int (.cons (.ix (.var 0) (.lit (.int 0))) .nil)) (.lit (.int 2))) (.lit (.int 1)))) (.cons (.ret (.bin .mod (.bi .int (.cons (.call 14 (.cons (.var 3) (.cons (.ix (.var 1) (.lit (.str "count"))) .nil))) .nil)) (.var 2)))
 .nil) .nil)
 (.cons (.put 1 (.lit (.str "rest")) (.bin .fdiv (.var 3) (.lit (.int 2))))
 (.cons (.put 1 (.lit (.str "digits")) (.lit (.int 60)))
 .nil))))) .nil)
 (.cons (.ifS (.cmp .gt (.ix (.var 1) (.lit (.str "rest"))) (.lit (.int 0))) (.cons (.asg 4 (.bin .mod (.bi .int (.cons (.ix (.var 1) (.lit (.str "rest"))) .nil)) (.var 2)))
 (.cons (.put 1 (.lit (.str "digits")) (.bin .sub (.ix (.var 1) (.lit (.str "digits"))) (.lit (.int 1))))
 (.cons (.put 1 (.lit (.str "rest")) (.bin .mul (.bin .fdiv (.ix (.var 1) (.lit (.str "rest"))) (.var 2)) (.bi .int (.cons (.cmp .gt (.ix (.var 1) (.lit (.str "digits"))) (.lit (.int 0))) .nil))))
 (.cons (.ret (.var 4))
 .nil)))) .nil)
 (.cons (.asg 3 (.lit (.int 0)))
 (.cons (.ifS (.cmp .gt (.bi .len (.cons (.var 0) .nil)) (.lit (.int 0))) (.cons (.asg 3 (.ix (.var 0) (.bin .mod (.bi .int (.cons (.ix (.var 1) (.lit (.str "count"))) .nil)) (.bi .len (.cons (.var 0) .nil)))))
 .nil) .nil)
 (.cons (.ret (.bin .mod (.bi .int (.cons (.call 14 (.cons (.var 3) (.cons (.ix (.var 1) (.lit (.str "count"))) .nil))) .nil)) (.var 2)))
 .nil))))))
def b__law_names : ISs :=
 (.cons (.asg 3 (.lit (.str "abcdefghijklmnopqrstuvwxyz")))
 (.cons (.asg 4 (.lit (.str "")))
 (.cons (.forS 5 (.rng (.bin .mul (.call 15 (.cons (.var 0) (.cons (.var 1) (.cons (.lit (.int 4)) .nil)))) (.call 15 (.cons (.var 0) (.cons (.var 1) (.cons (.lit (.int 2)) .nil)))))) (.cons (.asg 4 (.bin .add (.var 4) (.ix (.var 3) (.call 15 (.cons (.var 0) (.cons (.var 1) (.cons (.lit (.int 26)) .nil)))))))
 .nil))
 (.cons (.asg 6 (.lit (.str "")))
 (.cons (.forS 5 (.rng (.bin .mul (.call 15 (.cons (.var 0) (.cons (.var 1) (.cons (.lit (.int 5)) .nil)))) (.call 15 (.cons (.var 0) (.cons (.var 1) (.cons (.lit (.int 2)) .nil)))))) (.cons (.asg 6 (.bin .add (.var 6) (.ix (.var 3) (.call 15 (.cons (.var 0) (.cons (.var 1) (.cons (.lit (.int 26)) .nil)))))))
 .nil))
 (.cons (.asg 7 (.call 15 (.cons (.var 0) (.cons (.var 1) (.cons (.lit (.int 26)) .nil)))))
 (.cons (.ifS (.cmp .eq (.call 15 (.cons (.var 0) (.cons (.var 1) (.cons (.lit (.int 3)) .nil)))) (.lit (.int 1))) (.cons (.ret (.lc (.slc (.bin .add (.ix (.var 3) (.bin .mod (.bi .int (.cons (.bin .add (.var 7) (.var 5)) .nil)) (.lit (.int 26)))) (.bin .mul (.lit (.str "z")) (.lit (.int 7)))) (.lit .non) (.bin .add (.lit (.int 1)) (.bin .mod (.bi .int (.cons (.bin .add (.var 7) (.bin .mul (.lit (.int 5)) (.var 5))) .nil)) (.lit (.int 8))))) 5 (.rng (.var 2)) false (.lit (.bl true))))
 .nil) .nil)
 (.cons (.ret (.lc (.bin .add (.bin .add (.var 4) (.ix (.var 3) (.bin .mod (.bi .int (.cons (.bin .add (.var 7) (.var 5)) .nil)) (.lit (.int 26))))) (.var 6)) 5 (.rng (.var 2)) false (.lit (.bl true))))
 .nil))))))))
def b__law_edge : ISs :=
 (.cons (.asg 4 (.ix (.var 2) (.call 15 (.cons (.var 0) (.cons (.var 1) (.cons (.bi .len (.cons (.var 2) .nil)) .nil))))))
 (.cons (.asg 5 (.ix (.var 2) (.call 15 (.cons (.var 0) (.cons (.var 1) (.cons (.bi .len (.cons (.var 2) .nil)) .nil))))))
 (.cons (.asg 6 (.ix (.lst (.cons (.bin .sub (.call 15 (.cons (.var 0) (.cons (.var 1) (.cons (.lit (.int 199)) .nil)))) (.lit (.int 99))) (.cons (.bin .sub (.call 15 (.cons (.var 0) (.cons (.var 1) (.cons (.lit (.int 7)) .nil)))) (.lit (.int 3))) (.cons (.lit (.int 0)) (.cons (.neg (.lit (.int 99))) (.cons (.lit (.int 99)) .nil)))))) (.call 15 (.cons (.var 0) (.cons (.var 1) (.cons (.lit (.int 5)) .nil))))))
 (.cons (.ret (.tup (.cons (.var 3) (.cons (.var 4) (.cons (.var 5) (.cons (.var 6) (.cons (.ix (.lst (.cons (.call 15 (.cons (.var 0) (.cons (.var 1) (.cons (.lit (.int 21)) .nil)))) (.cons (.lit (.int 0)) (.cons (.lit (.int 20)) (.cons (.lit (.int 1)) .nil))))) (.call 15 (.cons (.var 0) (.cons (.var 1) (.cons (.lit (.int 4)) .nil))))) .nil)))))))
 .nil))))
def b__law_drawn : ISs :=
 (.cons (.asg 4 (.call 16 (.cons (.var 0) (.cons (.var 1) (.cons (.var 2) .nil)))))
 (.cons (.asg 5 (.call 16 (.cons (.var 0) (.cons (.var 1) (.cons (.var 3) .nil)))))
 (.cons (.asg 6 (.slc (.var 4) (.lit .non) (.call 15 (.cons (.var 0) (.cons (.var 1) (.cons (.bin .add (.var 2) (.lit (.int 1))) .nil))))))
 (.cons (.ifS (.cmp .eq (.call 15 (.cons (.var 0) (.cons (.var 1) (.cons (.lit (.int 2)) .nil)))) (.lit (.int 1))) (.cons (.asg 6 (.revL (.bi .list (.cons (.var 6) .nil))))
 .nil) .nil)
 (.cons (.asg 7 (.lst .nil))
 (.cons (.ifS (.cmp .gt (.bi .len (.cons (.var 6) .nil)) (.lit (.int 0))) (.cons (.forS 8 (.rng (.call 15 (.cons (.var 0) (.cons (.var 1) (.cons (.bin .add (.var 3) (.lit (.int 1))) .nil))))) (.cons (.app 7 (.call 17 (.cons (.var 0) (.cons (.var 1) (.cons (.var 6) (.cons (.ix (.var 5) (.var 8)) .nil))))))
 .nil))
 .nil) .nil)
 (.cons (.ret (.tup (.cons (.bi .tuple (.cons (.var 6) .nil)) (.cons (.bi .tuple (.cons (.var 7) .nil)) .nil))))
 .nil)))))))
def b__law_alike : ISs :=
 (.cons (.ifS (.isN (.var 1)) (.cons (.ret (.isN (.var 0)))
 .nil) .nil)
 (.cons (.ifS (.isi (.var 1) .bool) (.cons (.ret (.and (.isi (.var 0) .bool) (.cmp .eq (.var 0) (.var 1))))
 .nil) .nil)
 (.cons (.ifS (.isi (.var 1) .int) (.cons (.ret (.and (.isi (.var 0) .int) (.and (.not (.isi (.var 0) .bool)) (.cmp .eq (.var 0) (.var 1)))))
 .nil) .nil)
 (.cons (.ifS (.isi (.var 1) .str) (.cons (.ret (.and (.isi (.var 0) .str) (.cmp .eq (.var 0) (.var 1))))
 .nil) .nil)
 (.cons (.ifS (.or (.cmp .ne (.isi (.var 1) .tuple) (.isi (.var 0) .tuple)) (.cmp .ne (.isi (.var 1) .list) (.isi (.var 0) .list))) (.cons (.ret (.lit (.bl false)))
 .nil) .nil)
 (.cons (.ifS (.cmp .ne (.bi .len (.cons (.var 0) .nil)) (.bi .len (.cons (.var 1) .nil))) (.cons (.ret (.lit (.bl false)))
 .nil) .nil)
 (.cons (.forS 2 (.rng (.bi .len (.cons (.var 1) .nil))) (.cons (.ifS (.not (.call 19 (.cons (.ix (.var 0) (.var 2)) (.cons (.ix (.var 1) (.var 2)) .nil)))) (.cons (.ret (.lit (.bl false)))
 .nil) .nil)
 .nil))
 (.cons (.ret (.lit (.bl true)))
 .nil))))))))
def b__law_classes : ISs :=
 (.cons (.asg 1 (.tup (.cons (.isi (.var 0) (.exc 1)) (.cons (.isi (.var 0) (.exc 2)) (.cons (.isi (.var 0) (.exc 3)) (.cons (.isi (.var 0) (.exc 4)) .nil))))))
 (.cons (.asg 2 (.tup (.cons (.isi (.var 0) (.exc 5)) (.cons (.isi (.var 0) (.exc 6)) (.cons (.isi (.var 0) (.exc 7)) (.cons (.isi (.var 0) (.exc 8)) .nil))))))
 (.cons (.asg 3 (.tup (.cons (.isi (.var 0) (.exc 9)) (.cons (.isi (.var 0) (.exc 10)) (.cons (.isi (.var 0) (.exc 11)) (.cons (.isi (.var 0) (.exc 12)) .nil))))))
 (.cons (.ret (.bin .add (.bin .add (.bin .add (.var 1) (.var 2)) (.var 3)) (.tup (.cons (.isi (.var 0) (.exc 13)) .nil))))
 .nil))))
def b__law_lone : ISs :=
 (.cons (.ret (.and (.cmp .eq (.bi .sum (.cons (.lc (.bi .int (.cons (.var 1) .nil)) 1 (.e (.call 20 (.cons (.var 0) .nil))) false (.lit (.bl true))) .nil)) (.lit (.int 1))) (.and (.isi (.var 0) (.exc 0)) (.isi (.var 0) .ve))))
 .nil)
def b__law_end : ISs :=
 (.cons (.forS 4 (.e (.var 0)) (.cons (.ifS (.cmp .eq (.ix (.var 4) (.lit (.int 0))) (.var 1)) (.cons (.ifS (.cmp .eq (.ix (.var 4) (.lit (.int 1))) (.var 2)) (.cons (.ret (.ix (.var 4) (.lit (.int 2))))
 .nil) .nil)
 (.cons (.ifS (.and (.not (.var 3)) (.cmp .eq (.ix (.var 4) (.lit (.int 2))) (.var 2))) (.cons (.ret (.ix (.var 4) (.lit (.int 1))))
 .nil) .nil)
 .nil)) .nil)
 .nil))
 (.cons (.ret (.lit (.str "")))
 .nil))
def b__law_leads : ISs :=
 (.cons (.ifS (.not (.isi (.var 3) .tuple)) (.cons (.ret (.lit (.bl false)))
 .nil) .nil)
 (.cons (.asg 5 (.var 1))
 (.cons (.forS 6 (.e (.var 3)) (.cons (.ifS (.or (.not (.isi (.var 6) .str)) (.cmp .eq (.var 5) (.lit (.str "")))) (.cons (.ret (.lit (.bl false)))
 .nil) .nil)
 (.cons (.asg 5 (.call 22 (.cons (.var 0) (.cons (.var 6) (.cons (.var 5) (.cons (.var 4) .nil))))))
 .nil)))
 (.cons (.ret (.cmp .eq (.var 5) (.var 2)))
 .nil))))
def b__law_led : ISs :=
 (.cons (.asg 5 (.lst .nil))
 (.cons (.forS 6 (.rng (.call 15 (.cons (.var 0) (.cons (.var 1) (.cons (.lit (.int 13)) .nil))))) (.cons (.asg 7 (.lc (.ix (.var 8) (.lit (.int 0))) 8 (.e (.var 2)) true (.cmp .ne (.call 22 (.cons (.var 2) (.cons (.ix (.var 8) (.lit (.int 0))) (.cons (.var 3) (.cons (.var 4) .nil))))) (.lit (.str "")))))
 (.cons (.ifS (.cmp .gt (.bi .len (.cons (.var 7) .nil)) (.lit (.int 0))) (.cons (.app 5 (.ix (.var 7) (.call 15 (.cons (.var 0) (.cons (.var 1) (.cons (.bi .len (.cons (.var 7) .nil)) .nil))))))
 (.cons (.asg 3 (.call 22 (.cons (.var 2) (.cons (.ix (.var 5) (.neg (.lit (.int 1)))) (.cons (.var 3) (.cons (.var 4) .nil))))))
 .nil)) .nil)
 .nil)))
 (.cons (.ret (.tup (.cons (.bi .tuple (.cons (.var 5) .nil)) (.cons (.var 3) .nil))))
 .nil)))
def b__law_spoilt : ISs :=
 (.cons (.asg 4 (.call 15 (.cons (.var 0) (.cons (.var 1) (.cons (.lit (.int 10)) .nil)))))
 (.cons (.asg 5 (.call 15 (.cons (.var 0) (.cons (.var 1) (.cons (.bin .add (.bi .len (.cons (.var 2) .nil)) (.lit (.int 1))) .nil)))))
 (.cons (.asg 6 (.ix (.bin .add (.var 3) (.lst (.cons (.lit (.str "zzzzzzzz")) .nil))) (.call 15 (.cons (.var 0) (.cons (.var 1) (.cons (.bin .add (.bi .len (.cons (.var 3) .nil)) (.lit (.int 1))) .nil))))))
 (.cons (.ifS (.cmp .lt (.var 4) (.lit (.int 2))) (.cons (.ret (.bin .add (.bin .add (.slc (.var 2) (.lit .non) (.var 5)) (.tup (.cons (.var 6) .nil))) (.slc (.var 2) (.bin .add (.var 5) (.var 4)) (.lit .non))))
 .nil) .nil)
 (.cons (.ifS (.cmp .eq (.var 4) (.lit (.int 2))) (.cons (.ret (.bin .add (.slc (.var 2) (.lit .non) (.var 5)) (.slc (.var 2) (.bin .add (.var 5) (.lit (.int 1))) (.lit .non))))
 .nil) .nil)
 (.cons (.ifS (.cmp .eq (.var 4) (.lit (.int 3))) (.cons (.ret (.bin .add (.bin .add (.slc (.var 2) (.lit .non) (.var 5)) (.slc (.var 2) (.var 5) (.bin .add (.var 5) (.lit (.int 1))))) (.slc (.var 2) (.var 5) (.lit .non))))
 .nil) .nil)
 (.cons (.ifS (.cmp .eq (.var 4) (.lit (.int 4))) (.cons (.ret (.revT (.bi .list (.cons (.var 2) .nil))))
 .nil) .nil)
 (.cons (.ifS (.cmp .eq (.var 4) (.lit (.int 5))) (.cons (.ret (.bin .add (.var 2) (.var 2)))
 .nil) .nil)
 (.cons (.asg 7 (.ix (.lst (.cons (.lit .non) (.cons (.lit (.int 0)) (.cons (.lit (.bl true)) (.cons (.tup (.cons (.var 6) .nil)) (.cons (.lst (.cons (.var 6) .nil)) (.cons (.lit (.str "A")) (.cons (.lit (.str "")) .nil)))))))) (.call 15 (.cons (.var 0) (.cons (.var 1) (.cons (.lit (.int 7)) .nil))))))
 (.cons (.ifS (.cmp .eq (.var 4) (.lit (.int 6))) (.cons (.ret (.bin .add (.bin .add (.slc (.var 2) (.lit .non) (.var 5)) (.tup (.cons (.var 7) .nil))) (.slc (.var 2) (.var 5) (.lit .non))))
 .nil) .nil)
 (.cons (.ifS (.cmp .eq (.var 4) (.lit (.int 7))) (.cons (.ret (.ix (.lst (.cons (.bi .list (.cons (.var 2) .nil)) (.cons (.lit .non) (.cons (.lit (.int 5)) (.cons (.var 6) (.cons (.lit (.bl true)) (.cons (.lit (.str "")) (.cons (.tup (.cons (.var 2) .nil)) .nil)))))))) (.call 15 (.cons (.var 0) (.cons (.var 1) (.cons (.lit (.int 7)) .nil))))))
 .nil) .nil)
 (.cons (.ret (.var 2))
 .nil))))))))))))
def b__law_asked : ISs :=
 (.cons (.tryS (.cons (.ifS (.cmp .eq (.var 0) (.lit (.int 0))) (.cons (.ret (.tup (.cons (.lit (.str "")) (.cons (.call 9 (.cons (.var 1) (.cons (.var 2) (.cons (.var 3) (.cons (.var 4) .nil))))) .nil))))
 .nil) .nil)
 (.cons (.ifS (.cmp .eq (.var 0) (.lit (.int 1))) (.cons (.ret (.tup (.cons (.lit (.str "")) (.cons (.call 10 (.cons (.var 1) (.cons (.var 2) (.cons (.var 3) (.cons (.var 4) .nil))))) .nil))))
 .nil) .nil)
 (.cons (.ifS (.cmp .eq (.var 0) (.lit (.int 2))) (.cons (.ret (.tup (.cons (.lit (.str "")) (.cons (.call 11 (.cons (.var 1) (.cons (.var 4) .nil))) .nil))))
 .nil) .nil)
 (.cons (.ifS (.cmp .eq (.var 0) (.lit (.int 3))) (.cons (.ret (.tup (.cons (.lit (.str "")) (.cons (.call 9 (.cons (.var 1) (.cons (.var 2) (.cons (.var 3) (.cons (.var 4) .nil))))) .nil))))
 .nil) .nil)
 (.cons (.ret (.tup (.cons (.lit (.str "")) (.cons (.call 10 (.cons (.var 1) (.cons (.var 2) (.cons (.var 3) (.cons (.var 4) .nil))))) .nil))))
 .nil))))) (.cons 3 5 (.cons (.ret (.tup (.cons (.ix (.lst (.cons (.lit (.str "node")) (.cons (.lit (.str "none")) .nil))) (.bi .int (.cons (.not (.call 21 (.cons (.var 5) .nil))) .nil))) (.cons (.fld (.var 5) "name") .nil))))
 .nil) (.cons 4 5 (.cons (.ret (.tup (.cons (.ix (.lst (.cons (.lit (.str "edge")) (.cons (.lit (.str "none")) .nil))) (.bi .int (.cons (.not (.call 21 (.cons (.var 5) .nil))) .nil))) (.cons (.fld (.var 5) "label") .nil))))
 .nil) .nil)))
 .nil)
def b__law_price : ISs :=
 (.cons (.asg 2 (.lit (.int 0)))
 (.cons (.forS 3 (.e (.var 1)) (.cons (.asg 4 (.lc (.ix (.var 5) (.lit (.int 3))) 5 (.e (.var 0)) true (.cmp .eq (.ix (.var 5) (.lit (.int 0))) (.var 3))))
 (.cons (.ifS (.cmp .eq (.bi .len (.cons (.var 4) .nil)) (.lit (.int 0))) (.cons (.ret (.tup (.cons (.lit (.str "edge")) (.cons (.var 3) .nil))))
 .nil) .nil)
 (.cons (.asg 2 (.bin .add (.var 2) (.ix (.var 4) (.lit (.int 0)))))
 .nil))))
 (.cons (.ret (.tup (.cons (.lit (.str "")) (.cons (.var 2) .nil))))
 .nil)))
def b_law : ISs :=
 (.cons (.asg 1 (.dct (.cons (.lit (.str "rest")) (.cons (.lit (.int 0)) (.cons (.lit (.str "next")) (.cons (.lit (.int 0)) (.cons (.lit (.str "count")) (.cons (.lit (.int 0)) (.cons (.lit (.str "digits")) (.cons (.lit (.int 0)) .nil))))))))))
 (.cons (.asgT [2, 3] (.call 18 (.cons (.var 0) (.cons (.var 1) (.cons (.lit (.int 7)) (.cons (.lit (.int 12)) .nil))))))
 (.cons (.ifS (.cmp .eq (.bi .len (.cons (.var 2) .nil)) (.lit (.int 0))) (.cons (.asg 2 (.tup (.cons (.lit (.str "a")) .nil)))
 .nil) .nil)
 (.cons (.asg 4 (.new 0 (.cons (.var 2) (.cons (.var 3) .nil))))
 (.cons (.asg 5 (.lc (.ix (.var 6) (.lit (.int 0))) 6 (.e (.var 3)) false (.lit (.bl true))))
 (.cons (.forS 7 (.rng (.lit (.int 4))) (.cons (.asg 8 (.ix (.var 2) (.call 15 (.cons (.var 0) (.cons (.var 1) (.cons (.bi .len (.cons (.var 2) .nil)) .nil))))))
 (.cons (.asgT [9, 10] (.call 24 (.cons (.var 0) (.cons (.var 1) (.cons (.var 3) (.cons (.var 8) (.cons (.cmp .eq (.bin .mod (.bi .int (.cons (.var 7) .nil)) (.lit (.int 2))) (.lit (.int 0))) .nil)))))))
 (.cons (.asg 11 (.lst (.cons (.var 9) (.cons (.call 25 (.cons (.var 0) (.cons (.var 1) (.cons (.var 9) (.cons (.var 5) .nil))))) (.cons (.call 25 (.cons (.var 0) (.cons (.var 1) (.cons (.var 9) (.cons (.var 5) .nil))))) .nil)))))
 (.cons (.forS 12 (.e (.var 11)) (.cons (.forS 13 (.e (.lst (.cons (.var 10) (.cons (.ix (.var 2) (.call 15 (.cons (.var 0) (.cons (.var 1) (.cons (.bi .len (.cons (.var 2) .nil)) .nil))))) .nil)))) (.cons (.asg 14 (.tup (.cons (.lit (.str "")) (.cons (.call 23 (.cons (.var 3) (.cons (.var 8) (.cons (.var 13) (.cons (.var 12) (.cons (.lit (.bl true)) .nil)))))) .nil))))
 (.cons (.asg 15 (.tup (.cons (.lit (.str "")) (.cons (.call 23 (.cons (.var 3) (.cons (.var 8) (.cons (.var 13) (.cons (.var 12) (.cons (.lit (.bl false)) .nil)))))) .nil))))
 (.cons (.ifS (.not (.call 19 (.cons (.call 26 (.cons (.lit (.int 0)) (.cons (.var 4) (.cons (.var 8) (.cons (.var 13) (.cons (.var 12) .nil)))))) (.cons (.var 14) .nil)))) (.cons (.ret (.lit (.bl false)))
 .nil) .nil)
 (.cons (.ifS (.not (.call 19 (.cons (.call 26 (.cons (.lit (.int 1)) (.cons (.var 4) (.cons (.var 8) (.cons (.var 13) (.cons (.var 12) .nil)))))) (.cons (.var 15) .nil)))) (.cons (.ret (.lit (.bl false)))
 .nil) .nil)
 .nil)))))
 .nil))
 (.cons (.ifS (.not (.call 19 (.cons (.call 26 (.cons (.lit (.int 3)) (.cons (.var 4) (.cons (.var 8) (.cons (.var 10) (.cons (.var 9) .nil)))))) (.cons (.tup (.cons (.lit (.str "")) (.cons (.call 23 (.cons (.var 3) (.cons (.var 8) (.cons (.var 10) (.cons (.var 9) (.cons (.lit (.bl true)) .nil)))))) .nil))) .nil)))) (.cons (.ret (.lit (.bl false)))
 .nil) .nil)
 (.cons (.ifS (.not (.call 19 (.cons (.call 26 (.cons (.lit (.int 4)) (.cons (.var 4) (.cons (.var 8) (.cons (.var 10) (.cons (.var 9) .nil)))))) (.cons (.tup (.cons (.lit (.str "")) (.cons (.call 23 (.cons (.var 3) (.cons (.var 8) (.cons (.var 10) (.cons (.var 9) (.cons (.lit (.bl false)) .nil)))))) .nil))) .nil)))) (.cons (.ret (.lit (.bl false)))
 .nil) .nil)
 (.cons (.asg 16 (.bi .list (.cons (.var 9) .nil)))
 (.cons (.ifS (.cmp .eq (.call 15 (.cons (.var 0) (.cons (.var 1) (.cons (.lit (.int 3)) .nil)))) (.lit (.int 1))) (.cons (.asg 16 (.ife (.isi (.ix (.var 11) (.lit (.int 1))) .tuple) (.lc (.var 17) 17 (.e (.ix (.var 11) (.lit (.int 1)))) true (.isi (.var 17) .str)) (.var 16)))
 .nil) .nil)
 (.cons (.ifS (.not (.call 19 (.cons (.call 26 (.cons (.lit (.int 2)) (.cons (.var 4) (.cons (.var 8) (.cons (.var 8) (.cons (.var 16) .nil)))))) (.cons (.call 27 (.cons (.var 3) (.cons (.var 16) .nil))) .nil)))) (.cons (.ret (.lit (.bl false)))
 .nil) .nil)
 (.cons (.ifS (.not (.call 19 (.cons (.call 26 (.cons (.lit (.int 2)) (.cons (.var 4) (.cons (.var 8) (.cons (.var 8) (.cons (.bi .tuple (.cons (.var 16) .nil)) .nil)))))) (.cons (.call 27 (.cons (.var 3) (.cons (.var 16) .nil))) .nil)))) (.cons (.ret (.lit (.bl false)))
 .nil) .nil)
 (.cons (.asg 18 (.ix (.lst (.cons (.lit (.str "zzzzzzzz")) (.cons (.lit (.str "")) (.cons (.lit (.int 5)) (.cons (.lit .non) (.cons (.lst (.cons (.lit (.str "a")) .nil)) .nil)))))) (.call 15 (.cons (.var 0) (.cons (.var 1) (.cons (.lit (.int 5)) .nil))))))
 (.cons (.ifS (.cmp .isin (.var 18) (.var 2)) (.cons (.asg 18 (.lit (.str "Z")))
 .nil) .nil)
 (.cons (.forS 19 (.rng (.lit (.int 2))) (.cons (.ifS (.not (.call 19 (.cons (.call 26 (.cons (.var 19) (.cons (.var 4) (.cons (.var 18) (.cons (.ix (.lst (.cons (.lit (.str "Y")) (.cons (.var 8) .nil))) (.call 15 (.cons (.var 0) (.cons (.var 1) (.cons (.lit (.int 2)) .nil))))) (.cons (.var 9) .nil)))))) (.cons (.tup (.cons (.lit (.str "node")) (.cons (.var 18) .nil))) .nil)))) (.cons (.ret (.lit (.bl false)))
 .nil) .nil)
 (.cons (.ifS (.not (.call 19 (.cons (.call 26 (.cons (.var 19) (.cons (.var 4) (.cons (.var 8) (.cons (.var 18) (.cons (.ix (.var 11) (.lit (.int 1))) .nil)))))) (.cons (.tup (.cons (.lit (.str "node")) (.cons (.var 18) .nil))) .nil)))) (.cons (.ret (.lit (.bl false)))
 .nil) .nil)
 .nil)))
 .nil))))))))))))))
 (.cons (.ret (.lit (.bl true)))
 .nil)))))))
def b_Graph___init__ : ISs :=
 (.cons (.ifS (.not (.call 12 (.cons (.var 1) .nil))) (.cons (.raise 1 (.cons (.var 1) .nil))
 .nil) .nil)
 (.cons (.ifS (.not (.call 4 (.cons (.var 2) .nil))) (.cons (.raise 1 (.cons (.var 2) .nil))
 .nil) .nil)
 (.cons (.expr (.call 13 (.cons (.var 1) (.cons (.var 2) .nil))))
 (.cons (.fst 0 "nodes" (.bi .tuple (.cons (.var 1) .nil)))
 (.cons (.fst 0 "edges" (.bi .tuple (.cons (.var 2) .nil)))
 .nil)))))
def b_Graph___contains__ : ISs :=
 (.cons (.ret (.cmp .isin (.var 1) (.fld (.var 0) "nodes")))
 .nil)
def b_Graph___getitem__ : ISs :=
 (.cons (.forS 2 (.e (.fld (.var 0) "edges")) (.cons (.ifS (.cmp .eq (.ix (.var 2) (.lit (.int 0))) (.var 1)) (.cons (.ret (.var 2))
 .nil) .nil)
 .nil))
 (.cons (.raise 4 (.cons (.var 1) .nil))
 .nil))
def fds : Nat → Option Fd
  | 0 => some ⟨1, 1, b__wall⟩
  | 1 => some ⟨1, 1, b_is_integer⟩
  | 2 => some ⟨1, 1, b_is_number⟩
  | 3 => some ⟨1, 2, b_is_name⟩
  | 4 => some ⟨1, 1, b_is_sequence⟩
  | 5 => some ⟨2, 2, b_has_parts⟩
  | 6 => some ⟨1, 7, b_is_edge⟩
  | 7 => some ⟨2, 3, b_require_nodes⟩
  | 8 => some ⟨4, 6, b__leads⟩
  | 9 => some ⟨4, 6, b_is_way⟩
  | 10 => some ⟨4, 9, b_is_walk⟩
  | 11 => some ⟨2, 3, b_price_of⟩
  | 12 => some ⟨1, 2, b__are_unlike_names⟩
  | 13 => some ⟨2, 5, b__check_edges⟩
  | 14 => some ⟨2, 3, b__law_mixed⟩
  | 15 => some ⟨3, 5, b__law_draw⟩
  | 16 => some ⟨3, 8, b__law_names⟩
  | 17 => some ⟨4, 7, b__law_edge⟩
  | 18 => some ⟨4, 9, b__law_drawn⟩
  | 19 => some ⟨2, 3, b__law_alike⟩
  | 20 => some ⟨1, 4, b__law_classes⟩
  | 21 => some ⟨1, 2, b__law_lone⟩
  | 22 => some ⟨4, 5, b__law_end⟩
  | 23 => some ⟨5, 7, b__law_leads⟩
  | 24 => some ⟨5, 9, b__law_led⟩
  | 25 => some ⟨4, 8, b__law_spoilt⟩
  | 26 => some ⟨5, 6, b__law_asked⟩
  | 27 => some ⟨2, 6, b__law_price⟩
  | 28 => some ⟨1, 20, b_law⟩
  | 29 => some ⟨3, 3, b_Graph___init__⟩
  | 30 => some ⟨2, 2, b_Graph___contains__⟩
  | 31 => some ⟨2, 3, b_Graph___getitem__⟩
  | _ => none
def tb : Tb where
  ne := 14
  nc := 1
  ef := fun c => match c with
    | 0 => []
    | 1 => ["value"]
    | 2 => ["text", "at"]
    | 3 => ["name"]
    | 4 => ["label"]
    | 5 => ["name"]
    | 6 => ["value"]
    | 7 => ["what"]
    | 8 => ["value"]
    | 9 => ["claim"]
    | 10 => ["value"]
    | 11 => ["question"]
    | 12 => ["deed"]
    | 13 => ["value"]
    | _ => []
  es := fun c k => match c, k with
    | 0, 0 => true
    | 1, 0 => true
    | 1, 1 => true
    | 2, 0 => true
    | 2, 2 => true
    | 3, 0 => true
    | 3, 3 => true
    | 4, 0 => true
    | 4, 4 => true
    | 5, 0 => true
    | 5, 5 => true
    | 6, 0 => true
    | 6, 6 => true
    | 7, 0 => true
    | 7, 7 => true
    | 8, 0 => true
    | 8, 8 => true
    | 9, 0 => true
    | 9, 9 => true
    | 10, 0 => true
    | 10, 10 => true
    | 11, 0 => true
    | 11, 11 => true
    | 12, 0 => true
    | 12, 12 => true
    | 13, 0 => true
    | 13, 13 => true
    | _, _ => false
  of := fun c => match c with
    | 0 => ["nodes", "edges"]
    | _ => []
  ini := fun c => match c with
    | 0 => 29
    | _ => 0
  mn := fun f => match f with
    | 29 => "__init__"
    | 30 => "__contains__"
    | 31 => "__getitem__"
    | _ => Str.empty
  md := fun f j => match f, j with
    | 15, 1 => 2
    | 16, 1 => 2
    | 17, 1 => 2
    | 18, 1 => 2
    | 24, 1 => 2
    | 25, 1 => 2
    | 29, 0 => 2
    | _, _ => 0
  nk := 1
  gc := fun n => match n with
    | 0 => (.int 8)
    | _ => .non
def gns : List Str := ["_wall", "is_integer", "is_number", "is_name", "is_sequence", "has_parts", "is_edge", "require_nodes", "_leads", "is_way", "is_walk", "price_of", "_are_unlike_names", "_check_edges", "_law_mixed", "_law_draw", "_law_names", "_law_edge", "_law_drawn", "_law_alike", "_law_classes", "_law_lone", "_law_end", "_law_leads", "_law_led", "_law_spoilt", "_law_asked", "_law_price", "law", "__init__", "__contains__", "__getitem__"]
def mes : List (Option Nat) := [none, none, none, none, none, none, none, none, none, none, none, none, none, none, none, none, none, none, none, none, none, none, none, none, none, none, none, none, none, some 0, some 0, some 0]
def qls : List Str := ["_wall", "is_integer", "is_number", "is_name", "is_sequence", "has_parts", "is_edge", "require_nodes", "_leads", "is_way", "is_walk", "price_of", "_are_unlike_names", "_check_edges", "_law_mixed", "_law_draw", "_law_names", "_law_edge", "_law_drawn", "_law_alike", "_law_classes", "_law_lone", "_law_end", "_law_leads", "_law_led", "_law_spoilt", "_law_asked", "_law_price", "law", "Graph.__init__", "Graph.__contains__", "Graph.__getitem__"]
def ens : List Str := ["WardError", "InvalidGraph", "InvalidText", "UnknownNode", "UnknownEdge", "Taken", "InvalidNumber", "Undefined", "InvalidClaim", "Refused", "InvalidQuestion", "NotWatched", "NothingToUndo", "InvalidEdit"]
def cns : List Str := ["Graph"]
def kns : List Str := ["LONGEST_NAME"]
def Ns : List (List Str) := [["k"], ["value"], ["value"], ["value", "letter"], ["value"], ["value", "many"], ["value", "label", "tail", "head", "price", "room", "names_fit"], ["graph", "names", "name"], ["moves", "s", "t", "labels", "here", "label"], ["graph", "s", "t", "labels", "moves", "edge"], ["graph", "s", "t", "labels", "moves", "label", "tail", "head", "edge"], ["graph", "labels", "label"], ["nodes", "name"], ["nodes", "edges", "known", "labels", "edge"], ["cell", "count", "once"], ["script", "state", "many", "cell", "digit"], ["script", "state", "many", "letters", "ahead", "k", "behind", "first"], ["script", "state", "nodes", "label", "tail", "head", "price"], ["script", "state", "most", "many", "names", "labels", "nodes", "edges", "k"], ["told", "due", "k"], ["e", "first", "second", "third"], ["e", "held"], ["edges", "label", "here", "way", "edge"], ["edges", "s", "t", "labels", "way", "here", "label"], ["script", "state", "edges", "here", "way", "labels", "k", "fits", "edge"], ["script", "state", "labels", "known", "pick", "at", "label", "odd"], ["kind", "graph", "s", "t", "labels", "e"], ["edges", "labels", "total", "label", "prices", "edge"], ["script", "state", "nodes", "edges", "graph", "known", "edge", "turn", "s", "labels", "end", "values", "value", "t", "ways", "walks", "row", "label", "odd", "kind"], ["self", "nodes", "edges"], ["self", "x"], ["self", "at", "edge"]]
def Ps : List (List Str) := [["k"], ["value"], ["value"], ["value"], ["value"], ["value", "many"], ["value"], ["graph", "names"], ["moves", "s", "t", "labels"], ["graph", "s", "t", "labels"], ["graph", "s", "t", "labels"], ["graph", "labels"], ["nodes"], ["nodes", "edges"], ["cell", "count"], ["script", "state", "many"], ["script", "state", "many"], ["script", "state", "nodes", "label"], ["script", "state", "most", "many"], ["told", "due"], ["e"], ["e"], ["edges", "label", "here", "way"], ["edges", "s", "t", "labels", "way"], ["script", "state", "edges", "here", "way"], ["script", "state", "labels", "known"], ["kind", "graph", "s", "t", "labels"], ["edges", "labels"], ["script"], ["self", "nodes", "edges"], ["self", "x"], ["self", "at"]]
def places : List (Nat × Nat) := [(0, 0), (18, 0), (19, 0), (20, 0), (21, 0), (22, 0), (23, 0), (25, 0), (27, 0), (28, 0), (29, 0), (30, 0), (32, 0), (33, 0), (36, 0), (37, 0), (38, 0), (39, 0), (40, 0), (41, 0), (42, 0), (43, 0), (44, 0), (45, 0), (46, 0), (47, 0), (48, 0), (49, 0), (50, 0), (34, 0), (34, 3), (34, 4)]
def eplaces : List Nat := [2, 3, 4, 5, 6, 7, 8, 9, 10, 11, 12, 13, 14, 15]
end K05

namespace K05
open PySem EN L2
def top (i : Nat) : Stmt := PySem.Challenge.pw_bridgeward_k05_ways_walks_and_prices.main.body.getD i (.Pass ⟨0, 0, 0, 0⟩)
def me (f : Nat) : Option Nat := mes.getD f none
def st (f : Nat) : Stmt := match me f with
  | none => top (places.getD f (0, 0)).1
  | some _ => inClass (top (places.getD f (0, 0)).1) (places.getD f (0, 0)).2
def sti (c : Nat) : Stmt := inClass (top (eplaces.getD c 0)) 0
def nm (f : Nat) : Str := gns.getD f ""
def ql (f : Nat) : Str := qls.getD f ""
def qi (c : Nat) : Str := (ens.getD c "") ++ ".__init__"
def nN (f : Nat) : List Str := Ns.getD f []
def nP (f : Nat) : List Str := Ps.getD f []
def nI (c : Nat) : List Str := "self" :: tb.ef c
def cc : Cc where
  gn := nm
  cl := fun hot f => if hot then decide (f = 20 ∨ f = 21) else decide (f < 29)
  en := fun c => ens.getD c ""
  cn := fun c => cns.getD c ""
  kn := fun n => kns.getD n ""
  pn := nP
  kw := fun f => decide (f = 9 ∨ f = 10)
  me := me
def okF (hot : Bool) (f : Nat) : Bool := match fds f with
  | some d => scB (nN f) (nP f) (defScope (st f)) && cSs cc tb (nN f) hot (defScope (st f)) d.body (defBody (st f)) && decide ((nP f).length = d.np) && decide ((nN f).length = d.ns) && (!hot || d.body.noTry)
  | none => false
theorem ok0 : (List.range 32).all (okF false) = true := by decide +kernel
theorem ok1 : okF true 20 = true ∧ okF true 21 = true := by decide +kernel
def okI (c : Nat) : Bool := isNil (tb.ef c) || (scB (nI c) (nI c) (defScope (sti c)) && iB (defScope (sti c)) (nI c) (tb.ef c) 0 (defBody (sti c)) && decide ((nI c).length = (tb.ef c).length + 1))
theorem ok2 : (List.range 14).all okI = true := by decide +kernel
end K05
namespace K05
open PySem EN L2
theorem me_lt {f c : Nat} (h : me f = some c) : f < 32 := by
  refine Nat.lt_of_not_le fun z => ?_
  unfold me at h
  rw [List.getD_eq_getElem?_getD, List.getElem?_eq_none (by show mes.length ≤ f; exact Nat.le_trans (by decide) z)] at h
  cases h
theorem okn {f : Nat} (h : EN.okF cc f = true) : f < 32 := by
  unfold EN.okF at h
  rcases Bool.or_eq_true_iff.mp h with h | h
  · have : f < 29 := of_decide_eq_true h
    omega
  · obtain ⟨c, e⟩ := Option.isSome_iff_exists.mp h
    exact me_lt e
theorem memN {p : Nat → Bool} (h : (List.range 32).all p = true) {f : Nat} (hf : f < 32) : p f = true := List.all_eq_true.mp h f (List.mem_range.mpr hf)
theorem memE {p : Nat → Bool} (h : (List.range 14).all p = true) {f : Nat} (hf : f < 14) : p f = true := List.all_eq_true.mp h f (List.mem_range.mpr hf)
theorem ok_out {hot : Bool} {f : Nat} (h : okF hot f = true) : ∃ d, fds f = some d ∧ scB (nN f) (nP f) (defScope (st f)) = true ∧ cSs cc tb (nN f) hot (defScope (st f)) d.body (defBody (st f)) = true ∧ (nP f).length = d.np ∧ (nN f).length = d.ns ∧ (hot = true → d.body.noTry = true) := by
  unfold okF at h
  split at h
  · rename_i d e
    obtain ⟨h, h5⟩ := and2 h
    obtain ⟨h, h4⟩ := and2 h
    obtain ⟨h, h3⟩ := and2 h
    obtain ⟨h1, h2⟩ := and2 h
    exact ⟨d, e, h1, h2, of_decide_eq_true h3, of_decide_eq_true h4, fun z => by subst z; exact h5⟩
  · cases h
theorem clmB : (List.range 29).all (fun f => decide (me f = none)) = true := by decide +kernel
theorem txtS : TxtS cc tb fds 32 nN nP ql st qi nI sti where
  cl f h := okn h
  clm f h := of_decide_eq_true (List.all_eq_true.mp clmB f (List.mem_range.mpr (of_decide_eq_true h)))
  chk f h := let ⟨d, e, h1, h2, h3, h4, _⟩ := ok_out (memN ok0 (okn h)); ⟨h1, d, e, h2, h3, h4⟩
  hot f h := by
    have hf : f = 20 ∨ f = 21 := of_decide_eq_true h
    have ok : okF true f = true := by rcases hf with rfl | rfl <;> first | exact ok1.1 | exact ok1.2
    obtain ⟨d, e, _, h2, _, _, h5⟩ := ok_out ok
    refine ⟨decide_eq_true (by rcases hf with rfl | rfl <;> decide), fun d' e' => ?_⟩
    rw [e] at e'
    cases e'
    exact ⟨h2, h5 rfl⟩
  bnd f h := by
    have := okn h
    match f, this with
    | 0, _ => exact fun _ _ _ _ _ _ us hl => match us, hl with | [_], _ => rfl
    | 1, _ => exact fun _ _ _ _ _ _ us hl => match us, hl with | [_], _ => rfl
    | 2, _ => exact fun _ _ _ _ _ _ us hl => match us, hl with | [_], _ => rfl
    | 3, _ => exact fun _ _ _ _ _ _ us hl => match us, hl with | [_], _ => rfl
    | 4, _ => exact fun _ _ _ _ _ _ us hl => match us, hl with | [_], _ => rfl
    | 5, _ => exact fun _ _ _ _ _ _ us hl => match us, hl with | [_, _], _ => rfl
    | 6, _ => exact fun _ _ _ _ _ _ us hl => match us, hl with | [_], _ => rfl
    | 7, _ => exact fun _ _ _ _ _ _ us hl => match us, hl with | [_, _], _ => rfl
    | 8, _ => exact fun _ _ _ _ _ _ us hl => match us, hl with | [_, _, _, _], _ => rfl
    | 9, _ => exact fun _ _ _ _ _ _ us hl => match us, hl with | [_, _, _, _], _ => rfl
    | 10, _ => exact fun _ _ _ _ _ _ us hl => match us, hl with | [_, _, _, _], _ => rfl
    | 11, _ => exact fun _ _ _ _ _ _ us hl => match us, hl with | [_, _], _ => rfl
    | 12, _ => exact fun _ _ _ _ _ _ us hl => match us, hl with | [_], _ => rfl
    | 13, _ => exact fun _ _ _ _ _ _ us hl => match us, hl with | [_, _], _ => rfl
    | 14, _ => exact fun _ _ _ _ _ _ us hl => match us, hl with | [_, _], _ => rfl
    | 15, _ => exact fun _ _ _ _ _ _ us hl => match us, hl with | [_, _, _], _ => rfl
    | 16, _ => exact fun _ _ _ _ _ _ us hl => match us, hl with | [_, _, _], _ => rfl
    | 17, _ => exact fun _ _ _ _ _ _ us hl => match us, hl with | [_, _, _, _], _ => rfl
    | 18, _ => exact fun _ _ _ _ _ _ us hl => match us, hl with | [_, _, _, _], _ => rfl
    | 19, _ => exact fun _ _ _ _ _ _ us hl => match us, hl with | [_, _], _ => rfl
    | 20, _ => exact fun _ _ _ _ _ _ us hl => match us, hl with | [_], _ => rfl
    | 21, _ => exact fun _ _ _ _ _ _ us hl => match us, hl with | [_], _ => rfl
    | 22, _ => exact fun _ _ _ _ _ _ us hl => match us, hl with | [_, _, _, _], _ => rfl
    | 23, _ => exact fun _ _ _ _ _ _ us hl => match us, hl with | [_, _, _, _, _], _ => rfl
    | 24, _ => exact fun _ _ _ _ _ _ us hl => match us, hl with | [_, _, _, _, _], _ => rfl
    | 25, _ => exact fun _ _ _ _ _ _ us hl => match us, hl with | [_, _, _, _], _ => rfl
    | 26, _ => exact fun _ _ _ _ _ _ us hl => match us, hl with | [_, _, _, _, _], _ => rfl
    | 27, _ => exact fun _ _ _ _ _ _ us hl => match us, hl with | [_, _], _ => rfl
    | 28, _ => exact fun _ _ _ _ _ _ us hl => match us, hl with | [_], _ => rfl
    | 29, _ => exact fun _ _ _ _ _ _ us hl => match us, hl with | [_, _, _], _ => rfl
    | 30, _ => exact fun _ _ _ _ _ _ us hl => match us, hl with | [_, _], _ => rfl
    | 31, _ => exact fun _ _ _ _ _ _ us hl => match us, hl with | [_, _], _ => rfl
  bnk f h hw := by
    have hw : f = 9 ∨ f = 10 := of_decide_eq_true hw
    rcases hw with rfl | rfl
    · exact ⟨rfl, fun _ _ _ _ _ _ us hl => match us, hl with | [_, _, _, _], _ => rfl⟩
    · exact ⟨rfl, fun _ _ _ _ _ _ us hl => match us, hl with | [_, _, _, _], _ => rfl⟩
  ini c hc ne := by
    have hc : c < 14 := hc
    have ok := memE ok2 hc
    unfold okI at ok
    rcases Bool.or_eq_true_iff.mp ok with y | y
    · cases e : tb.ef c with
      | nil => exact absurd e ne
      | cons a b => rw [e] at y; cases y
    · obtain ⟨y, y3⟩ := and2 y
      obtain ⟨y1, y2⟩ := and2 y
      refine ⟨y1, y2, of_decide_eq_true y3, ?_⟩
      match c, hc with
      | 0, _ => exact absurd rfl ne
      | 1, _ => exact fun _ _ _ _ _ _ us hl => match us, hl with | [_, _], _ => rfl
      | 2, _ => exact fun _ _ _ _ _ _ us hl => match us, hl with | [_, _, _], _ => rfl
      | 3, _ => exact fun _ _ _ _ _ _ us hl => match us, hl with | [_, _], _ => rfl
      | 4, _ => exact fun _ _ _ _ _ _ us hl => match us, hl with | [_, _], _ => rfl
      | 5, _ => exact fun _ _ _ _ _ _ us hl => match us, hl with | [_, _], _ => rfl
      | 6, _ => exact fun _ _ _ _ _ _ us hl => match us, hl with | [_, _], _ => rfl
      | 7, _ => exact fun _ _ _ _ _ _ us hl => match us, hl with | [_, _], _ => rfl
      | 8, _ => exact fun _ _ _ _ _ _ us hl => match us, hl with | [_, _], _ => rfl
      | 9, _ => exact fun _ _ _ _ _ _ us hl => match us, hl with | [_, _], _ => rfl
      | 10, _ => exact fun _ _ _ _ _ _ us hl => match us, hl with | [_, _], _ => rfl
      | 11, _ => exact fun _ _ _ _ _ _ us hl => match us, hl with | [_, _], _ => rfl
      | 12, _ => exact fun _ _ _ _ _ _ us hl => match us, hl with | [_, _], _ => rfl
      | 13, _ => exact fun _ _ _ _ _ _ us hl => match us, hl with | [_, _], _ => rfl
end K05
namespace K05
open PySem EN
abbrev S (l : List Nat) : Str := ⟨l.toArray⟩
theorem S_list (l : List Nat) : (S l).cps.toList = l := rfl
theorem S_len (l : List Nat) : (S l).length = l.length := rfl
theorem S_eq (a b : List Nat) : (S a = S b) ↔ a = b := ⟨fun h => congrArg (fun x : Str => x.cps.toList) h, fun h => by rw [h]⟩
theorem S_app (a b : List Nat) : S a ++ S b = S (a ++ b) := by
  show Str.append (S a) (S b) = _
  unfold Str.append
  simp
def SQ (r n c d : Int) : List (Key × D) := [(.inr "rest", .int r), (.inr "next", .int n), (.inr "count", .int c), (.inr "digits", .int d)]
def SC (r n c d : Int) : Cn := .dK (SQ r n c d)
theorem s_rest (r n c d : Int) : opI (SC r n c d).toD (.str "rest") = some (.int r) := rfl
theorem s_next (r n c d : Int) : opI (SC r n c d).toD (.str "next") = some (.int n) := rfl
theorem s_count (r n c d : Int) : opI (SC r n c d).toD (.str "count") = some (.int c) := rfl
theorem s_digits (r n c d : Int) : opI (SC r n c d).toD (.str "digits") = some (.int d) := rfl
theorem p_rest (r n c d x : Int) : cnPut (.str "rest") (.int x) (SC r n c d) = some (SC x n c d) := rfl
theorem p_next (r n c d x : Int) : cnPut (.str "next") (.int x) (SC r n c d) = some (SC r x c d) := rfl
theorem p_count (r n c d x : Int) : cnPut (.str "count") (.int x) (SC r n c d) = some (SC r n x d) := rfl
theorem p_digits (r n c d x : Int) : cnPut (.str "digits") (.int x) (SC r n c d) = some (SC r n c x) := rfl
theorem mixed (k : Nat) (a b : Int) : ∃ x, runF tb fds (k + 1) 14 [.d (.int a), .d (.int b)] = .ok (.d (.int x)) [.un, .un] := by
  refine ⟨((a * 48271 + b * 69621 + 11) % 2147483647 * 40692 + (a * 48271 + b * 69621 + 11) % 2147483647 / 127 * 131 + b * 7) % 2147483399, ?_⟩
  simp [runF, fds, b__law_mixed, exs, ex, ev, evA, evs, O.then, R.to, R.bind, EN.store, kp, kpF, seen, vw, opB, opF, R.val, Env.at, O.end, retO, mask, flatD, List.mapM_cons]
theorem atI_lt {α : Type} {xs : List α} {j : Nat} (h : j < xs.length) : L2.atI xs (j : Int) = some xs[j] := by
  unfold L2.atI L2.ixN
  simp [h]
theorem opI_scr {ns : List Int} {j : Nat} (h : j < ns.length) : opI (.scr ns) (.int (j : Int)) = some (.int ns[j]) := by
  simp [opI, atI_lt h]
theorem md15 (j : Nat) : tb.md 14 j = 0 := rfl
theorem md0 : tb.md 15 0 = 0 := rfl
theorem md1 : tb.md 15 1 = 2 := rfl
theorem md2 : tb.md 15 2 = 0 := rfl
theorem draw0 (k : Nat) (ns : List Int) (r n c d m : Int) (hn : 0 ≤ n) (hm : 0 < m) (hm2 : m < 1000) : ∃ x r' n' c' d', 0 ≤ x ∧ x < m ∧ 0 ≤ n' ∧
    runF tb fds (k + 2) 15 [.d (.scr ns), .own (SC r n c d), .d (.int m)] = .ok (.d (.int x)) [.un, .own (SC r' n' c' d'), .un] := by
  have mul : ∀ a : Int, ∃ x, runF tb fds (k + 1) 14 [.d (.int a), .d (.int (c + 1))] = .ok (.d (.int x)) [.un, .un] := fun a => mixed k a (c + 1)
  have m1 : m < 1073741824 := by omega
  have em : ∀ a : Int, 0 ≤ a % m ∧ a % m < m := fun a => ⟨Int.emod_nonneg _ (by omega), Int.emod_lt_of_pos _ hm⟩
  by_cases h0 : r = 0
  · subst h0
    by_cases h1 : n < ns.length
    · obtain ⟨j, rfl⟩ := Int.eq_ofNat_of_zero_le hn
      have hj : j < ns.length := by omega
      obtain ⟨y, hy⟩ := mul ns[j]
      by_cases h2 : ns[j] < 1000000000000000000
      · refine ⟨y % m, 0, j + 1, c + 1, d, (em _).1, (em _).2, by omega, ?_⟩
        rw [runF]
        simp [fds, b__law_draw, exs, ex, ev, evA, evs, O.then, R.to, R.bind, EN.store, kp, kpF, seen, vw, opB, opC, opF, truD, R.val, R.dat, R.bool, isOwn, Env.at, O.end, retO, mask, flatD, List.mapM_cons, eqD, eqS, s_rest, s_next, s_count, s_digits, p_rest, p_next, p_count, p_digits, callR, prep, prepV, handAll, handed, slotsOf, backR, back, md15, opI_scr hj, h1, h2, hy, hm]
      · have hz : 0 < ns.length := by omega
        have o0 : opI (.scr ns) (.int 0) = some (.int ns[0]) := opI_scr (j := 0) hz
        by_cases h3 : ns[0] % 2 = 1
        · refine ⟨y % m, 0, j + 1, c + 1, d, (em _).1, (em _).2, by omega, ?_⟩
          rw [runF]
          simp [fds, b__law_draw, exs, ex, ev, evA, evs, O.then, R.to, R.bind, EN.store, kp, kpF, seen, vw, opB, opC, opF, truD, R.val, R.dat, R.bool, isOwn, Env.at, O.end, retO, mask, flatD, List.mapM_cons, eqD, eqS, s_rest, s_next, s_count, s_digits, p_rest, p_next, p_count, p_digits, callR, prep, prepV, handAll, handed, slotsOf, backR, back, md15, opI_scr hj, o0, h1, h2, h3, hy, hm]
        · have hr : 0 < ns[j] / 2 := by omega
          refine ⟨ns[j] / 2 % m, ns[j] / 2 / m, j + 1, c + 1, 59, (em _).1, (em _).2, by omega, ?_⟩
          rw [runF]
          simp [fds, b__law_draw, exs, ex, ev, evA, evs, O.then, R.to, R.bind, EN.store, kp, kpF, seen, vw, opB, opC, opF, truD, R.val, R.dat, R.bool, isOwn, Env.at, O.end, retO, mask, flatD, List.mapM_cons, eqD, eqS, s_rest, s_next, s_count, s_digits, p_rest, p_next, p_count, p_digits, callR, prep, prepV, handAll, handed, slotsOf, backR, back, md15, opI_scr hj, o0, h1, h2, h3, hy, hm, m1, hr]
    · by_cases hl : 0 < ns.length
      · have hj : ((c + 1) % (ns.length : Int)).toNat < ns.length := by
          have := Int.emod_nonneg (c + 1) (b := (ns.length : Int)) (by omega)
          have := Int.emod_lt_of_pos (c + 1) (b := (ns.length : Int)) (by omega)
          omega
        have hj2 : ((((c + 1) % (ns.length : Int)).toNat : Nat) : Int) = (c + 1) % (ns.length : Int) := Int.toNat_of_nonneg (Int.emod_nonneg _ (by omega))
        have oj := opI_scr hj
        rw [hj2] at oj
        obtain ⟨y, hy⟩ := mul (ns[((c + 1) % (ns.length : Int)).toNat])
        refine ⟨y % m, 0, n, c + 1, d, (em _).1, (em _).2, hn, ?_⟩
        rw [runF]
        simp [fds, b__law_draw, exs, ex, ev, evA, evs, O.then, R.to, R.bind, EN.store, kp, kpF, seen, vw, opB, opC, opF, truD, R.val, R.dat, R.bool, isOwn, Env.at, O.end, retO, mask, flatD, List.mapM_cons, eqD, eqS, s_rest, s_next, s_count, s_digits, p_rest, p_next, p_count, p_digits, callR, prep, prepV, handAll, handed, slotsOf, backR, back, md15, h1, hl, oj, hy, hm]
      · obtain ⟨y, hy⟩ := mul 0
        refine ⟨y % m, 0, n, c + 1, d, (em _).1, (em _).2, hn, ?_⟩
        rw [runF]
        simp [fds, b__law_draw, exs, ex, ev, evA, evs, O.then, R.to, R.bind, EN.store, kp, kpF, seen, vw, opB, opC, opF, truD, R.val, R.dat, R.bool, isOwn, Env.at, O.end, retO, mask, flatD, List.mapM_cons, eqD, eqS, s_rest, s_next, s_count, s_digits, p_rest, p_next, p_count, p_digits, callR, prep, prepV, handAll, handed, slotsOf, backR, back, md15, h1, hl, hy, hm]
  · by_cases hr : 0 < r
    · by_cases h3 : 1 < d
      · refine ⟨r % m, r / m, n, c + 1, d - 1, (em _).1, (em _).2, hn, ?_⟩
        rw [runF]
        simp [fds, b__law_draw, exs, ex, ev, evA, evs, O.then, R.to, R.bind, EN.store, kp, kpF, seen, vw, opB, opC, opF, truD, R.val, R.dat, R.bool, isOwn, Env.at, O.end, retO, mask, flatD, List.mapM_cons, eqD, eqS, s_rest, s_next, s_count, s_digits, p_rest, p_next, p_count, p_digits, callR, prep, prepV, handAll, handed, slotsOf, backR, back, md15, h0, hr, h3, hm, m1]
      · refine ⟨r % m, 0, n, c + 1, d - 1, (em _).1, (em _).2, hn, ?_⟩
        rw [runF]
        simp [fds, b__law_draw, exs, ex, ev, evA, evs, O.then, R.to, R.bind, EN.store, kp, kpF, seen, vw, opB, opC, opF, truD, R.val, R.dat, R.bool, isOwn, Env.at, O.end, retO, mask, flatD, List.mapM_cons, eqD, eqS, s_rest, s_next, s_count, s_digits, p_rest, p_next, p_count, p_digits, callR, prep, prepV, handAll, handed, slotsOf, backR, back, md15, h0, hr, h3, hm, m1]
    · by_cases hl : 0 < ns.length
      · have hj : ((c + 1) % (ns.length : Int)).toNat < ns.length := by
          have := Int.emod_nonneg (c + 1) (b := (ns.length : Int)) (by omega)
          have := Int.emod_lt_of_pos (c + 1) (b := (ns.length : Int)) (by omega)
          omega
        have hj2 : ((((c + 1) % (ns.length : Int)).toNat : Nat) : Int) = (c + 1) % (ns.length : Int) := Int.toNat_of_nonneg (Int.emod_nonneg _ (by omega))
        have oj := opI_scr hj
        rw [hj2] at oj
        obtain ⟨y, hy⟩ := mul (ns[((c + 1) % (ns.length : Int)).toNat])
        refine ⟨y % m, r, n, c + 1, d, (em _).1, (em _).2, hn, ?_⟩
        rw [runF]
        simp [fds, b__law_draw, exs, ex, ev, evA, evs, O.then, R.to, R.bind, EN.store, kp, kpF, seen, vw, opB, opC, opF, truD, R.val, R.dat, R.bool, isOwn, Env.at, O.end, retO, mask, flatD, List.mapM_cons, eqD, eqS, s_rest, s_next, s_count, s_digits, p_rest, p_next, p_count, p_digits, callR, prep, prepV, handAll, handed, slotsOf, backR, back, md15, h0, hr, hl, oj, hy, hm]
      · obtain ⟨y, hy⟩ := mul 0
        refine ⟨y % m, r, n, c + 1, d, (em _).1, (em _).2, hn, ?_⟩
        rw [runF]
        simp [fds, b__law_draw, exs, ex, ev, evA, evs, O.then, R.to, R.bind, EN.store, kp, kpF, seen, vw, opB, opC, opF, truD, R.val, R.dat, R.bool, isOwn, Env.at, O.end, retO, mask, flatD, List.mapM_cons, eqD, eqS, s_rest, s_next, s_count, s_digits, p_rest, p_next, p_count, p_digits, callR, prep, prepV, handAll, handed, slotsOf, backR, back, md15, h0, hr, hl, hy, hm]
/-- the state of the draws -/
def Ok (s : Cn) : Prop := ∃ r n c d : Int, 0 ≤ n ∧ s = SC r n c d
theorem draw (k : Nat) (ns : List Int) {s : Cn} (h : Ok s) (m : Int) (hm : 0 < m) (hm2 : m < 1000) : ∃ (x : Int) (s' : Cn), 0 ≤ x ∧ x < m ∧ Ok s' ∧ runF tb fds (k + 2) 15 [.d (.scr ns), .own s, .d (.int m)] = .ok (.d (.int x)) [.un, .own s', .un] := by
  obtain ⟨r, n, c, d, hn, rfl⟩ := h
  obtain ⟨x, r', n', c', d', h1, h2, h3, e⟩ := draw0 k ns r n c d m hn hm hm2
  exact ⟨x, _, h1, h2, ⟨r', n', c', d', h3, rfl⟩, e⟩
end K05
namespace K05
open PySem EN
/-! tools -/
theorem exs_cons {T : Tb} {fn : Fn} {np : Nat} {s : IS} {ss : ISs} {ρ ρ1 : EN.Env} (h : ex T fn np s ρ = .nx ρ1) : exs T fn np (.cons s ss) ρ = exs T fn np ss ρ1 := by rw [exs, h]
theorem exs_rt {T : Tb} {fn : Fn} {np : Nat} {s : IS} {ss : ISs} {ρ ρ1 : EN.Env} {v : IV} (h : ex T fn np s ρ = .rt v ρ1) : exs T fn np (.cons s ss) ρ = .rt v ρ1 := by rw [exs, h]
theorem exs_er {T : Tb} {fn : Fn} {np : Nat} {s : IS} {ss : ISs} {ρ ρ1 : EN.Env} {c : Nat} {fs : List D} (h : ex T fn np s ρ = .er c fs ρ1) : exs T fn np (.cons s ss) ρ = .er c fs ρ1 := by rw [exs, h]
theorem ex_ifT {T : Tb} {fn : Fn} {np : Nat} {c : IE} {a b : ISs} {ρ ρ1 : EN.Env} {o : O} (hc : ev T fn np c ρ = .ok (.d (.bl true)) ρ1) (h : exs T fn np a ρ1 = o) : ex T fn np (.ifS c a b) ρ = o := by
  rw [ex.eq_11, hc]; exact h
theorem ex_ifF {T : Tb} {fn : Fn} {np : Nat} {c : IE} {a b : ISs} {ρ ρ1 : EN.Env} {o : O} (hc : ev T fn np c ρ = .ok (.d (.bl false)) ρ1) (h : exs T fn np b ρ1 = o) : ex T fn np (.ifS c a b) ρ = o := by
  rw [ex.eq_11, hc]; exact h
theorem ex_no {T : Tb} {fn : Fn} {np : Nat} {c : IE} {a : ISs} {ρ ρ1 : EN.Env} (hc : ev T fn np c ρ = .ok (.d (.bl false)) ρ1) : ex T fn np (.ifS c a .nil) ρ = .nx ρ1 := ex_ifF hc (by rw [exs])
theorem ex_retF {T : Tb} {fn : Fn} {np : Nat} {e : IE} {ρ ρ1 : EN.Env} {c : Cn} (h : ev T fn np e ρ = .ok (.fr c) ρ1) : ex T fn np (.ret e) ρ = .rt (.fr c) ρ1 := by
  rw [ex.eq_9, h]; rfl
theorem ex_retD {T : Tb} {fn : Fn} {np : Nat} {e : IE} {ρ ρ1 : EN.Env} {d : D} (h : ev T fn np e ρ = .ok (.d d) ρ1) : ex T fn np (.ret e) ρ = .rt (.d d) ρ1 := by
  rw [ex.eq_9, h]; rfl
theorem run_rt {k f np ns : Nat} {b : ISs} {as : EN.Env} {v : IV} {ρ : EN.Env} (hd : fds f = some ⟨np, ns, b⟩) (hl : as.length = np) (h : exs tb (runF tb fds k) np b (as ++ List.replicate (ns - np) .un) = .rt v ρ) : runF tb fds (k + 1) f as = .ok v (mask as ρ) := by
  rw [runF, hd]
  simp only [hl, if_true, h, O.end]
theorem run_nx {k f np ns : Nat} {b : ISs} {as : EN.Env} {ρ : EN.Env} (hd : fds f = some ⟨np, ns, b⟩) (hl : as.length = np) (h : exs tb (runF tb fds k) np b (as ++ List.replicate (ns - np) .un) = .nx ρ) : runF tb fds (k + 1) f as = .ok (.d .non) (mask as ρ) := by
  rw [runF, hd]
  simp only [hl, if_true, h, O.end]
theorem run_er {k f np ns c : Nat} {fs : List D} {b : ISs} {as : EN.Env} {ρ : EN.Env} (hd : fds f = some ⟨np, ns, b⟩) (hl : as.length = np) (h : exs tb (runF tb fds k) np b (as ++ List.replicate (ns - np) .un) = .er c fs ρ) : runF tb fds (k + 1) f as = .er c fs (mask as ρ) := by
  rw [runF, hd]
  simp only [hl, if_true, h, O.end]
theorem fr_nx {np i : Nat} {b : EN.Env → O} {x : D} {xs : List D} {ρ ρ1 ρ2 : EN.Env} (hs : EN.store np i ρ (.d x) = .ok () ρ1) (hb : b ρ1 = .nx ρ2) : forRun np i b (x :: xs) ρ = forRun np i b xs ρ2 := by
  conv => lhs; unfold forRun
  rw [hs]
  simp only [R.to, hb]
theorem fr_rt {np i : Nat} {b : EN.Env → O} {x : D} {xs : List D} {ρ ρ1 ρ2 : EN.Env} {v : IV} (hs : EN.store np i ρ (.d x) = .ok () ρ1) (hb : b ρ1 = .rt v ρ2) : forRun np i b (x :: xs) ρ = .rt v ρ2 := by
  conv => lhs; unfold forRun
  rw [hs]
  simp only [R.to, hb]
theorem fr_er {np i : Nat} {b : EN.Env → O} {x : D} {xs : List D} {ρ ρ1 ρ2 : EN.Env} {c : Nat} {fs : List D} (hs : EN.store np i ρ (.d x) = .ok () ρ1) (hb : b ρ1 = .er c fs ρ2) : forRun np i b (x :: xs) ρ = .er c fs ρ2 := by
  conv => lhs; unfold forRun
  rw [hs]
  simp only [R.to, hb]
theorem ex_for {T : Tb} {fn : Fn} {np i : Nat} {it : IT} {b : ISs} {ρ ρ0 : EN.Env} {v : D} {xs : List D} {o : O} (hi : evI T fn np it ρ = .ok (.d v, xs) ρ0) (h : forRun np i (fun ρ => exs T fn np b ρ) xs ρ0 = o) : ex T fn np (.forS i it b) ρ = o := by
  rw [ex.eq_12, hi]
  simp only [R.to, lend]
  rw [h]
  cases o <;> rfl
theorem rng_ok {n : Int} (h : 0 ≤ n) (h2 : n ≤ 1000) : rngOk 0 n = true := decide_eq_true ⟨by omega, by omega, by omega, by omega, by unfold line; omega⟩
theorem evI_rng {T : Tb} {fn : Fn} {np : Nat} {a : IE} {ρ ρ1 : EN.Env} {n : Int} (h : ev T fn np a ρ = .ok (.d (.int n)) ρ1) (hr : rngOk 0 n = true) : evI T fn np (.rng a) ρ = .ok (.d .non, rngD 0 n) ρ1 := by
  unfold evI
  rw [h]
  show (if rngOk 0 n = true then _ else _) = _
  rw [if_pos hr]
theorem set_at (ρ : EN.Env) (i : Nat) : ρ.set i (ρ.at i) = ρ := by
  by_cases h : i < ρ.length
  · have e : ρ.at i = ρ[i] := by unfold Env.at; rw [List.getD_eq_getElem?_getD, List.getElem?_eq_getElem h]; rfl
    rw [e, List.set_getElem_self]
  · exact List.set_eq_of_length_le (Nat.le_of_not_lt h)
theorem nobR_d {α : Type} {ρ : EN.Env} {i : Nat} {x : D} {r : R α} : nobR i (ρ.set i (.d x)) r = r := by
  unfold nobR
  have : nobB (Env.at (ρ.set i (.d x)) i) = true := by
    rw [at_set]
    split
    · rfl
    · rename_i h
      have : ρ.at i = .un := at_un fun z => h ⟨rfl, z⟩
      rw [this]; rfl
  rw [this]
theorem lcRun_F {i : Nat} {c : EN.Env → R Bool} {f : EN.Env → R D} (p : D → Bool) (g : D → D) (ρ : EN.Env) : ∀ (xs : List D), (∀ x ∈ xs, c (ρ.set i (.d x)) = .ok (p x) (ρ.set i (.d x))) → (∀ x ∈ xs, p x = true → f (ρ.set i (.d x)) = .ok (g x) (ρ.set i (.d x))) → ∀ s, ∃ s', lcRun i c f xs (ρ.set i s) = .ok ((xs.filter p).map g) (ρ.set i s')
  | [], _, _, s => ⟨s, rfl⟩
  | x :: xs, hc, hf, s => by
    obtain ⟨s', e⟩ := lcRun_F p g ρ xs (fun y hy => hc y (List.mem_cons_of_mem _ hy)) (fun y hy => hf y (List.mem_cons_of_mem _ hy)) (.d x)
    refine ⟨s', ?_⟩
    unfold lcRun
    rw [List.set_set, hc x List.mem_cons_self]
    simp only [R.sft, R.bind]
    cases hp : p x with
    | true =>
      simp only [R.sft, R.bind]
      rw [hf x List.mem_cons_self hp]
      simp only [R.sft, R.bind, nobR_d]
      rw [e, List.filter_cons, if_pos hp]
      rfl
    | false =>
      simp only [nobR_d]
      rw [e, List.filter_cons, if_neg (by rw [hp]; exact Bool.false_ne_true)]
/-- a comprehension whose items are told one by one -/
theorem ev_lcF {T : Tb} {fn : Fn} {np : Nat} {elt : IE} {i : Nat} {it : IT} {hasIf : Bool} {c : IE} {ρ : EN.Env} {v : D} {xs : List D} (p : D → Bool) (g : D → D) (hi : evI T fn np it ρ = .ok (.d v, xs) ρ) (h0 : ρ.at i = .un ∨ ∃ x, ρ.at i = .d x)
    (hc : hasIf = true → ∀ x ∈ xs, (ev T fn np c (ρ.set i (.d x))).tru = .ok (p x) (ρ.set i (.d x))) (hn : hasIf = false → ∀ x ∈ xs, p x = true) (hf : ∀ x ∈ xs, p x = true → (ev T fn np elt (ρ.set i (.d x))).kept np = .ok (g x) (ρ.set i (.d x))) :
    ev T fn np (.lc elt i it hasIf c) ρ = .ok (.fr (.lst ((xs.filter p).map g))) ρ := by
  have key : ∃ s', lcRun i (fun ρ => match hasIf with
      | true => (ev T fn np c ρ).tru
      | false => .ok true ρ) (fun ρ => (ev T fn np elt ρ).kept np) xs (ρ.set i .un) = .ok ((xs.filter p).map g) (ρ.set i s') := by
    refine lcRun_F p g ρ xs (fun x hx => ?_) hf .un
    cases hasIf with
    | true => exact hc rfl x hx
    | false => rw [hn rfl x hx]
  obtain ⟨s', e⟩ := key
  rw [ev.eq_24, hi]
  simp only [R.bind, lend]
  refine Eq.trans (congrArg (fun r => R.lcEnd r i (IV.d v) ρ) e) ?_
  show R.lcEnd _ i (IV.d v) ρ = _
  unfold R.lcEnd
  rcases h0 with h0 | ⟨x, h0⟩
  · rw [h0]
    simp only [R.lcX, R.bind, unlend]
    have := set_at ρ i
    rw [h0] at this
    rw [List.set_set, this]
  · rw [h0]
    simp only [R.lcX, R.bind, unlend]
    have := set_at ρ i
    rw [h0] at this
    rw [List.set_set, this]
theorem rng_map {β : Type} {n : Nat} (f : D → β) : (rngD 0 (n : Int)).map f = (List.range n).map fun (j : Nat) => f (.int (j : Int)) := by
  unfold rngD
  rw [List.map_map]
  simp [Function.comp_def]
theorem rng_mem {n : Nat} {x : D} (h : x ∈ rngD 0 (n : Int)) : ∃ j : Nat, j < n ∧ x = .int (j : Int) := by
  unfold rngD at h
  obtain ⟨j, h1, h2⟩ := List.mem_map.mp h
  have := List.mem_range.mp h1
  exact ⟨j, by omega, by rw [← h2, Int.zero_add]⟩
theorem md17 : tb.md 16 0 = 0 ∧ tb.md 16 1 = 2 ∧ tb.md 16 2 = 0 := ⟨rfl, rfl, rfl⟩
/-! letters -/
theorem lt_all : ∀ x : Fin 26, L2.atI (Str.ofString "abcdefghijklmnopqrstuvwxyz").cps.toList ((x.val : Nat) : Int) = some (97 + x.val) := by decide
theorem lt_len : (Str.ofString "abcdefghijklmnopqrstuvwxyz").length ≤ line := by decide
theorem lt_at {x : Int} (h0 : 0 ≤ x) (h : x < 26) : L2.atI (Str.ofString "abcdefghijklmnopqrstuvwxyz").cps.toList x = some (97 + x.toNat) := by
  obtain ⟨j, rfl⟩ := Int.eq_ofNat_of_zero_le h0
  have := lt_all ⟨j, by omega⟩
  exact this
def low (l : List Nat) : Bool := l.all fun c => decide (97 ≤ c) && decide (c ≤ 122)
theorem low_app {a b : List Nat} (ha : low a = true) (hb : low b = true) : low (a ++ b) = true := by
  unfold low at *
  rw [List.all_append, ha, hb]; rfl
theorem low_one {x : Int} (h0 : 0 ≤ x) (h : x < 26) : low [97 + x.toNat] = true := by
  unfold low
  simp
  omega
def nB4 : ISs := (.cons (.asg 4 (.bin .add (.var 4) (.ix (.var 3) (.call 15 (.cons (.var 0) (.cons (.var 1) (.cons (.lit (.int 26)) .nil))))))) .nil)
def nB6 : ISs := (.cons (.asg 6 (.bin .add (.var 6) (.ix (.var 3) (.call 15 (.cons (.var 0) (.cons (.var 1) (.cons (.lit (.int 26)) .nil))))))) .nil)
def nE (ns : List Int) (s : Cn) (m : Int) (a : List Nat) (s5 s6 s7 : EN.Slot) : EN.Env := [.d (.scr ns), .own s, .d (.int m), .d (.str (Str.ofString "abcdefghijklmnopqrstuvwxyz")), .d (.str (S a)), s5, s6, s7]
theorem nb4 (k : Nat) (ns : List Int) (m : Int) (s5 s6 s7 : EN.Slot) : ∀ (xs : List D) (a : List Nat) (s : Cn) (s5 : EN.Slot), Ok s → (s5 = .un ∨ ∃ x, s5 = .d x) → a.length + xs.length ≤ 100 → ∃ s' b s5', Ok s' ∧ b.length = xs.length ∧ low b = true ∧ (s5' = .un ∨ ∃ x, s5' = .d x) ∧ forRun 3 5 (fun ρ => exs tb (runF tb fds (k + 2)) 3 nB4 ρ) xs (nE ns s m a s5 s6 s7) = .nx (nE ns s' m (a ++ b) s5' s6 s7)
  | [], a, s, s5, h, h5, hl => ⟨s, [], s5, h, rfl, rfl, h5, by rw [List.append_nil]; rfl⟩
  | x :: xs, a, s, s5, h, h5, hl => by
    obtain ⟨y, s1, y0, y1, o1, e1⟩ := draw k ns h 26 (by omega) (by omega)
    have hl2 : a.length + (xs.length + 1) ≤ 100 := hl
    obtain ⟨s', b, s5', o2, b1, b2, b3, e2⟩ := nb4 k ns m s5 s6 s7 xs (a ++ [97 + y.toNat]) s1 (.d x) o1 (.inr ⟨x, rfl⟩) (by simp; omega)
    refine ⟨s', (97 + y.toNat) :: b, s5', o2, by simp [b1], low_app (low_one y0 y1) b2, b3, ?_⟩
    have l1 : a.length + 1 ≤ line := by unfold line; omega
    have hb : exs tb (runF tb fds (k + 2)) 3 nB4 (nE ns s m a (.d x) s6 s7) = .nx (nE ns s1 m (a ++ [97 + y.toNat]) (.d x) s6 s7) := by
      unfold nB4 nE
      simp [exs, ex.eq_1, ex.eq_2, ex.eq_3, ex.eq_4, ex.eq_5, ex.eq_6, ex.eq_7, ex.eq_8, ex.eq_9, ex.eq_10, ex.eq_11, ex.eq_14, ex.eq_16, ex.eq_17, ex.eq_18, ex.eq_19, ev.eq_1, ev.eq_2, ev.eq_3, ev.eq_4, ev.eq_5, ev.eq_6, ev.eq_7, ev.eq_8, ev.eq_9, ev.eq_10, ev.eq_11, ev.eq_12, ev.eq_13, ev.eq_14, ev.eq_15, ev.eq_16, ev.eq_17, ev.eq_18, ev.eq_19, ev.eq_20, ev.eq_21, ev.eq_22, ev.eq_23, ev.eq_25, ev.eq_26, ev.eq_27, ev.eq_28, ev.eq_29, ev.eq_31, ev.eq_32, ev.eq_33, ev.eq_34, evA, evs, evI, O.then, R.to, R.bind, EN.store, EN.storeAll, kp, kpF, seen, vw, opB, opC, opF, opI, opS, truD, R.val, R.dat, R.bool, isOwn, isLst, isSet, isOb, Env.at, O.end, retO, mask, flatD, List.mapM_cons, List.mapM_nil, eqD, eqS, callR, prep, prepV, handAll, handed, slotsOf, backR, back, prtR, IE.nl, isiR, isTyN, excAt, isTy, Tb.tok, Cn.toD, cnPut, cnPutT, R.calm, R.sft, isObj, fldR, fieldD, md0, md1, md2, e1, lt_len, lt_at y0 y1, S_len, S_app, l1]
    have st : EN.store 3 5 (nE ns s m a s5 s6 s7) (.d x) = .ok () (nE ns s m a (.d x) s6 s7) := rfl
    rw [fr_nx st hb, e2, List.append_assoc]
    rfl
def nE6 (ns : List Int) (s : Cn) (m : Int) (a c : List Nat) (s5 s7 : EN.Slot) : EN.Env := [.d (.scr ns), .own s, .d (.int m), .d (.str (Str.ofString "abcdefghijklmnopqrstuvwxyz")), .d (.str (S a)), s5, .d (.str (S c)), s7]
theorem nb6 (k : Nat) (ns : List Int) (m : Int) (a : List Nat) (s7 : EN.Slot) : ∀ (xs : List D) (c : List Nat) (s : Cn) (s5 : EN.Slot), Ok s → (s5 = .un ∨ ∃ x, s5 = .d x) → c.length + xs.length ≤ 100 → ∃ s' b s5', Ok s' ∧ b.length = xs.length ∧ low b = true ∧ (s5' = .un ∨ ∃ x, s5' = .d x) ∧ forRun 3 5 (fun ρ => exs tb (runF tb fds (k + 2)) 3 nB6 ρ) xs (nE6 ns s m a c s5 s7) = .nx (nE6 ns s' m a (c ++ b) s5' s7)
  | [], c, s, s5, h, h5, hl => ⟨s, [], s5, h, rfl, rfl, h5, by rw [List.append_nil]; rfl⟩
  | x :: xs, c, s, s5, h, h5, hl => by
    obtain ⟨y, s1, y0, y1, o1, e1⟩ := draw k ns h 26 (by omega) (by omega)
    have hl2 : c.length + (xs.length + 1) ≤ 100 := hl
    obtain ⟨s', b, s5', o2, b1, b2, b3, e2⟩ := nb6 k ns m a s7 xs (c ++ [97 + y.toNat]) s1 (.d x) o1 (.inr ⟨x, rfl⟩) (by simp; omega)
    refine ⟨s', (97 + y.toNat) :: b, s5', o2, by simp [b1], low_app (low_one y0 y1) b2, b3, ?_⟩
    have l1 : c.length + 1 ≤ line := by unfold line; omega
    have hb : exs tb (runF tb fds (k + 2)) 3 nB6 (nE6 ns s m a c (.d x) s7) = .nx (nE6 ns s1 m a (c ++ [97 + y.toNat]) (.d x) s7) := by
      unfold nB6 nE6
      simp [exs, ex.eq_1, ex.eq_2, ex.eq_3, ex.eq_4, ex.eq_5, ex.eq_6, ex.eq_7, ex.eq_8, ex.eq_9, ex.eq_10, ex.eq_11, ex.eq_14, ex.eq_16, ex.eq_17, ex.eq_18, ex.eq_19, ev.eq_1, ev.eq_2, ev.eq_3, ev.eq_4, ev.eq_5, ev.eq_6, ev.eq_7, ev.eq_8, ev.eq_9, ev.eq_10, ev.eq_11, ev.eq_12, ev.eq_13, ev.eq_14, ev.eq_15, ev.eq_16, ev.eq_17, ev.eq_18, ev.eq_19, ev.eq_20, ev.eq_21, ev.eq_22, ev.eq_23, ev.eq_25, ev.eq_26, ev.eq_27, ev.eq_28, ev.eq_29, ev.eq_31, ev.eq_32, ev.eq_33, ev.eq_34, evA, evs, evI, O.then, R.to, R.bind, EN.store, EN.storeAll, kp, kpF, seen, vw, opB, opC, opF, opI, opS, truD, R.val, R.dat, R.bool, isOwn, isLst, isSet, isOb, Env.at, O.end, retO, mask, flatD, List.mapM_cons, List.mapM_nil, eqD, eqS, callR, prep, prepV, handAll, handed, slotsOf, backR, back, prtR, IE.nl, isiR, isTyN, excAt, isTy, Tb.tok, Cn.toD, cnPut, cnPutT, R.calm, R.sft, isObj, fldR, fieldD, md0, md1, md2, e1, lt_len, lt_at y0 y1, S_len, S_app, l1]
    have st : EN.store 3 5 (nE6 ns s m a c s5 s7) (.d x) = .ok () (nE6 ns s m a c (.d x) s7) := rfl
    rw [fr_nx st hb, e2, List.append_assoc]
    rfl
end K05
namespace K05
open PySem EN
theorem S_e : (Str.ofString "") = S [] := by decide
theorem S_z7 : mulS (Str.ofString "z") 7 = S [122, 122, 122, 122, 122, 122, 122] := by decide
def nam (l : List Nat) : Prop := 1 ≤ l.length ∧ l.length ≤ 8 ∧ low l = true
def sD (ls : List (List Nat)) : List D := ls.map fun l => .str (S l)
def fl (x : Int) (j : Nat) : Nat := 97 + ((x + (j : Int)) % 26).toNat
theorem fl_inj {x : Int} {i j n : Nat} (hi : i < n) (hj : j < n) (hn : n ≤ 26) (h : fl x i = fl x j) : i = j := by
  unfold fl at h
  omega
theorem fl_low (x : Int) (j : Nat) : 97 ≤ fl x j ∧ fl x j ≤ 122 := by
  unfold fl
  omega
theorem nodup_range_map {f : Nat → List Nat} {n : Nat} (h : ∀ i j, i < n → j < n → f i = f j → i = j) : ((List.range n).map f).Nodup := by
  refine List.pairwise_map.mpr ?_
  refine (List.nodup_range (n := n)).imp_of_mem fun ha hb hne z => hne (h _ _ (List.mem_range.mp ha) (List.mem_range.mp hb) z)
def kA (x : Int) (j : Nat) : List Nat := (fl x j :: [122, 122, 122, 122, 122, 122, 122]).take (1 + ((x + 5 * (j : Int)) % 8).toNat)
def kB (x : Int) (a b : List Nat) (j : Nat) : List Nat := a ++ fl x j :: b
theorem nam_A (x : Int) (j : Nat) : nam (kA x j) := by
  obtain ⟨h1, h2⟩ := fl_low x j
  have h3 : ((x + 5 * (j : Int)) % 8).toNat < 8 := by omega
  unfold nam kA
  refine ⟨by simp; omega, by simp; omega, ?_⟩
  unfold low
  refine List.all_eq_true.mpr fun c hc => ?_
  have hc := List.mem_of_mem_take hc
  simp at hc
  rcases hc with rfl | rfl <;> simp <;> omega
theorem nam_B (x : Int) (a b : List Nat) (j : Nat) (ha : low a = true) (hb : low b = true) (hl : a.length + b.length ≤ 7) : nam (kB x a b j) := by
  obtain ⟨h1, h2⟩ := fl_low x j
  unfold nam kB
  refine ⟨by simp; omega, by simp; omega, low_app ha ?_⟩
  unfold low at *
  rw [List.all_cons, hb]
  simp; omega
theorem inj_A {x : Int} {i j n : Nat} (hi : i < n) (hj : j < n) (hn : n ≤ 26) (h : kA x i = kA x j) : i = j := by
  have := congrArg List.head? h
  unfold kA at this
  rw [show ∀ (a : Nat), 1 + a = a + 1 from fun a => by omega, show ∀ (a : Nat), 1 + a = a + 1 from fun a => by omega, List.take_succ_cons, List.take_succ_cons] at this
  simp at this
  exact fl_inj hi hj hn this
theorem inj_B {x : Int} {a b : List Nat} {i j n : Nat} (hi : i < n) (hj : j < n) (hn : n ≤ 26) (h : kB x a b i = kB x a b j) : i = j := by
  unfold kB at h
  have := List.append_cancel_left h
  simp at this
  exact fl_inj hi hj hn this
def gN (f : Nat → List Nat) : D → D
  | .int i => .str (S (f i.toNat))
  | _ => .non
theorem gN_map (f : Nat → List Nat) (n : Nat) : (rngD 0 (n : Int)).map (gN f) = sD ((List.range n).map f) := by
  rw [rng_map]
  unfold sD
  rw [List.map_map]
  rfl
theorem filt_true {xs : List D} : xs.filter (fun _ => true) = xs := List.filter_eq_self.mpr fun _ _ => rfl
def nZ (ns : List Int) (s : Cn) (n : Nat) (a b : List Nat) (s5 : EN.Slot) (x : Int) : EN.Env := [.d (.scr ns), .own s, .d (.int n), .d (.str (Str.ofString "abcdefghijklmnopqrstuvwxyz")), .d (.str (S a)), s5, .d (.str (S b)), .d (.int x)]
def nCA : IE := (.lc (.slc (.bin .add (.ix (.var 3) (.bin .mod (.bi .int (.cons (.bin .add (.var 7) (.var 5)) .nil)) (.lit (.int 26)))) (.bin .mul (.lit (.str "z")) (.lit (.int 7)))) (.lit .non) (.bin .add (.lit (.int 1)) (.bin .mod (.bi .int (.cons (.bin .add (.var 7) (.bin .mul (.lit (.int 5)) (.var 5))) .nil)) (.lit (.int 8))))) 5 (.rng (.var 2)) false (.lit (.bl true)))
def nCB : IE := (.lc (.bin .add (.bin .add (.var 4) (.ix (.var 3) (.bin .mod (.bi .int (.cons (.bin .add (.var 7) (.var 5)) .nil)) (.lit (.int 26))))) (.var 6)) 5 (.rng (.var 2)) false (.lit (.bl true)))
theorem rngI (fn : Fn) (ns : List Int) (s : Cn) (n : Nat) (hn : n ≤ 26) (a b : List Nat) (s5 : EN.Slot) (x : Int) : evI tb fn 3 (.rng (.var 2)) (nZ ns s n a b s5 x) = .ok (.d .non, rngD 0 (n : Int)) (nZ ns s n a b s5 x) :=
  evI_rng (by rw [ev.eq_1]; rfl) (rng_ok (by omega) (by omega))
theorem lt_at2 (x : Int) (j : Nat) : L2.atI (Str.ofString "abcdefghijklmnopqrstuvwxyz").cps.toList ((x + (j : Int)) % 26) = some (fl x j) := by
  have h0 : 0 ≤ (x + (j : Int)) % 26 := Int.emod_nonneg _ (by omega)
  have h1 : (x + (j : Int)) % 26 < 26 := Int.emod_lt_of_pos _ (by omega)
  rw [lt_at h0 h1]
  rfl
theorem cut_pre (l : List Nat) (t : Int) (h : 0 ≤ t) : L2.cutS (S l) none (some (1 + t)) = S (l.take (1 + t.toNat)) := by
  obtain ⟨j, rfl⟩ := Int.eq_ofNat_of_zero_le h
  have e : (1 : Int) + (j : Int) = ((1 + j : Nat) : Int) := by omega
  rw [e]
  unfold L2.cutS
  rw [HT.sIx_nat, S_list, S_len]
  show S ((l.drop 0).take (min (1 + j) l.length - 0)) = _
  rw [List.drop_zero, Nat.sub_zero]
  congr 1
  rcases Nat.lt_or_ge l.length (1 + j) with h | h
  · rw [Nat.min_eq_right (by omega), List.take_of_length_le (Nat.le_refl _), List.take_of_length_le (by show l.length ≤ 1 + (j : Int).toNat; omega)]
  · rw [Nat.min_eq_left h]; rfl
theorem compA (fn : Fn) (ns : List Int) (s : Cn) (n : Nat) (hn : n ≤ 26) (a b : List Nat) (s5 : EN.Slot) (h5 : s5 = .un ∨ ∃ x, s5 = .d x) (x : Int) (hx : 0 ≤ x ∧ x < 26) : ev tb fn 3 nCA (nZ ns s n a b s5 x) = .ok (.fr (.lst (sD ((List.range n).map (kA x))))) (nZ ns s n a b s5 x) := by
  rw [← gN_map, ← filt_true (xs := rngD 0 (n : Int))]
  refine ev_lcF (fun _ => true) (gN (kA x)) (rngI fn ns s n hn a b s5 x) h5 (fun z => nomatch z) (fun _ _ _ => rfl) fun d hd _ => ?_
  obtain ⟨j, hj, rfl⟩ := rng_mem hd
  have e1 := lt_at2 x j
  have h2 : 0 ≤ (x + 5 * (j : Int)) % 8 := Int.emod_nonneg _ (by omega)
  have e2 := cut_pre (fl x j :: [122, 122, 122, 122, 122, 122, 122]) _ h2
  have e3 : gN (kA x) (.int (j : Int)) = .str (S ((fl x j :: [122, 122, 122, 122, 122, 122, 122]).take (1 + ((x + 5 * (j : Int)) % 8).toNat))) := rfl
  rw [e3, ← e2]
  have z1 : (Str.ofString "z").length ≤ 10 := by decide
  have l8 : 8 ≤ line := by decide
  have l0 : 1 + (S [122, 122, 122, 122, 122, 122, 122]).length ≤ line := by decide
  have q1 : -18446744073709551616 < (j : Int) ∧ (j : Int) < 18446744073709551616 := by omega
  generalize (j : Int) = y at *
  unfold nZ
  simp [exs, ex.eq_1, ex.eq_2, ex.eq_3, ex.eq_4, ex.eq_5, ex.eq_6, ex.eq_7, ex.eq_8, ex.eq_9, ex.eq_10, ex.eq_11, ex.eq_14, ex.eq_16, ex.eq_17, ex.eq_18, ex.eq_19, ev.eq_1, ev.eq_2, ev.eq_3, ev.eq_4, ev.eq_5, ev.eq_6, ev.eq_7, ev.eq_8, ev.eq_9, ev.eq_10, ev.eq_11, ev.eq_12, ev.eq_13, ev.eq_14, ev.eq_15, ev.eq_16, ev.eq_17, ev.eq_18, ev.eq_19, ev.eq_20, ev.eq_21, ev.eq_22, ev.eq_23, ev.eq_25, ev.eq_26, ev.eq_27, ev.eq_28, ev.eq_29, ev.eq_31, ev.eq_32, ev.eq_33, ev.eq_34, evA, evs, evI, O.then, R.to, R.bind, EN.store, EN.storeAll, kp, kpF, seen, vw, opB, opC, opF, opI, opS, truD, R.val, R.dat, R.bool, isOwn, isLst, isSet, isOb, Env.at, O.end, retO, mask, flatD, List.mapM_cons, List.mapM_nil, eqD, eqS, callR, prep, prepV, handAll, handed, slotsOf, backR, back, prtR, IE.nl, isiR, isTyN, excAt, isTy, Tb.tok, Cn.toD, cnPut, cnPutT, R.calm, R.sft, isObj, fldR, fieldD, lt_len, e1, S_z7, z1, S_len, S_app, l8, l0, q1]
theorem compB (fn : Fn) (ns : List Int) (s : Cn) (n : Nat) (hn : n ≤ 26) (a b : List Nat) (hl : a.length + b.length ≤ 100) (s5 : EN.Slot) (h5 : s5 = .un ∨ ∃ x, s5 = .d x) (x : Int) (hx : 0 ≤ x ∧ x < 26) : ev tb fn 3 nCB (nZ ns s n a b s5 x) = .ok (.fr (.lst (sD ((List.range n).map (kB x a b))))) (nZ ns s n a b s5 x) := by
  rw [← gN_map, ← filt_true (xs := rngD 0 (n : Int))]
  refine ev_lcF (fun _ => true) (gN (kB x a b)) (rngI fn ns s n hn a b s5 x) h5 (fun z => nomatch z) (fun _ _ _ => rfl) fun d hd _ => ?_
  obtain ⟨j, hj, rfl⟩ := rng_mem hd
  have e1 := lt_at2 x j
  have e3 : gN (kB x a b) (.int (j : Int)) = .str (S (a ++ [fl x j] ++ b)) := by
    rw [List.append_assoc]; rfl
  rw [e3]
  have l1 : a.length + 1 ≤ line := by unfold line; omega
  have l2 : a.length + 1 + b.length ≤ line := by unfold line; omega
  generalize (j : Int) = y at *
  unfold nZ
  simp [exs, ex.eq_1, ex.eq_2, ex.eq_3, ex.eq_4, ex.eq_5, ex.eq_6, ex.eq_7, ex.eq_8, ex.eq_9, ex.eq_10, ex.eq_11, ex.eq_14, ex.eq_16, ex.eq_17, ex.eq_18, ex.eq_19, ev.eq_1, ev.eq_2, ev.eq_3, ev.eq_4, ev.eq_5, ev.eq_6, ev.eq_7, ev.eq_8, ev.eq_9, ev.eq_10, ev.eq_11, ev.eq_12, ev.eq_13, ev.eq_14, ev.eq_15, ev.eq_16, ev.eq_17, ev.eq_18, ev.eq_19, ev.eq_20, ev.eq_21, ev.eq_22, ev.eq_23, ev.eq_25, ev.eq_26, ev.eq_27, ev.eq_28, ev.eq_29, ev.eq_31, ev.eq_32, ev.eq_33, ev.eq_34, evA, evs, evI, O.then, R.to, R.bind, EN.store, EN.storeAll, kp, kpF, seen, vw, opB, opC, opF, opI, opS, truD, R.val, R.dat, R.bool, isOwn, isLst, isSet, isOb, Env.at, O.end, retO, mask, flatD, List.mapM_cons, List.mapM_nil, eqD, eqS, callR, prep, prepV, handAll, handed, slotsOf, backR, back, prtR, IE.nl, isiR, isTyN, excAt, isTy, Tb.tok, Cn.toD, cnPut, cnPutT, R.calm, R.sft, isObj, fldR, fieldD, lt_len, e1, S_len, S_app, l1, l2]
end K05
namespace K05
open PySem EN
def nS1 : IS := .asg 3 (.lit (.str "abcdefghijklmnopqrstuvwxyz"))
def nS2 : IS := .asg 4 (.lit (.str ""))
def nIt (m : Int) : IT := .rng (.bin .mul (.call 15 (.cons (.var 0) (.cons (.var 1) (.cons (.lit (.int m)) .nil)))) (.call 15 (.cons (.var 0) (.cons (.var 1) (.cons (.lit (.int 2)) .nil)))))
def nS4 : IS := .asg 6 (.lit (.str ""))
def nS6 : IS := .asg 7 (.call 15 (.cons (.var 0) (.cons (.var 1) (.cons (.lit (.int 26)) .nil))))
def nS7 : IS := .ifS (.cmp .eq (.call 15 (.cons (.var 0) (.cons (.var 1) (.cons (.lit (.int 3)) .nil)))) (.lit (.int 1))) (.cons (.ret nCA) .nil) .nil
theorem b_names : b__law_names = .cons nS1 (.cons nS2 (.cons (.forS 5 (nIt 4) nB4) (.cons nS4 (.cons (.forS 5 (nIt 5) nB6) (.cons nS6 (.cons nS7 (.cons (.ret nCB) .nil))))))) := rfl
theorem nI_ok (k : Nat) (ns : List Int) {s : Cn} (h : Ok s) (m : Int) (hm : 0 < m) (hm2 : m ≤ 5) (n : Nat) (r : EN.Env) : ∃ (x : Int) (s' : Cn), 0 ≤ x ∧ x < m ∧ Ok s' ∧ evI tb (runF tb fds (k + 2)) 3 (nIt m) (.d (.scr ns) :: .own s :: .d (.int n) :: r) = .ok (.d .non, rngD 0 x) (.d (.scr ns) :: .own s' :: .d (.int n) :: r) := by
  obtain ⟨x1, s1, a0, a1, o1, e1⟩ := draw k ns h m hm (by omega)
  obtain ⟨x2, s2, b0, b1, o2, e2⟩ := draw k ns o1 2 (by omega) (by omega)
  have hx : 0 ≤ x1 * x2 ∧ x1 * x2 < m := by
    have : x2 = 0 ∨ x2 = 1 := by omega
    rcases this with rfl | rfl
    · rw [Int.mul_zero]; omega
    · rw [Int.mul_one]; omega
  refine ⟨x1 * x2, s2, hx.1, hx.2, o2, ?_⟩
  refine evI_rng ?_ (rng_ok hx.1 (by omega))
  have q1 : -18446744073709551616 < x1 ∧ x1 < 18446744073709551616 := by omega
  simp [exs, ex.eq_1, ex.eq_2, ex.eq_3, ex.eq_4, ex.eq_5, ex.eq_6, ex.eq_7, ex.eq_8, ex.eq_9, ex.eq_10, ex.eq_11, ex.eq_14, ex.eq_16, ex.eq_17, ex.eq_18, ex.eq_19, ev.eq_1, ev.eq_2, ev.eq_3, ev.eq_4, ev.eq_5, ev.eq_6, ev.eq_7, ev.eq_8, ev.eq_9, ev.eq_10, ev.eq_11, ev.eq_12, ev.eq_13, ev.eq_14, ev.eq_15, ev.eq_16, ev.eq_17, ev.eq_18, ev.eq_19, ev.eq_20, ev.eq_21, ev.eq_22, ev.eq_23, ev.eq_25, ev.eq_26, ev.eq_27, ev.eq_28, ev.eq_29, ev.eq_31, ev.eq_32, ev.eq_33, ev.eq_34, evA, evs, evI, O.then, R.to, R.bind, EN.store, EN.storeAll, kp, kpF, seen, vw, opB, opC, opF, opI, opS, truD, R.val, R.dat, R.bool, isOwn, isLst, isSet, isOb, Env.at, O.end, retO, mask, flatD, List.mapM_cons, List.mapM_nil, eqD, eqS, callR, prep, prepV, handAll, handed, slotsOf, backR, back, prtR, IE.nl, isiR, isTyN, excAt, isTy, Tb.tok, Cn.toD, cnPut, cnPutT, R.calm, R.sft, isObj, fldR, fieldD, md0, md1, md2, e1, e2, q1]
abbrev LTs : Str := Str.ofString "abcdefghijklmnopqrstuvwxyz"
theorem n_h1 (fn : Fn) (ns : List Int) (s : Cn) (n : Int) : ex tb fn 3 nS1 [.d (.scr ns), .own s, .d (.int n), .un, .un, .un, .un, .un] = .nx [.d (.scr ns), .own s, .d (.int n), .d (.str LTs), .un, .un, .un, .un] := by
  unfold nS1
  simp [exs, ex.eq_1, ex.eq_2, ex.eq_3, ex.eq_4, ex.eq_5, ex.eq_6, ex.eq_7, ex.eq_8, ex.eq_9, ex.eq_10, ex.eq_11, ex.eq_14, ex.eq_16, ex.eq_17, ex.eq_18, ex.eq_19, ev.eq_1, ev.eq_2, ev.eq_3, ev.eq_4, ev.eq_5, ev.eq_6, ev.eq_7, ev.eq_8, ev.eq_9, ev.eq_10, ev.eq_11, ev.eq_12, ev.eq_13, ev.eq_14, ev.eq_15, ev.eq_16, ev.eq_17, ev.eq_18, ev.eq_19, ev.eq_20, ev.eq_21, ev.eq_22, ev.eq_23, ev.eq_25, ev.eq_26, ev.eq_27, ev.eq_28, ev.eq_29, ev.eq_31, ev.eq_32, ev.eq_33, ev.eq_34, evA, evs, evI, O.then, R.to, R.bind, EN.store, EN.storeAll, kp, kpF, seen, vw, opB, opC, opF, opI, opS, truD, R.val, R.dat, R.bool, isOwn, isLst, isSet, isOb, Env.at, O.end, retO, mask, flatD, List.mapM_cons, List.mapM_nil, eqD, eqS, callR, prep, prepV, handAll, handed, slotsOf, backR, back, prtR, IE.nl, isiR, isTyN, excAt, isTy, Tb.tok, Cn.toD, cnPut, cnPutT, R.calm, R.sft, isObj, fldR, fieldD]
theorem n_h2 (fn : Fn) (ns : List Int) (s : Cn) (n : Int) : ex tb fn 3 nS2 [.d (.scr ns), .own s, .d (.int n), .d (.str LTs), .un, .un, .un, .un] = .nx [.d (.scr ns), .own s, .d (.int n), .d (.str LTs), .d (.str (S [])), .un, .un, .un] := by
  unfold nS2
  simp [exs, ex.eq_1, ex.eq_2, ex.eq_3, ex.eq_4, ex.eq_5, ex.eq_6, ex.eq_7, ex.eq_8, ex.eq_9, ex.eq_10, ex.eq_11, ex.eq_14, ex.eq_16, ex.eq_17, ex.eq_18, ex.eq_19, ev.eq_1, ev.eq_2, ev.eq_3, ev.eq_4, ev.eq_5, ev.eq_6, ev.eq_7, ev.eq_8, ev.eq_9, ev.eq_10, ev.eq_11, ev.eq_12, ev.eq_13, ev.eq_14, ev.eq_15, ev.eq_16, ev.eq_17, ev.eq_18, ev.eq_19, ev.eq_20, ev.eq_21, ev.eq_22, ev.eq_23, ev.eq_25, ev.eq_26, ev.eq_27, ev.eq_28, ev.eq_29, ev.eq_31, ev.eq_32, ev.eq_33, ev.eq_34, evA, evs, evI, O.then, R.to, R.bind, EN.store, EN.storeAll, kp, kpF, seen, vw, opB, opC, opF, opI, opS, truD, R.val, R.dat, R.bool, isOwn, isLst, isSet, isOb, Env.at, O.end, retO, mask, flatD, List.mapM_cons, List.mapM_nil, eqD, eqS, callR, prep, prepV, handAll, handed, slotsOf, backR, back, prtR, IE.nl, isiR, isTyN, excAt, isTy, Tb.tok, Cn.toD, cnPut, cnPutT, R.calm, R.sft, isObj, fldR, fieldD, S_e]
theorem n_h4 (fn : Fn) (ns : List Int) (s : Cn) (n : Int) (a : List Nat) (s5 : EN.Slot) : ex tb fn 3 nS4 (nE ns s n ([] ++ a) s5 .un .un) = .nx [.d (.scr ns), .own s, .d (.int n), .d (.str LTs), .d (.str (S a)), s5, .d (.str (S [])), .un] := by
  unfold nS4 nE
  simp [exs, ex.eq_1, ex.eq_2, ex.eq_3, ex.eq_4, ex.eq_5, ex.eq_6, ex.eq_7, ex.eq_8, ex.eq_9, ex.eq_10, ex.eq_11, ex.eq_14, ex.eq_16, ex.eq_17, ex.eq_18, ex.eq_19, ev.eq_1, ev.eq_2, ev.eq_3, ev.eq_4, ev.eq_5, ev.eq_6, ev.eq_7, ev.eq_8, ev.eq_9, ev.eq_10, ev.eq_11, ev.eq_12, ev.eq_13, ev.eq_14, ev.eq_15, ev.eq_16, ev.eq_17, ev.eq_18, ev.eq_19, ev.eq_20, ev.eq_21, ev.eq_22, ev.eq_23, ev.eq_25, ev.eq_26, ev.eq_27, ev.eq_28, ev.eq_29, ev.eq_31, ev.eq_32, ev.eq_33, ev.eq_34, evA, evs, evI, O.then, R.to, R.bind, EN.store, EN.storeAll, kp, kpF, seen, vw, opB, opC, opF, opI, opS, truD, R.val, R.dat, R.bool, isOwn, isLst, isSet, isOb, Env.at, O.end, retO, mask, flatD, List.mapM_cons, List.mapM_nil, eqD, eqS, callR, prep, prepV, handAll, handed, slotsOf, backR, back, prtR, IE.nl, isiR, isTyN, excAt, isTy, Tb.tok, Cn.toD, cnPut, cnPutT, R.calm, R.sft, isObj, fldR, fieldD, S_e]
theorem n_h6 (fn : Fn) (ns : List Int) (s s' : Cn) (n : Nat) (a b : List Nat) (s5 : EN.Slot) (x : Int) (e : fn 15 [.d (.scr ns), .own s, .d (.int 26)] = .ok (.d (.int x)) [.un, .own s', .un]) : ex tb fn 3 nS6 (nE6 ns s n a ([] ++ b) s5 .un) = .nx (nZ ns s' n a b s5 x) := by
  unfold nS6 nE6 nZ
  simp [exs, ex.eq_1, ex.eq_2, ex.eq_3, ex.eq_4, ex.eq_5, ex.eq_6, ex.eq_7, ex.eq_8, ex.eq_9, ex.eq_10, ex.eq_11, ex.eq_14, ex.eq_16, ex.eq_17, ex.eq_18, ex.eq_19, ev.eq_1, ev.eq_2, ev.eq_3, ev.eq_4, ev.eq_5, ev.eq_6, ev.eq_7, ev.eq_8, ev.eq_9, ev.eq_10, ev.eq_11, ev.eq_12, ev.eq_13, ev.eq_14, ev.eq_15, ev.eq_16, ev.eq_17, ev.eq_18, ev.eq_19, ev.eq_20, ev.eq_21, ev.eq_22, ev.eq_23, ev.eq_25, ev.eq_26, ev.eq_27, ev.eq_28, ev.eq_29, ev.eq_31, ev.eq_32, ev.eq_33, ev.eq_34, evA, evs, evI, O.then, R.to, R.bind, EN.store, EN.storeAll, kp, kpF, seen, vw, opB, opC, opF, opI, opS, truD, R.val, R.dat, R.bool, isOwn, isLst, isSet, isOb, Env.at, O.end, retO, mask, flatD, List.mapM_cons, List.mapM_nil, eqD, eqS, callR, prep, prepV, handAll, handed, slotsOf, backR, back, prtR, IE.nl, isiR, isTyN, excAt, isTy, Tb.tok, Cn.toD, cnPut, cnPutT, R.calm, R.sft, isObj, fldR, fieldD, md0, md1, md2, e]
theorem n_h7t (fn : Fn) (ns : List Int) (s s' : Cn) (n : Nat) (a b : List Nat) (s5 : EN.Slot) (x t : Int) (ht : t = 1) (c : Cn) (e : fn 15 [.d (.scr ns), .own s, .d (.int 3)] = .ok (.d (.int t)) [.un, .own s', .un])
    (ha : ev tb fn 3 nCA (nZ ns s' n a b s5 x) = .ok (.fr c) (nZ ns s' n a b s5 x)) (w : ISs) : exs tb fn 3 (.cons nS7 w) (nZ ns s n a b s5 x) = .rt (.fr c) (nZ ns s' n a b s5 x) := by
  refine exs_rt (ex_ifT (ρ1 := nZ ns s' n a b s5 x) ?_ (exs_rt (ex_retF ha)))
  unfold nZ
  simp [exs, ex.eq_1, ex.eq_2, ex.eq_3, ex.eq_4, ex.eq_5, ex.eq_6, ex.eq_7, ex.eq_8, ex.eq_9, ex.eq_10, ex.eq_11, ex.eq_14, ex.eq_16, ex.eq_17, ex.eq_18, ex.eq_19, ev.eq_1, ev.eq_2, ev.eq_3, ev.eq_4, ev.eq_5, ev.eq_6, ev.eq_7, ev.eq_8, ev.eq_9, ev.eq_10, ev.eq_11, ev.eq_12, ev.eq_13, ev.eq_14, ev.eq_15, ev.eq_16, ev.eq_17, ev.eq_18, ev.eq_19, ev.eq_20, ev.eq_21, ev.eq_22, ev.eq_23, ev.eq_25, ev.eq_26, ev.eq_27, ev.eq_28, ev.eq_29, ev.eq_31, ev.eq_32, ev.eq_33, ev.eq_34, evA, evs, evI, O.then, R.to, R.bind, EN.store, EN.storeAll, kp, kpF, seen, vw, opB, opC, opF, opI, opS, truD, R.val, R.dat, R.bool, isOwn, isLst, isSet, isOb, Env.at, O.end, retO, mask, flatD, List.mapM_cons, List.mapM_nil, eqD, eqS, callR, prep, prepV, handAll, handed, slotsOf, backR, back, prtR, IE.nl, isiR, isTyN, excAt, isTy, Tb.tok, Cn.toD, cnPut, cnPutT, R.calm, R.sft, isObj, fldR, fieldD, md0, md1, md2, e, ht]
theorem n_h7f (fn : Fn) (ns : List Int) (s s' : Cn) (n : Nat) (a b : List Nat) (s5 : EN.Slot) (x t : Int) (ht : t ≠ 1) (c : Cn) (e : fn 15 [.d (.scr ns), .own s, .d (.int 3)] = .ok (.d (.int t)) [.un, .own s', .un])
    (ha : ev tb fn 3 nCB (nZ ns s' n a b s5 x) = .ok (.fr c) (nZ ns s' n a b s5 x)) : exs tb fn 3 (.cons nS7 (.cons (.ret nCB) .nil)) (nZ ns s n a b s5 x) = .rt (.fr c) (nZ ns s' n a b s5 x) := by
  have h7 : ex tb fn 3 nS7 (nZ ns s n a b s5 x) = .nx (nZ ns s' n a b s5 x) := by
    refine ex_no ?_
    unfold nZ
    simp [exs, ex.eq_1, ex.eq_2, ex.eq_3, ex.eq_4, ex.eq_5, ex.eq_6, ex.eq_7, ex.eq_8, ex.eq_9, ex.eq_10, ex.eq_11, ex.eq_14, ex.eq_16, ex.eq_17, ex.eq_18, ex.eq_19, ev.eq_1, ev.eq_2, ev.eq_3, ev.eq_4, ev.eq_5, ev.eq_6, ev.eq_7, ev.eq_8, ev.eq_9, ev.eq_10, ev.eq_11, ev.eq_12, ev.eq_13, ev.eq_14, ev.eq_15, ev.eq_16, ev.eq_17, ev.eq_18, ev.eq_19, ev.eq_20, ev.eq_21, ev.eq_22, ev.eq_23, ev.eq_25, ev.eq_26, ev.eq_27, ev.eq_28, ev.eq_29, ev.eq_31, ev.eq_32, ev.eq_33, ev.eq_34, evA, evs, evI, O.then, R.to, R.bind, EN.store, EN.storeAll, kp, kpF, seen, vw, opB, opC, opF, opI, opS, truD, R.val, R.dat, R.bool, isOwn, isLst, isSet, isOb, Env.at, O.end, retO, mask, flatD, List.mapM_cons, List.mapM_nil, eqD, eqS, callR, prep, prepV, handAll, handed, slotsOf, backR, back, prtR, IE.nl, isiR, isTyN, excAt, isTy, Tb.tok, Cn.toD, cnPut, cnPutT, R.calm, R.sft, isObj, fldR, fieldD, md0, md1, md2, e, ht]
  rw [exs_cons h7]
  exact exs_rt (ex_retF ha)
theorem names_body (k : Nat) (ns : List Int) (n : Nat) (s s1 s2 s3 s4 s6 : Cn) (a b : List Nat) (s5 s5' : EN.Slot) (x x1 x2 : Int) (o : O)
   (i1 : evI tb (runF tb fds (k + 2)) 3 (nIt 4) [.d (.scr ns), .own s, .d (.int n), .d (.str LTs), .d (.str (S [])), .un, .un, .un] = .ok (.d .non, rngD 0 x1) [.d (.scr ns), .own s1, .d (.int n), .d (.str LTs), .d (.str (S [])), .un, .un, .un])
   (f1 : forRun 3 5 (fun ρ => exs tb (runF tb fds (k + 2)) 3 nB4 ρ) (rngD 0 x1) [.d (.scr ns), .own s1, .d (.int n), .d (.str LTs), .d (.str (S [])), .un, .un, .un] = .nx (nE ns s2 n ([] ++ a) s5 .un .un))
   (i2 : evI tb (runF tb fds (k + 2)) 3 (nIt 5) [.d (.scr ns), .own s2, .d (.int n), .d (.str LTs), .d (.str (S a)), s5, .d (.str (S [])), .un] = .ok (.d .non, rngD 0 x2) [.d (.scr ns), .own s3, .d (.int n), .d (.str LTs), .d (.str (S a)), s5, .d (.str (S [])), .un])
   (f2 : forRun 3 5 (fun ρ => exs tb (runF tb fds (k + 2)) 3 nB6 ρ) (rngD 0 x2) [.d (.scr ns), .own s3, .d (.int n), .d (.str LTs), .d (.str (S a)), s5, .d (.str (S [])), .un] = .nx (nE6 ns s4 n a ([] ++ b) s5' .un))
   (e6 : runF tb fds (k + 2) 15 [.d (.scr ns), .own s4, .d (.int 26)] = .ok (.d (.int x)) [.un, .own s6, .un])
   (ho : exs tb (runF tb fds (k + 2)) 3 (.cons nS7 (.cons (.ret nCB) .nil)) (nZ ns s6 n a b s5' x) = o) : exs tb (runF tb fds (k + 2)) 3 b__law_names [.d (.scr ns), .own s, .d (.int n), .un, .un, .un, .un, .un] = o := by
  rw [b_names, exs_cons (n_h1 _ _ _ _), exs_cons (n_h2 _ _ _ _), exs_cons (ex_for i1 f1), exs_cons (n_h4 _ _ _ _ _ _), exs_cons (ex_for i2 f2), exs_cons (n_h6 _ _ _ _ _ _ _ _ _ e6)]
  exact ho
theorem run_names (k : Nat) (ns : List Int) {s : Cn} (h : Ok s) (n : Nat) (hn : n ≤ 26) : ∃ (s' : Cn) (ls : List (List Nat)), Ok s' ∧ ls.length = n ∧ ls.Nodup ∧ (∀ l ∈ ls, nam l) ∧
    runF tb fds (k + 3) 16 [.d (.scr ns), .own s, .d (.int n)] = .ok (.fr (.lst (sD ls))) [.un, .own s', .un] := by
  obtain ⟨x1, s1, a0, a1, o1, i1⟩ := nI_ok k ns h 4 (by omega) (by omega) n [.d (.str LTs), .d (.str (S [])), .un, .un, .un]
  have hl1 : (rngD 0 x1).length ≤ 3 := by rw [rngD_len]; omega
  obtain ⟨s2, a, s5, o2, b1, b2, b3, f1⟩ := nb4 k ns n .un .un .un (rngD 0 x1) [] s1 .un o1 (.inl rfl) (by rw [List.length_nil]; omega)
  obtain ⟨x2, s3, c0, c1, o3, i2⟩ := nI_ok k ns o2 5 (by omega) (by omega) n [.d (.str LTs), .d (.str (S a)), s5, .d (.str (S [])), .un]
  have hl2 : (rngD 0 x2).length ≤ 4 := by rw [rngD_len]; omega
  obtain ⟨s4, b, s5', o4, d1, d2, d3, f2⟩ := nb6 k ns n a .un (rngD 0 x2) [] s3 s5 o3 b3 (by rw [List.length_nil]; omega)
  obtain ⟨x, s6, g0, g1, o6, e6⟩ := draw k ns o4 26 (by omega) (by omega)
  obtain ⟨t, s7, t0, t1, o7, e7⟩ := draw k ns o6 3 (by omega) (by omega)
  have lab : a.length + b.length ≤ 7 := by omega
  have cA := compA (runF tb fds (k + 2)) ns s7 n hn a b s5' d3 x ⟨g0, g1⟩
  have cB := compB (runF tb fds (k + 2)) ns s7 n hn a b (by omega) s5' d3 x ⟨g0, g1⟩
  have body := fun o => names_body k ns n s s1 s2 s3 s4 s6 a b s5 s5' x x1 x2 o i1 f1 i2 f2 e6
  by_cases ht : t = 1
  · refine ⟨s7, (List.range n).map (kA x), o7, by simp, nodup_range_map fun i j hi hj => inj_A hi hj hn, fun l hl => ?_, ?_⟩
    · obtain ⟨j, _, rfl⟩ := List.mem_map.mp hl
      exact nam_A x j
    · exact run_rt (np := 3) (ns := 8) (b := b__law_names) (ρ := nZ ns s7 n a b s5' x) (as := [.d (.scr ns), .own s, .d (.int n)]) rfl rfl (body _ (n_h7t _ ns s6 s7 n a b s5' x t ht _ e7 cA _))
  · refine ⟨s7, (List.range n).map (kB x a b), o7, by simp, nodup_range_map fun i j hi hj => inj_B hi hj hn, fun l hl => ?_, ?_⟩
    · obtain ⟨j, _, rfl⟩ := List.mem_map.mp hl
      exact nam_B x a b j b2 d2 lab
    · exact run_rt (np := 3) (ns := 8) (b := b__law_names) (ρ := nZ ns s7 n a b s5' x) (as := [.d (.scr ns), .own s, .d (.int n)]) rfl rfl (body _ (n_h7f _ ns s6 s7 n a b s5' x t ht _ e7 cB))
end K05
namespace K05
open PySem EN
structure E where
  lab : List Nat
  tail : List Nat
  head : List Nat
  p : Int
  r : Int
def E.d (e : E) : D := .tup [.str (S e.lab), .str (S e.tail), .str (S e.head), .int e.p, .int e.r]
theorem md18 : tb.md 17 0 = 0 ∧ tb.md 17 1 = 2 ∧ tb.md 17 2 = 0 ∧ tb.md 17 3 = 0 := ⟨rfl, rfl, rfl, rfl⟩
theorem md19 : tb.md 18 0 = 0 ∧ tb.md 18 1 = 2 ∧ tb.md 18 2 = 0 ∧ tb.md 18 3 = 0 := ⟨rfl, rfl, rfl, rfl⟩
theorem ln4 : 4 ≤ line := by decide
theorem ln5 : 5 ≤ line := by decide
theorem ln2 : 2 ≤ line := by decide
theorem ln1 : 1 ≤ line := by decide
theorem ln0 : 0 ≤ line := Nat.zero_le _
theorem sD_len (ls : List (List Nat)) : (sD ls).length = ls.length := by simp [sD]
theorem sD_at {ls : List (List Nat)} {x : Int} (h0 : 0 ≤ x) (h1 : x < ls.length) : ∃ l ∈ ls, L2.atI (sD ls) x = some (.str (S l)) := by
  obtain ⟨j, rfl⟩ := Int.eq_ofNat_of_zero_le h0
  have hj : j < ls.length := by omega
  refine ⟨ls[j], List.getElem_mem hj, ?_⟩
  have hj2 : j < (sD ls).length := by rw [sD_len]; exact hj
  rw [atI_lt hj2]
  simp [sD]
theorem run_edge (k : Nat) (ns : List Int) {s : Cn} (h : Ok s) (ls : List (List Nat)) (h1 : 1 ≤ ls.length) (h2 : ls.length ≤ 26) (lab : D) : ∃ (s' : Cn) (t hd : List Nat) (p r : Int), Ok s' ∧ t ∈ ls ∧ hd ∈ ls ∧ 0 ≤ r ∧
    runF tb fds (k + 3) 17 [.d (.scr ns), .own s, .d (.lst (sD ls)), .d lab] = .ok (.d (.tup [lab, .str (S t), .str (S hd), .int p, .int r])) [.un, .own s', .un, .un] := by
  have hl : ((sD ls).length : Int) = (ls.length : Int) := by rw [sD_len]
  obtain ⟨x1, s1, a1, b1, o1, e1⟩ := draw k ns h (ls.length : Int) (by omega) (by omega)
  obtain ⟨x2, s2, a2, b2, o2, e2⟩ := draw k ns o1 (ls.length : Int) (by omega) (by omega)
  obtain ⟨x3, s3, a3, b3, o3, e3⟩ := draw k ns o2 199 (by omega) (by omega)
  obtain ⟨x4, s4, a4, b4, o4, e4⟩ := draw k ns o3 7 (by omega) (by omega)
  obtain ⟨x5, s5, a5, b5, o5, e5⟩ := draw k ns o4 5 (by omega) (by omega)
  obtain ⟨x6, s6, a6, b6, o6, e6⟩ := draw k ns o5 21 (by omega) (by omega)
  obtain ⟨x7, s7, a7, b7, o7, e7⟩ := draw k ns o6 4 (by omega) (by omega)
  obtain ⟨t, ht, i1⟩ := sD_at a1 b1
  obtain ⟨hd, hh, i2⟩ := sD_at a2 b2
  obtain ⟨p, i3⟩ : ∃ p, L2.atI [D.int (x3 - 99), .int (x4 - 3), .int 0, .int (-99), .int 99] x5 = some (.int p) := by
    have : x5 = 0 ∨ x5 = 1 ∨ x5 = 2 ∨ x5 = 3 ∨ x5 = 4 := by omega
    rcases this with rfl | rfl | rfl | rfl | rfl <;> exact ⟨_, rfl⟩
  obtain ⟨r, hr, i4⟩ : ∃ r : Int, 0 ≤ r ∧ L2.atI [D.int x6, .int 0, .int 20, .int 1] x7 = some (.int r) := by
    have : x7 = 0 ∨ x7 = 1 ∨ x7 = 2 ∨ x7 = 3 := by omega
    rcases this with rfl | rfl | rfl | rfl
    · exact ⟨_, a6, rfl⟩
    · exact ⟨0, by omega, rfl⟩
    · exact ⟨20, by omega, rfl⟩
    · exact ⟨1, by omega, rfl⟩
  refine ⟨s7, t, hd, p, r, o7, ht, hh, hr, ?_⟩
  generalize (ls.length : Int) = m at *
  generalize sD ls = dd at *
  refine run_rt (np := 4) (ns := 7) (b := b__law_edge) (ρ := [.d (.scr ns), .own s7, .d (.lst dd), .d lab, .d (.str (S t)), .d (.str (S hd)), .d (.int p)]) (as := [.d (.scr ns), .own s, .d (.lst dd), .d lab]) rfl rfl ?_
  show exs tb (runF tb fds (k + 2)) 4 b__law_edge [.d (.scr ns), .own s, .d (.lst dd), .d lab, .un, .un, .un] = _
  unfold b__law_edge
  simp [exs, ex.eq_1, ex.eq_2, ex.eq_3, ex.eq_4, ex.eq_5, ex.eq_6, ex.eq_7, ex.eq_8, ex.eq_9, ex.eq_10, ex.eq_11, ex.eq_14, ex.eq_16, ex.eq_17, ex.eq_18, ex.eq_19, ev.eq_1, ev.eq_2, ev.eq_3, ev.eq_4, ev.eq_5, ev.eq_6, ev.eq_7, ev.eq_8, ev.eq_9, ev.eq_10, ev.eq_11, ev.eq_12, ev.eq_13, ev.eq_14, ev.eq_15, ev.eq_16, ev.eq_17, ev.eq_18, ev.eq_19, ev.eq_20, ev.eq_21, ev.eq_22, ev.eq_23, ev.eq_25, ev.eq_26, ev.eq_27, ev.eq_28, ev.eq_29, ev.eq_31, ev.eq_32, ev.eq_33, ev.eq_34, evA, evs, evI, O.then, R.to, R.bind, EN.store, EN.storeAll, kp, kpF, seen, vw, opB, opC, opF, opI, opS, truD, R.val, R.dat, R.bool, isOwn, isLst, isSet, isOb, Env.at, O.end, retO, mask, flatD, List.mapM_cons, List.mapM_nil, eqD, eqS, callR, prep, prepV, handAll, handed, slotsOf, backR, back, prtR, IE.nl, isiR, isTyN, excAt, isTy, Tb.tok, Cn.toD, cnPut, cnPutT, R.calm, R.sft, isObj, fldR, fieldD, md0, md1, md2, hl, e1, e2, e3, e4, e5, e6, e7, i1, i2, i3, i4, ln4, ln5]
def dLB : ISs := (.cons (.app 7 (.call 17 (.cons (.var 0) (.cons (.var 1) (.cons (.var 6) (.cons (.ix (.var 5) (.var 8)) .nil)))))) .nil)
def dE (ns : List Int) (s : Cn) (ls lb : List (List Nat)) (s6 : EN.Slot) (es : List D) (s8 : EN.Slot) : EN.Env := [.d (.scr ns), .own s, .d (.int 7), .d (.int 12), .own (.lst (sD ls)), .own (.lst (sD lb)), s6, .own (.lst es), s8]
def nOk (nd : List (List Nat)) (s6 : EN.Slot) : Prop := s6 = .own (.lst (sD nd)) ∨ s6 = .d (.lst (sD nd))
theorem d_step (k : Nat) (ns : List Int) (ls lb nd : List (List Nat)) (n1 : 1 ≤ nd.length) (n2 : nd.length ≤ 26) (s6 : EN.Slot) (h6 : nOk nd s6) {s : Cn} (h : Ok s) (es : List D) (hl : es.length < 100) (j : Nat) (hj : j < lb.length) : ∃ (s' : Cn) (e : E), Ok s' ∧ e.lab = lb[j] ∧ e.tail ∈ nd ∧ e.head ∈ nd ∧ 0 ≤ e.r ∧
    exs tb (runF tb fds (k + 3)) 4 dLB (dE ns s ls lb s6 es (.d (.int (j : Int)))) = .nx (dE ns s' ls lb (.d (.lst (sD nd))) (es ++ [e.d]) (.d (.int (j : Int)))) := by
  obtain ⟨s', t, hd, p, r, o, ht, hh, hr, e⟩ := run_edge k ns h nd n1 n2 (.str (S lb[j]))
  have hj2 : j < (sD lb).length := by rw [sD_len]; exact hj
  have ia : L2.atI (sD lb) (j : Int) = some (.str (S lb[j])) := by rw [atI_lt hj2]; simp [sD]
  refine ⟨s', ⟨lb[j], t, hd, p, r⟩, o, rfl, ht, hh, hr, ?_⟩
  have l1 : es.length < line := by unfold line; omega
  unfold E.d dLB dE
  dsimp only
  generalize (j : Int) = y at *
  generalize S lb[j] = L at *
  rcases h6 with rfl | rfl
  · generalize sD nd = dn at *
    generalize sD lb = dl at *
    generalize sD ls = dz at *
    simp [exs, ex.eq_1, ex.eq_2, ex.eq_3, ex.eq_4, ex.eq_5, ex.eq_6, ex.eq_7, ex.eq_8, ex.eq_9, ex.eq_10, ex.eq_11, ex.eq_14, ex.eq_16, ex.eq_17, ex.eq_18, ex.eq_19, ev.eq_1, ev.eq_2, ev.eq_3, ev.eq_4, ev.eq_5, ev.eq_6, ev.eq_7, ev.eq_8, ev.eq_9, ev.eq_10, ev.eq_11, ev.eq_12, ev.eq_13, ev.eq_14, ev.eq_15, ev.eq_16, ev.eq_17, ev.eq_18, ev.eq_19, ev.eq_20, ev.eq_21, ev.eq_22, ev.eq_23, ev.eq_25, ev.eq_26, ev.eq_27, ev.eq_28, ev.eq_29, ev.eq_31, ev.eq_32, ev.eq_33, ev.eq_34, evA, evs, evI, O.then, R.to, R.bind, EN.store, EN.storeAll, kp, kpF, seen, vw, opB, opC, opF, opI, opS, truD, R.val, R.dat, R.bool, isOwn, isLst, isSet, isOb, Env.at, O.end, retO, mask, flatD, List.mapM_cons, List.mapM_nil, eqD, eqS, callR, prep, prepV, handAll, handed, slotsOf, backR, back, prtR, IE.nl, isiR, isTyN, excAt, isTy, Tb.tok, Cn.toD, cnPut, cnPutT, R.calm, R.sft, isObj, fldR, fieldD, md18, ia, e, l1]
  · generalize sD nd = dn at *
    generalize sD lb = dl at *
    generalize sD ls = dz at *
    simp [exs, ex.eq_1, ex.eq_2, ex.eq_3, ex.eq_4, ex.eq_5, ex.eq_6, ex.eq_7, ex.eq_8, ex.eq_9, ex.eq_10, ex.eq_11, ex.eq_14, ex.eq_16, ex.eq_17, ex.eq_18, ex.eq_19, ev.eq_1, ev.eq_2, ev.eq_3, ev.eq_4, ev.eq_5, ev.eq_6, ev.eq_7, ev.eq_8, ev.eq_9, ev.eq_10, ev.eq_11, ev.eq_12, ev.eq_13, ev.eq_14, ev.eq_15, ev.eq_16, ev.eq_17, ev.eq_18, ev.eq_19, ev.eq_20, ev.eq_21, ev.eq_22, ev.eq_23, ev.eq_25, ev.eq_26, ev.eq_27, ev.eq_28, ev.eq_29, ev.eq_31, ev.eq_32, ev.eq_33, ev.eq_34, evA, evs, evI, O.then, R.to, R.bind, EN.store, EN.storeAll, kp, kpF, seen, vw, opB, opC, opF, opI, opS, truD, R.val, R.dat, R.bool, isOwn, isLst, isSet, isOb, Env.at, O.end, retO, mask, flatD, List.mapM_cons, List.mapM_nil, eqD, eqS, callR, prep, prepV, handAll, handed, slotsOf, backR, back, prtR, IE.nl, isiR, isTyN, excAt, isTy, Tb.tok, Cn.toD, cnPut, cnPutT, R.calm, R.sft, isObj, fldR, fieldD, md18, ia, e, l1]
theorem d_loop (k : Nat) (ns : List Int) (ls lb nd : List (List Nat)) (n1 : 1 ≤ nd.length) (n2 : nd.length ≤ 26) : ∀ (js : List Nat) (es : List D) (s6 s8 : EN.Slot) (s : Cn), (∀ j ∈ js, j < lb.length) → nOk nd s6 → Ok s → es.length + js.length ≤ 100 →
    ∃ (s' : Cn) (ee : List E) (s6' s8' : EN.Slot), Ok s' ∧ nOk nd s6' ∧ ee.map E.lab = js.map (fun j => lb.getD j []) ∧ (∀ e ∈ ee, e.tail ∈ nd ∧ e.head ∈ nd ∧ 0 ≤ e.r) ∧
      forRun 4 8 (fun ρ => exs tb (runF tb fds (k + 3)) 4 dLB ρ) (js.map fun (j : Nat) => D.int (j : Int)) (dE ns s ls lb s6 es s8) = .nx (dE ns s' ls lb s6' (es ++ ee.map E.d) s8')
  | [], es, s6, s8, s, hj, h6, h, hl => ⟨s, [], s6, s8, h, h6, rfl, (fun _ z => nomatch z), by simp [forRun]⟩
  | j :: js, es, s6, s8, s, hj, h6, h, hl => by
    have hl : es.length + (js.length + 1) ≤ 100 := hl
    obtain ⟨s1, e, o1, q1, q2, q3, q4, x1⟩ := d_step k ns ls lb nd n1 n2 s6 h6 h es (by omega) j (hj j List.mem_cons_self)
    obtain ⟨s', ee, s6', s8', o2, h6', w1, w2, x2⟩ := d_loop k ns ls lb nd n1 n2 js (es ++ [e.d]) (.d (.lst (sD nd))) (.d (.int (j : Int))) s1 (fun i hi => hj i (List.mem_cons_of_mem _ hi)) (.inr rfl) o1 (by simp; omega)
    refine ⟨s', e :: ee, s6', s8', o2, h6', ?_, fun f hf => ?_, ?_⟩
    · rw [List.map_cons, List.map_cons, w1, q1]
      have : lb.getD j [] = lb[j]'(hj j List.mem_cons_self) := by simp [List.getD, List.getElem?_eq_getElem (hj j List.mem_cons_self)]
      rw [this]
    · rcases List.mem_cons.mp hf with rfl | hf
      · exact ⟨q2, q3, q4⟩
      · exact w2 f hf
    · have st : EN.store 4 8 (dE ns s ls lb s6 es s8) (.d (.int (j : Int))) = .ok () (dE ns s ls lb s6 es (.d (.int (j : Int)))) := rfl
      rw [List.map_cons, fr_nx st x1, x2, List.append_assoc]
      rfl
end K05
namespace K05
open PySem EN
/-- a drawn graph -/
structure Gr (nd : List (List Nat)) (ee : List E) : Prop where
  n1 : nd.Nodup
  n2 : ∀ l ∈ nd, nam l
  n3 : nd.length ≤ 8
  e1 : (ee.map E.lab).Nodup
  e2 : ∀ e ∈ ee, nam e.lab ∧ e.tail ∈ nd ∧ e.head ∈ nd ∧ 0 ≤ e.r
  e3 : ee.length ≤ 14
theorem md17' : tb.md 16 0 = 0 ∧ tb.md 16 1 = 2 ∧ tb.md 16 2 = 0 := ⟨rfl, rfl, rfl⟩
def d1 : IS := .asg 4 (.call 16 (.cons (.var 0) (.cons (.var 1) (.cons (.var 2) .nil))))
def d2 : IS := .asg 5 (.call 16 (.cons (.var 0) (.cons (.var 1) (.cons (.var 3) .nil))))
def d3 : IS := .asg 6 (.slc (.var 4) (.lit .non) (.call 15 (.cons (.var 0) (.cons (.var 1) (.cons (.bin .add (.var 2) (.lit (.int 1))) .nil)))))
def d4c : IE := .cmp .eq (.call 15 (.cons (.var 0) (.cons (.var 1) (.cons (.lit (.int 2)) .nil)))) (.lit (.int 1))
def d4a : ISs := .cons (.asg 6 (.revL (.bi .list (.cons (.var 6) .nil)))) .nil
def d5 : IS := .asg 7 (.lst .nil)
def d6c : IE := .cmp .gt (.bi .len (.cons (.var 6) .nil)) (.lit (.int 0))
def d6i : IT := .rng (.call 15 (.cons (.var 0) (.cons (.var 1) (.cons (.bin .add (.var 3) (.lit (.int 1))) .nil))))
def d7 : IE := .tup (.cons (.bi .tuple (.cons (.var 6) .nil)) (.cons (.bi .tuple (.cons (.var 7) .nil)) .nil))
theorem b_drawn : b__law_drawn = .cons d1 (.cons d2 (.cons d3 (.cons (.ifS d4c d4a .nil) (.cons d5 (.cons (.ifS d6c (.cons (.forS 8 d6i dLB) .nil) .nil) (.cons (.ret d7) .nil)))))) := rfl
section
variable (fn : Fn) (ns : List Int) (s s' : Cn) (ls lb nd : List (List Nat))
theorem d_h1 (e : fn 16 [.d (.scr ns), .own s, .d (.int 7)] = .ok (.fr (.lst (sD ls))) [.un, .own s', .un]) : ex tb fn 4 d1 [.d (.scr ns), .own s, .d (.int 7), .d (.int 12), .un, .un, .un, .un, .un] = .nx [.d (.scr ns), .own s', .d (.int 7), .d (.int 12), .own (.lst (sD ls)), .un, .un, .un, .un] := by
  generalize sD ls = dl at *
  unfold d1
  simp [exs, ex.eq_1, ex.eq_2, ex.eq_3, ex.eq_4, ex.eq_5, ex.eq_6, ex.eq_7, ex.eq_8, ex.eq_9, ex.eq_10, ex.eq_11, ex.eq_14, ex.eq_16, ex.eq_17, ex.eq_18, ex.eq_19, ev.eq_1, ev.eq_2, ev.eq_3, ev.eq_4, ev.eq_5, ev.eq_6, ev.eq_7, ev.eq_8, ev.eq_9, ev.eq_10, ev.eq_11, ev.eq_12, ev.eq_13, ev.eq_14, ev.eq_15, ev.eq_16, ev.eq_17, ev.eq_18, ev.eq_19, ev.eq_20, ev.eq_21, ev.eq_22, ev.eq_23, ev.eq_25, ev.eq_26, ev.eq_27, ev.eq_28, ev.eq_29, ev.eq_31, ev.eq_32, ev.eq_33, ev.eq_34, evA, evs, evI, O.then, R.to, R.bind, EN.store, EN.storeAll, kp, kpF, seen, vw, opB, opC, opF, opI, opS, truD, R.val, R.dat, R.bool, isOwn, isLst, isSet, isOb, Env.at, O.end, retO, mask, flatD, List.mapM_cons, List.mapM_nil, eqD, eqS, callR, prep, prepV, handAll, handed, slotsOf, backR, back, prtR, IE.nl, isiR, isTyN, excAt, isTy, Tb.tok, Cn.toD, cnPut, cnPutT, R.calm, R.sft, isObj, fldR, fieldD, md17', e]
theorem d_h2 (e : fn 16 [.d (.scr ns), .own s, .d (.int 12)] = .ok (.fr (.lst (sD lb))) [.un, .own s', .un]) : ex tb fn 4 d2 [.d (.scr ns), .own s, .d (.int 7), .d (.int 12), .own (.lst (sD ls)), .un, .un, .un, .un] = .nx [.d (.scr ns), .own s', .d (.int 7), .d (.int 12), .own (.lst (sD ls)), .own (.lst (sD lb)), .un, .un, .un] := by
  generalize sD ls = dl at *
  generalize sD lb = dz at *
  unfold d2
  simp [exs, ex.eq_1, ex.eq_2, ex.eq_3, ex.eq_4, ex.eq_5, ex.eq_6, ex.eq_7, ex.eq_8, ex.eq_9, ex.eq_10, ex.eq_11, ex.eq_14, ex.eq_16, ex.eq_17, ex.eq_18, ex.eq_19, ev.eq_1, ev.eq_2, ev.eq_3, ev.eq_4, ev.eq_5, ev.eq_6, ev.eq_7, ev.eq_8, ev.eq_9, ev.eq_10, ev.eq_11, ev.eq_12, ev.eq_13, ev.eq_14, ev.eq_15, ev.eq_16, ev.eq_17, ev.eq_18, ev.eq_19, ev.eq_20, ev.eq_21, ev.eq_22, ev.eq_23, ev.eq_25, ev.eq_26, ev.eq_27, ev.eq_28, ev.eq_29, ev.eq_31, ev.eq_32, ev.eq_33, ev.eq_34, evA, evs, evI, O.then, R.to, R.bind, EN.store, EN.storeAll, kp, kpF, seen, vw, opB, opC, opF, opI, opS, truD, R.val, R.dat, R.bool, isOwn, isLst, isSet, isOb, Env.at, O.end, retO, mask, flatD, List.mapM_cons, List.mapM_nil, eqD, eqS, callR, prep, prepV, handAll, handed, slotsOf, backR, back, prtR, IE.nl, isiR, isTyN, excAt, isTy, Tb.tok, Cn.toD, cnPut, cnPutT, R.calm, R.sft, isObj, fldR, fieldD, md17', e]
theorem d_h3 (x : Int) (e : fn 15 [.d (.scr ns), .own s, .d (.int 8)] = .ok (.d (.int x)) [.un, .own s', .un]) (hc : cut (sD ls) none (some x) = sD nd) : ex tb fn 4 d3 [.d (.scr ns), .own s, .d (.int 7), .d (.int 12), .own (.lst (sD ls)), .own (.lst (sD lb)), .un, .un, .un] = .nx [.d (.scr ns), .own s', .d (.int 7), .d (.int 12), .own (.lst (sD ls)), .own (.lst (sD lb)), .own (.lst (sD nd)), .un, .un] := by
  generalize sD ls = dl at *
  generalize sD lb = dz at *
  generalize sD nd = dn at *
  unfold d3
  simp [exs, ex.eq_1, ex.eq_2, ex.eq_3, ex.eq_4, ex.eq_5, ex.eq_6, ex.eq_7, ex.eq_8, ex.eq_9, ex.eq_10, ex.eq_11, ex.eq_14, ex.eq_16, ex.eq_17, ex.eq_18, ex.eq_19, ev.eq_1, ev.eq_2, ev.eq_3, ev.eq_4, ev.eq_5, ev.eq_6, ev.eq_7, ev.eq_8, ev.eq_9, ev.eq_10, ev.eq_11, ev.eq_12, ev.eq_13, ev.eq_14, ev.eq_15, ev.eq_16, ev.eq_17, ev.eq_18, ev.eq_19, ev.eq_20, ev.eq_21, ev.eq_22, ev.eq_23, ev.eq_25, ev.eq_26, ev.eq_27, ev.eq_28, ev.eq_29, ev.eq_31, ev.eq_32, ev.eq_33, ev.eq_34, evA, evs, evI, O.then, R.to, R.bind, EN.store, EN.storeAll, kp, kpF, seen, vw, opB, opC, opF, opI, opS, truD, R.val, R.dat, R.bool, isOwn, isLst, isSet, isOb, Env.at, O.end, retO, mask, flatD, List.mapM_cons, List.mapM_nil, eqD, eqS, callR, prep, prepV, handAll, handed, slotsOf, backR, back, prtR, IE.nl, isiR, isTyN, excAt, isTy, Tb.tok, Cn.toD, cnPut, cnPutT, R.calm, R.sft, isObj, fldR, fieldD, md0, md1, md2, e, hc]
theorem d_h4 (t : Int) (e : fn 15 [.d (.scr ns), .own s, .d (.int 2)] = .ok (.d (.int t)) [.un, .own s', .un]) : ev tb fn 4 d4c [.d (.scr ns), .own s, .d (.int 7), .d (.int 12), .own (.lst (sD ls)), .own (.lst (sD lb)), .own (.lst (sD nd)), .un, .un] = .ok (.d (.bl (decide (t = 1)))) [.d (.scr ns), .own s', .d (.int 7), .d (.int 12), .own (.lst (sD ls)), .own (.lst (sD lb)), .own (.lst (sD nd)), .un, .un] := by
  generalize sD ls = dl at *
  generalize sD lb = dz at *
  generalize sD nd = dn at *
  unfold d4c
  simp [exs, ex.eq_1, ex.eq_2, ex.eq_3, ex.eq_4, ex.eq_5, ex.eq_6, ex.eq_7, ex.eq_8, ex.eq_9, ex.eq_10, ex.eq_11, ex.eq_14, ex.eq_16, ex.eq_17, ex.eq_18, ex.eq_19, ev.eq_1, ev.eq_2, ev.eq_3, ev.eq_4, ev.eq_5, ev.eq_6, ev.eq_7, ev.eq_8, ev.eq_9, ev.eq_10, ev.eq_11, ev.eq_12, ev.eq_13, ev.eq_14, ev.eq_15, ev.eq_16, ev.eq_17, ev.eq_18, ev.eq_19, ev.eq_20, ev.eq_21, ev.eq_22, ev.eq_23, ev.eq_25, ev.eq_26, ev.eq_27, ev.eq_28, ev.eq_29, ev.eq_31, ev.eq_32, ev.eq_33, ev.eq_34, evA, evs, evI, O.then, R.to, R.bind, EN.store, EN.storeAll, kp, kpF, seen, vw, opB, opC, opF, opI, opS, truD, R.val, R.dat, R.bool, isOwn, isLst, isSet, isOb, Env.at, O.end, retO, mask, flatD, List.mapM_cons, List.mapM_nil, eqD, eqS, callR, prep, prepV, handAll, handed, slotsOf, backR, back, prtR, IE.nl, isiR, isTyN, excAt, isTy, Tb.tok, Cn.toD, cnPut, cnPutT, R.calm, R.sft, isObj, fldR, fieldD, md0, md1, md2, e]
theorem sD_rev : (sD nd).reverse = sD nd.reverse := by simp [sD]
theorem d_h4a : exs tb fn 4 d4a [.d (.scr ns), .own s, .d (.int 7), .d (.int 12), .own (.lst (sD ls)), .own (.lst (sD lb)), .own (.lst (sD nd)), .un, .un] = .nx [.d (.scr ns), .own s, .d (.int 7), .d (.int 12), .own (.lst (sD ls)), .own (.lst (sD lb)), .own (.lst (sD nd.reverse)), .un, .un] := by
  rw [← sD_rev]
  generalize sD ls = dl at *
  generalize sD lb = dz at *
  generalize sD nd = dn at *
  unfold d4a
  simp [exs, ex.eq_1, ex.eq_2, ex.eq_3, ex.eq_4, ex.eq_5, ex.eq_6, ex.eq_7, ex.eq_8, ex.eq_9, ex.eq_10, ex.eq_11, ex.eq_14, ex.eq_16, ex.eq_17, ex.eq_18, ex.eq_19, ev.eq_1, ev.eq_2, ev.eq_3, ev.eq_4, ev.eq_5, ev.eq_6, ev.eq_7, ev.eq_8, ev.eq_9, ev.eq_10, ev.eq_11, ev.eq_12, ev.eq_13, ev.eq_14, ev.eq_15, ev.eq_16, ev.eq_17, ev.eq_18, ev.eq_19, ev.eq_20, ev.eq_21, ev.eq_22, ev.eq_23, ev.eq_25, ev.eq_26, ev.eq_27, ev.eq_28, ev.eq_29, ev.eq_31, ev.eq_32, ev.eq_33, ev.eq_34, evA, evs, evI, O.then, R.to, R.bind, EN.store, EN.storeAll, kp, kpF, seen, vw, opB, opC, opF, opI, opS, truD, R.val, R.dat, R.bool, isOwn, isLst, isSet, isOb, Env.at, O.end, retO, mask, flatD, List.mapM_cons, List.mapM_nil, eqD, eqS, callR, prep, prepV, handAll, handed, slotsOf, backR, back, prtR, IE.nl, isiR, isTyN, excAt, isTy, Tb.tok, Cn.toD, cnPut, cnPutT, R.calm, R.sft, isObj, fldR, fieldD]
theorem d_h5 : ex tb fn 4 d5 [.d (.scr ns), .own s, .d (.int 7), .d (.int 12), .own (.lst (sD ls)), .own (.lst (sD lb)), .own (.lst (sD nd)), .un, .un] = .nx (dE ns s ls lb (.own (.lst (sD nd))) [] .un) := by
  unfold dE
  generalize sD ls = dl at *
  generalize sD lb = dz at *
  generalize sD nd = dn at *
  unfold d5
  simp [exs, ex.eq_1, ex.eq_2, ex.eq_3, ex.eq_4, ex.eq_5, ex.eq_6, ex.eq_7, ex.eq_8, ex.eq_9, ex.eq_10, ex.eq_11, ex.eq_14, ex.eq_16, ex.eq_17, ex.eq_18, ex.eq_19, ev.eq_1, ev.eq_2, ev.eq_3, ev.eq_4, ev.eq_5, ev.eq_6, ev.eq_7, ev.eq_8, ev.eq_9, ev.eq_10, ev.eq_11, ev.eq_12, ev.eq_13, ev.eq_14, ev.eq_15, ev.eq_16, ev.eq_17, ev.eq_18, ev.eq_19, ev.eq_20, ev.eq_21, ev.eq_22, ev.eq_23, ev.eq_25, ev.eq_26, ev.eq_27, ev.eq_28, ev.eq_29, ev.eq_31, ev.eq_32, ev.eq_33, ev.eq_34, evA, evs, evI, O.then, R.to, R.bind, EN.store, EN.storeAll, kp, kpF, seen, vw, opB, opC, opF, opI, opS, truD, R.val, R.dat, R.bool, isOwn, isLst, isSet, isOb, Env.at, O.end, retO, mask, flatD, List.mapM_cons, List.mapM_nil, eqD, eqS, callR, prep, prepV, handAll, handed, slotsOf, backR, back, prtR, IE.nl, isiR, isTyN, excAt, isTy, Tb.tok, Cn.toD, cnPut, cnPutT, R.calm, R.sft, isObj, fldR, fieldD, ln0]
theorem d_h6 : ev tb fn 4 d6c (dE ns s ls lb (.own (.lst (sD nd))) [] .un) = .ok (.d (.bl (decide (0 < (nd.length : Int))))) (dE ns s ls lb (.own (.lst (sD nd))) [] .un) := by
  have hl : ((sD nd).length : Int) = (nd.length : Int) := by rw [sD_len]
  unfold dE
  generalize (nd.length : Int) = m at *
  generalize sD ls = dl at *
  generalize sD lb = dz at *
  generalize sD nd = dn at *
  unfold d6c
  simp [exs, ex.eq_1, ex.eq_2, ex.eq_3, ex.eq_4, ex.eq_5, ex.eq_6, ex.eq_7, ex.eq_8, ex.eq_9, ex.eq_10, ex.eq_11, ex.eq_14, ex.eq_16, ex.eq_17, ex.eq_18, ex.eq_19, ev.eq_1, ev.eq_2, ev.eq_3, ev.eq_4, ev.eq_5, ev.eq_6, ev.eq_7, ev.eq_8, ev.eq_9, ev.eq_10, ev.eq_11, ev.eq_12, ev.eq_13, ev.eq_14, ev.eq_15, ev.eq_16, ev.eq_17, ev.eq_18, ev.eq_19, ev.eq_20, ev.eq_21, ev.eq_22, ev.eq_23, ev.eq_25, ev.eq_26, ev.eq_27, ev.eq_28, ev.eq_29, ev.eq_31, ev.eq_32, ev.eq_33, ev.eq_34, evA, evs, evI, O.then, R.to, R.bind, EN.store, EN.storeAll, kp, kpF, seen, vw, opB, opC, opF, opI, opS, truD, R.val, R.dat, R.bool, isOwn, isLst, isSet, isOb, Env.at, O.end, retO, mask, flatD, List.mapM_cons, List.mapM_nil, eqD, eqS, callR, prep, prepV, handAll, handed, slotsOf, backR, back, prtR, IE.nl, isiR, isTyN, excAt, isTy, Tb.tok, Cn.toD, cnPut, cnPutT, R.calm, R.sft, isObj, fldR, fieldD, hl]
theorem d_h6i (x : Int) (e : fn 15 [.d (.scr ns), .own s, .d (.int 13)] = .ok (.d (.int x)) [.un, .own s', .un]) (hr : rngOk 0 x = true) : evI tb fn 4 d6i (dE ns s ls lb (.own (.lst (sD nd))) [] .un) = .ok (.d .non, rngD 0 x) (dE ns s' ls lb (.own (.lst (sD nd))) [] .un) := by
  unfold d6i
  refine evI_rng ?_ hr
  unfold dE
  generalize sD ls = dl at *
  generalize sD lb = dz at *
  generalize sD nd = dn at *
  simp [exs, ex.eq_1, ex.eq_2, ex.eq_3, ex.eq_4, ex.eq_5, ex.eq_6, ex.eq_7, ex.eq_8, ex.eq_9, ex.eq_10, ex.eq_11, ex.eq_14, ex.eq_16, ex.eq_17, ex.eq_18, ex.eq_19, ev.eq_1, ev.eq_2, ev.eq_3, ev.eq_4, ev.eq_5, ev.eq_6, ev.eq_7, ev.eq_8, ev.eq_9, ev.eq_10, ev.eq_11, ev.eq_12, ev.eq_13, ev.eq_14, ev.eq_15, ev.eq_16, ev.eq_17, ev.eq_18, ev.eq_19, ev.eq_20, ev.eq_21, ev.eq_22, ev.eq_23, ev.eq_25, ev.eq_26, ev.eq_27, ev.eq_28, ev.eq_29, ev.eq_31, ev.eq_32, ev.eq_33, ev.eq_34, evA, evs, evI, O.then, R.to, R.bind, EN.store, EN.storeAll, kp, kpF, seen, vw, opB, opC, opF, opI, opS, truD, R.val, R.dat, R.bool, isOwn, isLst, isSet, isOb, Env.at, O.end, retO, mask, flatD, List.mapM_cons, List.mapM_nil, eqD, eqS, callR, prep, prepV, handAll, handed, slotsOf, backR, back, prtR, IE.nl, isiR, isTyN, excAt, isTy, Tb.tok, Cn.toD, cnPut, cnPutT, R.calm, R.sft, isObj, fldR, fieldD, md0, md1, md2, e]
theorem d_h7 (s6 s8 : EN.Slot) (h6 : nOk nd s6) (es : List D) : ev tb fn 4 d7 (dE ns s ls lb s6 es s8) = .ok (.d (.tup [.tup (sD nd), .tup es])) (dE ns s ls lb s6 es s8) := by
  unfold dE
  rcases h6 with rfl | rfl
  · generalize sD ls = dl at *
    generalize sD lb = dz at *
    generalize sD nd = dn at *
    unfold d7
    simp [exs, ex.eq_1, ex.eq_2, ex.eq_3, ex.eq_4, ex.eq_5, ex.eq_6, ex.eq_7, ex.eq_8, ex.eq_9, ex.eq_10, ex.eq_11, ex.eq_14, ex.eq_16, ex.eq_17, ex.eq_18, ex.eq_19, ev.eq_1, ev.eq_2, ev.eq_3, ev.eq_4, ev.eq_5, ev.eq_6, ev.eq_7, ev.eq_8, ev.eq_9, ev.eq_10, ev.eq_11, ev.eq_12, ev.eq_13, ev.eq_14, ev.eq_15, ev.eq_16, ev.eq_17, ev.eq_18, ev.eq_19, ev.eq_20, ev.eq_21, ev.eq_22, ev.eq_23, ev.eq_25, ev.eq_26, ev.eq_27, ev.eq_28, ev.eq_29, ev.eq_31, ev.eq_32, ev.eq_33, ev.eq_34, evA, evs, evI, O.then, R.to, R.bind, EN.store, EN.storeAll, kp, kpF, seen, vw, opB, opC, opF, opI, opS, truD, R.val, R.dat, R.bool, isOwn, isLst, isSet, isOb, Env.at, O.end, retO, mask, flatD, List.mapM_cons, List.mapM_nil, eqD, eqS, callR, prep, prepV, handAll, handed, slotsOf, backR, back, prtR, IE.nl, isiR, isTyN, excAt, isTy, Tb.tok, Cn.toD, cnPut, cnPutT, R.calm, R.sft, isObj, fldR, fieldD, ln2]
  · generalize sD ls = dl at *
    generalize sD lb = dz at *
    generalize sD nd = dn at *
    unfold d7
    simp [exs, ex.eq_1, ex.eq_2, ex.eq_3, ex.eq_4, ex.eq_5, ex.eq_6, ex.eq_7, ex.eq_8, ex.eq_9, ex.eq_10, ex.eq_11, ex.eq_14, ex.eq_16, ex.eq_17, ex.eq_18, ex.eq_19, ev.eq_1, ev.eq_2, ev.eq_3, ev.eq_4, ev.eq_5, ev.eq_6, ev.eq_7, ev.eq_8, ev.eq_9, ev.eq_10, ev.eq_11, ev.eq_12, ev.eq_13, ev.eq_14, ev.eq_15, ev.eq_16, ev.eq_17, ev.eq_18, ev.eq_19, ev.eq_20, ev.eq_21, ev.eq_22, ev.eq_23, ev.eq_25, ev.eq_26, ev.eq_27, ev.eq_28, ev.eq_29, ev.eq_31, ev.eq_32, ev.eq_33, ev.eq_34, evA, evs, evI, O.then, R.to, R.bind, EN.store, EN.storeAll, kp, kpF, seen, vw, opB, opC, opF, opI, opS, truD, R.val, R.dat, R.bool, isOwn, isLst, isSet, isOb, Env.at, O.end, retO, mask, flatD, List.mapM_cons, List.mapM_nil, eqD, eqS, callR, prep, prepV, handAll, handed, slotsOf, backR, back, prtR, IE.nl, isiR, isTyN, excAt, isTy, Tb.tok, Cn.toD, cnPut, cnPutT, R.calm, R.sft, isObj, fldR, fieldD, ln2]
end
theorem cut_take (ls : List (List Nat)) (n : Nat) : cut (sD ls) none (some (n : Int)) = sD (ls.take n) := by
  unfold cut
  rw [HT.sIx_nat]
  show ((sD ls).drop 0).take (min n (sD ls).length - 0) = _
  rw [List.drop_zero, Nat.sub_zero]
  unfold sD
  rw [List.map_take, List.length_map]
  rcases Nat.lt_or_ge ls.length n with h | h
  · rw [Nat.min_eq_right (by omega), List.take_of_length_le (by rw [List.length_map]; omega), List.take_of_length_le (by rw [List.length_map]; omega)]
  · rw [Nat.min_eq_left h]
theorem rng_list (x : Int) : rngD 0 x = (List.range x.toNat).map fun (j : Nat) => D.int (j : Int) := by
  unfold rngD
  simp
theorem getD_nodup {lb : List (List Nat)} (h : lb.Nodup) {n : Nat} (hn : n ≤ lb.length) : ((List.range n).map fun j => lb.getD j []) = lb.take n := by
  apply List.ext_getElem
  · simp; omega
  · intro i h1 h2
    have hi : i < n := by simpa using h1
    simp [List.getD, List.getElem?_eq_getElem (show i < lb.length by omega)]
theorem run_drawn (k : Nat) (ns : List Int) {s : Cn} (h : Ok s) : ∃ (s' : Cn) (nd : List (List Nat)) (ee : List E), Ok s' ∧ Gr nd ee ∧
    runF tb fds (k + 4) 18 [.d (.scr ns), .own s, .d (.int 7), .d (.int 12)] = .ok (.d (.tup [.tup (sD nd), .tup (ee.map E.d)])) [.un, .own s', .un, .un] := by
  obtain ⟨s1, ls, o1, l1, l2, l3, r1⟩ := run_names k ns h 7 (by omega)
  obtain ⟨s2, lb, o2, m1, m2, m3, r2⟩ := run_names k ns o1 12 (by omega)
  obtain ⟨x, s3, x0, x1, o3, e3⟩ := draw (k + 1) ns o2 8 (by omega) (by omega)
  obtain ⟨t, s4, t0, t1, o4, e4⟩ := draw (k + 1) ns o3 2 (by omega) (by omega)
  obtain ⟨j, rfl⟩ := Int.eq_ofNat_of_zero_le x0
  -- the nodes
  have step : ∀ nd : List (List Nat), nd.Nodup → (∀ l ∈ nd, nam l) → nd.length ≤ 8 → exs tb (runF tb fds (k + 3)) 4 (.cons d5 (.cons (.ifS d6c (.cons (.forS 8 d6i dLB) .nil) .nil) (.cons (.ret d7) .nil))) [.d (.scr ns), .own s4, .d (.int 7), .d (.int 12), .own (.lst (sD ls)), .own (.lst (sD lb)), .own (.lst (sD nd)), .un, .un] =
      exs tb (runF tb fds (k + 3)) 4 b__law_drawn [.d (.scr ns), .own s, .d (.int 7), .d (.int 12), .un, .un, .un, .un, .un] → ∃ (s' : Cn) (nd : List (List Nat)) (ee : List E), Ok s' ∧ Gr nd ee ∧
      runF tb fds (k + 4) 18 [.d (.scr ns), .own s, .d (.int 7), .d (.int 12)] = .ok (.d (.tup [.tup (sD nd), .tup (ee.map E.d)])) [.un, .own s', .un, .un] := fun nd g1 g2 g3 e => by
    have fin : ∀ (s' : Cn) (es : List D) (s6 s8 : EN.Slot), nOk nd s6 → ex tb (runF tb fds (k + 3)) 4 (.ifS d6c (.cons (.forS 8 d6i dLB) .nil) .nil) (dE ns s4 ls lb (.own (.lst (sD nd))) [] .un) = .nx (dE ns s' ls lb s6 es s8) → runF tb fds (k + 4) 18 [.d (.scr ns), .own s, .d (.int 7), .d (.int 12)] = .ok (.d (.tup [.tup (sD nd), .tup es])) [.un, .own s', .un, .un] := fun s' es s6 s8 h6 q => by
      rw [exs_cons (d_h5 _ _ _ _ _ _), exs_cons q, exs_rt (ex_retD (d_h7 _ _ _ _ _ _ _ _ h6 _))] at e
      exact run_rt (np := 4) (ns := 9) (b := b__law_drawn) (ρ := dE ns s' ls lb s6 es s8) (as := [.d (.scr ns), .own s, .d (.int 7), .d (.int 12)]) rfl rfl e.symm
    have c6 := d_h6 (runF tb fds (k + 3)) ns s4 ls lb nd
    by_cases hz : nd.length = 0
    · have hz2 : decide (0 < (nd.length : Int)) = false := decide_eq_false (by omega)
      rw [hz2] at c6
      exact ⟨s4, nd, [], o4, ⟨g1, g2, g3, List.nodup_nil, (fun _ z => nomatch z), by simp⟩, fin s4 [] _ _ (.inl rfl) (ex_no c6)⟩
    · have hz2 : decide (0 < (nd.length : Int)) = true := decide_eq_true (by omega)
      rw [hz2] at c6
      obtain ⟨y, s5, y0, y1, o5, e5⟩ := draw (k + 1) ns o4 13 (by omega) (by omega)
      have i5 := d_h6i (runF tb fds (k + 3)) ns s4 s5 ls lb nd y e5 (rng_ok y0 (by omega))
      obtain ⟨s', ee, s6, s8, o6, h6, w1, w2, f⟩ := d_loop k ns ls lb nd (by omega) (by omega) (List.range y.toNat) [] (.own (.lst (sD nd))) .un s5 (fun i hi => by have := List.mem_range.mp hi; omega) (.inl rfl) o5 (by simp; omega)
      rw [← rng_list] at f
      have hl : y.toNat ≤ lb.length := by omega
      rw [getD_nodup m2 hl] at w1
      have hlen : ee.length = y.toNat := by
        have := congrArg List.length w1
        simpa [Nat.min_eq_left hl] using this
      refine ⟨s', nd, ee, o6, ⟨g1, g2, g3, ?_, fun q hq => ?_, by omega⟩, fin s' _ s6 s8 h6 (ex_ifT c6 (exs_cons (ex_for i5 f)))⟩
      · rw [w1]; exact (List.take_sublist _ _).nodup m2
      · refine ⟨?_, w2 q hq⟩
        have : q.lab ∈ lb.take y.toNat := by rw [← w1]; exact List.mem_map.mpr ⟨q, hq, rfl⟩
        exact m3 _ (List.mem_of_mem_take this)
  have nd0 : (ls.take j).Nodup := (List.take_sublist _ _).nodup l2
  have na0 : ∀ l ∈ ls.take j, nam l := fun l hl => l3 l (List.mem_of_mem_take hl)
  have ln0 : (ls.take j).length ≤ 8 := by rw [List.length_take]; omega
  have c4 := d_h4 (runF tb fds (k + 3)) ns s3 s4 ls lb (ls.take j) t e4
  have pre : ∀ r, exs tb (runF tb fds (k + 3)) 4 (.cons (.ifS d4c d4a .nil) r) [.d (.scr ns), .own s3, .d (.int 7), .d (.int 12), .own (.lst (sD ls)), .own (.lst (sD lb)), .own (.lst (sD (ls.take j))), .un, .un] = exs tb (runF tb fds (k + 3)) 4 (.cons d1 (.cons d2 (.cons d3 (.cons (.ifS d4c d4a .nil) r)))) [.d (.scr ns), .own s, .d (.int 7), .d (.int 12), .un, .un, .un, .un, .un] := fun r => by
    rw [exs_cons (d_h1 _ ns s s1 ls r1), exs_cons (d_h2 _ ns s1 s2 ls lb r2), exs_cons (d_h3 _ ns s2 s3 ls lb (ls.take j) _ e3 (cut_take ls j))]
  by_cases ht : t = 1
  · rw [decide_eq_true ht] at c4
    refine step (ls.take j).reverse (List.pairwise_reverse.mpr (nd0.imp fun h => Ne.symm h)) (fun l hl => na0 l (List.mem_reverse.mp hl)) (by rw [List.length_reverse]; exact ln0) ?_
    rw [b_drawn, ← pre, exs_cons (ex_ifT c4 (d_h4a _ ns s4 ls lb (ls.take j)))]
  · rw [decide_eq_false ht] at c4
    refine step (ls.take j) nd0 na0 ln0 ?_
    rw [b_drawn, ← pre, exs_cons (ex_no c4)]
end K05
namespace K05
open PySem EN
theorem m1 (j : Nat) : tb.md 1 j = 0 := rfl
theorem m2 (j : Nat) : tb.md 2 j = 0 := rfl
theorem m3 (j : Nat) : tb.md 3 j = 0 := rfl
theorem m4 (j : Nat) : tb.md 4 j = 0 := rfl
theorem m5 (j : Nat) : tb.md 5 j = 0 := rfl
theorem m6 (j : Nat) : tb.md 6 j = 0 := rfl
theorem m7 (j : Nat) : tb.md 7 j = 0 := rfl
theorem m8 (j : Nat) : tb.md 8 j = 0 := rfl
theorem m9 (j : Nat) : tb.md 9 j = 0 := rfl
theorem m10 (j : Nat) : tb.md 10 j = 0 := rfl
theorem m11 (j : Nat) : tb.md 11 j = 0 := rfl
theorem m12 (j : Nat) : tb.md 12 j = 0 := rfl
theorem m13 (j : Nat) : tb.md 12 j = 0 := rfl
theorem m14 (j : Nat) : tb.md 13 j = 0 := rfl
theorem m20 (j : Nat) : tb.md 19 j = 0 := rfl
theorem m21 (j : Nat) : tb.md 20 j = 0 := rfl
theorem m22 (j : Nat) : tb.md 21 j = 0 := rfl
theorem m23 (j : Nat) : tb.md 26 j = 0 := rfl
theorem m26 (j : Nat) : tb.sh.md 29 j = 0 := rfl
theorem m27 (j : Nat) : tb.md 30 j = 0 := rfl
theorem m28 (j : Nat) : tb.md 31 j = 0 := rfl
theorem gc0 : tb.gc 0 = .int 8 := rfl
theorem nk1 : tb.nk = 1 := rfl
theorem S_a : (Str.ofString "a") = S [97] := by decide
theorem S_z : (Str.ofString "z") = S [122] := by decide
theorem le_one (c d : Nat) : (!decide ([d] < [c])) = decide (c ≤ d) := by
  have : ([d] < [c]) ↔ d < c := by simp [List.cons_lt_cons_iff]
  by_cases h : d < c
  · rw [decide_eq_true (this.mpr h), decide_eq_false (by omega)]; rfl
  · rw [decide_eq_false (fun z => h (this.mp z)), decide_eq_true (by omega)]; rfl
theorem bls_true : ∀ xs : List D, bls? (xs.map fun _ => D.bl true) = some (xs.map fun _ => true)
  | [] => rfl
  | x :: xs => by rw [List.map_cons, bls?, bls_true xs]; rfl
theorem all_true {xs : List D} : opF .all [.lst (xs.map fun _ => D.bl true)] = some (.d (.bl true)) := by
  show (bls? (xs.map fun _ => D.bl true)).map _ = _
  rw [bls_true]
  simp
/-! kinds of values -/
theorem run_int (k : Nat) (i : Int) : runF tb fds (k + 1) 1 [.d (.int i)] = .ok (.d (.bl true)) [.un] := by
  refine run_rt (np := 1) (ns := 1) (b := b_is_integer) (ρ := [.d (.int i)]) (as := [.d (.int i)]) rfl rfl ?_
  show exs tb (runF tb fds k) 1 b_is_integer [.d (.int i)] = _
  unfold b_is_integer
  simp [exs, ex.eq_1, ex.eq_2, ex.eq_3, ex.eq_4, ex.eq_5, ex.eq_6, ex.eq_7, ex.eq_8, ex.eq_9, ex.eq_10, ex.eq_11, ex.eq_14, ex.eq_16, ex.eq_17, ex.eq_18, ex.eq_19, ev.eq_1, ev.eq_2, ev.eq_3, ev.eq_4, ev.eq_5, ev.eq_6, ev.eq_7, ev.eq_8, ev.eq_9, ev.eq_10, ev.eq_11, ev.eq_12, ev.eq_13, ev.eq_14, ev.eq_15, ev.eq_16, ev.eq_17, ev.eq_18, ev.eq_19, ev.eq_20, ev.eq_21, ev.eq_22, ev.eq_23, ev.eq_25, ev.eq_26, ev.eq_27, ev.eq_28, ev.eq_29, ev.eq_31, ev.eq_32, ev.eq_33, ev.eq_34, evA, evs, evI, O.then, R.to, R.bind, EN.store, EN.storeAll, kp, kpF, seen, vw, opB, opC, opF, opI, opS, truD, R.val, R.dat, R.bool, isOwn, isLst, isSet, isOb, Env.at, O.end, retO, mask, flatD, List.mapM_cons, List.mapM_nil, eqD, eqS, callR, prep, prepV, handAll, handed, slotsOf, backR, back, prtR, IE.nl, isiR, isTyN, excAt, isTy, Tb.tok, Cn.toD, cnPut, cnPutT, R.calm, R.sft, isObj, fldR, fieldD]
theorem run_num (k : Nat) (i : Int) (h : 0 ≤ i) : runF tb fds (k + 2) 2 [.d (.int i)] = .ok (.d (.bl true)) [.un] := by
  have e := run_int k i
  refine run_rt (np := 1) (ns := 1) (b := b_is_number) (ρ := [.d (.int i)]) (as := [.d (.int i)]) rfl rfl ?_
  show exs tb (runF tb fds (k + 1)) 1 b_is_number [.d (.int i)] = _
  unfold b_is_number
  simp [exs, ex.eq_1, ex.eq_2, ex.eq_3, ex.eq_4, ex.eq_5, ex.eq_6, ex.eq_7, ex.eq_8, ex.eq_9, ex.eq_10, ex.eq_11, ex.eq_14, ex.eq_16, ex.eq_17, ex.eq_18, ex.eq_19, ev.eq_1, ev.eq_2, ev.eq_3, ev.eq_4, ev.eq_5, ev.eq_6, ev.eq_7, ev.eq_8, ev.eq_9, ev.eq_10, ev.eq_11, ev.eq_12, ev.eq_13, ev.eq_14, ev.eq_15, ev.eq_16, ev.eq_17, ev.eq_18, ev.eq_19, ev.eq_20, ev.eq_21, ev.eq_22, ev.eq_23, ev.eq_25, ev.eq_26, ev.eq_27, ev.eq_28, ev.eq_29, ev.eq_31, ev.eq_32, ev.eq_33, ev.eq_34, evA, evs, evI, O.then, R.to, R.bind, EN.store, EN.storeAll, kp, kpF, seen, vw, opB, opC, opF, opI, opS, truD, R.val, R.dat, R.bool, isOwn, isLst, isSet, isOb, Env.at, O.end, retO, mask, flatD, List.mapM_cons, List.mapM_nil, eqD, eqS, callR, prep, prepV, handAll, handed, slotsOf, backR, back, prtR, IE.nl, isiR, isTyN, excAt, isTy, Tb.tok, Cn.toD, cnPut, cnPutT, R.calm, R.sft, isObj, fldR, fieldD, m1, e, h]
def nmL : IE := .lc (.ch .le .le (.lit (.str "a")) (.var 1) (.lit (.str "z"))) 1 (.txt (.var 0)) false (.lit (.bl true))
theorem nm_lc (fn : Fn) (l : List Nat) (h : nam l) : ∃ xs : List D, ev tb fn 1 nmL [.d (.str (S l)), .un] = .ok (.fr (.lst (xs.map fun _ => D.bl true))) [.d (.str (S l)), .un] := by
  obtain ⟨h1, h2, h3⟩ := h
  refine ⟨(S l).cps.toList.map fun c => .str ⟨#[c]⟩, ?_⟩
  rw [← filt_true (xs := (S l).cps.toList.map fun c => D.str ⟨#[c]⟩)]
  have hl : (S l).length ≤ line := by rw [S_len]; unfold line; omega
  refine ev_lcF (fun _ => true) (fun _ => D.bl true) (v := .non) ?_ (.inl rfl) (fun z => nomatch z) (fun _ _ _ => rfl) fun d hd _ => ?_
  · unfold evI
    rw [ev.eq_1]
    show (if (S l).length ≤ line then _ else _) = _
    rw [if_pos hl]
  · obtain ⟨c, hc, rfl⟩ := List.mem_map.mp hd
    have hc : c ∈ l := hc
    have hb := List.all_eq_true.mp h3 c hc
    simp only [Bool.and_eq_true, decide_eq_true_eq] at hb
    have e1 : opC .le (.str (S [97])) (.str ⟨#[c]⟩) = some true := by
      show some (!decide ([c] < [97])) = _
      rw [le_one, decide_eq_true hb.1]
    have e2 : opC .le (.str ⟨#[c]⟩) (.str (S [122])) = some true := by
      show some (!decide ([122] < [c])) = _
      rw [le_one, decide_eq_true hb.2]
    show (ev tb fn 1 (.ch .le .le (.lit (.str "a")) (.var 1) (.lit (.str "z"))) [.d (.str (S l)), .d (.str ⟨#[c]⟩)]).kept 1 = .ok (.bl true) [.d (.str (S l)), .d (.str ⟨#[c]⟩)]
    generalize D.str ⟨#[c]⟩ = dc at *
    rw [ev.eq_10]
    simp only [ev.eq_1, ev.eq_2, S_a, S_z, Env.at, List.getD_cons_zero, List.getD_cons_succ, flatD, if_true, R.bind, kpF, seen, vw, e1, e2, R.bool, kp]
theorem run_name (k : Nat) (l : List Nat) (h : nam l) : runF tb fds (k + 1) 3 [.d (.str (S l))] = .ok (.d (.bl true)) [.un] := by
  obtain ⟨xs, e⟩ := nm_lc (runF tb fds k) l h
  obtain ⟨h1, h2, h3⟩ := h
  have hl : l.length ≤ line := by unfold line; omega
  have c1 : (1 : Int) ≤ (l.length : Int) := by omega
  have c2 : (l.length : Int) ≤ 8 := by omega
  have hlz : (S l).length = l.length := rfl
  refine run_rt (np := 1) (ns := 2) (b := b_is_name) (ρ := [.d (.str (S l)), .un]) (as := [.d (.str (S l))]) rfl rfl ?_
  show exs tb (runF tb fds k) 1 (.cons (.ifS (.or (.not (.isi (.var 0) .str)) (.not (.ch .le .le (.lit (.int 1)) (.bi .len (.cons (.var 0) .nil)) (.gc 0)))) (.cons (.ret (.lit (.bl false))) .nil) .nil) (.cons (.ret (.bi .all (.cons nmL .nil))) .nil)) [.d (.str (S l)), .un] = _
  have q1 : ev tb (runF tb fds k) 1 (.or (.not (.isi (.var 0) .str)) (.not (.ch .le .le (.lit (.int 1)) (.bi .len (.cons (.var 0) .nil)) (.gc 0)))) [.d (.str (S l)), .un] = .ok (.d (.bl false)) [.d (.str (S l)), .un] := by
    obtain ⟨m, hm⟩ : ∃ m : Int, ((l.length : Nat) : Int) = m := ⟨_, rfl⟩
    rw [hm] at c1 c2
    simp [exs, ex.eq_1, ex.eq_2, ex.eq_3, ex.eq_4, ex.eq_5, ex.eq_6, ex.eq_7, ex.eq_8, ex.eq_9, ex.eq_10, ex.eq_11, ex.eq_14, ex.eq_16, ex.eq_17, ex.eq_18, ex.eq_19, ev.eq_1, ev.eq_2, ev.eq_3, ev.eq_4, ev.eq_5, ev.eq_6, ev.eq_7, ev.eq_8, ev.eq_9, ev.eq_10, ev.eq_11, ev.eq_12, ev.eq_13, ev.eq_14, ev.eq_15, ev.eq_16, ev.eq_17, ev.eq_18, ev.eq_19, ev.eq_20, ev.eq_21, ev.eq_22, ev.eq_23, ev.eq_25, ev.eq_26, ev.eq_27, ev.eq_28, ev.eq_29, ev.eq_31, ev.eq_32, ev.eq_33, ev.eq_34, evA, evs, evI, O.then, R.to, R.bind, EN.store, EN.storeAll, kp, kpF, seen, vw, opB, opC, opF, opI, opS, truD, R.val, R.dat, R.bool, isOwn, isLst, isSet, isOb, Env.at, O.end, retO, mask, flatD, List.mapM_cons, List.mapM_nil, eqD, eqS, callR, prep, prepV, handAll, handed, slotsOf, backR, back, prtR, IE.nl, isiR, isTyN, excAt, isTy, Tb.tok, Cn.toD, cnPut, cnPutT, R.calm, R.sft, isObj, fldR, fieldD, hlz, hl, gc0, nk1, hm, c1, c2]
  rw [exs_cons (ex_no q1)]
  refine exs_rt (ex_retD ?_)
  have a1 := all_true (xs := xs)
  generalize nmL = L at e
  rw [ev.eq_21]
  simp only [evA, e, R.bind, kpF, List.mapM_cons, List.mapM_nil, vw, Cn.toD, Option.pure_def, Option.bind_eq_bind, Option.bind_some, a1, R.val]
end K05
namespace K05
open PySem EN
theorem run_seq (k : Nat) (xs : List D) : runF tb fds (k + 1) 4 [.d (.tup xs)] = .ok (.d (.bl true)) [.un] := by
  refine run_rt (np := 1) (ns := 1) (b := b_is_sequence) (ρ := [.d (.tup xs)]) (as := [.d (.tup xs)]) rfl rfl ?_
  show exs tb (runF tb fds k) 1 b_is_sequence [.d (.tup xs)] = _
  unfold b_is_sequence
  simp [exs, ex.eq_1, ex.eq_2, ex.eq_3, ex.eq_4, ex.eq_5, ex.eq_6, ex.eq_7, ex.eq_8, ex.eq_9, ex.eq_10, ex.eq_11, ex.eq_14, ex.eq_16, ex.eq_17, ex.eq_18, ex.eq_19, ev.eq_1, ev.eq_2, ev.eq_3, ev.eq_4, ev.eq_5, ev.eq_6, ev.eq_7, ev.eq_8, ev.eq_9, ev.eq_10, ev.eq_11, ev.eq_12, ev.eq_13, ev.eq_14, ev.eq_15, ev.eq_16, ev.eq_17, ev.eq_18, ev.eq_19, ev.eq_20, ev.eq_21, ev.eq_22, ev.eq_23, ev.eq_25, ev.eq_26, ev.eq_27, ev.eq_28, ev.eq_29, ev.eq_31, ev.eq_32, ev.eq_33, ev.eq_34, evA, evs, evI, O.then, R.to, R.bind, EN.store, EN.storeAll, kp, kpF, seen, vw, opB, opC, opF, opI, opS, truD, R.val, R.dat, R.bool, isOwn, isLst, isSet, isOb, Env.at, O.end, retO, mask, flatD, List.mapM_cons, List.mapM_nil, eqD, eqS, callR, prep, prepV, handAll, handed, slotsOf, backR, back, prtR, IE.nl, isiR, isTyN, excAt, isTy, Tb.tok, Cn.toD, cnPut, cnPutT, R.calm, R.sft, isObj, fldR, fieldD]
theorem run_parts (k : Nat) (xs : List D) (n : Int) (h : (xs.length : Int) = n) : runF tb fds (k + 1) 5 [.d (.tup xs), .d (.int n)] = .ok (.d (.bl true)) [.un, .un] := by
  refine run_rt (np := 2) (ns := 2) (b := b_has_parts) (ρ := [.d (.tup xs), .d (.int n)]) (as := [.d (.tup xs), .d (.int n)]) rfl rfl ?_
  show exs tb (runF tb fds k) 2 b_has_parts [.d (.tup xs), .d (.int n)] = _
  unfold b_has_parts
  simp [exs, ex.eq_1, ex.eq_2, ex.eq_3, ex.eq_4, ex.eq_5, ex.eq_6, ex.eq_7, ex.eq_8, ex.eq_9, ex.eq_10, ex.eq_11, ex.eq_14, ex.eq_16, ex.eq_17, ex.eq_18, ex.eq_19, ev.eq_1, ev.eq_2, ev.eq_3, ev.eq_4, ev.eq_5, ev.eq_6, ev.eq_7, ev.eq_8, ev.eq_9, ev.eq_10, ev.eq_11, ev.eq_12, ev.eq_13, ev.eq_14, ev.eq_15, ev.eq_16, ev.eq_17, ev.eq_18, ev.eq_19, ev.eq_20, ev.eq_21, ev.eq_22, ev.eq_23, ev.eq_25, ev.eq_26, ev.eq_27, ev.eq_28, ev.eq_29, ev.eq_31, ev.eq_32, ev.eq_33, ev.eq_34, evA, evs, evI, O.then, R.to, R.bind, EN.store, EN.storeAll, kp, kpF, seen, vw, opB, opC, opF, opI, opS, truD, R.val, R.dat, R.bool, isOwn, isLst, isSet, isOb, Env.at, O.end, retO, mask, flatD, List.mapM_cons, List.mapM_nil, eqD, eqS, callR, prep, prepV, handAll, handed, slotsOf, backR, back, prtR, IE.nl, isiR, isTyN, excAt, isTy, Tb.tok, Cn.toD, cnPut, cnPutT, R.calm, R.sft, isObj, fldR, fieldD, h]
theorem run_isedge (k : Nat) (a b c : List Nat) (p r : Int) (ha : nam a) (hb : nam b) (hc : nam c) (hr : 0 ≤ r) : runF tb fds (k + 3) 6 [.d (.tup [.str (S a), .str (S b), .str (S c), .int p, .int r])] = .ok (.d (.bl true)) [.un] := by
  have e1 := run_parts (k + 1) [.str (S a), .str (S b), .str (S c), .int p, .int r] 5 rfl
  have e2 := run_name (k + 1) a ha
  have e3 := run_name (k + 1) b hb
  have e4 := run_name (k + 1) c hc
  have e5 := run_int (k + 1) p
  have e6 := run_num k r hr
  generalize S a = A at *
  generalize S b = B at *
  generalize S c = C at *
  refine run_rt (np := 1) (ns := 7) (b := b_is_edge) (ρ := [.d (.tup [.str A, .str B, .str C, .int p, .int r]), .d (.str A), .d (.str B), .d (.str C), .d (.int p), .d (.int r), .d (.bl true)]) (as := [.d (.tup [.str A, .str B, .str C, .int p, .int r])]) rfl rfl ?_
  show exs tb (runF tb fds (k + 2)) 1 b_is_edge [.d (.tup [.str A, .str B, .str C, .int p, .int r]), .un, .un, .un, .un, .un, .un] = _
  unfold b_is_edge
  simp [exs, ex.eq_1, ex.eq_2, ex.eq_3, ex.eq_4, ex.eq_5, ex.eq_6, ex.eq_7, ex.eq_8, ex.eq_9, ex.eq_10, ex.eq_11, ex.eq_14, ex.eq_16, ex.eq_17, ex.eq_18, ex.eq_19, ev.eq_1, ev.eq_2, ev.eq_3, ev.eq_4, ev.eq_5, ev.eq_6, ev.eq_7, ev.eq_8, ev.eq_9, ev.eq_10, ev.eq_11, ev.eq_12, ev.eq_13, ev.eq_14, ev.eq_15, ev.eq_16, ev.eq_17, ev.eq_18, ev.eq_19, ev.eq_20, ev.eq_21, ev.eq_22, ev.eq_23, ev.eq_25, ev.eq_26, ev.eq_27, ev.eq_28, ev.eq_29, ev.eq_31, ev.eq_32, ev.eq_33, ev.eq_34, evA, evs, evI, O.then, R.to, R.bind, EN.store, EN.storeAll, kp, kpF, seen, vw, opB, opC, opF, opI, opS, truD, R.val, R.dat, R.bool, isOwn, isLst, isSet, isOb, Env.at, O.end, retO, mask, flatD, List.mapM_cons, List.mapM_nil, eqD, eqS, callR, prep, prepV, handAll, handed, slotsOf, backR, back, prtR, IE.nl, isiR, isTyN, excAt, isTy, Tb.tok, Cn.toD, cnPut, cnPutT, R.calm, R.sft, isObj, fldR, fieldD, m5, m3, m1, m2, e1, e2, e3, e4, e5, e6]
/-! unlike names -/
def sK (nd : List (List Nat)) : List Key := nd.map fun l => .inr (S l)
theorem keys_sD : ∀ nd : List (List Nat), D.keys? (sD nd) = some (sK nd)
  | [] => rfl
  | l :: nd => by
    have := keys_sD nd
    show (match D.key? (.str (S l)), D.keys? (sD nd) with
      | some k, some ks => some (k :: ks)
      | _, _ => none) = _
    rw [this]; rfl
theorem sK_mem {nd : List (List Nat)} {l : List Nat} : ((.inr (S l) : Key) ∈ sK nd) ↔ l ∈ nd := by
  unfold sK
  rw [List.mem_map]
  refine ⟨fun ⟨m, hm, e⟩ => ?_, fun h => ⟨l, h, rfl⟩⟩
  have e : S m = S l := Sum.inr.inj e
  rw [(S_eq m l).mp e] at hm
  exact hm
theorem sK_nodup {nd : List (List Nat)} (h : nd.Nodup) : (sK nd).Nodup := by
  refine List.pairwise_map.mpr (h.imp fun {a b} ne z => ne ?_)
  have z : S a = S b := Sum.inr.inj z
  exact (S_eq a b).mp z
theorem foldK_nodup : ∀ (ks acc : List Key), (acc ++ ks).Nodup → ks.foldl addK acc = acc ++ ks
  | [], acc, _ => by simp
  | k :: ks, acc, h => by
    have hk : k ∉ acc := fun z => by
      have := (List.nodup_append.mp h).2.2 k z k List.mem_cons_self
      exact this rfl
    rw [List.foldl_cons]
    have e : addK acc k = acc ++ [k] := by unfold addK; rw [if_neg hk]
    rw [e, foldK_nodup ks (acc ++ [k]) (by rw [List.append_assoc]; exact h), List.append_assoc]
    rfl
theorem setK_nd {ks : List Key} (h : ks.Nodup) : setK ks = ks := by
  have := foldK_nodup ks [] h
  exact this
theorem set_sD {nd : List (List Nat)} (h : nd.Nodup) (hl : nd.length ≤ 100) : opF .set [.tup (sD nd)] = some (.fr (.st (sK nd))) := by
  show (match D.keys? (sD nd) with
    | some ks => if ks.length ≤ 4000 then some (IV.fr (.st (setK ks))) else none
    | none => none) = _
  rw [keys_sD]
  show (if (sK nd).length ≤ 4000 then some (IV.fr (.st (setK (sK nd)))) else none) = _
  rw [if_pos (by unfold sK; rw [List.length_map]; omega), setK_nd (sK_nodup h)]
def unL : IE := .lc (.call 3 (.cons (.var 1) .nil)) 1 (.e (.var 0)) false (.lit (.bl true))
theorem evI_d {T : Tb} {fn : Fn} {np : Nat} {a : IE} {ρ ρ1 : EN.Env} {d : D} {xs : List D} (h : ev T fn np a ρ = .ok (.d d) ρ1) (hw : walkD d = some xs) (hl : xs.length ≤ line) : evI T fn np (.e a) ρ = .ok (.d d, xs) ρ1 := by
  unfold evI
  rw [h]
  simp only [R.bind, kpF, seen, vw, hw, hl, if_true]
theorem ev_vd {T : Tb} {fn : Fn} {np i : Nat} {ρ : EN.Env} {d : D} (h : ρ.at i = .d d) : ev T fn np (.var i) ρ = .ok (.d d) ρ := by
  rw [ev.eq_1, h]
theorem ev_lcM {T : Tb} {fn : Fn} {np : Nat} {elt : IE} {i : Nat} {it : IT} {c : IE} {ρ : EN.Env} {v : D} {xs : List D} (g : D → D) (hi : evI T fn np it ρ = .ok (.d v, xs) ρ) (h0 : ρ.at i = .un ∨ ∃ x, ρ.at i = .d x)
    (hf : ∀ x ∈ xs, (ev T fn np elt (ρ.set i (.d x))).kept np = .ok (g x) (ρ.set i (.d x))) : ev T fn np (.lc elt i it false c) ρ = .ok (.fr (.lst (xs.map g))) ρ := by
  have := ev_lcF (hasIf := false) (c := c) (fun _ => true) g hi h0 (fun z => nomatch z) (fun _ _ _ => rfl) fun d hd _ => hf d hd
  rw [filt_true] at this
  exact this
theorem un_lc (k : Nat) (nd : List (List Nat)) (h : ∀ l ∈ nd, nam l) (hl : nd.length ≤ 100) : ev tb (runF tb fds (k + 1)) 1 unL [.d (.tup (sD nd)), .un] = .ok (.fr (.lst ((sD nd).map fun _ => D.bl true))) [.d (.tup (sD nd)), .un] := by
  have hi : evI tb (runF tb fds (k + 1)) 1 (.e (.var 0)) [.d (.tup (sD nd)), .un] = .ok (.d (.tup (sD nd)), sD nd) [.d (.tup (sD nd)), .un] := evI_d (ev_vd rfl) rfl (by rw [sD_len]; unfold line; omega)
  refine ev_lcM (i := 1) (fun _ => D.bl true) hi (.inl rfl) fun d hd => ?_
  obtain ⟨l, hl, rfl⟩ := List.mem_map.mp hd
  have e := run_name k l (h l hl)
  show (ev tb (runF tb fds (k + 1)) 1 (.call 3 (.cons (.var 1) .nil)) [.d (.tup (sD nd)), .d (.str (S l))]).kept 1 = .ok (.bl true) [.d (.tup (sD nd)), .d (.str (S l))]
  generalize S l = L at *
  generalize sD nd = dn at *
  simp [exs, ex.eq_1, ex.eq_2, ex.eq_3, ex.eq_4, ex.eq_5, ex.eq_6, ex.eq_7, ex.eq_8, ex.eq_9, ex.eq_10, ex.eq_11, ex.eq_14, ex.eq_16, ex.eq_17, ex.eq_18, ex.eq_19, ev.eq_1, ev.eq_2, ev.eq_3, ev.eq_4, ev.eq_5, ev.eq_6, ev.eq_7, ev.eq_8, ev.eq_9, ev.eq_10, ev.eq_11, ev.eq_12, ev.eq_13, ev.eq_14, ev.eq_15, ev.eq_16, ev.eq_17, ev.eq_18, ev.eq_19, ev.eq_20, ev.eq_21, ev.eq_22, ev.eq_23, ev.eq_25, ev.eq_26, ev.eq_27, ev.eq_28, ev.eq_29, ev.eq_31, ev.eq_32, ev.eq_33, ev.eq_34, evA, evs, evI, O.then, R.to, R.bind, EN.store, EN.storeAll, kp, kpF, seen, vw, opB, opC, opF, opI, opS, truD, R.val, R.dat, R.bool, isOwn, isLst, isSet, isOb, Env.at, O.end, retO, mask, flatD, List.mapM_cons, List.mapM_nil, eqD, eqS, callR, prep, prepV, handAll, handed, slotsOf, backR, back, prtR, IE.nl, isiR, isTyN, excAt, isTy, Tb.tok, Cn.toD, cnPut, cnPutT, R.calm, R.sft, isObj, fldR, fieldD, m3, e]
theorem run_unlike (k : Nat) (nd : List (List Nat)) (h : ∀ l ∈ nd, nam l) (hn : nd.Nodup) (hl : nd.length ≤ 100) : runF tb fds (k + 2) 12 [.d (.tup (sD nd))] = .ok (.d (.bl true)) [.un] := by
  have e1 := un_lc k nd h hl
  have e2 := run_seq k (sD nd)
  have e3 := set_sD hn hl
  have e4 := all_true (xs := sD nd)
  have e5 : opF .len [.st (sK nd)] = some (.d (.int ((sD nd).length : Int))) := by
    show some (IV.d (.int ((sK nd).length : Int))) = _
    unfold sK sD
    rw [List.length_map, List.length_map]
  have e6 : opF .len [.tup (sD nd)] = some (.d (.int ((sD nd).length : Int))) := rfl
  generalize ((sD nd).length : Int) = m at *
  generalize sK nd = ks at *
  refine run_rt (np := 1) (ns := 2) (b := b__are_unlike_names) (ρ := [.d (.tup (sD nd)), .un]) (as := [.d (.tup (sD nd))]) rfl rfl ?_
  show exs tb (runF tb fds (k + 1)) 1 (.cons (.ifS (.or (.not (.call 4 (.cons (.var 0) .nil))) (.not (.bi .all (.cons unL .nil)))) (.cons (.ret (.lit (.bl false))) .nil) .nil) (.cons (.ret (.cmp .eq (.bi .len (.cons (.bi .set (.cons (.var 0) .nil)) .nil)) (.bi .len (.cons (.var 0) .nil)))) .nil)) [.d (.tup (sD nd)), .un] = _
  generalize unL = L at *
  generalize ((sD nd).map fun _ => D.bl true) = bs at *
  generalize sD nd = dn at *
  have q1 : ev tb (runF tb fds (k + 1)) 1 (.or (.not (.call 4 (.cons (.var 0) .nil))) (.not (.bi .all (.cons L .nil)))) [.d (.tup dn), .un] = .ok (.d (.bl false)) [.d (.tup dn), .un] := by
    simp [ev.eq_15, ev.eq_16, ev.eq_20, ev.eq_21, evA, ev.eq_1, Env.at, R.bind, kpF, callR, prep, prepV, handAll, handed, slotsOf, m4, e2, backR, back, seen, vw, truD, e1, Cn.toD, e4, R.val]
  have q2 : ev tb (runF tb fds (k + 1)) 1 (.cmp .eq (.bi .len (.cons (.bi .set (.cons (.var 0) .nil)) .nil)) (.bi .len (.cons (.var 0) .nil))) [.d (.tup dn), .un] = .ok (.d (.bl true)) [.d (.tup dn), .un] := by
    simp [ev.eq_8, ev.eq_21, evA, ev.eq_1, Env.at, R.bind, kpF, seen, vw, e3, e5, e6, Cn.toD, R.val, opC, eqD, eqS, R.bool]
  rw [exs_cons (ex_no q1)]
  exact exs_rt (ex_retD q2)
end K05
namespace K05
open PySem EN
/-! edges checked -/
def ceC1 : IE := .or (.not (.call 6 (.cons (.var 4) .nil))) (.cmp .isin (.ix (.var 4) (.lit (.int 0))) (.var 3))
def ceC2 : IE := .or (.cmp .notin (.ix (.var 4) (.lit (.int 1))) (.var 2)) (.cmp .notin (.ix (.var 4) (.lit (.int 2))) (.var 2))
def ceR : ISs := .cons (.raise 1 (.cons (.var 4) .nil)) .nil
def ceB : ISs := .cons (.ifS ceC1 ceR .nil) (.cons (.ifS ceC2 ceR .nil) (.cons (.sadd 3 (.ix (.var 4) (.lit (.int 0)))) .nil))
theorem b_check : b__check_edges = .cons (.asg 2 (.bi .set (.cons (.var 0) .nil))) (.cons (.asg 3 (.bi .set .nil)) (.cons (.forS 4 (.e (.var 1)) ceB) .nil)) := rfl
def ceE (a b : List D) (ks ls : List Key) (s4 : EN.Slot) : EN.Env := [.d (.tup a), .d (.tup b), .own (.st ks), .own (.st ls), s4]
theorem ce_step (k : Nat) (a b : List D) (nd : List (List Nat)) (ls : List (List Nat)) (e : E) (h1 : nam e.lab) (h2 : ∀ l ∈ nd, nam l) (h3 : e.tail ∈ nd) (h4 : e.head ∈ nd) (h5 : 0 ≤ e.r) (h6 : e.lab ∉ ls) (h7 : ls.length ≤ 100) :
    exs tb (runF tb fds (k + 3)) 2 ceB (ceE a b (sK nd) (sK ls) (.d e.d)) = .nx (ceE a b (sK nd) (sK (ls ++ [e.lab])) (.d e.d)) := by
  have e1 := run_isedge k e.lab e.tail e.head e.p e.r h1 (h2 _ h3) (h2 _ h4) h5
  have c1 : decide ((.inr (S e.lab) : Key) ∈ sK ls) = false := decide_eq_false fun z => h6 (sK_mem.mp z)
  have c2 : decide ((.inr (S e.tail) : Key) ∈ sK nd) = true := decide_eq_true (sK_mem.mpr h3)
  have c3 : decide ((.inr (S e.head) : Key) ∈ sK nd) = true := decide_eq_true (sK_mem.mpr h4)
  have c4 : addK (sK ls) (.inr (S e.lab)) = sK (ls ++ [e.lab]) := by
    unfold addK
    rw [if_neg fun z => h6 (sK_mem.mp z)]
    simp [sK]
  have c5 : (sK ls).length < 4000 := by unfold sK; rw [List.length_map]; omega
  have i0 : L2.atI [D.str (S e.lab), .str (S e.tail), .str (S e.head), .int e.p, .int e.r] (0 : Int) = some (.str (S e.lab)) := rfl
  have i1 : L2.atI [D.str (S e.lab), .str (S e.tail), .str (S e.head), .int e.p, .int e.r] (1 : Int) = some (.str (S e.tail)) := rfl
  have i2 : L2.atI [D.str (S e.lab), .str (S e.tail), .str (S e.head), .int e.p, .int e.r] (2 : Int) = some (.str (S e.head)) := rfl
  have n1 : opC .isin (.str (S e.lab)) (.st (sK ls)) = some false := by
    show some (decide ((.inr (S e.lab) : Key) ∈ sK ls)) = _
    rw [c1]
  have n2 : opC .notin (.str (S e.tail)) (.st (sK nd)) = some false := by
    show some (!decide ((.inr (S e.tail) : Key) ∈ sK nd)) = _
    rw [c2]; rfl
  have n3 : opC .notin (.str (S e.head)) (.st (sK nd)) = some false := by
    show some (!decide ((.inr (S e.head) : Key) ∈ sK nd)) = _
    rw [c3]; rfl
  unfold E.d
  generalize [D.str (S e.lab), .str (S e.tail), .str (S e.head), .int e.p, .int e.r] = ds at *
  rw [← c4]
  generalize S e.lab = A at *
  generalize S e.tail = B at *
  generalize S e.head = C at *
  generalize sK nd = kn at *
  generalize sK ls = kl at *
  have q1 : ev tb (runF tb fds (k + 3)) 2 ceC1 (ceE a b kn kl (.d (.tup ds))) = .ok (.d (.bl false)) (ceE a b kn kl (.d (.tup ds))) := by
    unfold ceC1 ceE
    simp [ev.eq_15, ev.eq_16, ev.eq_18, ev.eq_8, ev.eq_2, ev.eq_20, evA, ev.eq_1, Env.at, R.bind, kpF, kp, flatD, callR, prep, prepV, handAll, handed, slotsOf, m6, e1, backR, back, seen, vw, truD, Cn.toD, opI, i0, n1, R.val, R.dat, R.bool]
  have q2 : ev tb (runF tb fds (k + 3)) 2 ceC2 (ceE a b kn kl (.d (.tup ds))) = .ok (.d (.bl false)) (ceE a b kn kl (.d (.tup ds))) := by
    unfold ceC2 ceE
    simp [ev.eq_15, ev.eq_16, ev.eq_18, ev.eq_8, ev.eq_2, evA, ev.eq_1, Env.at, R.bind, kpF, kp, flatD, seen, vw, truD, Cn.toD, opI, i1, i2, n2, n3, R.val, R.dat, R.bool]
  unfold ceB
  rw [exs_cons (ex_no q1), exs_cons (ex_no q2)]
  unfold ceE
  simp [exs, ex.eq_7, isSet, ev.eq_18, ev.eq_1, ev.eq_2, Env.at, R.bind, kpF, kp, flatD, seen, vw, R.dat, opI, i0, R.to, D.key?, c5, O.then]
theorem ce_loop (k : Nat) (a b : List D) (nd : List (List Nat)) (h2 : ∀ l ∈ nd, nam l) : ∀ (ee : List E) (ls : List (List Nat)) (s4 : EN.Slot), (∀ e ∈ ee, nam e.lab ∧ e.tail ∈ nd ∧ e.head ∈ nd ∧ 0 ≤ e.r) → (ls ++ ee.map E.lab).Nodup → ls.length + ee.length ≤ 100 →
    ∃ s4' : EN.Slot, forRun 2 4 (fun ρ => exs tb (runF tb fds (k + 3)) 2 ceB ρ) (ee.map E.d) (ceE a b (sK nd) (sK ls) s4) = .nx (ceE a b (sK nd) (sK (ls ++ ee.map E.lab)) s4')
  | [], ls, s4, _, _, _ => ⟨s4, by simp [forRun]⟩
  | e :: ee, ls, s4, h, hn, hl => by
    have hl : ls.length + (ee.length + 1) ≤ 100 := hl
    obtain ⟨g1, g2, g3, g4⟩ := h e List.mem_cons_self
    have hnot : e.lab ∉ ls := fun z => (List.nodup_append.mp hn).2.2 e.lab z e.lab (by simp) rfl
    have x1 := ce_step k a b nd ls e g1 h2 g2 g3 g4 hnot (by omega)
    have hn2 : ((ls ++ [e.lab]) ++ ee.map E.lab).Nodup := by rw [List.append_assoc]; exact hn
    obtain ⟨s4', x2⟩ := ce_loop k a b nd h2 ee (ls ++ [e.lab]) (.d e.d) (fun f hf => h f (List.mem_cons_of_mem _ hf)) hn2 (by simp; omega)
    refine ⟨s4', ?_⟩
    have st : EN.store 2 4 (ceE a b (sK nd) (sK ls) s4) (.d e.d) = .ok () (ceE a b (sK nd) (sK ls) (.d e.d)) := rfl
    rw [List.map_cons, fr_nx st x1, x2, List.append_assoc]
    rfl
theorem run_check (k : Nat) (nd : List (List Nat)) (ee : List E) (g : Gr nd ee) : runF tb fds (k + 4) 13 [.d (.tup (sD nd)), .d (.tup (ee.map E.d))] = .ok (.d .non) [.un, .un] := by
  obtain ⟨s4, f⟩ := ce_loop k (sD nd) (ee.map E.d) nd g.n2 ee [] .un g.e2 g.e1 (by have := g.e3; simp; omega)
  have e3 := set_sD g.n1 (by have := g.n3; omega)
  have hl : (ee.map E.d).length ≤ line := by have := g.e3; rw [List.length_map]; unfold line; omega
  refine run_nx (np := 2) (ns := 5) (b := b__check_edges) (ρ := ceE (sD nd) (ee.map E.d) (sK nd) (sK ([] ++ ee.map E.lab)) s4) (as := [.d (.tup (sD nd)), .d (.tup (ee.map E.d))]) rfl rfl ?_
  show exs tb (runF tb fds (k + 3)) 2 b__check_edges [.d (.tup (sD nd)), .d (.tup (ee.map E.d)), .un, .un, .un] = _
  have h1 : ex tb (runF tb fds (k + 3)) 2 (.asg 2 (.bi .set (.cons (.var 0) .nil))) [.d (.tup (sD nd)), .d (.tup (ee.map E.d)), .un, .un, .un] = .nx [.d (.tup (sD nd)), .d (.tup (ee.map E.d)), .own (.st (sK nd)), .un, .un] := by
    generalize sD nd = a at *
    generalize ee.map E.d = b at *
    simp [ex.eq_1, ev.eq_21, evA, ev.eq_1, Env.at, R.bind, kpF, seen, vw, e3, R.val, R.to, EN.store]
  have h2 : ex tb (runF tb fds (k + 3)) 2 (.asg 3 (.bi .set .nil)) [.d (.tup (sD nd)), .d (.tup (ee.map E.d)), .own (.st (sK nd)), .un, .un] = .nx (ceE (sD nd) (ee.map E.d) (sK nd) (sK []) .un) := by
    unfold ceE
    generalize sD nd = a at *
    generalize ee.map E.d = b at *
    simp [ex.eq_1, ev.eq_21, evA, Env.at, R.bind, opF, R.val, R.to, EN.store, sK]
  rw [b_check, exs_cons h1, exs_cons h2]
  have hi : evI tb (runF tb fds (k + 3)) 2 (.e (.var 1)) (ceE (sD nd) (ee.map E.d) (sK nd) (sK []) .un) = .ok (.d (.tup (ee.map E.d)), ee.map E.d) (ceE (sD nd) (ee.map E.d) (sK nd) (sK []) .un) := evI_d (ev_vd rfl) rfl hl
  rw [exs_cons (ex_for hi f), exs]
/-! a graph made -/
def gF (nd : List (List Nat)) (ee : List E) : List (Str × D) := [("nodes", .tup (sD nd)), ("edges", .tup (ee.map E.d))]
theorem run_init (k : Nat) (nd : List (List Nat)) (ee : List E) (g : Gr nd ee) : runF tb fds (k + 5) 29 [.own (.ob 0 []), .d (.tup (sD nd)), .d (.tup (ee.map E.d))] = .ok (.d .non) [.own (.ob 0 (gF nd ee)), .un, .un] := by
  have e1 := run_unlike (k + 2) nd g.n2 g.n1 (by have := g.n3; omega)
  have e2 := run_seq (k + 3) (ee.map E.d)
  have e3 := run_check k nd ee g
  refine run_nx (np := 3) (ns := 3) (b := b_Graph___init__) (ρ := [.own (.ob 0 (gF nd ee)), .d (.tup (sD nd)), .d (.tup (ee.map E.d))]) (as := [.own (.ob 0 []), .d (.tup (sD nd)), .d (.tup (ee.map E.d))]) rfl rfl ?_
  show exs tb (runF tb fds (k + 4)) 3 b_Graph___init__ [.own (.ob 0 []), .d (.tup (sD nd)), .d (.tup (ee.map E.d))] = _
  unfold gF b_Graph___init__
  have o1 : (tb.of 0)[0]? = some (Str.ofString "nodes") := rfl
  have o2 : (tb.of 0)[1]? = some (Str.ofString "edges") := rfl
  have o3 : ¬ (Str.ofString "edges") = (Str.ofString "nodes") := by decide
  generalize sD nd = a at *
  generalize ee.map E.d = b at *
  simp [exs, ex.eq_1, ex.eq_2, ex.eq_3, ex.eq_4, ex.eq_5, ex.eq_6, ex.eq_7, ex.eq_8, ex.eq_9, ex.eq_10, ex.eq_11, ex.eq_14, ex.eq_16, ex.eq_17, ex.eq_18, ex.eq_19, ev.eq_1, ev.eq_2, ev.eq_3, ev.eq_4, ev.eq_5, ev.eq_6, ev.eq_7, ev.eq_8, ev.eq_9, ev.eq_10, ev.eq_11, ev.eq_12, ev.eq_13, ev.eq_14, ev.eq_15, ev.eq_16, ev.eq_17, ev.eq_18, ev.eq_19, ev.eq_20, ev.eq_21, ev.eq_22, ev.eq_23, ev.eq_25, ev.eq_26, ev.eq_27, ev.eq_28, ev.eq_29, ev.eq_31, ev.eq_32, ev.eq_33, ev.eq_34, evA, evs, evI, O.then, R.to, R.bind, EN.store, EN.storeAll, kp, kpF, seen, vw, opB, opC, opF, opI, opS, truD, R.val, R.dat, R.bool, isOwn, isLst, isSet, isOb, Env.at, O.end, retO, mask, flatD, List.mapM_cons, List.mapM_nil, eqD, eqS, callR, prep, prepV, handAll, handed, slotsOf, backR, back, prtR, IE.nl, isiR, isTyN, excAt, isTy, Tb.tok, Cn.toD, cnPut, cnPutT, R.calm, R.sft, isObj, fldR, fieldD, m13, m4, m14, e1, e2, e3, o1, o2, o3]
end K05
namespace K05
open PySem EN
/-! _law_alike of a value with itself -/
def alB : ISs := .cons (.ifS (.not (.call 19 (.cons (.ix (.var 0) (.var 2)) (.cons (.ix (.var 1) (.var 2)) .nil)))) (.cons (.ret (.lit (.bl false))) .nil) .nil) .nil
theorem run_al (k : Nat) (d : D) {v : IV} {ρ : EN.Env} (h : exs tb (runF tb fds k) 2 b__law_alike [.d d, .d d, .un] = .rt v ρ) : runF tb fds (k + 1) 19 [.d d, .d d] = .ok v (mask [.d d, .d d] ρ) := run_rt (np := 2) (ns := 3) (b := b__law_alike) (as := [.d d, .d d]) rfl rfl h
theorem al_flat (k : Nat) (d : D) (h : flatD d = true) : runF tb fds (k + 1) 19 [.d d, .d d] = .ok (.d (.bl true)) [.un, .un] := by
  refine run_al k d (v := .d (.bl true)) (ρ := [.d d, .d d, .un]) ?_
  unfold b__law_alike
  cases d with
  | non => simp [exs, ex.eq_1, ex.eq_2, ex.eq_3, ex.eq_4, ex.eq_5, ex.eq_6, ex.eq_7, ex.eq_8, ex.eq_9, ex.eq_10, ex.eq_11, ex.eq_14, ex.eq_16, ex.eq_17, ex.eq_18, ex.eq_19, ev.eq_1, ev.eq_2, ev.eq_3, ev.eq_4, ev.eq_5, ev.eq_6, ev.eq_7, ev.eq_8, ev.eq_9, ev.eq_10, ev.eq_11, ev.eq_12, ev.eq_13, ev.eq_14, ev.eq_15, ev.eq_16, ev.eq_17, ev.eq_18, ev.eq_19, ev.eq_20, ev.eq_21, ev.eq_22, ev.eq_23, ev.eq_25, ev.eq_26, ev.eq_27, ev.eq_28, ev.eq_29, ev.eq_31, ev.eq_32, ev.eq_33, ev.eq_34, evA, evs, evI, O.then, R.to, R.bind, EN.store, EN.storeAll, kp, kpF, seen, vw, opB, opC, opF, opI, opS, truD, R.val, R.dat, R.bool, isOwn, isLst, isSet, isOb, Env.at, O.end, retO, mask, flatD, List.mapM_cons, List.mapM_nil, eqD, eqS, callR, prep, prepV, handAll, handed, slotsOf, backR, back, prtR, IE.nl, isiR, isTyN, excAt, isTy, Tb.tok, Cn.toD, cnPut, cnPutT, R.calm, R.sft, isObj, fldR, fieldD]
  | bl b => simp [exs, ex.eq_1, ex.eq_2, ex.eq_3, ex.eq_4, ex.eq_5, ex.eq_6, ex.eq_7, ex.eq_8, ex.eq_9, ex.eq_10, ex.eq_11, ex.eq_14, ex.eq_16, ex.eq_17, ex.eq_18, ex.eq_19, ev.eq_1, ev.eq_2, ev.eq_3, ev.eq_4, ev.eq_5, ev.eq_6, ev.eq_7, ev.eq_8, ev.eq_9, ev.eq_10, ev.eq_11, ev.eq_12, ev.eq_13, ev.eq_14, ev.eq_15, ev.eq_16, ev.eq_17, ev.eq_18, ev.eq_19, ev.eq_20, ev.eq_21, ev.eq_22, ev.eq_23, ev.eq_25, ev.eq_26, ev.eq_27, ev.eq_28, ev.eq_29, ev.eq_31, ev.eq_32, ev.eq_33, ev.eq_34, evA, evs, evI, O.then, R.to, R.bind, EN.store, EN.storeAll, kp, kpF, seen, vw, opB, opC, opF, opI, opS, truD, R.val, R.dat, R.bool, isOwn, isLst, isSet, isOb, Env.at, O.end, retO, mask, flatD, List.mapM_cons, List.mapM_nil, eqD, eqS, callR, prep, prepV, handAll, handed, slotsOf, backR, back, prtR, IE.nl, isiR, isTyN, excAt, isTy, Tb.tok, Cn.toD, cnPut, cnPutT, R.calm, R.sft, isObj, fldR, fieldD]
  | int i => simp [exs, ex.eq_1, ex.eq_2, ex.eq_3, ex.eq_4, ex.eq_5, ex.eq_6, ex.eq_7, ex.eq_8, ex.eq_9, ex.eq_10, ex.eq_11, ex.eq_14, ex.eq_16, ex.eq_17, ex.eq_18, ex.eq_19, ev.eq_1, ev.eq_2, ev.eq_3, ev.eq_4, ev.eq_5, ev.eq_6, ev.eq_7, ev.eq_8, ev.eq_9, ev.eq_10, ev.eq_11, ev.eq_12, ev.eq_13, ev.eq_14, ev.eq_15, ev.eq_16, ev.eq_17, ev.eq_18, ev.eq_19, ev.eq_20, ev.eq_21, ev.eq_22, ev.eq_23, ev.eq_25, ev.eq_26, ev.eq_27, ev.eq_28, ev.eq_29, ev.eq_31, ev.eq_32, ev.eq_33, ev.eq_34, evA, evs, evI, O.then, R.to, R.bind, EN.store, EN.storeAll, kp, kpF, seen, vw, opB, opC, opF, opI, opS, truD, R.val, R.dat, R.bool, isOwn, isLst, isSet, isOb, Env.at, O.end, retO, mask, flatD, List.mapM_cons, List.mapM_nil, eqD, eqS, callR, prep, prepV, handAll, handed, slotsOf, backR, back, prtR, IE.nl, isiR, isTyN, excAt, isTy, Tb.tok, Cn.toD, cnPut, cnPutT, R.calm, R.sft, isObj, fldR, fieldD]
  | str s => simp [exs, ex.eq_1, ex.eq_2, ex.eq_3, ex.eq_4, ex.eq_5, ex.eq_6, ex.eq_7, ex.eq_8, ex.eq_9, ex.eq_10, ex.eq_11, ex.eq_14, ex.eq_16, ex.eq_17, ex.eq_18, ex.eq_19, ev.eq_1, ev.eq_2, ev.eq_3, ev.eq_4, ev.eq_5, ev.eq_6, ev.eq_7, ev.eq_8, ev.eq_9, ev.eq_10, ev.eq_11, ev.eq_12, ev.eq_13, ev.eq_14, ev.eq_15, ev.eq_16, ev.eq_17, ev.eq_18, ev.eq_19, ev.eq_20, ev.eq_21, ev.eq_22, ev.eq_23, ev.eq_25, ev.eq_26, ev.eq_27, ev.eq_28, ev.eq_29, ev.eq_31, ev.eq_32, ev.eq_33, ev.eq_34, evA, evs, evI, O.then, R.to, R.bind, EN.store, EN.storeAll, kp, kpF, seen, vw, opB, opC, opF, opI, opS, truD, R.val, R.dat, R.bool, isOwn, isLst, isSet, isOb, Env.at, O.end, retO, mask, flatD, List.mapM_cons, List.mapM_nil, eqD, eqS, callR, prep, prepV, handAll, handed, slotsOf, backR, back, prtR, IE.nl, isiR, isTyN, excAt, isTy, Tb.tok, Cn.toD, cnPut, cnPutT, R.calm, R.sft, isObj, fldR, fieldD]
  | _ => cases h
def alP : ISs := .cons (.forS 2 (.rng (.bi .len (.cons (.var 1) .nil))) alB) (.cons (.ret (.lit (.bl true))) .nil)
theorem al_loop (k : Nat) (d : D) (xs : List D) (h : ∀ x ∈ xs, runF tb fds k 19 [.d x, .d x] = .ok (.d (.bl true)) [.un, .un]) (hi : ∀ j, j < xs.length → ∃ x ∈ xs, opI d (.int (j : Nat)) = some x) : ∀ (js : List Nat) (s2 : EN.Slot), (∀ j ∈ js, j < xs.length) → ∃ s2' : EN.Slot,
    forRun 2 2 (fun ρ => exs tb (runF tb fds k) 2 alB ρ) (js.map fun (j : Nat) => D.int (j : Int)) [.d d, .d d, s2] = .nx [.d d, .d d, s2']
  | [], s2, _ => ⟨s2, by simp [forRun]⟩
  | j :: js, s2, hj => by
    obtain ⟨s2', e⟩ := al_loop k d xs h hi js (.d (.int (j : Int))) fun i hi => hj i (List.mem_cons_of_mem _ hi)
    obtain ⟨x, hx, i1⟩ := hi j (hj j List.mem_cons_self)
    have e1 := h x hx
    have st : EN.store 2 2 [.d d, .d d, s2] (.d (.int (j : Int))) = .ok () [.d d, .d d, .d (.int (j : Int))] := rfl
    refine ⟨s2', ?_⟩
    have hb : exs tb (runF tb fds k) 2 alB [.d d, .d d, .d (.int (j : Int))] = .nx [.d d, .d d, .d (.int (j : Int))] := by
      unfold alB
      refine (exs_cons (ex_no ?_)).trans (by rw [exs])
      simp [ev.eq_16, ev.eq_20, ev.eq_18, ev.eq_1, evA, Env.at, R.bind, kpF, kp, seen, vw, i1, R.dat, callR, prep, prepV, handAll, handed, slotsOf, m20, e1, backR, back, truD]
    rw [List.map_cons, fr_nx st hb]
    exact e
theorem al_tail (k : Nat) (d : D) (xs : List D) (hl : xs.length ≤ 1000) (h : ∀ x ∈ xs, runF tb fds k 19 [.d x, .d x] = .ok (.d (.bl true)) [.un, .un]) (hi : ∀ j, j < xs.length → ∃ x ∈ xs, opI d (.int (j : Nat)) = some x) (hlen : opF .len [d] = some (.d (.int (xs.length : Int)))) :
    ∃ s2, exs tb (runF tb fds k) 2 alP [.d d, .d d, .un] = .rt (.d (.bl true)) [.d d, .d d, s2] := by
  obtain ⟨s2, f⟩ := al_loop k d xs h hi (List.range xs.length) .un fun j hj => List.mem_range.mp hj
  have f2 : forRun 2 2 (fun ρ => exs tb (runF tb fds k) 2 alB ρ) (rngD 0 (xs.length : Int)) [.d d, .d d, .un] = .nx [.d d, .d d, s2] := by
    rw [rng_list]; exact f
  refine ⟨s2, ?_⟩
  have q : ev tb (runF tb fds k) 2 (.bi .len (.cons (.var 1) .nil)) [.d d, .d d, .un] = .ok (.d (.int (xs.length : Int))) [.d d, .d d, .un] := by
    simp [ev.eq_21, evA, ev.eq_1, Env.at, R.bind, kpF, vw, hlen, R.val]
  unfold alP
  rw [exs_cons (ex_for (evI_rng q (rng_ok (by omega) (by omega))) f2)]
  exact exs_rt (ex_retD (by rw [ev.eq_2]; rfl))
theorem atI_mem {xs : List D} {j : Nat} (h : j < xs.length) : ∃ x ∈ xs, L2.atI xs (j : Int) = some x := ⟨xs[j], List.getElem_mem h, atI_lt h⟩
theorem al_tup (k : Nat) (xs : List D) (hl : xs.length ≤ 1000) (h : ∀ x ∈ xs, runF tb fds k 19 [.d x, .d x] = .ok (.d (.bl true)) [.un, .un]) : runF tb fds (k + 1) 19 [.d (.tup xs), .d (.tup xs)] = .ok (.d (.bl true)) [.un, .un] := by
  obtain ⟨s2, e⟩ := al_tail k (.tup xs) xs hl h (fun j hj => atI_mem hj) rfl
  refine run_al k (.tup xs) (v := .d (.bl true)) (ρ := [.d (.tup xs), .d (.tup xs), s2]) ?_
  rw [← e]
  show exs tb (runF tb fds k) 2 (.cons _ (.cons _ (.cons _ (.cons _ (.cons _ (.cons _ alP)))))) _ = _
  generalize alP = Z
  have hl : opF .len [.tup xs] = some (.d (.int (xs.length : Int))) := rfl
  generalize (xs.length : Int) = m at hl
  simp [exs, ex.eq_1, ex.eq_2, ex.eq_3, ex.eq_4, ex.eq_5, ex.eq_6, ex.eq_7, ex.eq_8, ex.eq_9, ex.eq_10, ex.eq_11, ex.eq_14, ex.eq_16, ex.eq_17, ex.eq_18, ex.eq_19, ev.eq_1, ev.eq_2, ev.eq_3, ev.eq_4, ev.eq_5, ev.eq_6, ev.eq_7, ev.eq_8, ev.eq_9, ev.eq_10, ev.eq_11, ev.eq_12, ev.eq_13, ev.eq_14, ev.eq_15, ev.eq_16, ev.eq_17, ev.eq_18, ev.eq_19, ev.eq_20, ev.eq_21, ev.eq_22, ev.eq_23, ev.eq_25, ev.eq_26, ev.eq_27, ev.eq_28, ev.eq_29, ev.eq_31, ev.eq_32, ev.eq_33, ev.eq_34, evA, evs, evI, O.then, R.to, R.bind, EN.store, EN.storeAll, kp, kpF, seen, vw, opB, opC, opI, opS, truD, R.val, R.dat, R.bool, isOwn, isLst, isSet, isOb, Env.at, O.end, retO, mask, flatD, List.mapM_cons, List.mapM_nil, eqD, eqS, callR, prep, prepV, handAll, handed, slotsOf, backR, back, prtR, IE.nl, isiR, isTyN, excAt, isTy, Tb.tok, Cn.toD, cnPut, cnPutT, R.calm, R.sft, isObj, fldR, fieldD, hl]
theorem al_lst (k : Nat) (xs : List D) (hl : xs.length ≤ 1000) (h : ∀ x ∈ xs, runF tb fds k 19 [.d x, .d x] = .ok (.d (.bl true)) [.un, .un]) : runF tb fds (k + 1) 19 [.d (.lst xs), .d (.lst xs)] = .ok (.d (.bl true)) [.un, .un] := by
  obtain ⟨s2, e⟩ := al_tail k (.lst xs) xs hl h (fun j hj => atI_mem hj) rfl
  refine run_al k (.lst xs) (v := .d (.bl true)) (ρ := [.d (.lst xs), .d (.lst xs), s2]) ?_
  rw [← e]
  show exs tb (runF tb fds k) 2 (.cons _ (.cons _ (.cons _ (.cons _ (.cons _ (.cons _ alP)))))) _ = _
  generalize alP = Z
  have hl : opF .len [.lst xs] = some (.d (.int (xs.length : Int))) := rfl
  generalize (xs.length : Int) = m at hl
  simp [exs, ex.eq_1, ex.eq_2, ex.eq_3, ex.eq_4, ex.eq_5, ex.eq_6, ex.eq_7, ex.eq_8, ex.eq_9, ex.eq_10, ex.eq_11, ex.eq_14, ex.eq_16, ex.eq_17, ex.eq_18, ex.eq_19, ev.eq_1, ev.eq_2, ev.eq_3, ev.eq_4, ev.eq_5, ev.eq_6, ev.eq_7, ev.eq_8, ev.eq_9, ev.eq_10, ev.eq_11, ev.eq_12, ev.eq_13, ev.eq_14, ev.eq_15, ev.eq_16, ev.eq_17, ev.eq_18, ev.eq_19, ev.eq_20, ev.eq_21, ev.eq_22, ev.eq_23, ev.eq_25, ev.eq_26, ev.eq_27, ev.eq_28, ev.eq_29, ev.eq_31, ev.eq_32, ev.eq_33, ev.eq_34, evA, evs, evI, O.then, R.to, R.bind, EN.store, EN.storeAll, kp, kpF, seen, vw, opB, opC, opI, opS, truD, R.val, R.dat, R.bool, isOwn, isLst, isSet, isOb, Env.at, O.end, retO, mask, flatD, List.mapM_cons, List.mapM_nil, eqD, eqS, callR, prep, prepV, handAll, handed, slotsOf, backR, back, prtR, IE.nl, isiR, isTyN, excAt, isTy, Tb.tok, Cn.toD, cnPut, cnPutT, R.calm, R.sft, isObj, fldR, fieldD, hl]
/-- flat, or a row of flat ones -/
def AL (d : D) : Prop := flatD d = true ∨ ∃ xs : List D, (d = .tup xs ∨ d = .lst xs) ∧ xs.all flatD = true ∧ xs.length ≤ 1000
theorem al_AL (k : Nat) (d : D) (h : AL d) : runF tb fds (k + 2) 19 [.d d, .d d] = .ok (.d (.bl true)) [.un, .un] := by
  rcases h with h | ⟨xs, h, f, hl⟩
  · exact al_flat (k + 1) d h
  · have all : ∀ x ∈ xs, runF tb fds (k + 1) 19 [.d x, .d x] = .ok (.d (.bl true)) [.un, .un] := fun x hx => al_flat k x (List.all_eq_true.mp f x hx)
    rcases h with rfl | rfl
    · exact al_tup (k + 1) xs hl all
    · exact al_lst (k + 1) xs hl all
theorem al_pair (k : Nat) (w : Str) (d : D) (h : AL d) : runF tb fds (k + 3) 19 [.d (.tup [.str w, d]), .d (.tup [.str w, d])] = .ok (.d (.bl true)) [.un, .un] := by
  refine al_tup (k + 2) [.str w, d] (by simp) fun x hx => ?_
  rcases List.mem_cons.mp hx with rfl | hx
  · exact al_flat (k + 1) _ rfl
  · rw [List.mem_singleton.mp hx]
    exact al_AL k d h
end K05
namespace K05
open PySem EN
/-! names that are none -/
theorem nam_ok {l : List Nat} (h : nam l) : PyData.strOk (S l) = true := by
  obtain ⟨_, _, h⟩ := h
  unfold PyData.strOk
  have : l.all (fun c => decide (c < 1114112)) = true := List.all_eq_true.mpr fun c hc => by
    have := List.all_eq_true.mp h c hc
    simp only [Bool.and_eq_true, decide_eq_true_eq] at this
    exact decide_eq_true (by omega)
  simpa using this
theorem shp_of {d : D} {x : PyData} (h : d.py = some x) (s : SeqAt.shaped x = true) : d.shp = some x := by
  unfold D.shp
  rw [h]
  show (if SeqAt.shaped x = true then _ else _) = _
  rw [if_pos s]
theorem shp_str {z : Str} (h : PyData.strOk z = true) : (D.str z).shp = some (.str z) := shp_of rfl (by
  unfold SeqAt.shaped
  simp [PyData.canLay0, PyData.depth, h])
def oL : D := .lst [.str (S [97])]
def oT : D := .tup [.str (S [97])]
theorem pys_str : ∀ zs : List Str, D.pys (zs.map .str) = some (zs.map .str)
  | [] => rfl
  | z :: zs => by
    rw [List.map_cons, List.map_cons, D.pys, pys_str zs]; rfl
theorem lay_str : ∀ zs : List Str, (∀ z ∈ zs, PyData.strOk z = true) → PyData.canLayAll0 (zs.map .str) = true ∧ PyData.depthAll (zs.map .str) ≤ 1
  | [], _ => ⟨rfl, by simp [PyData.depthAll]⟩
  | z :: zs, h => by
    obtain ⟨a, b⟩ := lay_str zs fun y hy => h y (List.mem_cons_of_mem _ hy)
    have hz := h z List.mem_cons_self
    rw [List.map_cons]
    refine ⟨?_, ?_⟩
    · simp [PyData.canLayAll0, PyData.canLay0, a, hz]
    · simp [PyData.depthAll, PyData.depth]
      omega
theorem shp_zs {zs : List Str} (h : ∀ z ∈ zs, PyData.strOk z = true) : (D.lst (zs.map .str)).shp = some (.list (zs.map .str)) := by
  obtain ⟨a, b⟩ := lay_str zs h
  refine shp_of ?_ ?_
  · unfold D.py
    rw [pys_str]; rfl
  · unfold SeqAt.shaped
    simp [PyData.canLay0, PyData.depth, a]
    omega
theorem ok_a : PyData.strOk (S [97]) = true := nam_ok (l := [97]) ⟨by decide, by decide, rfl⟩
theorem shp_L : oL.shp = some (.list [.str (S [97])]) := shp_zs (zs := [S [97]]) fun z hz => by rw [List.mem_singleton.mp hz]; exact ok_a
theorem shp_T : oT.shp = some (.tuple [.str (S [97])]) := by
  refine shp_of rfl ?_
  unfold SeqAt.shaped
  simp [PyData.canLay0, PyData.canLayAll0, PyData.depth, PyData.depthAll, ok_a]
inductive Odd : D → Prop
  | i : Odd (.int 5)
  | n : Odd .non
  | t : Odd (.bl true)
  | l : Odd oL
  | u : Odd oT
theorem odd_eq {x : D} (h : Odd x) {z : Str} (hz : PyData.strOk z = true) : eqD (.str z) x = some false ∧ eqD x (.str z) = some false := by
  cases h with
  | i => exact ⟨rfl, rfl⟩
  | n => exact ⟨rfl, rfl⟩
  | t => exact ⟨rfl, rfl⟩
  | l =>
    refine ⟨?_, ?_⟩
    · show (match (D.str z).shp, oL.shp with
        | some x, some y => some (PyData.eqv x y)
        | _, _ => none) = _
      rw [shp_L, shp_str hz]; rfl
    · show (match oL.shp, (D.str z).shp with
        | some x, some y => some (PyData.eqv x y)
        | _, _ => none) = _
      rw [shp_L, shp_str hz]; rfl
  | u =>
    refine ⟨?_, ?_⟩
    · show (match (D.str z).shp, oT.shp with
        | some x, some y => some (PyData.eqv x y)
        | _, _ => none) = _
      rw [shp_T, shp_str hz]; rfl
    · show (match oT.shp, (D.str z).shp with
        | some x, some y => some (PyData.eqv x y)
        | _, _ => none) = _
      rw [shp_T, shp_str hz]; rfl
theorem any_no {f : PyData → Bool} (zs : List Str) (h : ∀ z, f (.str z) = false) : (zs.map PyData.str).any f = false := by
  rw [List.any_map]
  exact List.any_eq_false.mpr fun z _ => by rw [Function.comp, h]; exact Bool.false_ne_true
theorem any_noD {f : D → Bool} (zs : List Str) (h : ∀ z, f (.str z) = false) : (zs.map D.str).any f = false := by
  rw [List.any_map]
  exact List.any_eq_false.mpr fun z _ => by rw [Function.comp, h]; exact Bool.false_ne_true
theorem all_flat (zs : List Str) : (zs.map D.str).all flatD = true := by
  rw [List.all_map]
  exact List.all_eq_true.mpr fun z _ => rfl
theorem odd_in {x : D} (h : Odd x) (zs : List Str) (hz : ∀ z ∈ zs, PyData.strOk z = true) : inD x (zs.map .str) = some false := by
  unfold inD
  cases h with
  | i =>
    rw [all_flat]
    show some ((zs.map D.str).any fun y => eqF y (.int 5)) = _
    rw [any_noD zs fun z => rfl]
  | n =>
    rw [all_flat]
    show some ((zs.map D.str).any fun y => eqF y .non) = _
    rw [any_noD zs fun z => rfl]
  | t =>
    rw [all_flat]
    show some ((zs.map D.str).any fun y => eqF y (.bl true)) = _
    rw [any_noD zs fun z => rfl]
  | l =>
    show (match oL.shp, (D.lst (zs.map .str)).shp with
      | some a, some (.list bs) => some (bs.any fun z => PyData.eqv z a)
      | _, _ => none) = _
    rw [shp_L, shp_zs hz]
    show some ((zs.map PyData.str).any fun z => PyData.eqv z (.list [.str (S [97])])) = _
    rw [any_no zs fun z => rfl]
  | u =>
    show (match oT.shp, (D.lst (zs.map .str)).shp with
      | some a, some (.list bs) => some (bs.any fun z => PyData.eqv z a)
      | _, _ => none) = _
    rw [shp_T, shp_zs hz]
    show some ((zs.map PyData.str).any fun z => PyData.eqv z (.tuple [.str (S [97])])) = _
    rw [any_no zs fun z => rfl]
theorem odd_AL {x : D} (h : Odd x) : AL x := by
  cases h with
  | i => exact .inl rfl
  | n => exact .inl rfl
  | t => exact .inl rfl
  | l => exact .inr ⟨_, .inr rfl, rfl, by simp⟩
  | u => exact .inr ⟨_, .inl rfl, rfl, by simp⟩
/-- a name that is asked for -/
def Nm (x : D) : Prop := (∃ l, x = .str (S l)) ∨ Odd x
theorem nm_AL {x : D} (h : Nm x) : AL x := by
  rcases h with ⟨l, rfl⟩ | h
  · exact .inl rfl
  · exact odd_AL h
/-- is the text l -/
def isS (x : D) (l : List Nat) : Bool := match x with
  | .str z => decide (z = S l)
  | _ => false
theorem nm_eq {x : D} (h : Nm x) {l : List Nat} (hl : nam l) : eqD (.str (S l)) x = some (isS x l) ∧ eqD x (.str (S l)) = some (isS x l) := by
  rcases h with ⟨m, rfl⟩ | h
  · refine ⟨?_, rfl⟩
    show some (decide (S l = S m)) = some (decide (S m = S l))
    rw [decide_eq_decide.mpr eq_comm]
  · have := odd_eq h (nam_ok hl)
    have e : isS x l = false := by cases h <;> rfl
    rw [e]
    exact this
def inS (x : D) (ls : List (List Nat)) : Bool := ls.any (isS x)
theorem nm_in {x : D} (h : Nm x) {ls : List (List Nat)} (hl : ∀ l ∈ ls, nam l) : inD x (sD ls) = some (inS x ls) := by
  have es : sD ls = (ls.map S).map D.str := by unfold sD; rw [List.map_map]; rfl
  rcases h with ⟨m, rfl⟩ | h
  · unfold inD
    rw [es, all_flat]
    show some (((ls.map S).map D.str).any fun y => eqF y (.str (S m))) = _
    rw [List.map_map, List.any_map]
    unfold inS
    congr 1
    congr 1
    funext l
    show (S l == S m) = decide (S m = S l)
    by_cases e : S m = S l
    · rw [decide_eq_true e, e]; exact beq_self_eq_true _
    · rw [decide_eq_false e]; exact beq_eq_false_iff_ne.mpr (Ne.symm e)
  · rw [es, odd_in h _ fun z hz => by obtain ⟨l, h1, rfl⟩ := List.mem_map.mp hz; exact nam_ok (hl l h1)]
    have : inS x ls = false := List.any_eq_false.mpr fun l _ => by cases h <;> exact Bool.false_ne_true
    rw [this]
theorem inS_str {x : D} {ls : List (List Nat)} (h : inS x ls = true) : ∃ l ∈ ls, x = .str (S l) := by
  obtain ⟨l, hl, e⟩ := List.any_eq_true.mp h
  refine ⟨l, hl, ?_⟩
  unfold isS at e
  split at e
  · rw [of_decide_eq_true e]
  · cases e
end K05
namespace K05
open PySem EN
/-! an error is of its own class alone -/
theorem ev_ex {fn : Fn} {np c j : Nat} {fs : List D} (r : EN.Env) (hj : j < 14) : ev tb fn np (.isi (.var 0) (.exc j)) (.exc c fs :: r) = .ok (.d (.bl (tb.es c j))) (.exc c fs :: r) := by
  have ht : tb.tok (.exc j) = true := decide_eq_true hj
  rw [ev.eq_22]
  simp only [ev.eq_1, Env.at, List.getD_cons_zero, R.bind, kpF, isiR, ht, if_true, excAt, isE]
theorem ev_ve {fn : Fn} {np c : Nat} {fs : List D} (r : EN.Env) : ev tb fn np (.isi (.var 0) .ve) (.exc c fs :: r) = .ok (.d (.bl true)) (.exc c fs :: r) := by
  have ht : tb.tok .ve = true := rfl
  rw [ev.eq_22]
  simp only [ev.eq_1, Env.at, List.getD_cons_zero, R.bind, kpF, isiR, ht, if_true, excAt, isE]
def q4 (c a : Nat) : D := .tup [.bl (tb.es c a), .bl (tb.es c (a + 1)), .bl (tb.es c (a + 2)), .bl (tb.es c (a + 3))]
def i4 (a : Nat) : IE := .tup (.cons (.isi (.var 0) (.exc a)) (.cons (.isi (.var 0) (.exc (a + 1))) (.cons (.isi (.var 0) (.exc (a + 2))) (.cons (.isi (.var 0) (.exc (a + 3))) .nil))))
theorem ev_i4 {fn : Fn} {np c a : Nat} {fs : List D} (r : EN.Env) (ha : a + 3 < 14) : ev tb fn np (i4 a) (.exc c fs :: r) = .ok (.d (q4 c a)) (.exc c fs :: r) := by
  unfold i4 q4
  rw [ev.eq_3]
  simp only [evs, ev_ex r (show a < 14 by omega), ev_ex r (show a + 1 < 14 by omega), ev_ex r (show a + 2 < 14 by omega), ev_ex r ha, R.bind, kp, List.length_cons, List.length_nil, Nat.zero_add, Nat.reduceAdd, ln4, if_true]
def bl13 (c : Nat) : List D := [.bl (tb.es c 1), .bl (tb.es c 2), .bl (tb.es c 3), .bl (tb.es c 4), .bl (tb.es c 5), .bl (tb.es c 6), .bl (tb.es c 7), .bl (tb.es c 8), .bl (tb.es c 9), .bl (tb.es c 10), .bl (tb.es c 11), .bl (tb.es c 12), .bl (tb.es c 13)]
theorem b_cls : b__law_classes = .cons (.asg 1 (i4 1)) (.cons (.asg 2 (i4 5)) (.cons (.asg 3 (i4 9)) (.cons (.ret (.bin .add (.bin .add (.bin .add (.var 1) (.var 2)) (.var 3)) (.tup (.cons (.isi (.var 0) (.exc 13)) .nil)))) .nil))) := rfl
theorem opB_tt (xs ys : List D) (h : xs.length + ys.length ≤ line) : opB .add (.tup xs) (.tup ys) = some (.d (.tup (xs ++ ys))) := if_pos h
theorem ex_asgD {fn : Fn} {np i : Nat} {e : IE} {ρ ρ1 ρ2 : EN.Env} {d : D} (h : ev tb fn np e ρ = .ok (.d d) ρ1) (s : EN.store np i ρ1 (.d d) = .ok () ρ2) : ex tb fn np (.asg i e) ρ = .nx ρ2 := by
  rw [ex.eq_1, h]
  simp only [R.to, s]
theorem run_cls (k c : Nat) (fs : List D) : runF tb fds (k + 1) 20 [.exc c fs] = .ok (.d (.tup (bl13 c))) [.un] := by
  refine run_rt (np := 1) (ns := 4) (b := b__law_classes) (ρ := [.exc c fs, .d (q4 c 1), .d (q4 c 5), .d (q4 c 9)]) (as := [.exc c fs]) rfl rfl ?_
  show exs tb (runF tb fds k) 1 b__law_classes [.exc c fs, .un, .un, .un] = _
  have h1 : ex tb (runF tb fds k) 1 (.asg 1 (i4 1)) [.exc c fs, .un, .un, .un] = .nx [.exc c fs, .d (q4 c 1), .un, .un] := ex_asgD (ev_i4 _ (by omega)) rfl
  have h2 : ex tb (runF tb fds k) 1 (.asg 2 (i4 5)) [.exc c fs, .d (q4 c 1), .un, .un] = .nx [.exc c fs, .d (q4 c 1), .d (q4 c 5), .un] := ex_asgD (ev_i4 _ (by omega)) rfl
  have h3 : ex tb (runF tb fds k) 1 (.asg 3 (i4 9)) [.exc c fs, .d (q4 c 1), .d (q4 c 5), .un] = .nx [.exc c fs, .d (q4 c 1), .d (q4 c 5), .d (q4 c 9)] := ex_asgD (ev_i4 _ (by omega)) rfl
  have t13 : ev tb (runF tb fds k) 1 (.tup (.cons (.isi (.var 0) (.exc 13)) .nil)) [.exc c fs, .d (q4 c 1), .d (q4 c 5), .d (q4 c 9)] = .ok (.d (.tup [.bl (tb.es c 13)])) [.exc c fs, .d (q4 c 1), .d (q4 c 5), .d (q4 c 9)] := by
    rw [ev.eq_3]
    simp only [evs, ev_ex _ (show 13 < 14 by omega), R.bind, kp, List.length_cons, List.length_nil, Nat.zero_add, ln1, if_true]
  have o1 : opB .add (q4 c 1) (q4 c 5) = some (.d (.tup ((bl13 c).take 8))) := by
    unfold q4
    exact opB_tt _ _ (show 4 + 4 ≤ line by decide)
  have o2 : opB .add (.tup ((bl13 c).take 8)) (q4 c 9) = some (.d (.tup ((bl13 c).take 12))) := by
    unfold q4
    exact opB_tt _ _ (show 8 + 4 ≤ line by decide)
  have o3 : opB .add (.tup ((bl13 c).take 12)) (.tup [.bl (tb.es c 13)]) = some (.d (.tup (bl13 c))) := by
    exact opB_tt _ _ (show 12 + 1 ≤ line by decide)
  rw [b_cls, exs_cons h1, exs_cons h2, exs_cons h3]
  refine exs_rt (ex_retD ?_)
  generalize q4 c 1 = A at *
  generalize q4 c 5 = B at *
  generalize q4 c 9 = C at *
  generalize D.tup ((bl13 c).take 8) = P at *
  generalize D.tup ((bl13 c).take 12) = Q at *
  generalize D.tup (bl13 c) = W at *
  generalize D.tup [.bl (tb.es c 13)] = Z at *
  generalize IE.tup (.cons (.isi (.var 0) (.exc 13)) .nil) = L at *
  simp only [ev.eq_6, ev.eq_1, Env.at, List.getD_cons_zero, List.getD_cons_succ, R.bind, kpF, seen, vw, o1, o2, o3, R.val, t13]
def bI : D → D
  | .bl b => .int (if b then 1 else 0)
  | _ => .non
def loL : IE := .lc (.bi .int (.cons (.var 1) .nil)) 1 (.e (.call 20 (.cons (.var 0) .nil))) false (.lit (.bl true))
theorem lo_lc (k c : Nat) (fs : List D) : ev tb (runF tb fds (k + 1)) 1 loL [.exc c fs, .un] = .ok (.fr (.lst ((bl13 c).map bI))) [.exc c fs, .un] := by
  have e1 := run_cls k c fs
  have hi : evI tb (runF tb fds (k + 1)) 1 (.e (.call 20 (.cons (.var 0) .nil))) [.exc c fs, .un] = .ok (.d (.tup (bl13 c)), bl13 c) [.exc c fs, .un] := by
    refine evI_d ?_ rfl (by show 13 ≤ line; decide)
    simp [ev.eq_20, evA, ev.eq_1, Env.at, R.bind, kpF, callR, prep, prepV, handAll, handed, slotsOf, m21, e1, backR, back]
  refine ev_lcM (i := 1) bI hi (.inl rfl) fun d hd => ?_
  obtain ⟨b, rfl⟩ : ∃ b, d = .bl b := by
    unfold bl13 at hd
    simp only [List.mem_cons, List.not_mem_nil, or_false] at hd
    rcases hd with h | h | h | h | h | h | h | h | h | h | h | h | h <;> exact ⟨_, h⟩
  show (ev tb (runF tb fds (k + 1)) 1 (.bi .int (.cons (.var 1) .nil)) [.exc c fs, .d (.bl b)]).kept 1 = .ok (bI (.bl b)) [.exc c fs, .d (.bl b)]
  simp [ev.eq_21, evA, ev.eq_1, Env.at, R.bind, kpF, kp, vw, opF, R.val, bI]
theorem run_lone (k c : Nat) (fs : List D) (h1 : opF .sum [.lst ((bl13 c).map bI)] = some (.d (.int 1))) (h2 : tb.es c 0 = true) : runF tb fds (k + 2) 21 [.exc c fs] = .ok (.d (.bl true)) [.un] := by
  refine run_rt (np := 1) (ns := 2) (b := b__law_lone) (ρ := [.exc c fs, .un]) (as := [.exc c fs]) rfl rfl ?_
  show exs tb (runF tb fds (k + 1)) 1 (.cons (.ret (.and (.cmp .eq (.bi .sum (.cons loL .nil)) (.lit (.int 1))) (.and (.isi (.var 0) (.exc 0)) (.isi (.var 0) .ve)))) .nil) [.exc c fs, .un] = _
  have e1 := lo_lc k c fs
  have e2 := ev_ex (fn := runF tb fds (k + 1)) (np := 1) (c := c) (fs := fs) (j := 0) [.un] (by omega)
  have e3 := ev_ve (fn := runF tb fds (k + 1)) (np := 1) (c := c) (fs := fs) [.un]
  rw [h2] at e2
  refine exs_rt (ex_retD ?_)
  generalize loL = L at *
  generalize (bl13 c).map bI = bs at *
  simp only [ev.eq_14, ev.eq_8, ev.eq_21, evA, e1, R.bind, kpF, List.mapM_cons, List.mapM_nil, vw, Cn.toD, Option.pure_def, Option.bind_eq_bind, Option.bind_some, h1, R.val, ev.eq_2, flatD, if_true, seen, opC, eqD, eqS, decide_true, R.bool, truD, e2, e3]
theorem lone3 (k : Nat) (fs : List D) : runF tb fds (k + 2) 21 [.exc 3 fs] = .ok (.d (.bl true)) [.un] := run_lone k 3 fs rfl rfl
theorem lone4 (k : Nat) (fs : List D) : runF tb fds (k + 2) 21 [.exc 4 fs] = .ok (.d (.bl true)) [.un] := run_lone k 4 fs rfl rfl
end K05
namespace K05
open PySem EN
theorem opC_in (x : D) (xs : List D) : opC .isin x (.tup xs) = inD x xs := by cases x <;> rfl
theorem opC_notin (x : D) (xs : List D) : opC .notin x (.tup xs) = (inD x xs).map (!·) := by cases x <;> rfl
theorem lcRun_G {α : Type} {i : Nat} {c : EN.Env → R Bool} {f : EN.Env → R D} (z : α → D) (p : α → Bool) (g : α → D) (ρ : EN.Env) : ∀ (es : List α), (∀ e ∈ es, c (ρ.set i (.d (z e))) = .ok (p e) (ρ.set i (.d (z e)))) → (∀ e ∈ es, p e = true → f (ρ.set i (.d (z e))) = .ok (g e) (ρ.set i (.d (z e)))) → ∀ s, ∃ s', lcRun i c f (es.map z) (ρ.set i s) = .ok ((es.filter p).map g) (ρ.set i s')
  | [], _, _, s => ⟨s, rfl⟩
  | x :: xs, hc, hf, s => by
    obtain ⟨s', e⟩ := lcRun_G z p g ρ xs (fun y hy => hc y (List.mem_cons_of_mem _ hy)) (fun y hy => hf y (List.mem_cons_of_mem _ hy)) (.d (z x))
    refine ⟨s', ?_⟩
    rw [List.map_cons]
    unfold lcRun
    rw [List.set_set, hc x List.mem_cons_self]
    simp only [R.sft, R.bind]
    cases hp : p x with
    | true =>
      simp only [R.sft, R.bind]
      rw [hf x List.mem_cons_self hp]
      simp only [R.sft, R.bind, nobR_d]
      rw [e, List.filter_cons, if_pos hp]
      rfl
    | false =>
      simp only [nobR_d]
      rw [e, List.filter_cons, if_neg (by rw [hp]; exact Bool.false_ne_true)]
theorem ev_lcG {α : Type} {T : Tb} {fn : Fn} {np : Nat} {elt : IE} {i : Nat} {it : IT} {hasIf : Bool} {c : IE} {ρ : EN.Env} {v : D} {es : List α} (z : α → D) (p : α → Bool) (g : α → D) (hi : evI T fn np it ρ = .ok (.d v, es.map z) ρ) (h0 : ρ.at i = .un ∨ ∃ x, ρ.at i = .d x)
    (hc : hasIf = true → ∀ x ∈ es, (ev T fn np c (ρ.set i (.d (z x)))).tru = .ok (p x) (ρ.set i (.d (z x)))) (hn : hasIf = false → ∀ x ∈ es, p x = true) (hf : ∀ x ∈ es, p x = true → (ev T fn np elt (ρ.set i (.d (z x)))).kept np = .ok (g x) (ρ.set i (.d (z x)))) :
    ev T fn np (.lc elt i it hasIf c) ρ = .ok (.fr (.lst ((es.filter p).map g))) ρ := by
  have key : ∃ s', lcRun i (fun ρ => match hasIf with
      | true => (ev T fn np c ρ).tru
      | false => .ok true ρ) (fun ρ => (ev T fn np elt ρ).kept np) (es.map z) (ρ.set i .un) = .ok ((es.filter p).map g) (ρ.set i s') := by
    refine lcRun_G z p g ρ es (fun x hx => ?_) hf .un
    cases hasIf with
    | true => exact hc rfl x hx
    | false => rw [hn rfl x hx]
  obtain ⟨s', e⟩ := key
  rw [ev.eq_24, hi]
  simp only [R.bind, lend]
  refine Eq.trans (congrArg (fun r => R.lcEnd r i (IV.d v) ρ) e) ?_
  show R.lcEnd _ i (IV.d v) ρ = _
  unfold R.lcEnd
  rcases h0 with h0 | ⟨x, h0⟩
  · rw [h0]
    simp only [R.lcX, R.bind, unlend]
    have := set_at ρ i
    rw [h0] at this
    rw [List.set_set, this]
  · rw [h0]
    simp only [R.lcX, R.bind, unlend]
    have := set_at ρ i
    rw [h0] at this
    rw [List.set_set, this]
def G (nd : List (List Nat)) (ee : List E) : D := .obj 0 [.tup (sD nd), .tup (ee.map E.d)]
theorem G_nodes (nd : List (List Nat)) (ee : List E) : fieldD tb (G nd ee) (Str.ofString "nodes") = some (.tup (sD nd)) := rfl
theorem G_edges (nd : List (List Nat)) (ee : List E) : fieldD tb (G nd ee) (Str.ofString "edges") = some (.tup (ee.map E.d)) := rfl
theorem G_obj (nd : List (List Nat)) (ee : List E) : isObj 0 (G nd ee) = true := rfl
section
variable {nd : List (List Nat)} {ee : List E} (g : Gr nd ee)
include g
theorem run_cont {x : D} (hx : Nm x) (k : Nat) : runF tb fds (k + 1) 30 [.d (G nd ee), .d x] = .ok (.d (.bl (inS x nd))) [.un, .un] := by
  have e1 := nm_in hx g.n2
  have e2 := G_nodes nd ee
  have e3 := opC_in x (sD nd)
  rw [e1] at e3
  generalize G nd ee = gg at *
  generalize sD nd = a at *
  generalize inS x nd = b at *
  refine run_rt (np := 2) (ns := 2) (b := b_Graph___contains__) (ρ := [.d gg, .d x]) (as := [.d gg, .d x]) rfl rfl ?_
  show exs tb (runF tb fds k) 2 b_Graph___contains__ [.d gg, .d x] = _
  unfold b_Graph___contains__
  simp [exs, ex.eq_9, ev.eq_8, ev.eq_23, ev.eq_1, Env.at, R.bind, kpF, seen, vw, fldR, excAt, e2, e3, R.dat, R.bool, R.to, retO, O.then]
def rqB : ISs := .cons (.ifS (.inO true 0 30 (.var 2) (.var 0)) (.cons (.raise 3 (.cons (.var 2) .nil)) .nil) .nil) .nil
theorem rq_c {x : D} (hx : Nm x) (k : Nat) (t : D) : ev tb (runF tb fds (k + 1)) 2 (.inO true 0 30 (.var 2) (.var 0)) [.d (G nd ee), .d t, .d x] = .ok (.d (.bl (!inS x nd))) [.d (G nd ee), .d t, .d x] := by
  have e1 := run_cont g hx k
  have e2 := G_obj nd ee
  generalize G nd ee = gg at *
  generalize inS x nd = b at *
  simp [ev.eq_32, ev.eq_1, Env.at, R.bind, kp, e2, callR, prep, prepV, handAll, handed, slotsOf, m27, e1, backR, back, R.calm]
theorem ne14 : tb.ne = 14 := rfl
theorem run_req_ok {x y : D} (hx : Nm x) (hy : Nm y) (k : Nat) (h : inS x nd = true) (h2 : inS y nd = true) : runF tb fds (k + 2) 7 [.d (G nd ee), .d (.tup [x, y])] = .ok (.d .non) [.un, .un] := by
  have e1 := rq_c g hx k (.tup [x, y])
  have e2 := rq_c g hy k (.tup [x, y])
  rw [h] at e1
  rw [h2] at e2
  refine run_nx (np := 2) (ns := 3) (b := b_require_nodes) (ρ := [.d (G nd ee), .d (.tup [x, y]), .d y]) (as := [.d (G nd ee), .d (.tup [x, y])]) rfl rfl ?_
  show exs tb (runF tb fds (k + 1)) 2 (.cons (.forS 2 (.e (.var 1)) rqB) .nil) [.d (G nd ee), .d (.tup [x, y]), .un] = _
  have hi : evI tb (runF tb fds (k + 1)) 2 (.e (.var 1)) [.d (G nd ee), .d (.tup [x, y]), .un] = .ok (.d (.tup [x, y]), [x, y]) [.d (G nd ee), .d (.tup [x, y]), .un] := evI_d (ev_vd rfl) rfl ln2
  have hb : exs tb (runF tb fds (k + 1)) 2 rqB [.d (G nd ee), .d (.tup [x, y]), .d x] = .nx [.d (G nd ee), .d (.tup [x, y]), .d x] := (exs_cons (ex_no e1)).trans (by rw [exs])
  have hb2 : exs tb (runF tb fds (k + 1)) 2 rqB [.d (G nd ee), .d (.tup [x, y]), .d y] = .nx [.d (G nd ee), .d (.tup [x, y]), .d y] := (exs_cons (ex_no e2)).trans (by rw [exs])
  refine (exs_cons (ex_for hi ((fr_nx (ρ1 := [.d (G nd ee), .d (.tup [x, y]), .d x]) rfl hb).trans ((fr_nx (ρ1 := [.d (G nd ee), .d (.tup [x, y]), .d y]) rfl hb2).trans rfl)))).trans (by rw [exs])
theorem rq_no {x : D} (hx : Nm x) (k : Nat) (t : D) (h : inS x nd = false) : exs tb (runF tb fds (k + 1)) 2 rqB [.d (G nd ee), .d t, .d x] = .er 3 [x] [.d (G nd ee), .d t, .d x] := by
  have e1 := rq_c g hx k t
  rw [h] at e1
  have hr : ex tb (runF tb fds (k + 1)) 2 (.raise 3 (.cons (.var 2) .nil)) [.d (G nd ee), .d t, .d x] = .er 3 [x] [.d (G nd ee), .d t, .d x] := by
    rw [ex.eq_19]
    simp [evs, ev.eq_1, Env.at, R.bind, kp, R.to, tb]
  exact exs_er (ex_ifT e1 (exs_er hr))
theorem run_req_no {x : D} (hx : Nm x) (y : D) (k : Nat) (h : inS x nd = false) : runF tb fds (k + 2) 7 [.d (G nd ee), .d (.tup [x, y])] = .er 3 [x] [.un, .un] := by
  refine run_er (np := 2) (ns := 3) (b := b_require_nodes) (ρ := [.d (G nd ee), .d (.tup [x, y]), .d x]) (as := [.d (G nd ee), .d (.tup [x, y])]) rfl rfl ?_
  show exs tb (runF tb fds (k + 1)) 2 (.cons (.forS 2 (.e (.var 1)) rqB) .nil) [.d (G nd ee), .d (.tup [x, y]), .un] = _
  have hi : evI tb (runF tb fds (k + 1)) 2 (.e (.var 1)) [.d (G nd ee), .d (.tup [x, y]), .un] = .ok (.d (.tup [x, y]), [x, y]) [.d (G nd ee), .d (.tup [x, y]), .un] := evI_d (ev_vd rfl) rfl ln2
  exact exs_er (ex_for hi (fr_er (ρ1 := [.d (G nd ee), .d (.tup [x, y]), .d x]) rfl (rq_no g hx k _ h)))
theorem run_req_no2 {x y : D} (hx : Nm x) (hy : Nm y) (k : Nat) (h : inS x nd = true) (h2 : inS y nd = false) : runF tb fds (k + 2) 7 [.d (G nd ee), .d (.tup [x, y])] = .er 3 [y] [.un, .un] := by
  have e1 := rq_c g hx k (.tup [x, y])
  rw [h] at e1
  refine run_er (np := 2) (ns := 3) (b := b_require_nodes) (ρ := [.d (G nd ee), .d (.tup [x, y]), .d y]) (as := [.d (G nd ee), .d (.tup [x, y])]) rfl rfl ?_
  show exs tb (runF tb fds (k + 1)) 2 (.cons (.forS 2 (.e (.var 1)) rqB) .nil) [.d (G nd ee), .d (.tup [x, y]), .un] = _
  have hi : evI tb (runF tb fds (k + 1)) 2 (.e (.var 1)) [.d (G nd ee), .d (.tup [x, y]), .un] = .ok (.d (.tup [x, y]), [x, y]) [.d (G nd ee), .d (.tup [x, y]), .un] := evI_d (ev_vd rfl) rfl ln2
  have hb : exs tb (runF tb fds (k + 1)) 2 rqB [.d (G nd ee), .d (.tup [x, y]), .d x] = .nx [.d (G nd ee), .d (.tup [x, y]), .d x] := (exs_cons (ex_no e1)).trans (by rw [exs])
  exact exs_er (ex_for hi ((fr_nx (ρ1 := [.d (G nd ee), .d (.tup [x, y]), .d x]) rfl hb).trans (fr_er (ρ1 := [.d (G nd ee), .d (.tup [x, y]), .d y]) rfl (rq_no g hy k _ h2))))
end
/-! parts of edges -/
theorem i_lab (e : E) : opI e.d (.int 0) = some (.str (S e.lab)) := rfl
theorem i_tail (e : E) : opI e.d (.int 1) = some (.str (S e.tail)) := rfl
theorem i_head (e : E) : opI e.d (.int 2) = some (.str (S e.head)) := rfl
theorem i_p (e : E) : opI e.d (.int 3) = some (.int e.p) := rfl
theorem tru_bl (b : Bool) (ρ : EN.Env) : (R.ok (IV.d (.bl b)) ρ).tru = .ok b ρ := rfl
theorem ev_ixL {fn : Fn} {np i : Nat} {m : Int} {ρ : EN.Env} {d v : D} (h : ρ.at i = .d d) (hv : opI d (.int m) = some v) : ev tb fn np (.ix (.var i) (.lit (.int m))) ρ = .ok (.d v) ρ := by
  rw [ev.eq_18, ev_vd h]
  simp only [R.bind, kpF, kp, ev.eq_2, flatD, if_true, seen, vw, hv, R.dat]
theorem ev_eqL {fn : Fn} {np i j : Nat} {m : Int} {ρ : EN.Env} {d v x : D} {b : Bool} (h : ρ.at i = .d d) (hv : opI d (.int m) = some v) (hj : ρ.at j = .d x) (he : eqD v x = some b) : ev tb fn np (.cmp .eq (.ix (.var i) (.lit (.int m))) (.var j)) ρ = .ok (.d (.bl b)) ρ := by
  rw [ev.eq_8, ev_ixL h hv]
  simp only [R.bind, kpF]
  rw [ev_vd hj]
  simp only [R.bind, seen, vw, opC, he, R.bool]
theorem eqD_str (a b : List Nat) : eqD (.str (S a)) (.str (S b)) = some (decide (a = b)) := by
  show some (decide (S a = S b)) = _
  rw [decide_eq_decide.mpr (S_eq a b)]
def edI : IT := .e (.fld (.var 0) "edges")
theorem ed_it {nd : List (List Nat)} {ee : List E} (fn : Fn) (np : Nat) (hl : ee.length ≤ 14) (r : EN.Env) : evI tb fn np edI (.d (G nd ee) :: r) = .ok (.d (.tup (ee.map E.d)), ee.map E.d) (.d (G nd ee) :: r) := by
  refine evI_d ?_ rfl (by rw [List.length_map]; unfold line; omega)
  rw [ev.eq_23, ev_vd (d := G nd ee) rfl]
  simp only [R.bind, kpF, fldR, excAt, seen, vw, G_edges, R.dat]
/-- a loop that keeps P -/
theorem loop_inv {np i : Nat} {b : EN.Env → O} (P : EN.Env → Prop) : ∀ {xs : List D}, (∀ ρ, P ρ → ∀ x ∈ xs, ∃ ρ1 ρ2, EN.store np i ρ (.d x) = .ok () ρ1 ∧ b ρ1 = .nx ρ2 ∧ P ρ2) → ∀ {ρ : EN.Env}, P ρ → ∃ ρ', forRun np i b xs ρ = .nx ρ' ∧ P ρ'
  | [], _, ρ, h => ⟨ρ, rfl, h⟩
  | x :: xs, hs, ρ, h => by
    obtain ⟨ρ1, ρ2, h1, h2, h3⟩ := hs ρ h x List.mem_cons_self
    obtain ⟨ρ', h4, h5⟩ := loop_inv P (xs := xs) (fun ρ hρ y hy => hs ρ hρ y (List.mem_cons_of_mem _ hy)) h3
    exact ⟨ρ', by rw [fr_nx h1 h2]; exact h4, h5⟩
theorem at_mem {xs : List D} {x : Int} (h0 : 0 ≤ x) (h1 : x < xs.length) : ∃ d ∈ xs, L2.atI xs x = some d := by
  obtain ⟨j, rfl⟩ := Int.eq_ofNat_of_zero_le h0
  exact atI_mem (by omega)
theorem S_of (x : Str) : x = S x.cps.toList := by cases x with | mk a => cases a; rfl
theorem nm_str (z : Str) : Nm (.str z) := .inl ⟨z.cps.toList, by rw [← S_of]⟩
theorem sD_nm {ls : List (List Nat)} {d : D} (h : d ∈ sD ls) : Nm d := by
  obtain ⟨l, _, rfl⟩ := List.mem_map.mp h
  exact .inl ⟨l, rfl⟩
theorem ex_asgF {fn : Fn} {np i : Nat} {e : IE} {ρ ρ1 ρ2 : EN.Env} {c : Cn} (h : ev tb fn np e ρ = .ok (.fr c) ρ1) (s : EN.store np i ρ1 (.fr c) = .ok () ρ2) : ex tb fn np (.asg i e) ρ = .nx ρ2 := by
  rw [ex.eq_1, h]
  simp only [R.to, s]
theorem exs_one {fn : Fn} {np : Nat} {s : IS} {ρ ρ1 : EN.Env} (h : ex tb fn np s ρ = .nx ρ1) : exs tb fn np (.cons s .nil) ρ = .nx ρ1 := (exs_cons h).trans (by rw [exs])
theorem exs_two {fn : Fn} {np : Nat} {s t : IS} {ρ ρ1 ρ2 : EN.Env} (h : ex tb fn np s ρ = .nx ρ1) (h2 : ex tb fn np t ρ1 = .nx ρ2) : exs tb fn np (.cons s (.cons t .nil)) ρ = .nx ρ2 := (exs_cons h).trans (exs_one h2)
end K05
namespace K05
open PySem EN
/-! where an edge leads -/
def hit (way : Bool) (w h : List Nat) (e : E) : Option (List Nat) := if e.lab = w then (if e.tail = h then some e.head else if way = false ∧ e.head = h then some e.tail else none) else none
def endL (way : Bool) (ee : List E) (w h : List Nat) : List Nat := (ee.findSome? (hit way w h)).getD []
theorem hit_no {way : Bool} {w h : List Nat} {e : E} (n : e.lab ≠ w) : hit way w h e = none := if_neg n
def eC1 : IE := .cmp .eq (.ix (.var 4) (.lit (.int 0))) (.var 1)
def eC2 : IE := .cmp .eq (.ix (.var 4) (.lit (.int 1))) (.var 2)
def eC3 : IE := .and (.not (.var 3)) (.cmp .eq (.ix (.var 4) (.lit (.int 2))) (.var 2))
def eB : ISs := .cons (.ifS eC1 (.cons (.ifS eC2 (.cons (.ret (.ix (.var 4) (.lit (.int 2)))) .nil) .nil) (.cons (.ifS eC3 (.cons (.ret (.ix (.var 4) (.lit (.int 1)))) .nil) .nil) .nil)) .nil) .nil
theorem b_end : b__law_end = .cons (.forS 4 (.e (.var 0)) eB) (.cons (.ret (.lit (.str ""))) .nil) := rfl
def eE (dd : D) (w h : List Nat) (way : Bool) (s4 : EN.Slot) : EN.Env := [.d dd, .d (.str (S w)), .d (.str (S h)), .d (.bl way), s4]
theorem e_step (fn : Fn) (dd : D) (w h : List Nat) (way : Bool) (e : E) : exs tb fn 4 eB (eE dd w h way (.d e.d)) = match hit way w h e with
    | some v => .rt (.d (.str (S v))) (eE dd w h way (.d e.d))
    | none => .nx (eE dd w h way (.d e.d)) := by
  have c1 : ev tb fn 4 eC1 (eE dd w h way (.d e.d)) = .ok (.d (.bl (decide (e.lab = w)))) (eE dd w h way (.d e.d)) := ev_eqL rfl (i_lab e) rfl (eqD_str _ _)
  have c2 : ev tb fn 4 eC2 (eE dd w h way (.d e.d)) = .ok (.d (.bl (decide (e.tail = h)))) (eE dd w h way (.d e.d)) := ev_eqL rfl (i_tail e) rfl (eqD_str _ _)
  have c2' : ev tb fn 4 (.cmp .eq (.ix (.var 4) (.lit (.int 2))) (.var 2)) (eE dd w h way (.d e.d)) = .ok (.d (.bl (decide (e.head = h)))) (eE dd w h way (.d e.d)) := ev_eqL rfl (i_head e) rfl (eqD_str _ _)
  have c3 : ev tb fn 4 eC3 (eE dd w h way (.d e.d)) = .ok (.d (.bl (decide (way = false ∧ e.head = h)))) (eE dd w h way (.d e.d)) := by
    unfold eC3
    rw [ev.eq_14, ev.eq_16, ev_vd (d := .bl way) rfl]
    cases way with
    | true =>
      simp only [R.bind, seen, vw, truD, kpF, Bool.not_true]
      rw [decide_eq_false fun z => nomatch z.1]
    | false =>
      simp only [R.bind, seen, vw, truD, kpF, Bool.not_false]
      rw [c2']
      simp
  have r2 : ev tb fn 4 (.ix (.var 4) (.lit (.int 2))) (eE dd w h way (.d e.d)) = .ok (.d (.str (S e.head))) (eE dd w h way (.d e.d)) := ev_ixL rfl (i_head e)
  have r1 : ev tb fn 4 (.ix (.var 4) (.lit (.int 1))) (eE dd w h way (.d e.d)) = .ok (.d (.str (S e.tail))) (eE dd w h way (.d e.d)) := ev_ixL rfl (i_tail e)
  unfold eB hit
  generalize eE dd w h way (.d e.d) = ρ at *
  by_cases h1 : e.lab = w
  · rw [decide_eq_true h1] at c1
    rw [if_pos h1]
    by_cases h2 : e.tail = h
    · rw [decide_eq_true h2] at c2
      rw [if_pos h2]
      exact exs_rt (ex_ifT c1 (exs_rt (ex_ifT c2 (exs_rt (ex_retD r2)))))
    · rw [decide_eq_false h2] at c2
      rw [if_neg h2]
      by_cases h3 : way = false ∧ e.head = h
      · rw [decide_eq_true h3] at c3
        rw [if_pos h3]
        exact exs_rt (ex_ifT c1 ((exs_cons (ex_no c2)).trans (exs_rt (ex_ifT c3 (exs_rt (ex_retD r1))))))
      · rw [decide_eq_false h3] at c3
        rw [if_neg h3]
        exact exs_one (ex_ifT c1 (exs_two (ex_no c2) (ex_no c3)))
  · rw [decide_eq_false h1] at c1
    rw [if_neg h1]
    exact exs_one (ex_no c1)
theorem e_loop (fn : Fn) (dd : D) (w h : List Nat) (way : Bool) : ∀ (es : List E) (s4 : EN.Slot), ∃ s4', forRun 4 4 (fun ρ => exs tb fn 4 eB ρ) (es.map E.d) (eE dd w h way s4) = match es.findSome? (hit way w h) with
    | some v => .rt (.d (.str (S v))) (eE dd w h way s4')
    | none => .nx (eE dd w h way s4')
  | [], s4 => ⟨s4, rfl⟩
  | e :: es, s4 => by
    have st : EN.store 4 4 (eE dd w h way s4) (.d e.d) = .ok () (eE dd w h way (.d e.d)) := rfl
    have q := e_step fn dd w h way e
    rw [List.map_cons, List.findSome?_cons]
    cases hh : hit way w h e with
    | some v =>
      rw [hh] at q
      exact ⟨.d e.d, fr_rt st q⟩
    | none =>
      rw [hh] at q
      obtain ⟨s4', x⟩ := e_loop fn dd w h way es (.d e.d)
      exact ⟨s4', (fr_nx st q).trans x⟩
theorem run_end (k : Nat) (ee : List E) (hl : ee.length ≤ 14) (w h : List Nat) (way : Bool) : runF tb fds (k + 1) 22 [.d (.tup (ee.map E.d)), .d (.str (S w)), .d (.str (S h)), .d (.bl way)] = .ok (.d (.str (S (endL way ee w h)))) [.un, .un, .un, .un] := by
  obtain ⟨s4, f⟩ := e_loop (runF tb fds k) (.tup (ee.map E.d)) w h way ee .un
  have hi : evI tb (runF tb fds k) 4 (.e (.var 0)) (eE (.tup (ee.map E.d)) w h way .un) = .ok (.d (.tup (ee.map E.d)), ee.map E.d) (eE (.tup (ee.map E.d)) w h way .un) := evI_d (ev_vd rfl) rfl (by rw [List.length_map]; unfold line; omega)
  refine run_rt (np := 4) (ns := 5) (b := b__law_end) (ρ := eE (.tup (ee.map E.d)) w h way s4) (as := [.d (.tup (ee.map E.d)), .d (.str (S w)), .d (.str (S h)), .d (.bl way)]) rfl rfl ?_
  show exs tb (runF tb fds k) 4 b__law_end (eE (.tup (ee.map E.d)) w h way .un) = _
  rw [b_end]
  unfold endL
  cases hh : ee.findSome? (hit way w h) with
  | some v =>
    rw [hh] at f
    exact exs_rt (ex_for hi f)
  | none =>
    rw [hh] at f
    refine (exs_cons (ex_for hi f)).trans (exs_rt (ex_retD ?_))
    rw [ev.eq_2]
    rfl
/-! the law's own walk -/
def strL : D → Option (List Nat)
  | .str z => some z.cps.toList
  | _ => none
theorem strL_S (l : List Nat) : strL (.str (S l)) = some l := rfl
def lwk (way : Bool) (ee : List E) : List D → List Nat → Option (List Nat)
  | [], h => some h
  | x :: xs, h => match strL x with
    | none => none
    | some w => if h = [] then none else lwk way ee xs (endL way ee w h)
def leadsV (way : Bool) (ee : List E) (s t : List Nat) : D → Bool
  | .tup xs => match lwk way ee xs s with
    | some h => decide (h = t)
    | none => false
  | _ => false
/-- what may be handed in as labels -/
def Vl (v : D) : Prop := isTyN v = true ∧ ∀ xs, v = .tup xs → xs.length ≤ 100 ∧ ∀ x ∈ xs, isTyN x = true
def ldC : IE := .or (.not (.isi (.var 6) .str)) (.cmp .eq (.var 5) (.lit (.str "")))
def ldA : IS := .asg 5 (.call 22 (.cons (.var 0) (.cons (.var 6) (.cons (.var 5) (.cons (.var 4) .nil)))))
def ldR : ISs := .cons (.ret (.lit (.bl false))) .nil
def ldB : ISs := .cons (.ifS ldC ldR .nil) (.cons ldA .nil)
theorem b_lleads : b__law_leads = .cons (.ifS (.not (.isi (.var 3) .tuple)) ldR .nil) (.cons (.asg 5 (.var 1)) (.cons (.forS 6 (.e (.var 3)) ldB) (.cons (.ret (.cmp .eq (.var 5) (.var 2))) .nil))) := rfl
def ldE (dd : D) (s t : List Nat) (v : D) (way : Bool) (s5 s6 : EN.Slot) : EN.Env := [.d dd, .d (.str (S s)), .d (.str (S t)), .d v, .d (.bl way), s5, s6]
theorem isTy_str (x : D) : isTy x .str = (strL x).isSome := by cases x <;> rfl
theorem strL_some {x : D} {w : List Nat} (h : strL x = some w) : x = .str (S w) := by
  cases x with
  | str z => cases h; rw [← S_of]
  | _ => cases h
theorem m23' (j : Nat) : tb.md 22 j = 0 := rfl
theorem m24' (j : Nat) : tb.md 23 j = 0 := rfl
theorem tk_str : tb.tok .str = true := rfl
theorem tk_tup : tb.tok .tuple = true := rfl
theorem S_nil : Str.ofString "" = S [] := rfl
theorem ev_isi {fn : Fn} {np i : Nat} {t : TY} {ρ : EN.Env} {x : D} (h : ρ.at i = .d x) (ht : tb.tok t = true) (hx : isTyN x = true) : ev tb fn np (.isi (.var i) t) ρ = .ok (.d (.bl (isTy x t))) ρ := by
  rw [ev.eq_22, ev_vd h]
  simp only [R.bind, kpF, isiR, ht, if_true, excAt, seen, vw, hx]
theorem ev_not {fn : Fn} {np : Nat} {a : IE} {ρ ρ1 : EN.Env} {b : Bool} (h : ev tb fn np a ρ = .ok (.d (.bl b)) ρ1) : ev tb fn np (.not a) ρ = .ok (.d (.bl (!b))) ρ1 := by
  rw [ev.eq_16, h]
  simp only [R.bind, seen, vw, truD]
theorem ev_orT {fn : Fn} {np : Nat} {a b : IE} {ρ ρ1 : EN.Env} (h : ev tb fn np a ρ = .ok (.d (.bl true)) ρ1) : ev tb fn np (.or a b) ρ = .ok (.d (.bl true)) ρ1 := by
  rw [ev.eq_15, h]
  simp only [R.bind, kpF, seen, vw, truD]
theorem ev_orF {fn : Fn} {np : Nat} {a b : IE} {ρ ρ1 : EN.Env} {r : R IV} (h : ev tb fn np a ρ = .ok (.d (.bl false)) ρ1) (h2 : ev tb fn np b ρ1 = r) : ev tb fn np (.or a b) ρ = r := by
  rw [ev.eq_15, h]
  simp only [R.bind, kpF, seen, vw, truD]
  exact h2
theorem ev_lb (fn : Fn) (np : Nat) (b : Bool) (ρ : EN.Env) : ev tb fn np (.lit (.bl b)) ρ = .ok (.d (.bl b)) ρ := by
  rw [ev.eq_2]; rfl
section
variable (k : Nat) (ee : List E) (hl : ee.length ≤ 14) (s t : List Nat) (v : D) (way : Bool)
include hl
theorem ld_step (x : D) (hx : isTyN x = true) (h : List Nat) : exs tb (runF tb fds (k + 1)) 5 ldB (ldE (.tup (ee.map E.d)) s t v way (.d (.str (S h))) (.d x)) = match strL x with
    | none => .rt (.d (.bl false)) (ldE (.tup (ee.map E.d)) s t v way (.d (.str (S h))) (.d x))
    | some w => if h = [] then .rt (.d (.bl false)) (ldE (.tup (ee.map E.d)) s t v way (.d (.str (S h))) (.d x)) else .nx (ldE (.tup (ee.map E.d)) s t v way (.d (.str (S (endL way ee w h)))) (.d x)) := by
  have c0 := ev_not (ev_isi (fn := runF tb fds (k + 1)) (np := 5) (i := 6) (ρ := ldE (.tup (ee.map E.d)) s t v way (.d (.str (S h))) (.d x)) (x := x) rfl tk_str hx)
  have c1 : ev tb (runF tb fds (k + 1)) 5 (.cmp .eq (.var 5) (.lit (.str ""))) (ldE (.tup (ee.map E.d)) s t v way (.d (.str (S h))) (.d x)) = .ok (.d (.bl (decide (h = [])))) (ldE (.tup (ee.map E.d)) s t v way (.d (.str (S h))) (.d x)) := by
    rw [ev.eq_8, ev_vd (d := .str (S h)) rfl]
    simp only [R.bind, kpF, ev.eq_2, flatD, if_true, seen, vw, opC]
    rw [S_nil, eqD_str]; rfl
  have rr : exs tb (runF tb fds (k + 1)) 5 ldR (ldE (.tup (ee.map E.d)) s t v way (.d (.str (S h))) (.d x)) = .rt (.d (.bl false)) (ldE (.tup (ee.map E.d)) s t v way (.d (.str (S h))) (.d x)) := exs_rt (ex_retD (ev_lb _ _ _ _))
  cases hs : strL x with
  | none =>
    rw [isTy_str, hs] at c0
    exact exs_rt (ex_ifT (ev_orT c0) rr)
  | some w =>
    rw [isTy_str, hs] at c0
    have c2 := ev_orF c0 c1
    dsimp only
    by_cases hh : h = []
    · rw [decide_eq_true hh] at c2
      rw [if_pos hh]
      exact exs_rt (ex_ifT c2 rr)
    · rw [decide_eq_false hh] at c2
      rw [if_neg hh]
      refine (exs_cons (ex_no c2)).trans (exs_one ?_)
      have e := run_end k ee hl w h way
      rw [strL_some hs] at *
      unfold ldA
      refine ex_asgD (d := .str (S (endL way ee w h))) (ρ1 := ldE (.tup (ee.map E.d)) s t v way (.d (.str (S h))) (.d (.str (S w)))) ?_ rfl
      unfold ldE
      generalize S w = W at *
      generalize S h = HH at *
      generalize S (endL way ee w h) = RR at *
      generalize D.tup (ee.map E.d) = dd at *
      simp [ev.eq_20, evA, ev.eq_1, Env.at, R.bind, kpF, callR, prep, prepV, handAll, handed, slotsOf, m23', e, backR, back]
theorem ld_loop : ∀ (xs : List D) (h : List Nat) (s6 : EN.Slot), (∀ x ∈ xs, isTyN x = true) → ∃ s5' s6', forRun 5 6 (fun ρ => exs tb (runF tb fds (k + 1)) 5 ldB ρ) xs (ldE (.tup (ee.map E.d)) s t v way (.d (.str (S h))) s6) = match lwk way ee xs h with
    | none => .rt (.d (.bl false)) (ldE (.tup (ee.map E.d)) s t v way s5' s6')
    | some h' => .nx (ldE (.tup (ee.map E.d)) s t v way (.d (.str (S h'))) s6')
  | [], h, s6, _ => ⟨.un, s6, rfl⟩
  | x :: xs, h, s6, hx => by
    have st : EN.store 5 6 (ldE (.tup (ee.map E.d)) s t v way (.d (.str (S h))) s6) (.d x) = .ok () (ldE (.tup (ee.map E.d)) s t v way (.d (.str (S h))) (.d x)) := rfl
    have q := ld_step k ee hl s t v way x (hx x List.mem_cons_self) h
    unfold lwk
    cases hs : strL x with
    | none =>
      rw [hs] at q
      exact ⟨_, _, fr_rt st q⟩
    | some w =>
      rw [hs] at q
      dsimp only at q ⊢
      by_cases hh : h = []
      · rw [if_pos hh] at q ⊢
        exact ⟨_, _, fr_rt st q⟩
      · rw [if_neg hh] at q ⊢
        obtain ⟨a, b, e⟩ := ld_loop xs (endL way ee w h) (.d x) fun y hy => hx y (List.mem_cons_of_mem _ hy)
        exact ⟨a, b, (fr_nx st q).trans e⟩
theorem run_lleads (hv : Vl v) : runF tb fds (k + 2) 23 [.d (.tup (ee.map E.d)), .d (.str (S s)), .d (.str (S t)), .d v, .d (.bl way)] = .ok (.d (.bl (leadsV way ee s t v))) [.un, .un, .un, .un, .un] := by
  have rr : ∀ s5 s6, exs tb (runF tb fds (k + 1)) 5 ldR (ldE (.tup (ee.map E.d)) s t v way s5 s6) = .rt (.d (.bl false)) (ldE (.tup (ee.map E.d)) s t v way s5 s6) := fun s5 s6 => exs_rt (ex_retD (ev_lb _ _ _ _))
  have c0 := ev_not (ev_isi (fn := runF tb fds (k + 1)) (np := 5) (i := 3) (t := .tuple) (ρ := ldE (.tup (ee.map E.d)) s t v way .un .un) (x := v) rfl tk_tup hv.1)
  have go : ∀ {b ρ}, exs tb (runF tb fds (k + 1)) 5 b__law_leads (ldE (.tup (ee.map E.d)) s t v way .un .un) = .rt (.d (.bl b)) ρ → mask [.d (.tup (ee.map E.d)), .d (.str (S s)), .d (.str (S t)), .d v, .d (.bl way)] ρ = [.un, .un, .un, .un, .un] → runF tb fds (k + 2) 23 [.d (.tup (ee.map E.d)), .d (.str (S s)), .d (.str (S t)), .d v, .d (.bl way)] = .ok (.d (.bl b)) [.un, .un, .un, .un, .un] := fun {b ρ} e m => by
    rw [← m]
    exact run_rt (np := 5) (ns := 7) (b := b__law_leads) rfl rfl e
  rw [b_lleads] at go
  by_cases ht : isTy v .tuple = true
  · obtain ⟨xs, rfl⟩ : ∃ xs, v = .tup xs := by
      cases v with
      | tup xs => exact ⟨xs, rfl⟩
      | _ => cases ht
    obtain ⟨hl2, hx⟩ := hv.2 xs rfl
    rw [ht] at c0
    obtain ⟨s5, s6, f⟩ := ld_loop k ee hl s t (.tup xs) way xs s .un hx
    have h1 : ex tb (runF tb fds (k + 1)) 5 (.asg 5 (.var 1)) (ldE (.tup (ee.map E.d)) s t (.tup xs) way .un .un) = .nx (ldE (.tup (ee.map E.d)) s t (.tup xs) way (.d (.str (S s))) .un) := ex_asgD (ev_vd rfl) rfl
    have hi : evI tb (runF tb fds (k + 1)) 5 (.e (.var 3)) (ldE (.tup (ee.map E.d)) s t (.tup xs) way (.d (.str (S s))) .un) = .ok (.d (.tup xs), xs) (ldE (.tup (ee.map E.d)) s t (.tup xs) way (.d (.str (S s))) .un) := evI_d (ev_vd rfl) rfl (by unfold line; omega)
    show runF tb fds (k + 2) 23 _ = .ok (.d (.bl (match lwk way ee xs s with
      | some h => decide (h = t)
      | none => false))) _
    cases hw : lwk way ee xs s with
    | none =>
      rw [hw] at f
      exact go ((exs_cons (ex_no c0)).trans ((exs_cons h1).trans (exs_rt (ex_for hi f)))) rfl
    | some h' =>
      rw [hw] at f
      have c5 : ev tb (runF tb fds (k + 1)) 5 (.cmp .eq (.var 5) (.var 2)) (ldE (.tup (ee.map E.d)) s t (.tup xs) way (.d (.str (S h'))) s6) = .ok (.d (.bl (decide (h' = t)))) (ldE (.tup (ee.map E.d)) s t (.tup xs) way (.d (.str (S h'))) s6) := by
        rw [ev.eq_8, ev_vd (d := .str (S h')) rfl]
        simp only [R.bind, kpF]
        rw [ev_vd (d := .str (S t)) rfl]
        simp only [R.bind, seen, vw, opC, eqD_str, R.bool]
      exact go ((exs_cons (ex_no c0)).trans ((exs_cons h1).trans ((exs_cons (ex_for hi f)).trans (exs_rt (ex_retD c5))))) rfl
  · have ht : isTy v .tuple = false := by simpa using ht
    rw [ht] at c0
    have e : leadsV way ee s t v = false := by
      cases v with
      | tup xs => cases ht
      | _ => rfl
    rw [e]
    exact go (exs_rt (ex_ifT c0 (rr _ _))) rfl
end
end K05
namespace K05
open PySem EN
/-! the moves -/
theorem look_map {kvs : List (List Key × D)} {k k' : List Key} {v : D} : look (kvs.map fun p => if p.1 = k then (p.1, v) else p) k' = if k = k' ∧ (kvs.any fun p => decide (p.1 = k)) = true then some v else look kvs k' := by
  induction kvs with
  | nil => simp [look]
  | cons p kvs ih =>
    unfold look at ih ⊢
    rw [List.map_cons, List.find?_cons, List.find?_cons, List.any_cons]
    by_cases h1 : p.1 = k
    · rw [if_pos h1]
      by_cases h2 : k = k'
      · have h3 : p.1 = k' := h1.trans h2
        simp [h1, h2]
      · have h3 : p.1 ≠ k' := fun z => h2 (h1.symm.trans z)
        simp only [decide_eq_false h3, h2, false_and, if_false] at ih ⊢
        exact ih
    · rw [if_neg h1]
      by_cases h3 : p.1 = k'
      · have h2 : k ≠ k' := fun z => h1 (h3.trans z.symm)
        simp [h3, h2]
      · simp only [decide_eq_false h3, decide_eq_false h1, Bool.false_or]
        exact ih
theorem look_app {kvs : List (List Key × D)} {k k' : List Key} {v : D} (h : (kvs.any fun p => decide (p.1 = k)) = false) : look (kvs ++ [(k, v)]) k' = if k = k' then some v else look kvs k' := by
  induction kvs with
  | nil =>
    unfold look
    by_cases e : k = k'
    · simp [e]
    · simp [e]
  | cons p kvs ih =>
    rw [List.any_cons, Bool.or_eq_false_iff] at h
    have ih := ih h.2
    have h1 : p.1 ≠ k := of_decide_eq_false h.1
    unfold look at ih ⊢
    rw [List.cons_append, List.find?_cons, List.find?_cons]
    by_cases h3 : p.1 = k'
    · have : k ≠ k' := fun z => h1 (h3.trans z.symm)
      simp [h3, this]
    · simp only [decide_eq_false h3]
      exact ih
theorem look_put (kvs : List (List Key × D)) (k k' : List Key) (v : D) : look (put kvs k v) k' = if k = k' then some v else look kvs k' := by
  unfold put
  by_cases h : (kvs.any fun p => decide (p.1 = k)) = true
  · rw [if_pos h, look_map]
    by_cases e : k = k'
    · rw [if_pos ⟨e, h⟩, if_pos e]
    · rw [if_neg (fun z => e z.1), if_neg e]
  · rw [if_neg h]
    exact look_app (Bool.eq_false_iff.mpr h)
theorem put_len (kvs : List (List Key × D)) (k : List Key) (v : D) : (put kvs k v).length ≤ kvs.length + 1 := by
  unfold put
  split
  · rw [List.length_map]; omega
  · rw [List.length_append]; exact Nat.le_refl _
def K2 (a b : List Nat) : List Key := [.inr (S a), .inr (S b)]
theorem K2_eq (a b c d : List Nat) : (K2 a b = K2 c d) ↔ a = c ∧ b = d := by
  refine ⟨fun h => ?_, fun ⟨h1, h2⟩ => by rw [h1, h2]⟩
  injection h with h1 h2
  injection h2 with h2 _
  exact ⟨(S_eq a c).mp (Sum.inr.inj h1), (S_eq b d).mp (Sum.inr.inj h2)⟩
/-- the moves of these edges -/
def LK (way : Bool) (kvs : List (List Key × D)) (es : List E) : Prop := ∀ w h, look kvs (K2 w h) = (es.findSome? (hit way w h)).map fun l => .str (S l)
theorem hit_none {way : Bool} {w h : List Nat} {es : List E} (n : w ∉ es.map E.lab) : es.findSome? (hit way w h) = none := by
  rw [List.findSome?_eq_none_iff]
  intro e he
  exact hit_no fun z => n (List.mem_map.mpr ⟨e, he, z⟩)
theorem lk_nil (way : Bool) : LK way [] [] := fun w h => rfl
theorem lk_way {kvs : List (List Key × D)} {es : List E} {e : E} (h : LK true kvs es) (n : e.lab ∉ es.map E.lab) : LK true (put kvs (K2 e.lab e.tail) (.str (S e.head))) (es ++ [e]) := by
  intro w hh
  rw [look_put, List.findSome?_append, h w hh]
  by_cases e1 : e.lab = w
  · rw [hit_none (e1 ▸ n)]
    by_cases e2 : e.tail = hh
    · rw [if_pos ((K2_eq _ _ _ _).mpr ⟨e1, e2⟩)]
      simp [hit, e1, e2]
    · rw [if_neg fun z => e2 ((K2_eq _ _ _ _).mp z).2]
      simp [hit, e1, e2]
  · rw [if_neg fun z => e1 ((K2_eq _ _ _ _).mp z).1]
    simp [hit, e1]
theorem lk_walk {kvs : List (List Key × D)} {es : List E} {e : E} (h : LK false kvs es) (n : e.lab ∉ es.map E.lab) : LK false (put (put kvs (K2 e.lab e.tail) (.str (S e.head))) (K2 e.lab e.head) (.str (S e.tail))) (es ++ [e]) := by
  intro w hh
  rw [look_put, look_put, List.findSome?_append, h w hh]
  by_cases e1 : e.lab = w
  · rw [hit_none (e1 ▸ n)]
    by_cases e3 : e.head = hh
    · rw [if_pos ((K2_eq _ _ _ _).mpr ⟨e1, e3⟩)]
      by_cases e2 : e.tail = hh
      · simp [hit, e1, e2, e3]
      · simp [hit, e1, e2, e3]
    · rw [if_neg fun z => e3 ((K2_eq _ _ _ _).mp z).2]
      by_cases e2 : e.tail = hh
      · rw [if_pos ((K2_eq _ _ _ _).mpr ⟨e1, e2⟩)]
        simp [hit, e1, e2]
      · rw [if_neg fun z => e2 ((K2_eq _ _ _ _).mp z).2]
        simp [hit, e1, e2, e3]
  · rw [if_neg fun z => e1 ((K2_eq _ _ _ _).mp z).1, if_neg fun z => e1 ((K2_eq _ _ _ _).mp z).1]
    simp [hit, e1]
def kwy (e : E) : List Key × D := (K2 e.lab e.tail, .str (S e.head))
theorem lk_all : ∀ (es' es : List E) (kvs : List (List Key × D)), LK true kvs es → ((es ++ es').map E.lab).Nodup → LK true (putAll kvs (es'.map kwy)) (es ++ es')
  | [], es, kvs, h, _ => by rw [List.append_nil]; exact h
  | e :: es', es, kvs, h, n => by
    have n1 : e.lab ∉ es.map E.lab := fun z => by
      rw [List.map_append] at n
      exact (List.nodup_append.mp n).2.2 e.lab z e.lab (by simp) rfl
    have := lk_all es' (es ++ [e]) (put kvs (K2 e.lab e.tail) (.str (S e.head))) (lk_way h n1) (by rw [List.append_assoc]; exact n)
    rw [List.append_assoc] at this
    exact this
theorem zip_back (kvs : List (List Key × D)) : (kvs.map (·.1)).zip (kvs.map (·.2)) = kvs := by
  induction kvs with
  | nil => rfl
  | cons p kvs ih => simp only [List.map_cons, List.zip_cons_cons, ih]
/-- a table of moves -/
def Mv (way : Bool) (ee : List E) (d : D) : Prop := ∃ ks vs, d = .dT ks vs ∧ ∀ w h, getD? d (.tup [.str (S w), .str (S h)]) = some ((ee.findSome? (hit way w h)).map fun l => .str (S l))
theorem mv_of {way : Bool} {kvs : List (List Key × D)} {ee : List E} (h : LK way kvs ee) : Mv way ee (Cn.toD (.dT kvs)) := by
  refine ⟨_, _, rfl, fun w hh => ?_⟩
  show some (look ((kvs.map (·.1)).zip (kvs.map (·.2))) (K2 w hh)) = _
  rw [zip_back, h w hh]
/-! the program's walk -/
def pwk (way : Bool) (ee : List E) : List D → List Nat → Option (List Nat)
  | [], h => some h
  | x :: xs, h => match strL x with
    | none => none
    | some w => match ee.findSome? (hit way w h) with
      | none => none
      | some h' => pwk way ee xs h'
def leadsP (way : Bool) (ee : List E) (s t : List Nat) : D → Bool
  | .tup xs => match pwk way ee xs s with
    | some h => decide (h = t)
    | none => false
  | _ => false
theorem lwk_nil {way : Bool} {ee : List E} {t : List Nat} (ht : t ≠ []) (xs : List D) : (match lwk way ee xs [] with
    | some h => decide (h = t)
    | none => false) = false := by
  cases xs with
  | nil => exact decide_eq_false fun z => ht z.symm
  | cons x xs =>
    unfold lwk
    cases strL x with
    | none => rfl
    | some w => rfl
theorem hit_mem {way : Bool} {w h h' : List Nat} {ee : List E} (z : ee.findSome? (hit way w h) = some h') : ∃ e ∈ ee, h' = e.head ∨ h' = e.tail := by
  obtain ⟨e, he, q⟩ := List.exists_of_findSome?_eq_some z
  refine ⟨e, he, ?_⟩
  unfold hit at q
  split at q
  · split at q
    · cases q; exact .inl rfl
    · split at q
      · cases q; exact .inr rfl
      · cases q
  · cases q
theorem leads_eq {way : Bool} {ee : List E} {t : List Nat} (ht : t ≠ []) (he : ∀ e ∈ ee, e.head ≠ [] ∧ e.tail ≠ []) : ∀ (xs : List D) (h : List Nat), h ≠ [] → (match lwk way ee xs h with
    | some h => decide (h = t)
    | none => false) = match pwk way ee xs h with
    | some h => decide (h = t)
    | none => false
  | [], h, _ => rfl
  | x :: xs, h, hh => by
    unfold lwk pwk
    cases strL x with
    | none => rfl
    | some w =>
      dsimp only
      rw [if_neg hh]
      cases q : ee.findSome? (hit way w h) with
      | none =>
        have : endL way ee w h = [] := by unfold endL; rw [q]; rfl
        rw [this]
        exact lwk_nil ht xs
      | some h' =>
        have : endL way ee w h = h' := by unfold endL; rw [q]; rfl
        rw [this]
        obtain ⟨e, h1, h2⟩ := hit_mem q
        exact leads_eq ht he xs h' (h2.elim (fun z => z ▸ (he e h1).1) fun z => z ▸ (he e h1).2)
theorem leads_PV {way : Bool} {ee : List E} {s t : List Nat} (hs : s ≠ []) (ht : t ≠ []) (he : ∀ e ∈ ee, e.head ≠ [] ∧ e.tail ≠ []) (v : D) : leadsP way ee s t v = leadsV way ee s t v := by
  cases v with
  | tup xs => exact (leads_eq ht he xs s hs).symm
  | _ => rfl
def plC : IE := .or (.not (.isi (.var 5) .str)) (.cmp .notin (.tup (.cons (.var 5) (.cons (.var 4) .nil))) (.var 0))
def plA : IS := .asg 4 (.ix (.var 0) (.tup (.cons (.var 5) (.cons (.var 4) .nil))))
def plB : ISs := .cons (.ifS plC ldR .nil) (.cons plA .nil)
theorem b_leads : b__leads = .cons (.ifS (.not (.isi (.var 3) .tuple)) ldR .nil) (.cons (.asg 4 (.var 1)) (.cons (.forS 5 (.e (.var 3)) plB) (.cons (.ret (.cmp .eq (.var 4) (.var 2))) .nil))) := rfl
def plE (md : D) (s t : List Nat) (v : D) (s4 s5 : EN.Slot) : EN.Env := [.d md, .d (.str (S s)), .d (.str (S t)), .d v, s4, s5]
section
variable (fn : Fn) {way : Bool} {ee : List E} {md : D} (hm : Mv way ee md) (s t : List Nat) (v : D)
include hm
theorem pl_step (x : D) (hx : isTyN x = true) (h : List Nat) : exs tb fn 4 plB (plE md s t v (.d (.str (S h))) (.d x)) = match strL x with
    | none => .rt (.d (.bl false)) (plE md s t v (.d (.str (S h))) (.d x))
    | some w => match ee.findSome? (hit way w h) with
      | none => .rt (.d (.bl false)) (plE md s t v (.d (.str (S h))) (.d x))
      | some h' => .nx (plE md s t v (.d (.str (S h'))) (.d x)) := by
  have c0 := ev_not (ev_isi (fn := fn) (np := 4) (i := 5) (ρ := plE md s t v (.d (.str (S h))) (.d x)) (x := x) rfl tk_str hx)
  have rr : exs tb fn 4 ldR (plE md s t v (.d (.str (S h))) (.d x)) = .rt (.d (.bl false)) (plE md s t v (.d (.str (S h))) (.d x)) := exs_rt (ex_retD (ev_lb _ _ _ _))
  cases hs : strL x with
  | none =>
    rw [isTy_str, hs] at c0
    exact exs_rt (ex_ifT (ev_orT c0) rr)
  | some w =>
    rw [isTy_str, hs] at c0
    obtain ⟨ks, vs, rfl, gd⟩ := hm
    have q := gd w h
    have ex := strL_some hs
    have o1 : opC .notin (.tup [.str (S w), .str (S h)]) (.dT ks vs) = some (!(ee.findSome? (hit way w h)).isSome) := by
      show (getD? (.dT ks vs) (.tup [.str (S w), .str (S h)])).map (!·.isSome) = _
      rw [q]
      cases ee.findSome? (hit way w h) <;> rfl
    have o2 : opI (.dT ks vs) (.tup [.str (S w), .str (S h)]) = (ee.findSome? (hit way w h)).map fun l => .str (S l) := by
      show (getD? (.dT ks vs) (.tup [.str (S w), .str (S h)])).getD none = _
      rw [q]
      rfl
    have tp : ev tb fn 4 (.tup (.cons (.var 5) (.cons (.var 4) .nil))) (plE (.dT ks vs) s t v (.d (.str (S h))) (.d x)) = .ok (.d (.tup [x, .str (S h)])) (plE (.dT ks vs) s t v (.d (.str (S h))) (.d x)) := by
      rw [ev.eq_3]
      simp only [evs, ev_vd (T := tb) (fn := fn) (np := 4) (i := 5) (ρ := plE (.dT ks vs) s t v (.d (.str (S h))) (.d x)) (d := x) rfl, ev_vd (T := tb) (fn := fn) (np := 4) (i := 4) (ρ := plE (.dT ks vs) s t v (.d (.str (S h))) (.d x)) (d := .str (S h)) rfl, R.bind, kp, List.length_cons, List.length_nil, Nat.zero_add, Nat.reduceAdd, ln2, if_true]
    have c1 : ev tb fn 4 (.cmp .notin (.tup (.cons (.var 5) (.cons (.var 4) .nil))) (.var 0)) (plE (.dT ks vs) s t v (.d (.str (S h))) (.d x)) = .ok (.d (.bl (!(ee.findSome? (hit way w h)).isSome))) (plE (.dT ks vs) s t v (.d (.str (S h))) (.d x)) := by
      rw [ev.eq_8, tp]
      simp only [R.bind, kpF]
      rw [ev_vd (d := .dT ks vs) rfl, ex]
      simp only [R.bind, seen, vw, o1, R.bool]
    have c2 := ev_orF c0 c1
    dsimp only
    cases hf : ee.findSome? (hit way w h) with
    | none =>
      rw [hf] at c2
      exact exs_rt (ex_ifT c2 rr)
    | some h' =>
      rw [hf] at c2 o2
      refine (exs_cons (ex_no c2)).trans (exs_one (ex_asgD (d := .str (S h')) (ρ1 := plE (.dT ks vs) s t v (.d (.str (S h))) (.d x)) ?_ rfl))
      rw [ev.eq_18, ev_vd (d := .dT ks vs) rfl]
      simp only [R.bind, kpF]
      rw [tp, ex]
      simp only [R.bind, kp, seen, vw, o2, Option.map_some, R.dat]
theorem pl_loop : ∀ (xs : List D) (h : List Nat) (s5 : EN.Slot), (∀ x ∈ xs, isTyN x = true) → ∃ s4' s5', forRun 4 5 (fun ρ => exs tb fn 4 plB ρ) xs (plE md s t v (.d (.str (S h))) s5) = match pwk way ee xs h with
    | none => .rt (.d (.bl false)) (plE md s t v s4' s5')
    | some h' => .nx (plE md s t v (.d (.str (S h'))) s5')
  | [], h, s5, _ => ⟨.un, s5, rfl⟩
  | x :: xs, h, s5, hx => by
    have st : EN.store 4 5 (plE md s t v (.d (.str (S h))) s5) (.d x) = .ok () (plE md s t v (.d (.str (S h))) (.d x)) := rfl
    have q := pl_step fn hm s t v x (hx x List.mem_cons_self) h
    unfold pwk
    cases hs : strL x with
    | none =>
      rw [hs] at q
      exact ⟨_, _, fr_rt st q⟩
    | some w =>
      rw [hs] at q
      dsimp only at q ⊢
      cases hf : ee.findSome? (hit way w h) with
      | none =>
        rw [hf] at q
        exact ⟨_, _, fr_rt st q⟩
      | some h' =>
        rw [hf] at q
        dsimp only at q ⊢
        obtain ⟨a, b, e⟩ := pl_loop xs h' (.d x) fun y hy => hx y (List.mem_cons_of_mem _ hy)
        exact ⟨a, b, (fr_nx st q).trans e⟩
end
theorem run_leads (k : Nat) {way : Bool} {ee : List E} {md : D} (hm : Mv way ee md) (s t : List Nat) (v : D) (hv : Vl v) : runF tb fds (k + 1) 8 [.d md, .d (.str (S s)), .d (.str (S t)), .d v] = .ok (.d (.bl (leadsP way ee s t v))) [.un, .un, .un, .un] := by
  have rr : ∀ s5 s6, exs tb (runF tb fds k) 4 ldR (plE md s t v s5 s6) = .rt (.d (.bl false)) (plE md s t v s5 s6) := fun s5 s6 => exs_rt (ex_retD (ev_lb _ _ _ _))
  have c0 := ev_not (ev_isi (fn := runF tb fds k) (np := 4) (i := 3) (t := .tuple) (ρ := plE md s t v .un .un) (x := v) rfl tk_tup hv.1)
  have go : ∀ {b ρ}, exs tb (runF tb fds k) 4 b__leads (plE md s t v .un .un) = .rt (.d (.bl b)) ρ → mask [.d md, .d (.str (S s)), .d (.str (S t)), .d v] ρ = [.un, .un, .un, .un] → runF tb fds (k + 1) 8 [.d md, .d (.str (S s)), .d (.str (S t)), .d v] = .ok (.d (.bl b)) [.un, .un, .un, .un] := fun {b ρ} e m => by
    rw [← m]
    exact run_rt (np := 4) (ns := 6) (b := b__leads) rfl rfl e
  rw [b_leads] at go
  by_cases ht : isTy v .tuple = true
  · obtain ⟨xs, rfl⟩ : ∃ xs, v = .tup xs := by
      cases v with
      | tup xs => exact ⟨xs, rfl⟩
      | _ => cases ht
    obtain ⟨hl2, hx⟩ := hv.2 xs rfl
    rw [ht] at c0
    obtain ⟨s5, s6, f⟩ := pl_loop (runF tb fds k) hm s t (.tup xs) xs s .un hx
    have h1 : ex tb (runF tb fds k) 4 (.asg 4 (.var 1)) (plE md s t (.tup xs) .un .un) = .nx (plE md s t (.tup xs) (.d (.str (S s))) .un) := ex_asgD (ev_vd rfl) rfl
    have hi : evI tb (runF tb fds k) 4 (.e (.var 3)) (plE md s t (.tup xs) (.d (.str (S s))) .un) = .ok (.d (.tup xs), xs) (plE md s t (.tup xs) (.d (.str (S s))) .un) := evI_d (ev_vd rfl) rfl (by unfold line; omega)
    show runF tb fds (k + 1) 8 _ = .ok (.d (.bl (match pwk way ee xs s with
      | some h => decide (h = t)
      | none => false))) _
    cases hw : pwk way ee xs s with
    | none =>
      rw [hw] at f
      exact go ((exs_cons (ex_no c0)).trans ((exs_cons h1).trans (exs_rt (ex_for hi f)))) rfl
    | some h' =>
      rw [hw] at f
      have c5 : ev tb (runF tb fds k) 4 (.cmp .eq (.var 4) (.var 2)) (plE md s t (.tup xs) (.d (.str (S h'))) s6) = .ok (.d (.bl (decide (h' = t)))) (plE md s t (.tup xs) (.d (.str (S h'))) s6) := by
        rw [ev.eq_8, ev_vd (d := .str (S h')) rfl]
        simp only [R.bind, kpF]
        rw [ev_vd (d := .str (S t)) rfl]
        simp only [R.bind, seen, vw, opC, eqD_str, R.bool]
      exact go ((exs_cons (ex_no c0)).trans ((exs_cons h1).trans ((exs_cons (ex_for hi f)).trans (exs_rt (ex_retD c5))))) rfl
  · have ht : isTy v .tuple = false := by simpa using ht
    rw [ht] at c0
    have e : leadsP way ee s t v = false := by
      cases v with
      | tup xs => cases ht
      | _ => rfl
    rw [e]
    exact go (exs_rt (ex_ifT c0 (rr _ _))) rfl
end K05
namespace K05
open PySem EN
/-! is_way, is_walk -/
theorem dc_run {i : Nat} {c : EN.Env → R Bool} {fk : EN.Env → R (List D)} {f : EN.Env → R D} (ρ : EN.Env) : ∀ (es : List E), (∀ e ∈ es, c (ρ.set i (.d e.d)) = .ok true (ρ.set i (.d e.d))) → (∀ e ∈ es, fk (ρ.set i (.d e.d)) = .ok [.str (S e.lab), .str (S e.tail)] (ρ.set i (.d e.d))) → (∀ e ∈ es, f (ρ.set i (.d e.d)) = .ok (.str (S e.head)) (ρ.set i (.d e.d))) →
    ∀ s, ∃ s', dcRun i c fk f (es.map E.d) (ρ.set i s) = .ok (es.map kwy) (ρ.set i s')
  | [], _, _, _, s => ⟨s, rfl⟩
  | e :: es, h1, h2, h3, s => by
    obtain ⟨s', q⟩ := dc_run ρ es (fun y hy => h1 y (List.mem_cons_of_mem _ hy)) (fun y hy => h2 y (List.mem_cons_of_mem _ hy)) (fun y hy => h3 y (List.mem_cons_of_mem _ hy)) (.d e.d)
    refine ⟨s', ?_⟩
    have kk : D.keys? [.str (S e.lab), .str (S e.tail)] = some (K2 e.lab e.tail) := rfl
    have ll : [D.str (S e.lab), .str (S e.tail)].length ≤ line := ln2
    rw [List.map_cons]
    unfold dcRun
    rw [List.set_set, h1 e List.mem_cons_self]
    simp only [R.calm, R.bind]
    rw [h2 e List.mem_cons_self]
    simp only [R.calm, R.bind, kk]
    rw [if_pos ll, h3 e List.mem_cons_self]
    simp only [R.calm, R.bind, nobR_d]
    rw [q]
    rfl
theorem ev_dcW {fn : Fn} {np i : Nat} {ks : IEs} {v : IE} {it : IT} {c : IE} {ρ : EN.Env} {d : D} {es : List E} (hi : evI tb fn np it ρ = .ok (.d d, es.map E.d) ρ) (h0 : ρ.at i = .un)
    (hk : ∀ e ∈ es, evs tb fn np ks (ρ.set i (.d e.d)) = .ok [.str (S e.lab), .str (S e.tail)] (ρ.set i (.d e.d))) (hv : ∀ e ∈ es, (ev tb fn np v (ρ.set i (.d e.d))).kept np = .ok (.str (S e.head)) (ρ.set i (.d e.d))) :
    ev tb fn np (.dcT ks v i it false c) ρ = .ok (.fr (.dT (putAll [] (es.map kwy)))) ρ := by
  obtain ⟨s', e⟩ := dc_run (i := i) (c := fun ρ => .ok true ρ) (fk := fun ρ => evs tb fn np ks ρ) (f := fun ρ => (ev tb fn np v ρ).kept np) ρ es (fun _ _ => rfl) hk hv .un
  rw [ev.eq_30, hi]
  simp only [R.bind, lend]
  refine Eq.trans (congrArg (fun r => R.dcEnd r i (IV.d d) ρ) e) ?_
  show R.dcEnd _ i (IV.d d) ρ = _
  unfold R.dcEnd
  rw [h0]
  simp only [R.bind, unlend]
  have := set_at ρ i
  rw [h0] at this
  rw [List.set_set, this]
def rqS : IS := .expr (.call 7 (.cons (.var 0) (.cons (.tup (.cons (.var 1) (.cons (.var 2) .nil))) .nil)))
def mvK : IEs := .cons (.ix (.var 5) (.lit (.int 0))) (.cons (.ix (.var 5) (.lit (.int 1))) .nil)
def mvS : IS := .asg 4 (.dcT mvK (.ix (.var 5) (.lit (.int 2))) 5 edI false (.lit (.bl true)))
def ldS : IS := .ret (.call 8 (.cons (.var 4) (.cons (.var 1) (.cons (.var 2) (.cons (.var 3) .nil)))))
theorem b_way : b_is_way = .cons rqS (.cons mvS (.cons ldS .nil)) := rfl
section
variable {nd : List (List Nat)} {ee : List E} (g : Gr nd ee)
theorem rq_ok (fn : Fn) (x y v : D) (r : EN.Env) (e7 : fn 7 [.d (G nd ee), .d (.tup [x, y])] = .ok (.d .non) [.un, .un]) : ex tb fn 4 rqS (.d (G nd ee) :: .d x :: .d y :: .d v :: r) = .nx (.d (G nd ee) :: .d x :: .d y :: .d v :: r) := by
  unfold rqS
  generalize G nd ee = gg at *
  simp [ex.eq_5, ev.eq_20, ev.eq_3, evA, evs, ev.eq_1, Env.at, R.bind, kpF, kp, ln2, callR, prep, prepV, handAll, handed, slotsOf, m7, e7, backR, back, R.to]
theorem rq_er (fn : Fn) (x y v z : D) (r : EN.Env) (e7 : fn 7 [.d (G nd ee), .d (.tup [x, y])] = .er 3 [z] [.un, .un]) : ex tb fn 4 rqS (.d (G nd ee) :: .d x :: .d y :: .d v :: r) = .er 3 [z] (.d (G nd ee) :: .d x :: .d y :: .d v :: r) := by
  unfold rqS
  generalize G nd ee = gg at *
  simp [ex.eq_5, ev.eq_20, ev.eq_3, evA, evs, ev.eq_1, Env.at, R.bind, kpF, kp, ln2, callR, prep, prepV, handAll, handed, slotsOf, m7, e7, backR, back, R.to]
theorem ld_ret (fn : Fn) (gd x y v b : D) (c : Cn) (r : EN.Env) (e8 : fn 8 [.d c.toD, .d x, .d y, .d v] = .ok (.d b) [.un, .un, .un, .un]) : ex tb fn 4 ldS (.d gd :: .d x :: .d y :: .d v :: .own c :: r) = .rt (.d b) (.d gd :: .d x :: .d y :: .d v :: .d c.toD :: r) := by
  unfold ldS
  generalize hc : c.toD = dd at *
  simp [ex.eq_9, ev.eq_20, evA, ev.eq_1, Env.at, R.bind, kpF, callR, prep, prepV, handAll, handed, slotsOf, m8, e8, backR, back, R.to, retO, hc]
theorem evs_two {fn : Fn} {np : Nat} {a b : IE} {ρ : EN.Env} {x y : D} (h1 : ev tb fn np a ρ = .ok (.d x) ρ) (h2 : ev tb fn np b ρ = .ok (.d y) ρ) : evs tb fn np (.cons a (.cons b .nil)) ρ = .ok [x, y] ρ := by
  simp only [evs, h1, h2, R.bind, kp]
include g
theorem way_go (k : Nat) {x y : D} (hx : Nm x) (hy : Nm y) (v : D) :
    (inS x nd = false → runF tb fds (k + 3) 9 [.d (G nd ee), .d x, .d y, .d v] = .er 3 [x] [.un, .un, .un, .un]) ∧ (inS x nd = true → inS y nd = false → runF tb fds (k + 3) 9 [.d (G nd ee), .d x, .d y, .d v] = .er 3 [y] [.un, .un, .un, .un]) := by
  refine ⟨fun h => ?_, fun h h2 => ?_⟩
  · refine run_er (np := 4) (ns := 6) (b := b_is_way) (ρ := [.d (G nd ee), .d x, .d y, .d v, .un, .un]) (as := [.d (G nd ee), .d x, .d y, .d v]) rfl rfl ?_
    rw [b_way]
    exact exs_er (rq_er _ x y v x _ (run_req_no g hx y k h))
  · refine run_er (np := 4) (ns := 6) (b := b_is_way) (ρ := [.d (G nd ee), .d x, .d y, .d v, .un, .un]) (as := [.d (G nd ee), .d x, .d y, .d v]) rfl rfl ?_
    rw [b_way]
    exact exs_er (rq_er _ x y v y _ (run_req_no2 g hx hy k h h2))
theorem run_way (k : Nat) {s t : List Nat} (hs : inS (.str (S s)) nd = true) (ht : inS (.str (S t)) nd = true) (v : D) (hv : Vl v) : runF tb fds (k + 3) 9 [.d (G nd ee), .d (.str (S s)), .d (.str (S t)), .d v] = .ok (.d (.bl (leadsP true ee s t v))) [.un, .un, .un, .un] := by
  have h1 := rq_ok (nd := nd) (ee := ee) (runF tb fds (k + 2)) (.str (S s)) (.str (S t)) v [.un, .un] (run_req_ok g (nm_str _) (nm_str _) k hs ht)
  have lk := lk_all ee [] [] (lk_nil true) g.e1
  rw [List.nil_append] at lk
  have e8 := run_leads (k + 1) (mv_of lk) s t v hv
  have dc := ev_dcW (fn := runF tb fds (k + 2)) (np := 4) (i := 5) (ks := mvK) (v := .ix (.var 5) (.lit (.int 2))) (c := .lit (.bl true)) (ed_it (nd := nd) (runF tb fds (k + 2)) 4 (by have := g.e3; omega) [.d (.str (S s)), .d (.str (S t)), .d v, .un, .un]) rfl
    (fun e he => evs_two (ev_ixL (at_set_same (by simp)) (i_lab e)) (ev_ixL (at_set_same (by simp)) (i_tail e))) (fun e he => by rw [ev_ixL (at_set_same (by simp)) (i_head e)]; rfl)
  have h2 : ex tb (runF tb fds (k + 2)) 4 mvS [.d (G nd ee), .d (.str (S s)), .d (.str (S t)), .d v, .un, .un] = .nx [.d (G nd ee), .d (.str (S s)), .d (.str (S t)), .d v, .own (.dT (putAll [] (ee.map kwy))), .un] := ex_asgF dc rfl
  refine run_rt (np := 4) (ns := 6) (b := b_is_way) (ρ := [.d (G nd ee), .d (.str (S s)), .d (.str (S t)), .d v, .d (Cn.toD (.dT (putAll [] (ee.map kwy)))), .un]) (as := [.d (G nd ee), .d (.str (S s)), .d (.str (S t)), .d v]) rfl rfl ?_
  rw [b_way]
  exact (exs_cons h1).trans ((exs_cons h2).trans (exs_rt (ld_ret _ _ _ _ _ _ _ _ e8)))
end
/-! walks -/
theorem fr_nxT {np : Nat} {is : List Nat} {b : EN.Env → O} {ds xs : List D} {ρ ρ1 ρ2 : EN.Env} (hs : EN.storeAll np is ds ρ = .ok () ρ1) (hb : b ρ1 = .nx ρ2) : forRunT np is b (.tup ds :: xs) ρ = forRunT np is b xs ρ2 := by
  conv => lhs; unfold forRunT
  dsimp only
  rw [hs]
  simp only [R.to, hb]
theorem ex_forT {fn : Fn} {np : Nat} {is : List Nat} {it : IT} {b : ISs} {ρ ρ0 : EN.Env} {v : D} {xs : List D} {o : O} (hi : evI tb fn np it ρ = .ok (.d v, xs) ρ0) (h : forRunT np is (fun ρ => exs tb fn np b ρ) xs ρ0 = o) : ex tb fn np (.forT is it b) ρ = o := by
  rw [ex.eq_13, hi]
  simp only [R.to, lend]
  rw [h]
  cases o <;> rfl
def wkI : IT := .e (.lc (.slc (.var 8) (.lit .non) (.lit (.int 3))) 8 edI false (.lit (.bl true)))
def wkB : ISs := .cons (.putT 4 (.cons (.var 5) (.cons (.var 6) .nil)) (.var 7)) (.cons (.putT 4 (.cons (.var 5) (.cons (.var 7) .nil)) (.var 6)) .nil)
theorem b_walk : b_is_walk = .cons rqS (.cons (.asg 4 .dctT) (.cons (.forT [5, 6, 7] wkI wkB) (.cons ldS .nil))) := rfl
def wkE (gg : D) (x y v : D) (kvs : List (List Key × D)) (s5 s6 s7 : EN.Slot) : EN.Env := [.d gg, .d x, .d y, .d v, .own (.dT kvs), s5, s6, s7, .un]
def E.d3 (e : E) : D := .tup [.str (S e.lab), .str (S e.tail), .str (S e.head)]
theorem s_three (e : E) : opS e.d none (some 3) = some (.d e.d3) := rfl
theorem wk_step (fn : Fn) (gg x y v : D) (kvs : List (List Key × D)) (e : E) (hl : kvs.length < 1000) : exs tb fn 4 wkB (wkE gg x y v kvs (.d (.str (S e.lab))) (.d (.str (S e.tail))) (.d (.str (S e.head)))) =
    .nx (wkE gg x y v (put (put kvs (K2 e.lab e.tail) (.str (S e.head))) (K2 e.lab e.head) (.str (S e.tail))) (.d (.str (S e.lab))) (.d (.str (S e.tail))) (.d (.str (S e.head)))) := by
  have p1 : ∀ (ks : List (List Key × D)) (a b c : List Nat), ks.length < 1500 → cnPutT [.str (S a), .str (S b)] (.str (S c)) (.dT ks) = some (.dT (put ks (K2 a b) (.str (S c)))) := fun ks a b c h => by
    show (if [D.str (S a), .str (S b)].length ≤ line ∧ ks.length < line then some (Cn.dT (put ks (K2 a b) (.str (S c)))) else none) = _
    rw [if_pos ⟨ln2, by unfold line; omega⟩]
  have q1 := p1 kvs e.lab e.tail e.head (by omega)
  have q2 := p1 (put kvs (K2 e.lab e.tail) (.str (S e.head))) e.lab e.head e.tail (by have := put_len kvs (K2 e.lab e.tail) (.str (S e.head)); omega)
  generalize put (put kvs (K2 e.lab e.tail) (.str (S e.head))) (K2 e.lab e.head) (.str (S e.tail)) = k2 at *
  generalize put kvs (K2 e.lab e.tail) (.str (S e.head)) = k1 at *
  generalize S e.lab = A at *
  generalize S e.tail = B at *
  generalize S e.head = C at *
  have step : ∀ (k0 k' : List (List Key × D)) (a b : Nat) (X Y : Str), Env.at (wkE gg x y v k0 (.d (.str A)) (.d (.str B)) (.d (.str C))) a = .d (.str X) → Env.at (wkE gg x y v k0 (.d (.str A)) (.d (.str B)) (.d (.str C))) b = .d (.str Y) → cnPutT [.str A, .str X] (.str Y) (.dT k0) = some (.dT k') →
      ex tb fn 4 (.putT 4 (.cons (.var 5) (.cons (.var a) .nil)) (.var b)) (wkE gg x y v k0 (.d (.str A)) (.d (.str B)) (.d (.str C))) = .nx (wkE gg x y v k' (.d (.str A)) (.d (.str B)) (.d (.str C))) := fun k0 k' a b X Y h1 h2 h3 => by
    have e1 := evs_two (fn := fn) (np := 4) (ev_vd (T := tb) (fn := fn) (np := 4) (i := 5) (ρ := wkE gg x y v k0 (.d (.str A)) (.d (.str B)) (.d (.str C))) (d := .str A) rfl) (ev_vd (T := tb) (fn := fn) (np := 4) h1)
    rw [ex.eq_4, ev_vd (T := tb) (fn := fn) (np := 4) h2]
    have o1 : isOwn ((wkE gg x y v k0 (.d (.str A)) (.d (.str B)) (.d (.str C))).at 4) = true := rfl
    have o2 : (wkE gg x y v k0 (.d (.str A)) (.d (.str B)) (.d (.str C))).at 4 = .own (.dT k0) := rfl
    rw [o1]
    simp only [R.bind, kp, R.to, e1, o2, h3]
    rfl
  exact exs_two (step kvs k1 6 7 B C rfl rfl q1) (step k1 k2 7 6 C B rfl rfl q2)
theorem wk_loop (fn : Fn) (gg x y v : D) : ∀ (es' es : List E) (kvs : List (List Key × D)) (s5 s6 s7 : EN.Slot), LK false kvs es → ((es ++ es').map E.lab).Nodup → kvs.length + 2 * es'.length ≤ 900 →
    ∃ kvs' s5' s6' s7', LK false kvs' (es ++ es') ∧ forRunT 4 [5, 6, 7] (fun ρ => exs tb fn 4 wkB ρ) (es'.map E.d3) (wkE gg x y v kvs s5 s6 s7) = .nx (wkE gg x y v kvs' s5' s6' s7')
  | [], es, kvs, s5, s6, s7, h, _, _ => ⟨kvs, s5, s6, s7, by rw [List.append_nil]; exact h, rfl⟩
  | e :: es', es, kvs, s5, s6, s7, h, n, hl => by
    have hl : kvs.length + 2 * (es'.length + 1) ≤ 900 := hl
    have n1 : e.lab ∉ es.map E.lab := fun z => by
      rw [List.map_append] at n
      exact (List.nodup_append.mp n).2.2 e.lab z e.lab (by simp) rfl
    have l1 := put_len kvs (K2 e.lab e.tail) (.str (S e.head))
    have l2 := put_len (put kvs (K2 e.lab e.tail) (.str (S e.head))) (K2 e.lab e.head) (.str (S e.tail))
    obtain ⟨kvs', a, b, c, h', f⟩ := wk_loop fn gg x y v es' (es ++ [e]) _ (.d (.str (S e.lab))) (.d (.str (S e.tail))) (.d (.str (S e.head))) (lk_walk h n1) (by rw [List.append_assoc]; exact n) (by omega)
    rw [List.append_assoc] at h'
    refine ⟨kvs', a, b, c, h', ?_⟩
    have st : EN.storeAll 4 [5, 6, 7] [.str (S e.lab), .str (S e.tail), .str (S e.head)] (wkE gg x y v kvs s5 s6 s7) = .ok () (wkE gg x y v kvs (.d (.str (S e.lab))) (.d (.str (S e.tail))) (.d (.str (S e.head)))) := rfl
    rw [List.map_cons]
    exact (fr_nxT st (wk_step fn gg x y v kvs e (by omega))).trans f
section
variable {nd : List (List Nat)} {ee : List E} (g : Gr nd ee)
include g
theorem walk_go (k : Nat) {x y : D} (hx : Nm x) (hy : Nm y) (v : D) :
    (inS x nd = false → runF tb fds (k + 3) 10 [.d (G nd ee), .d x, .d y, .d v] = .er 3 [x] [.un, .un, .un, .un]) ∧ (inS x nd = true → inS y nd = false → runF tb fds (k + 3) 10 [.d (G nd ee), .d x, .d y, .d v] = .er 3 [y] [.un, .un, .un, .un]) := by
  refine ⟨fun h => ?_, fun h h2 => ?_⟩
  · refine run_er (np := 4) (ns := 9) (b := b_is_walk) (ρ := [.d (G nd ee), .d x, .d y, .d v, .un, .un, .un, .un, .un]) (as := [.d (G nd ee), .d x, .d y, .d v]) rfl rfl ?_
    rw [b_walk]
    exact exs_er (rq_er _ x y v x _ (run_req_no g hx y k h))
  · refine run_er (np := 4) (ns := 9) (b := b_is_walk) (ρ := [.d (G nd ee), .d x, .d y, .d v, .un, .un, .un, .un, .un]) (as := [.d (G nd ee), .d x, .d y, .d v]) rfl rfl ?_
    rw [b_walk]
    exact exs_er (rq_er _ x y v y _ (run_req_no2 g hx hy k h h2))
theorem run_walk (k : Nat) {s t : List Nat} (hs : inS (.str (S s)) nd = true) (ht : inS (.str (S t)) nd = true) (v : D) (hv : Vl v) : runF tb fds (k + 3) 10 [.d (G nd ee), .d (.str (S s)), .d (.str (S t)), .d v] = .ok (.d (.bl (leadsP false ee s t v))) [.un, .un, .un, .un] := by
  have h1 := rq_ok (nd := nd) (ee := ee) (runF tb fds (k + 2)) (.str (S s)) (.str (S t)) v [.un, .un, .un, .un, .un] (run_req_ok g (nm_str _) (nm_str _) k hs ht)
  obtain ⟨kvs, a, b, c, lk, f⟩ := wk_loop (runF tb fds (k + 2)) (G nd ee) (.str (S s)) (.str (S t)) v ee [] [] .un .un .un (lk_nil false) g.e1 (by have := g.e3; simp; omega)
  rw [List.nil_append] at lk
  have e8 := run_leads (k + 1) (mv_of lk) s t v hv
  have h2 : ex tb (runF tb fds (k + 2)) 4 (.asg 4 .dctT) [.d (G nd ee), .d (.str (S s)), .d (.str (S t)), .d v, .un, .un, .un, .un, .un] = .nx (wkE (G nd ee) (.str (S s)) (.str (S t)) v [] .un .un .un) := ex_asgF (c := .dT []) (by rw [ev.eq_29]) rfl
  have le : ee.length ≤ 14 := by have := g.e3; omega
  have lc := ev_lcG (T := tb) (fn := runF tb fds (k + 2)) (np := 4) (elt := .slc (.var 8) (.lit .non) (.lit (.int 3))) (i := 8) (hasIf := false) (c := .lit (.bl true)) E.d (fun _ => true) E.d3 (ed_it (nd := nd) (runF tb fds (k + 2)) 4 le [.d (.str (S s)), .d (.str (S t)), .d v, .own (.dT []), .un, .un, .un, .un]) (.inl rfl) (fun z => nomatch z) (fun _ _ _ => rfl) fun e he _ => by
    have q := s_three e
    show (ev tb (runF tb fds (k + 2)) 4 (.slc (.var 8) (.lit .non) (.lit (.int 3))) [.d (G nd ee), .d (.str (S s)), .d (.str (S t)), .d v, .own (.dT []), .un, .un, .un, .d e.d]).kept 4 = .ok e.d3 [.d (G nd ee), .d (.str (S s)), .d (.str (S t)), .d v, .own (.dT []), .un, .un, .un, .d e.d]
    generalize e.d = dd at *
    generalize e.d3 = d3 at *
    simp [ev.eq_19, ev.eq_1, ev.eq_2, Env.at, R.bind, kpF, kp, prtR, IE.nl, flatD, seen, vw, q, R.val]
  have ft : (ee.filter fun _ => true) = ee := List.filter_eq_self.mpr fun _ _ => rfl
  rw [ft] at lc
  have hi : evI tb (runF tb fds (k + 2)) 4 wkI (wkE (G nd ee) (.str (S s)) (.str (S t)) v [] .un .un .un) = .ok (.d (.lst (ee.map E.d3)), ee.map E.d3) (wkE (G nd ee) (.str (S s)) (.str (S t)) v [] .un .un .un) := by
    unfold wkI evI
    have lc' : ev tb (runF tb fds (k + 2)) 4 (.lc (.slc (.var 8) (.lit .non) (.lit (.int 3))) 8 edI false (.lit (.bl true))) (wkE (G nd ee) (.str (S s)) (.str (S t)) v [] .un .un .un) = .ok (.fr (.lst (ee.map E.d3))) (wkE (G nd ee) (.str (S s)) (.str (S t)) v [] .un .un .un) := lc
    have ll : (ee.map E.d3).length ≤ line := by rw [List.length_map]; unfold line; omega
    rw [lc']
    simp only [R.bind, kpF, Cn.toD, seen, vw, walkD, ll, if_true]
  refine run_rt (np := 4) (ns := 9) (b := b_is_walk) (ρ := [.d (G nd ee), .d (.str (S s)), .d (.str (S t)), .d v, .d (Cn.toD (.dT kvs)), a, b, c, .un]) (as := [.d (G nd ee), .d (.str (S s)), .d (.str (S t)), .d v]) rfl rfl ?_
  rw [b_walk]
  exact (exs_cons h1).trans ((exs_cons h2).trans ((exs_cons (ex_forT hi f)).trans (exs_rt (ld_ret _ _ _ _ _ _ _ _ e8))))
end
end K05
namespace K05
open PySem EN
/-! prices -/
def ofL (w : List Nat) (e : E) : Bool := decide (e.lab = w)
def prs (ee : List E) : List (List Nat) → List Int ⊕ List Nat
  | [] => .inl []
  | w :: ws => match ee.find? (ofL w) with
    | none => .inr w
    | some e => match prs ee ws with
      | .inl ps => .inl (e.p :: ps)
      | .inr w => .inr w
def gtC : IE := .cmp .eq (.ix (.var 2) (.lit (.int 0))) (.var 1)
def gtB : ISs := .cons (.ifS gtC (.cons (.ret (.var 2)) .nil) .nil) .nil
theorem b_get : b_Graph___getitem__ = .cons (.forS 2 edI gtB) (.cons (.raise 4 (.cons (.var 1) .nil)) .nil) := rfl
theorem gt_loop (fn : Fn) (gg : D) (w : List Nat) : ∀ (es : List E) (s2 : EN.Slot), ∃ s2', forRun 2 2 (fun ρ => exs tb fn 2 gtB ρ) (es.map E.d) [.d gg, .d (.str (S w)), s2] = match es.find? (ofL w) with
    | some e => .rt (.d e.d) [.d gg, .d (.str (S w)), s2']
    | none => .nx [.d gg, .d (.str (S w)), s2']
  | [], s2 => ⟨s2, rfl⟩
  | e :: es, s2 => by
    have st : EN.store 2 2 [.d gg, .d (.str (S w)), s2] (.d e.d) = .ok () [.d gg, .d (.str (S w)), .d e.d] := rfl
    have c1 : ev tb fn 2 gtC [.d gg, .d (.str (S w)), .d e.d] = .ok (.d (.bl (decide (e.lab = w)))) [.d gg, .d (.str (S w)), .d e.d] := ev_eqL rfl (i_lab e) rfl (eqD_str _ _)
    rw [List.map_cons, List.find?_cons]
    have eo : ofL w e = decide (e.lab = w) := rfl
    cases hh : decide (e.lab = w) with
    | true =>
      rw [eo, hh]
      rw [hh] at c1
      exact ⟨_, fr_rt st (exs_rt (ex_ifT c1 (exs_rt (ex_retD (ev_vd rfl)))))⟩
    | false =>
      rw [eo, hh]
      rw [hh] at c1
      obtain ⟨s2', x⟩ := gt_loop fn gg w es (.d e.d)
      exact ⟨s2', (fr_nx st (exs_one (ex_no c1))).trans x⟩
def prX : IE := .ix (.ixO 0 31 (.var 0) (.var 2)) (.lit (.int 3))
def prL : IE := .lc prX 2 (.e (.var 1)) false (.lit (.bl true))
theorem b_price : b_price_of = .cons (.ret (.bi .sum (.cons prL .nil))) .nil := rfl
theorem ints_map : ∀ ps : List Int, ints? (ps.map D.int) = some ps
  | [] => rfl
  | p :: ps => by
    show (ints? (ps.map D.int)).map (p :: ·) = _
    rw [ints_map ps]; rfl
theorem at0 (a : D) (r : List D) : opI (.lst (a :: r)) (.int 0) = some a := by
  show L2.atI (a :: r) 0 = some a
  exact atI_lt (j := 0) (by simp)
section
variable {nd : List (List Nat)} {ee : List E} (g : Gr nd ee)
include g
theorem run_get (k : Nat) (w : List Nat) : runF tb fds (k + 1) 31 [.d (G nd ee), .d (.str (S w))] = match ee.find? (ofL w) with
    | some e => .ok (.d e.d) [.un, .un]
    | none => .er 4 [.str (S w)] [.un, .un] := by
  obtain ⟨s2, f⟩ := gt_loop (runF tb fds k) (G nd ee) w ee .un
  have hi := ed_it (nd := nd) (ee := ee) (runF tb fds k) 2 (by have := g.e3; omega) [.d (.str (S w)), .un]
  cases hh : ee.find? (ofL w) with
  | some e =>
    rw [hh] at f
    refine run_rt (np := 2) (ns := 3) (b := b_Graph___getitem__) (ρ := [.d (G nd ee), .d (.str (S w)), s2]) (as := [.d (G nd ee), .d (.str (S w))]) rfl rfl ?_
    rw [b_get]
    exact exs_rt (ex_for hi f)
  | none =>
    rw [hh] at f
    refine run_er (np := 2) (ns := 3) (b := b_Graph___getitem__) (ρ := [.d (G nd ee), .d (.str (S w)), s2]) (as := [.d (G nd ee), .d (.str (S w))]) rfl rfl ?_
    rw [b_get]
    refine (exs_cons (ex_for hi f)).trans (exs_er ?_)
    rw [ex.eq_19]
    generalize G nd ee = gg at *
    simp [evs, ev.eq_1, Env.at, R.bind, kp, R.to, tb]
theorem pr_elt (k : Nat) (v : D) (w : List Nat) : (ev tb (runF tb fds (k + 1)) 2 prX [.d (G nd ee), .d v, .d (.str (S w))]).kept 2 = match ee.find? (ofL w) with
    | some e => .ok (.int e.p) [.d (G nd ee), .d v, .d (.str (S w))]
    | none => .er 4 [.str (S w)] [.d (G nd ee), .d v, .d (.str (S w))] := by
  have e1 := run_get g k w
  have e2 := G_obj nd ee
  generalize G nd ee = gg at *
  generalize S w = W at *
  unfold prX
  cases hh : ee.find? (ofL w) with
  | some e =>
    rw [hh] at e1
    have ip := i_p e
    dsimp only at e1 ⊢
    generalize e.d = dd at *
    generalize e.p = pp at *
    simp [ev.eq_18, ev.eq_33, ev.eq_1, ev.eq_2, Env.at, R.bind, kpF, kp, flatD, e2, callR, prep, prepV, handAll, handed, slotsOf, m28, e1, backR, back, seen, vw, ip, R.dat]
  | none =>
    rw [hh] at e1
    dsimp only at e1 ⊢
    simp [ev.eq_18, ev.eq_33, ev.eq_1, ev.eq_2, Env.at, R.bind, kpF, kp, flatD, e2, callR, prep, prepV, handAll, handed, slotsOf, m28, e1, backR, back]
theorem pr_run (k : Nat) (v : D) : ∀ (ws : List (List Nat)) (s2 : EN.Slot), ∃ s2' : EN.Slot, lcRun 2 (fun ρ => .ok true ρ) (fun ρ => (ev tb (runF tb fds (k + 1)) 2 prX ρ).kept 2) (sD ws) [.d (G nd ee), .d v, s2] = match prs ee ws with
    | .inl ps => .ok (ps.map D.int) [.d (G nd ee), .d v, s2']
    | .inr w => .er 4 [.str (S w)] [.d (G nd ee), .d v, s2']
  | [], s2 => ⟨s2, rfl⟩
  | w :: ws, s2 => by
    obtain ⟨s2', q⟩ := pr_run k v ws (.d (.str (S w)))
    have f := pr_elt g k v w
    have hs : sD (w :: ws) = .str (S w) :: sD ws := rfl
    have ha : Env.at [.d (G nd ee), .d v, .d (.str (S w))] 2 = .d (.str (S w)) := rfl
    have hset : List.set [EN.Slot.d (G nd ee), .d v, s2] 2 (.d (.str (S w))) = [.d (G nd ee), .d v, .d (.str (S w))] := rfl
    rw [hs]
    unfold lcRun prs
    rw [hset]
    simp only [R.sft, R.bind]
    rw [f]
    cases hh : ee.find? (ofL w) with
    | none =>
      refine ⟨.d (.str (S w)), ?_⟩
      dsimp only
      simp only [R.sft, R.bind, ha, nobB]
    | some e =>
      refine ⟨s2', ?_⟩
      dsimp only
      simp only [R.sft, R.bind, nobR, ha, nobB]
      rw [q]
      cases prs ee ws <;> rfl
theorem pr_lc (k : Nat) (v : D) (ws : List (List Nat)) (hw : walkD v = some (sD ws)) (hl : ws.length ≤ 100) : ev tb (runF tb fds (k + 1)) 2 prL [.d (G nd ee), .d v, .un] = match prs ee ws with
    | .inl ps => .ok (.fr (.lst (ps.map D.int))) [.d (G nd ee), .d v, .un]
    | .inr w => .er 4 [.str (S w)] [.d (G nd ee), .d v, .un] := by
  have hi : evI tb (runF tb fds (k + 1)) 2 (.e (.var 1)) [.d (G nd ee), .d v, .un] = .ok (.d v, sD ws) [.d (G nd ee), .d v, .un] := evI_d (ev_vd rfl) hw (by rw [sD_len]; unfold line; omega)
  obtain ⟨s', e⟩ := pr_run g k v ws .un
  unfold prL
  rw [ev.eq_24, hi]
  simp only [R.bind, lend]
  refine Eq.trans (congrArg (fun r => R.lcEnd r 2 (IV.d v) [.d (G nd ee), .d v, .un]) e) ?_
  cases prs ee ws <;> rfl
theorem run_price (k : Nat) (v : D) (ws : List (List Nat)) (hw : walkD v = some (sD ws)) (hl : ws.length ≤ 100) : runF tb fds (k + 2) 11 [.d (G nd ee), .d v] = match prs ee ws with
    | .inl ps => .ok (.d (.int ps.sum)) [.un, .un]
    | .inr w => .er 4 [.str (S w)] [.un, .un] := by
  have q := pr_lc g k v ws hw hl
  cases hp : prs ee ws with
  | inl ps =>
    rw [hp] at q
    dsimp only at q ⊢
    have o : opF .sum [.lst (ps.map D.int)] = some (.d (.int ps.sum)) := by
      show (ints? (ps.map D.int)).map _ = _
      rw [ints_map]; rfl
    refine run_rt (np := 2) (ns := 3) (b := b_price_of) (ρ := [.d (G nd ee), .d v, .un]) (as := [.d (G nd ee), .d v]) rfl rfl ?_
    show exs tb (runF tb fds (k + 1)) 2 b_price_of [.d (G nd ee), .d v, .un] = _
    rw [b_price]
    generalize ps.map D.int = ds at *
    refine exs_rt (ex_retD ?_)
    rw [ev.eq_21]
    simp only [evA, q, R.bind, kpF, List.mapM_cons, List.mapM_nil, vw, Cn.toD, Option.pure_def, Option.bind_eq_bind, Option.bind_some, o, R.val]
  | inr w =>
    rw [hp] at q
    dsimp only at q ⊢
    refine run_er (np := 2) (ns := 3) (b := b_price_of) (ρ := [.d (G nd ee), .d v, .un]) (as := [.d (G nd ee), .d v]) rfl rfl ?_
    show exs tb (runF tb fds (k + 1)) 2 b_price_of [.d (G nd ee), .d v, .un] = _
    rw [b_price]
    refine exs_er ?_
    rw [ex.eq_9, ev.eq_21]
    simp only [evA, q, R.bind, R.to]
end
/-! the law's own price -/
def pairR (p : Str × D) : D := .tup [.str p.1, p.2]
def dueP (ee : List E) (ws : List (List Nat)) (T : Int) : Str × D := match prs ee ws with
  | .inl ps => (Str.ofString "", .int (T + ps.sum))
  | .inr w => (Str.ofString "edge", .str (S w))
def lpL : IE := .lc (.ix (.var 5) (.lit (.int 3))) 5 (.e (.var 0)) true (.cmp .eq (.ix (.var 5) (.lit (.int 0))) (.var 3))
def lpC : IE := .cmp .eq (.bi .len (.cons (.var 4) .nil)) (.lit (.int 0))
def lpR : ISs := .cons (.ret (.tup (.cons (.lit (.str "edge")) (.cons (.var 3) .nil)))) .nil
def lpA : IS := .asg 2 (.bin .add (.var 2) (.ix (.var 4) (.lit (.int 0))))
def lpB : ISs := .cons (.asg 4 lpL) (.cons (.ifS lpC lpR .nil) (.cons lpA .nil))
theorem b_lprice : b__law_price = .cons (.asg 2 (.lit (.int 0))) (.cons (.forS 3 (.e (.var 1)) lpB) (.cons (.ret (.tup (.cons (.lit (.str "")) (.cons (.var 2) .nil)))) .nil)) := rfl
def lpE (ee : List E) (rd : D) (T : Int) (s3 s4 : EN.Slot) : EN.Env := [.d (.tup (ee.map E.d)), .d rd, .d (.int T), s3, s4, .un]
theorem ev_tup2 {fn : Fn} {np : Nat} {w : Str} {b : IE} {ρ : EN.Env} {d : D} (h : ev tb fn np b ρ = .ok (.d d) ρ) : ev tb fn np (.tup (.cons (.lit (.str w)) (.cons b .nil))) ρ = .ok (.d (.tup [.str w, d])) ρ := by
  rw [ev.eq_3]
  simp only [evs, ev.eq_2, flatD, if_true, R.bind, kp, h, List.length_cons, List.length_nil, Nat.zero_add, Nat.reduceAdd, ln2]
theorem lp_step (fn : Fn) (ee : List E) (hl : ee.length ≤ 14) (rd : D) (T : Int) (w : List Nat) (s4 : EN.Slot) : ∃ s4', exs tb fn 2 lpB (lpE ee rd T (.d (.str (S w))) s4) = match ee.find? (ofL w) with
    | some e => .nx (lpE ee rd (T + e.p) (.d (.str (S w))) s4')
    | none => .rt (.d (.tup [.str (Str.ofString "edge"), .str (S w)])) (lpE ee rd T (.d (.str (S w))) s4') := by
  have hi : ∀ s4, evI tb fn 2 (.e (.var 0)) (lpE ee rd T (.d (.str (S w))) s4) = .ok (.d (.tup (ee.map E.d)), ee.map E.d) (lpE ee rd T (.d (.str (S w))) s4) := fun s4 => evI_d (ev_vd rfl) rfl (by rw [List.length_map]; unfold line; omega)
  have lc := ev_lcG (T := tb) (fn := fn) (np := 2) (elt := .ix (.var 5) (.lit (.int 3))) (i := 5) (hasIf := true) (c := .cmp .eq (.ix (.var 5) (.lit (.int 0))) (.var 3)) (ρ := lpE ee rd T (.d (.str (S w))) s4) E.d (ofL w) (fun e => .int e.p) (hi s4) (.inl rfl) (fun _ e he => by
      have c1 : ev tb fn 2 (.cmp .eq (.ix (.var 5) (.lit (.int 0))) (.var 3)) ((lpE ee rd T (.d (.str (S w))) s4).set 5 (.d e.d)) = .ok (.d (.bl (decide (e.lab = w)))) ((lpE ee rd T (.d (.str (S w))) s4).set 5 (.d e.d)) := ev_eqL rfl (i_lab e) rfl (eqD_str _ _)
      rw [c1]; rfl) (fun z => nomatch z) (fun e he _ => by rw [ev_ixL (d := e.d) rfl (i_p e)]; rfl)
  have h1 : ex tb fn 2 (.asg 4 lpL) (lpE ee rd T (.d (.str (S w))) s4) = .nx (lpE ee rd T (.d (.str (S w))) (.own (.lst ((ee.filter (ofL w)).map fun e => D.int e.p)))) := ex_asgF lc rfl
  refine ⟨.own (.lst ((ee.filter (ofL w)).map fun e => D.int e.p)), ?_⟩
  have hf : (ee.filter (ofL w)).head? = ee.find? (ofL w) := List.head?_filter
  have ol : opF .len [.lst ((ee.filter (ofL w)).map fun e => D.int e.p)] = some (.d (.int ((ee.filter (ofL w)).length : Int))) := by
    show some (IV.d (.int ((((ee.filter (ofL w)).map fun e => D.int e.p)).length : Int))) = _
    rw [List.length_map]
  have c1 : ev tb fn 2 lpC (lpE ee rd T (.d (.str (S w))) (.own (.lst ((ee.filter (ofL w)).map fun e => D.int e.p)))) = .ok (.d (.bl (decide (((ee.filter (ofL w)).length : Int) = 0)))) (lpE ee rd T (.d (.str (S w))) (.own (.lst ((ee.filter (ofL w)).map fun e => D.int e.p)))) := by
    unfold lpC lpE
    generalize ((ee.filter (ofL w)).length : Int) = m at *
    generalize (ee.filter (ofL w)).map (fun e => D.int e.p) = ps at *
    generalize ee.map E.d = dd at *
    simp only [ev.eq_8, ev.eq_21, evA, ev.eq_1, Env.at, List.getD_cons_zero, List.getD_cons_succ, R.bind, kpF, List.mapM_cons, List.mapM_nil, vw, Cn.toD, Option.pure_def, Option.bind_eq_bind, Option.bind_some, ol, R.val, ev.eq_2, flatD, if_true, seen, opC, eqD, eqS, R.bool]
  unfold lpB
  cases hq : ee.filter (ofL w) with
  | nil =>
    rw [hq] at hf h1 c1
    rw [← hf]
    dsimp only [List.head?_nil]
    refine (exs_cons h1).trans (exs_rt (ex_ifT c1 (exs_rt (ex_retD (ev_tup2 (ev_vd rfl))))))
  | cons e r =>
    rw [hq] at hf h1 c1
    rw [← hf]
    dsimp only [List.head?_cons]
    have nz : decide (((e :: r).length : Int) = 0) = false := decide_eq_false (by rw [List.length_cons]; omega)
    rw [nz] at c1
    refine (exs_cons h1).trans ((exs_cons (ex_no c1)).trans (exs_one (ex_asgD (d := .int (T + e.p)) (ρ1 := lpE ee rd T (.d (.str (S w))) (.own (.lst ((e :: r).map fun e => D.int e.p)))) ?_ rfl)))
    have i0 : opI (.lst ((e :: r).map fun e => D.int e.p)) (.int 0) = some (.int e.p) := at0 _ _
    unfold lpE
    generalize (e :: r).map (fun e => D.int e.p) = ps at *
    generalize ee.map E.d = dd at *
    simp only [ev.eq_6, ev.eq_18, ev.eq_1, Env.at, List.getD_cons_zero, List.getD_cons_succ, R.bind, kpF, kp, ev.eq_2, flatD, if_true, seen, vw, Cn.toD, i0, R.dat, opB, R.val]
theorem lp_loop (fn : Fn) (ee : List E) (hl : ee.length ≤ 14) (rd : D) : ∀ (ws : List (List Nat)) (T : Int) (s3 s4 : EN.Slot), ∃ s3' s4' T', forRun 2 3 (fun ρ => exs tb fn 2 lpB ρ) (sD ws) (lpE ee rd T s3 s4) = match prs ee ws with
    | .inl ps => .nx (lpE ee rd (T + ps.sum) s3' s4')
    | .inr w => .rt (.d (.tup [.str (Str.ofString "edge"), .str (S w)])) (lpE ee rd T' s3' s4')
  | [], T, s3, s4 => ⟨s3, s4, T, by
    show O.nx (lpE ee rd T s3 s4) = .nx (lpE ee rd (T + 0) s3 s4)
    rw [Int.add_zero]⟩
  | w :: ws, T, s3, s4 => by
    obtain ⟨s4', q⟩ := lp_step fn ee hl rd T w s4
    have hs : sD (w :: ws) = .str (S w) :: sD ws := rfl
    have st : EN.store 2 3 (lpE ee rd T s3 s4) (.d (.str (S w))) = .ok () (lpE ee rd T (.d (.str (S w))) s4) := rfl
    rw [hs]
    unfold prs
    cases hh : ee.find? (ofL w) with
    | none =>
      rw [hh] at q
      exact ⟨_, _, _, fr_rt st q⟩
    | some e =>
      rw [hh] at q
      obtain ⟨a, b, c, f⟩ := lp_loop fn ee hl rd ws (T + e.p) (.d (.str (S w))) s4'
      refine ⟨a, b, c, (fr_nx st q).trans (f.trans ?_)⟩
      cases prs ee ws with
      | inl ps => dsimp only; rw [List.sum_cons, Int.add_assoc]
      | inr w => rfl
theorem run_lprice (k : Nat) (ee : List E) (hl : ee.length ≤ 14) (ws : List (List Nat)) (hw : ws.length ≤ 100) : runF tb fds (k + 1) 27 [.d (.tup (ee.map E.d)), .d (.lst (sD ws))] = .ok (.d (pairR (dueP ee ws 0))) [.un, .un] := by
  obtain ⟨a, b, c, f⟩ := lp_loop (runF tb fds k) ee hl (.lst (sD ws)) ws 0 .un .un
  have h1 : ex tb (runF tb fds k) 2 (.asg 2 (.lit (.int 0))) [.d (.tup (ee.map E.d)), .d (.lst (sD ws)), .un, .un, .un, .un] = .nx (lpE ee (.lst (sD ws)) 0 .un .un) := ex_asgD (by rw [ev.eq_2]; rfl) rfl
  have hi : evI tb (runF tb fds k) 2 (.e (.var 1)) (lpE ee (.lst (sD ws)) 0 .un .un) = .ok (.d (.lst (sD ws)), sD ws) (lpE ee (.lst (sD ws)) 0 .un .un) := evI_d (ev_vd rfl) rfl (by rw [sD_len]; unfold line; omega)
  unfold dueP
  cases hp : prs ee ws with
  | inl ps =>
    rw [hp] at f
    refine run_rt (np := 2) (ns := 6) (b := b__law_price) (ρ := lpE ee (.lst (sD ws)) (0 + ps.sum) a b) (as := [.d (.tup (ee.map E.d)), .d (.lst (sD ws))]) rfl rfl ?_
    rw [b_lprice]
    exact (exs_cons h1).trans ((exs_cons (ex_for hi f)).trans (exs_rt (ex_retD (ev_tup2 (ev_vd rfl)))))
  | inr w =>
    rw [hp] at f
    refine run_rt (np := 2) (ns := 6) (b := b__law_price) (ρ := lpE ee (.lst (sD ws)) c a b) (as := [.d (.tup (ee.map E.d)), .d (.lst (sD ws))]) rfl rfl ?_
    rw [b_lprice]
    exact (exs_cons h1).trans (exs_rt (ex_for hi f))
end K05
namespace K05
open PySem EN
def aR (b : IE) : ISs := .cons (.ret (.tup (.cons (.lit (.str "")) (.cons b .nil)))) .nil
def c4 (f : Nat) : IE := .call f (.cons (.var 1) (.cons (.var 2) (.cons (.var 3) (.cons (.var 4) .nil))))
def c2 : IE := .call 11 (.cons (.var 1) (.cons (.var 4) .nil))
def aS (w n : String) : ISs := .cons (.ret (.tup (.cons (.ix (.lst (.cons (.lit (.str w)) (.cons (.lit (.str "none")) .nil))) (.bi .int (.cons (.not (.call 21 (.cons (.var 5) .nil))) .nil))) (.cons (.fld (.var 5) n) .nil)))) .nil
def aT : ISs := .cons (.ifS (.cmp .eq (.var 0) (.lit (.int 0))) (aR (c4 9)) .nil) (.cons (.ifS (.cmp .eq (.var 0) (.lit (.int 1))) (aR (c4 10)) .nil) (.cons (.ifS (.cmp .eq (.var 0) (.lit (.int 2))) (aR c2) .nil) (.cons (.ifS (.cmp .eq (.var 0) (.lit (.int 3))) (aR (c4 9)) .nil) (aR (c4 10)))))
def aH : IHs := .cons 3 5 (aS "node" "name") (.cons 4 5 (aS "edge" "label") .nil)
theorem b_asked : b__law_asked = .cons (.tryS aT aH) .nil := rfl
theorem m26' (j : Nat) : tb.md 26 j = 0 := rfl
/-- how a run ends, beside what is due -/
def Rs (p : Str × D) (r : FR) : Prop := match r with
  | .ok v _ => p.1 = Str.ofString "" ∧ v = .d p.2
  | .er c fs _ => (c = 3 ∧ ∃ z, fs = [z] ∧ p = (Str.ofString "node", z)) ∨ (c = 4 ∧ ∃ z, fs = [z] ∧ p = (Str.ofString "edge", z))
  | .no => False
theorem ev_kq (fn : Fn) (np : Nat) (a b : Int) (r : EN.Env) : ev tb fn np (.cmp .eq (.var 0) (.lit (.int b))) (.d (.int a) :: r) = .ok (.d (.bl (decide (a = b)))) (.d (.int a) :: r) := by
  rw [ev.eq_8, ev_vd (d := .int a) rfl]
  simp only [R.bind, kpF, ev.eq_2, flatD, if_true, seen, vw, opC, eqD, eqS, R.bool]
section
variable (k : Nat) (kind : Int) (gg x y v : D) (p : Str × D)
def aE (kind : Int) (gg x y v : D) : EN.Env := [.d (.int kind), .d gg, .d x, .d y, .d v, .un]
def OrP (ρ : EN.Env) (p : Str × D) (o : O) : Prop := o = .rt (.d (pairR p)) ρ ∨ (∃ z, o = .er 3 [z] ρ ∧ p = (Str.ofString "node", z)) ∨ (∃ z, o = .er 4 [z] ρ ∧ p = (Str.ofString "edge", z))
theorem ev_of {fn : Fn} {b : IE} {r : FR} (hb : ∀ w ps, r = .ok w ps → ev tb fn 5 b (aE kind gg x y v) = .ok w (aE kind gg x y v)) (he : ∀ c fs ps, r = .er c fs ps → ev tb fn 5 b (aE kind gg x y v) = .er c fs (aE kind gg x y v)) (h : Rs p r) : OrP (aE kind gg x y v) p (exs tb fn 5 (aR b) (aE kind gg x y v)) := by
  cases r with
  | ok w ps =>
    obtain ⟨h1, h2⟩ := h
    have e := hb w ps rfl
    subst h2
    left
    unfold pairR
    rw [h1]
    exact exs_rt (ex_retD (ev_tup2 e))
  | er c fs ps =>
    have e := he c fs ps rfl
    have go : exs tb fn 5 (aR b) (aE kind gg x y v) = .er c fs (aE kind gg x y v) := by
      refine exs_er ?_
      rw [ex.eq_9, ev.eq_3]
      simp only [evs, ev.eq_2, flatD, if_true, R.bind, kp, e, R.to]
    rcases h with ⟨rfl, z, rfl, h⟩ | ⟨rfl, z, rfl, h⟩
    · exact .inr (.inl ⟨z, go, h⟩)
    · exact .inr (.inr ⟨z, go, h⟩)
  | no => exact h.elim
theorem ev_c4 {fn : Fn} {f : Nat} {r : FR} (hm : ∀ j, tb.md f j = 0) (h : fn f [.d gg, .d x, .d y, .d v] = r) : (∀ w ps, r = .ok w ps → ev tb fn 5 (c4 f) (aE kind gg x y v) = .ok w (aE kind gg x y v)) ∧ (∀ c fs ps, r = .er c fs ps → ev tb fn 5 (c4 f) (aE kind gg x y v) = .er c fs (aE kind gg x y v)) := by
  refine ⟨fun w ps e => ?_, fun c fs ps e => ?_⟩
  · subst e
    unfold c4 aE
    simp [ev.eq_20, evA, ev.eq_1, Env.at, R.bind, kpF, callR, prep, prepV, handAll, handed, slotsOf, hm, h, backR, back]
  · subst e
    unfold c4 aE
    simp [ev.eq_20, evA, ev.eq_1, Env.at, R.bind, kpF, callR, prep, prepV, handAll, handed, slotsOf, hm, h, backR, back]
theorem ev_c2 {fn : Fn} {r : FR} (h : fn 11 [.d gg, .d v] = r) : (∀ w ps, r = .ok w ps → ev tb fn 5 c2 (aE kind gg x y v) = .ok w (aE kind gg x y v)) ∧ (∀ c fs ps, r = .er c fs ps → ev tb fn 5 c2 (aE kind gg x y v) = .er c fs (aE kind gg x y v)) := by
  refine ⟨fun w ps e => ?_, fun c fs ps e => ?_⟩
  · subst e
    unfold c2 aE
    simp [ev.eq_20, evA, ev.eq_1, Env.at, R.bind, kpF, callR, prep, prepV, handAll, handed, slotsOf, m11, h, backR, back]
  · subst e
    unfold c2 aE
    simp [ev.eq_20, evA, ev.eq_1, Env.at, R.bind, kpF, callR, prep, prepV, handAll, handed, slotsOf, m11, h, backR, back]
/-- the handlers -/
theorem aS_ok (c : Nat) (w n : String) (z : D) (hl : ∀ k fs, runF tb fds (k + 2) 21 [.exc c fs] = .ok (.d (.bl true)) [.un]) (hf : fieldE tb c [z] (Str.ofString n) = some z) : exs tb (runF tb fds (k + 2)) 5 (aS w n) [.d (.int kind), .d gg, .d x, .d y, .d v, .exc c [z]] = .rt (.d (.tup [.str (Str.ofString w), z])) [.d (.int kind), .d gg, .d x, .d y, .d v, .exc c [z]] := by
  have e1 := hl k [z]
  have i0 : opI (.lst [D.str (Str.ofString w), .str (Str.ofString "none")]) (.int 0) = some (.str (Str.ofString w)) := at0 _ _
  unfold aS
  generalize Str.ofString w = W at *
  generalize Str.ofString n = N at *
  generalize Str.ofString "none" = V at *
  refine exs_rt (ex_retD ?_)
  have h0 : ev tb (runF tb fds (k + 2)) 5 (.call 21 (.cons (.var 5) .nil)) [.d (.int kind), .d gg, .d x, .d y, .d v, .exc c [z]] = .ok (.d (.bl true)) [.d (.int kind), .d gg, .d x, .d y, .d v, .exc c [z]] := by
    simp [ev.eq_20, evA, ev.eq_1, Env.at, R.bind, kpF, callR, prep, prepV, handAll, handed, slotsOf, m22, e1, backR, back]
  have h1 : ev tb (runF tb fds (k + 2)) 5 (.ix (.lst (.cons (.lit (.str W)) (.cons (.lit (.str V)) .nil))) (.bi .int (.cons (.not (.call 21 (.cons (.var 5) .nil))) .nil))) [.d (.int kind), .d gg, .d x, .d y, .d v, .exc c [z]] = .ok (.d (.str W)) [.d (.int kind), .d gg, .d x, .d y, .d v, .exc c [z]] := by
    generalize IE.call 21 (.cons (.var 5) .nil) = L at *
    have l2 : [D.str W, D.str V].length ≤ line := ln2
    generalize hds : [D.str W, D.str V] = ds at *
    simp only [ev.eq_18, ev.eq_4, evs, ev.eq_2, flatD, if_true, R.bind, kp, hds, l2, kpF, Cn.toD, ev.eq_21, evA, ev.eq_16, h0, seen, vw, truD, Bool.not_true, List.mapM_cons, List.mapM_nil, Option.pure_def, Option.bind_eq_bind, Option.bind_some, opF, Bool.false_eq_true, if_false, R.val, i0, R.dat]
  have h2 : ev tb (runF tb fds (k + 2)) 5 (.fld (.var 5) N) [.d (.int kind), .d gg, .d x, .d y, .d v, .exc c [z]] = .ok (.d z) [.d (.int kind), .d gg, .d x, .d y, .d v, .exc c [z]] := by
    simp [ev.eq_23, ev.eq_1, Env.at, R.bind, kpF, fldR, excAt, hf, R.dat]
  rw [ev.eq_3]
  generalize IE.fld (.var 5) N = L2' at *
  generalize IE.ix (.lst (.cons (.lit (.str W)) (.cons (.lit (.str V)) .nil))) (.bi .int (.cons (.not (.call 21 (.cons (.var 5) .nil))) .nil)) = L1' at *
  simp only [evs, h1, h2, R.bind, kp, List.length_cons, List.length_nil, Nat.zero_add, Nat.reduceAdd, ln2, if_true]
theorem exh_ok (fn : Fn) (c : Nat) (w n : String) (z : D) (hs : IHs) (hc : c < 14) (hcc : tb.es c c = true) (h : exs tb fn 5 (aS w n) [.d (.int kind), .d gg, .d x, .d y, .d v, .exc c [z]] = .rt (.d (.tup [.str (Str.ofString w), z])) [.d (.int kind), .d gg, .d x, .d y, .d v, .exc c [z]]) :
    exh tb fn 5 (.cons c 5 (aS w n) hs) c [z] (aE kind gg x y v) = .rt (.d (.tup [.str (Str.ofString w), z])) (aE kind gg x y v) := by
  have nt : (aS w n).noTry = true := rfl
  have e1 : exh tb fn 5 (.cons c 5 (aS w n) hs) c [z] (aE kind gg x y v) = gone 5 (exs tb fn 5 (aS w n) [.d (.int kind), .d gg, .d x, .d y, .d v, .exc c [z]]) := by
    conv => lhs; unfold exh
    rw [if_pos ⟨hc, nt⟩, hcc]
    rfl
  rw [e1, h]
  rfl
theorem exh_skip (fn : Fn) (c c' : Nat) (w n : String) (z : D) (hs : IHs) (hc : c' < 14) (hcc : tb.es c c' = false) : exh tb fn 5 (.cons c' 5 (aS w n) hs) c [z] (aE kind gg x y v) = exh tb fn 5 hs c [z] (aE kind gg x y v) := by
  have nt : (aS w n).noTry = true := rfl
  conv => lhs; unfold exh
  rw [if_pos ⟨hc, nt⟩, hcc]
theorem asked_of (h : OrP (aE kind gg x y v) p (exs tb (runF tb fds (k + 2)) 5 aT (aE kind gg x y v))) : runF tb fds (k + 3) 26 [.d (.int kind), .d gg, .d x, .d y, .d v] = .ok (.d (pairR p)) [.un, .un, .un, .un, .un] := by
  refine run_rt (np := 5) (ns := 6) (b := b__law_asked) (ρ := aE kind gg x y v) (as := [.d (.int kind), .d gg, .d x, .d y, .d v]) rfl rfl ?_
  show exs tb (runF tb fds (k + 2)) 5 b__law_asked (aE kind gg x y v) = _
  rw [b_asked]
  refine exs_rt ?_
  rw [ex.eq_20]
  rcases h with h | ⟨z, h, rfl⟩ | ⟨z, h, rfl⟩
  · rw [h]
  · rw [h]
    exact exh_ok kind gg x y v _ 3 "node" "name" z _ (by omega) rfl (aS_ok k kind gg x y v 3 "node" "name" z (fun k fs => lone3 k fs) rfl)
  · rw [h]
    show exh tb (runF tb fds (k + 2)) 5 aH 4 [z] (aE kind gg x y v) = _
    unfold aH
    rw [exh_skip kind gg x y v _ 4 3 "node" "name" z _ (by omega) rfl]
    exact exh_ok kind gg x y v _ 4 "edge" "label" z _ (by omega) rfl (aS_ok k kind gg x y v 4 "edge" "label" z (fun k fs => lone4 k fs) rfl)
theorem run_asked (h0 : 0 ≤ kind) (h4 : kind ≤ 4) (hw : kind = 0 ∨ kind = 3 → Rs p (runF tb fds (k + 2) 9 [.d gg, .d x, .d y, .d v])) (hk : kind = 1 ∨ kind = 4 → Rs p (runF tb fds (k + 2) 10 [.d gg, .d x, .d y, .d v])) (hp : kind = 2 → Rs p (runF tb fds (k + 2) 11 [.d gg, .d v])) :
    runF tb fds (k + 3) 26 [.d (.int kind), .d gg, .d x, .d y, .d v] = .ok (.d (pairR p)) [.un, .un, .un, .un, .un] := by
  refine asked_of k kind gg x y v p ?_
  have kq := fun b => ev_kq (runF tb fds (k + 2)) 5 kind b [.d gg, .d x, .d y, .d v, .un]
  have T : ∀ {b : Int} {s : ISs} {r : ISs}, kind = b → OrP (aE kind gg x y v) p (exs tb (runF tb fds (k + 2)) 5 s (aE kind gg x y v)) → OrP (aE kind gg x y v) p (exs tb (runF tb fds (k + 2)) 5 (.cons (.ifS (.cmp .eq (.var 0) (.lit (.int b))) s .nil) r) (aE kind gg x y v)) := fun {b s r} hb h => by
    have q := kq b
    rw [decide_eq_true hb] at q
    rcases h with h | ⟨z, h, e⟩ | ⟨z, h, e⟩
    · exact .inl (exs_rt (ex_ifT q h))
    · exact .inr (.inl ⟨z, exs_er (ex_ifT q h), e⟩)
    · exact .inr (.inr ⟨z, exs_er (ex_ifT q h), e⟩)
  have N : ∀ {b : Int} {s : ISs} {r : ISs}, kind ≠ b → OrP (aE kind gg x y v) p (exs tb (runF tb fds (k + 2)) 5 r (aE kind gg x y v)) → OrP (aE kind gg x y v) p (exs tb (runF tb fds (k + 2)) 5 (.cons (.ifS (.cmp .eq (.var 0) (.lit (.int b))) s .nil) r) (aE kind gg x y v)) := fun {b s r} hb h => by
    have q := kq b
    rw [decide_eq_false hb] at q
    have e : exs tb (runF tb fds (k + 2)) 5 (.cons (.ifS (.cmp .eq (.var 0) (.lit (.int b))) s .nil) r) (aE kind gg x y v) = exs tb (runF tb fds (k + 2)) 5 r (aE kind gg x y v) := exs_cons (ex_no q)
    rw [e]
    exact h
  have fin : ∀ {f : Nat}, (∀ j, tb.md f j = 0) → Rs p (runF tb fds (k + 2) f [.d gg, .d x, .d y, .d v]) → OrP (aE kind gg x y v) p (exs tb (runF tb fds (k + 2)) 5 (aR (c4 f)) (aE kind gg x y v)) := fun {f} hm h => by
    obtain ⟨a, b⟩ := ev_c4 kind gg x y v (fn := runF tb fds (k + 2)) hm rfl
    exact ev_of kind gg x y v p a b h
  have fin2 : Rs p (runF tb fds (k + 2) 11 [.d gg, .d v]) → OrP (aE kind gg x y v) p (exs tb (runF tb fds (k + 2)) 5 (aR c2) (aE kind gg x y v)) := fun h => by
    obtain ⟨a, b⟩ := ev_c2 kind gg x y v (fn := runF tb fds (k + 2)) rfl
    exact ev_of kind gg x y v p a b h
  have : kind = 0 ∨ kind = 1 ∨ kind = 2 ∨ kind = 3 ∨ kind = 4 := by omega
  unfold aT
  rcases this with h | h | h | h | h
  · exact T h (fin m9 (hw (.inl h)))
  · exact N (by omega) (T h (fin m10 (hk (.inl h))))
  · exact N (by omega) (N (by omega) (T h (fin2 (hp h))))
  · exact N (by omega) (N (by omega) (N (by omega) (T h (fin m9 (hw (.inr h))))))
  · exact N (by omega) (N (by omega) (N (by omega) (N (by omega) (fin m10 (hk (.inr h))))))
end
section
variable {nd : List (List Nat)} {ee : List E} (g : Gr nd ee)
include g
theorem nam_ne {l : List Nat} (h : nam l) : l ≠ [] := by
  intro z
  subst z
  exact absurd h.1 (by decide)
theorem ends_ne : ∀ e ∈ ee, e.head ≠ [] ∧ e.tail ≠ [] := fun e he => ⟨nam_ne g (g.n2 _ (g.e2 e he).2.2.1), nam_ne g (g.n2 _ (g.e2 e he).2.1)⟩
theorem in_nd {l : List Nat} (h : l ∈ nd) : inS (.str (S l)) nd = true := List.any_eq_true.mpr ⟨l, h, decide_eq_true rfl⟩
/-- asked with nodes that are there -/
theorem ask_way (k : Nat) (kind : Int) (hk : kind = 0 ∨ kind = 3) {s t : List Nat} (hs : s ∈ nd) (ht : t ∈ nd) (v : D) (hv : Vl v) : runF tb fds (k + 4) 26 [.d (.int kind), .d (G nd ee), .d (.str (S s)), .d (.str (S t)), .d v] = .ok (.d (pairR (Str.ofString "", .bl (leadsV true ee s t v)))) [.un, .un, .un, .un, .un] := by
  refine run_asked (k + 1) kind _ _ _ v _ (by omega) (by omega) (fun _ => ?_) (fun z => by omega) (fun z => by omega)
  rw [run_way g k (in_nd g hs) (in_nd g ht) v hv, leads_PV (nam_ne g (g.n2 _ hs)) (nam_ne g (g.n2 _ ht)) (ends_ne g)]
  exact ⟨rfl, rfl⟩
theorem ask_walk (k : Nat) (kind : Int) (hk : kind = 1 ∨ kind = 4) {s t : List Nat} (hs : s ∈ nd) (ht : t ∈ nd) (v : D) (hv : Vl v) : runF tb fds (k + 4) 26 [.d (.int kind), .d (G nd ee), .d (.str (S s)), .d (.str (S t)), .d v] = .ok (.d (pairR (Str.ofString "", .bl (leadsV false ee s t v)))) [.un, .un, .un, .un, .un] := by
  refine run_asked (k + 1) kind _ _ _ v _ (by omega) (by omega) (fun z => by omega) (fun _ => ?_) (fun z => by omega)
  rw [run_walk g k (in_nd g hs) (in_nd g ht) v hv, leads_PV (nam_ne g (g.n2 _ hs)) (nam_ne g (g.n2 _ ht)) (ends_ne g)]
  exact ⟨rfl, rfl⟩
theorem ask_no1 (k : Nat) (kind : Int) (hk : kind = 0 ∨ kind = 1) {x y : D} (hx : Nm x) (hy : Nm y) (h : inS x nd = false) (v : D) : runF tb fds (k + 4) 26 [.d (.int kind), .d (G nd ee), .d x, .d y, .d v] = .ok (.d (pairR (Str.ofString "node", x))) [.un, .un, .un, .un, .un] := by
  refine run_asked (k + 1) kind _ _ _ v _ (by omega) (by omega) (fun _ => ?_) (fun _ => ?_) (fun z => by omega)
  · rw [(way_go g k hx hy v).1 h]
    exact .inl ⟨rfl, x, rfl, rfl⟩
  · rw [(walk_go g k hx hy v).1 h]
    exact .inl ⟨rfl, x, rfl, rfl⟩
theorem ask_no2 (k : Nat) (kind : Int) (hk : kind = 0 ∨ kind = 1) {x y : D} (hx : Nm x) (hy : Nm y) (h : inS x nd = true) (h2 : inS y nd = false) (v : D) : runF tb fds (k + 4) 26 [.d (.int kind), .d (G nd ee), .d x, .d y, .d v] = .ok (.d (pairR (Str.ofString "node", y))) [.un, .un, .un, .un, .un] := by
  refine run_asked (k + 1) kind _ _ _ v _ (by omega) (by omega) (fun _ => ?_) (fun _ => ?_) (fun z => by omega)
  · rw [(way_go g k hx hy v).2 h h2]
    exact .inl ⟨rfl, y, rfl, rfl⟩
  · rw [(walk_go g k hx hy v).2 h h2]
    exact .inl ⟨rfl, y, rfl, rfl⟩
theorem ask_price (k : Nat) (x y v : D) (ws : List (List Nat)) (hw : walkD v = some (sD ws)) (hl : ws.length ≤ 100) : runF tb fds (k + 4) 26 [.d (.int 2), .d (G nd ee), .d x, .d y, .d v] = .ok (.d (pairR (dueP ee ws 0))) [.un, .un, .un, .un, .un] := by
  refine run_asked (k + 1) 2 _ _ _ v _ (by omega) (by omega) (fun z => by omega) (fun z => by omega) (fun _ => ?_)
  rw [run_price g (k + 1) v ws hw hl]
  unfold dueP
  cases prs ee ws with
  | inl ps =>
    dsimp only
    rw [Int.zero_add]
    exact ⟨rfl, rfl⟩
  | inr w => exact .inr ⟨rfl, _, rfl, rfl⟩
end
end K05
namespace K05
open PySem EN
/-! labels that lead from a node -/
def drw (b : IE) : IE := .call 15 (.cons (.var 0) (.cons (.var 1) (.cons b .nil)))
def ln (e : IE) : IE := .bi .len (.cons e .nil)
def leF : IE := .lc (.ix (.var 8) (.lit (.int 0))) 8 (.e (.var 2)) true (.cmp .ne (.call 22 (.cons (.var 2) (.cons (.ix (.var 8) (.lit (.int 0))) (.cons (.var 3) (.cons (.var 4) .nil))))) (.lit (.str "")))
def leP : IE := .ix (.var 7) (drw (ln (.var 7)))
def leN : IE := .call 22 (.cons (.var 2) (.cons (.ix (.var 5) (.neg (.lit (.int 1)))) (.cons (.var 3) (.cons (.var 4) .nil))))
def leI : ISs := .cons (.app 5 leP) (.cons (.asg 3 leN) .nil)
def leB : ISs := .cons (.asg 7 leF) (.cons (.ifS (.cmp .gt (ln (.var 7)) (.lit (.int 0))) leI .nil) .nil)
theorem b_led : b__law_led = .cons (.asg 5 (.lst .nil)) (.cons (.forS 6 (.rng (drw (.lit (.int 13)))) leB) (.cons (.ret (.tup (.cons (.bi .tuple (.cons (.var 5) .nil)) (.cons (.var 3) .nil)))) .nil)) := rfl
theorem md24 : tb.md 24 0 = 0 ∧ tb.md 24 1 = 2 ∧ tb.md 24 2 = 0 ∧ tb.md 24 3 = 0 ∧ tb.md 24 4 = 0 := ⟨rfl, rfl, rfl, rfl, rfl⟩
theorem atI_last (xs : List D) (x : D) : L2.atI (xs ++ [x]) (-1) = some x := by
  unfold L2.atI L2.ixN
  have h1 : (1 : Int) ≤ (xs.length : Int) + 1 := by omega
  have h2 : (-1 + ((xs.length : Int) + 1)).toNat = xs.length := by omega
  simp [h1, h2]
section
variable (ns : List Int) {nd : List (List Nat)} {ee : List E} (g : Gr nd ee) (way : Bool)
def leE (ns : List Int) (ee : List E) (way : Bool) (s : Cn) (h : List Nat) (ls : List D) (s6 s7 : EN.Slot) : EN.Env := [.d (.scr ns), .own s, .d (.tup (ee.map E.d)), .d (.str (S h)), .d (.bl way), .own (.lst ls), s6, s7, .un]
def fit (way : Bool) (ee : List E) (h : List Nat) (e : E) : Bool := !decide (endL way ee e.lab h = [])
include g
theorem endL_nd {w h : List Nat} (z : endL way ee w h ≠ []) : endL way ee w h ∈ nd := by
  unfold endL at z ⊢
  cases q : ee.findSome? (hit way w h) with
  | none => rw [q] at z; exact absurd rfl z
  | some h' =>
    obtain ⟨e, he, hh⟩ := hit_mem q
    rcases hh with rfl | rfl
    · exact (g.e2 e he).2.2.1
    · exact (g.e2 e he).2.1
theorem le_fits (k : Nat) (s : Cn) (h : List Nat) (ls : List D) (s6 s7 : EN.Slot) : ev tb (runF tb fds (k + 1)) 5 leF (leE ns ee way s h ls s6 s7) = .ok (.fr (.lst (sD ((ee.filter (fit way ee h)).map E.lab)))) (leE ns ee way s h ls s6 s7) := by
  have le : ee.length ≤ 14 := by have := g.e3; omega
  have hi : evI tb (runF tb fds (k + 1)) 5 (.e (.var 2)) (leE ns ee way s h ls s6 s7) = .ok (.d (.tup (ee.map E.d)), ee.map E.d) (leE ns ee way s h ls s6 s7) := evI_d (ev_vd rfl) rfl (by rw [List.length_map]; unfold line; omega)
  have key := ev_lcG (T := tb) (fn := runF tb fds (k + 1)) (np := 5) (elt := .ix (.var 8) (.lit (.int 0))) (i := 8) (hasIf := true) (c := .cmp .ne (.call 22 (.cons (.var 2) (.cons (.ix (.var 8) (.lit (.int 0))) (.cons (.var 3) (.cons (.var 4) .nil))))) (.lit (.str ""))) (ρ := leE ns ee way s h ls s6 s7) E.d (fit way ee h) (fun e => .str (S e.lab)) hi (.inl rfl) (fun _ e he => by
      have q := run_end k ee le e.lab h way
      have i0 := i_lab e
      have on : opC .ne (.str (S (endL way ee e.lab h))) (.str (Str.ofString "")) = some (fit way ee h e) := by
        show (eqD (.str (S (endL way ee e.lab h))) (.str (Str.ofString ""))).map (!·) = _
        rw [S_nil, eqD_str]; rfl
      show (ev tb (runF tb fds (k + 1)) 5 _ [.d (.scr ns), .own s, .d (.tup (ee.map E.d)), .d (.str (S h)), .d (.bl way), .own (.lst ls), s6, s7, .d e.d]).tru = .ok _ [.d (.scr ns), .own s, .d (.tup (ee.map E.d)), .d (.str (S h)), .d (.bl way), .own (.lst ls), s6, s7, .d e.d]
      generalize fit way ee h e = b at *
      generalize S (endL way ee e.lab h) = R0 at *
      generalize S e.lab = L0 at *
      generalize S h = H0 at *
      generalize D.tup (ee.map E.d) = dd at *
      generalize e.d = de at *
      generalize Str.ofString "" = Z0 at *
      simp [ev.eq_8, ev.eq_20, ev.eq_18, evA, ev.eq_1, ev.eq_2, Env.at, R.bind, kpF, kp, flatD, seen, vw, i0, R.dat, callR, prep, prepV, handAll, handed, slotsOf, m23', q, backR, back, on, R.bool, truD]) (fun z => nomatch z) (fun e he _ => by
      show (ev tb (runF tb fds (k + 1)) 5 (.ix (.var 8) (.lit (.int 0))) [.d (.scr ns), .own s, .d (.tup (ee.map E.d)), .d (.str (S h)), .d (.bl way), .own (.lst ls), s6, s7, .d e.d]).kept 5 = _
      rw [ev_ixL (d := e.d) rfl (i_lab e)]; rfl)
  have fm : ((ee.filter (fit way ee h)).map fun e => D.str (S e.lab)) = sD ((ee.filter (fit way ee h)).map E.lab) := by unfold sD; rw [List.map_map]; rfl
  rw [fm] at key
  exact key
theorem le_step (k : Nat) {s : Cn} (o : Ok s) (h : List Nat) (hh : h ∈ nd) (ls : List (List Nat)) (hl : ls.length < 100) (s6 s7 : EN.Slot) : ∃ (s' : Cn) (h' : List Nat) (ls' : List (List Nat)) (s7' : EN.Slot), Ok s' ∧ h' ∈ nd ∧ ls'.length ≤ ls.length + 1 ∧
    exs tb (runF tb fds (k + 2)) 5 leB (leE ns ee way s h (sD ls) s6 s7) = .nx (leE ns ee way s' h' (sD ls') s6 s7') := by
  have le : ee.length ≤ 14 := by have := g.e3; omega
  have h1 : ex tb (runF tb fds (k + 2)) 5 (.asg 7 leF) (leE ns ee way s h (sD ls) s6 s7) = .nx (leE ns ee way s h (sD ls) s6 (.own (.lst (sD ((ee.filter (fit way ee h)).map E.lab))))) := ex_asgF (le_fits ns g way (k + 1) s h (sD ls) s6 s7) rfl
  generalize hF : (ee.filter (fit way ee h)).map E.lab = F at h1
  have hFl : F.length ≤ 14 := by
    rw [← hF, List.length_map]
    have := List.length_filter_le (fit way ee h) ee
    omega
  have ol : opF .len [.lst (sD F)] = some (.d (.int (F.length : Int))) := by
    show some (IV.d (.int ((sD F).length : Int))) = _
    rw [sD_len]
  have lv : ∀ s, ev tb (runF tb fds (k + 2)) 5 (ln (.var 7)) (leE ns ee way s h (sD ls) s6 (.own (.lst (sD F)))) = .ok (.d (.int (F.length : Int))) (leE ns ee way s h (sD ls) s6 (.own (.lst (sD F)))) := fun s => by
    unfold ln leE
    generalize (F.length : Int) = m at *
    generalize sD F = df at *
    generalize sD ls = dl at *
    generalize D.tup (ee.map E.d) = dd at *
    simp only [ev.eq_21, evA, ev.eq_1, Env.at, List.getD_cons_zero, List.getD_cons_succ, R.bind, kpF, List.mapM_cons, List.mapM_nil, vw, Cn.toD, Option.pure_def, Option.bind_eq_bind, Option.bind_some, ol, R.val]
  have c1 : ev tb (runF tb fds (k + 2)) 5 (.cmp .gt (ln (.var 7)) (.lit (.int 0))) (leE ns ee way s h (sD ls) s6 (.own (.lst (sD F)))) = .ok (.d (.bl (decide (0 < (F.length : Int))))) (leE ns ee way s h (sD ls) s6 (.own (.lst (sD F)))) := by
    rw [ev.eq_8, lv s]
    simp only [R.bind, kpF, ev.eq_2, flatD, if_true, seen, vw, opC, R.bool]
  unfold leB
  by_cases hz : F.length = 0
  · rw [decide_eq_false (by omega)] at c1
    exact ⟨s, h, ls, _, o, hh, by omega, exs_two h1 (ex_no c1)⟩
  · rw [decide_eq_true (by omega)] at c1
    obtain ⟨x, s', x0, x1, o', e⟩ := draw k ns o (F.length : Int) (by omega) (by omega)
    obtain ⟨w, hw, iw⟩ := sD_at x0 x1
    have hw2 : endL way ee w h ≠ [] := by
      rw [← hF] at hw
      obtain ⟨q, hq, rfl⟩ := List.mem_map.mp hw
      have := (List.mem_filter.mp hq).2
      unfold fit at this
      simpa using this
    have q := run_end (k + 1) ee le w h way
    have dv : ev tb (runF tb fds (k + 2)) 5 (drw (ln (.var 7))) (leE ns ee way s h (sD ls) s6 (.own (.lst (sD F)))) = .ok (.d (.int x)) (leE ns ee way s' h (sD ls) s6 (.own (.lst (sD F)))) := by
      have lv := lv s
      unfold drw
      unfold leE at *
      generalize (F.length : Int) = m at *
      generalize sD F = df at *
      generalize sD ls = dl at *
      generalize D.tup (ee.map E.d) = dd at *
      simp [ev.eq_20, evA, ev.eq_1, Env.at, R.bind, kpF, lv, callR, prep, prepV, handAll, handed, slotsOf, md0, md1, md2, e, backR, back]
    have iw : opI (.lst (sD F)) (.int x) = some (.str (S w)) := iw
    have h2 : ev tb (runF tb fds (k + 2)) 5 leP (leE ns ee way s h (sD ls) s6 (.own (.lst (sD F)))) = .ok (.d (.str (S w))) (leE ns ee way s' h (sD ls) s6 (.own (.lst (sD F)))) := by
      unfold leP
      rw [ev.eq_18]
      have v7 : ev tb (runF tb fds (k + 2)) 5 (.var 7) (leE ns ee way s h (sD ls) s6 (.own (.lst (sD F)))) = .ok (.sl 7) (leE ns ee way s h (sD ls) s6 (.own (.lst (sD F)))) := by
        rw [ev.eq_1]; rfl
      have w7 : vw (leE ns ee way s' h (sD ls) s6 (.own (.lst (sD F)))) (.sl 7) = some (.lst (sD F)) := rfl
      rw [v7]
      simp only [R.bind, kpF, dv, kp, seen, w7, iw, R.dat]
    have l1 : (sD ls).length < line := by rw [sD_len]; unfold line; omega
    have h3 : ex tb (runF tb fds (k + 2)) 5 (.app 5 leP) (leE ns ee way s h (sD ls) s6 (.own (.lst (sD F)))) = .nx (leE ns ee way s' h (sD ls ++ [.str (S w)]) s6 (.own (.lst (sD F)))) := by
      rw [ex.eq_8]
      have o1 : isLst ((leE ns ee way s h (sD ls) s6 (.own (.lst (sD F)))).at 5) = true := rfl
      have o2 : (leE ns ee way s' h (sD ls) s6 (.own (.lst (sD F)))).at 5 = .own (.lst (sD ls)) := rfl
      rw [o1, h2]
      simp only [R.bind, kp, R.to, o2, l1, if_true]
      rfl
    have la := atI_last (sD ls) (.str (S w))
    have la : opI (.lst (sD ls ++ [.str (S w)])) (.int (-1)) = some (.str (S w)) := la
    have h4 : ev tb (runF tb fds (k + 2)) 5 leN (leE ns ee way s' h (sD ls ++ [.str (S w)]) s6 (.own (.lst (sD F)))) = .ok (.d (.str (S (endL way ee w h)))) (leE ns ee way s' h (sD ls ++ [.str (S w)]) s6 (.own (.lst (sD F)))) := by
      unfold leN leE
      generalize sD ls ++ [.str (S w)] = dl at *
      generalize S (endL way ee w h) = R0 at *
      generalize S w = W0' at *
      generalize S h = H0 at *
      generalize sD F = df at *
      generalize D.tup (ee.map E.d) = dd at *
      simp [ev.eq_20, ev.eq_18, ev.eq_7, evA, ev.eq_1, ev.eq_2, Env.at, R.bind, kpF, kp, flatD, seen, vw, Cn.toD, la, R.dat, callR, prep, prepV, handAll, handed, slotsOf, m23', q, backR, back]
    have h5 : ex tb (runF tb fds (k + 2)) 5 (.asg 3 leN) (leE ns ee way s' h (sD ls ++ [.str (S w)]) s6 (.own (.lst (sD F)))) = .nx (leE ns ee way s' (endL way ee w h) (sD ls ++ [.str (S w)]) s6 (.own (.lst (sD F)))) := ex_asgD h4 rfl
    refine ⟨s', endL way ee w h, ls ++ [w], .own (.lst (sD F)), o', endL_nd g way hw2, by simp, ?_⟩
    have : sD (ls ++ [w]) = sD ls ++ [.str (S w)] := by unfold sD; rw [List.map_append]; rfl
    rw [this]
    exact exs_two h1 (ex_ifT c1 (exs_two h3 h5))
theorem le_loop (k : Nat) : ∀ (xs : List D) {s : Cn} (o : Ok s) (h : List Nat) (hh : h ∈ nd) (ls : List (List Nat)) (hl : ls.length + xs.length ≤ 50) (s6 s7 : EN.Slot), ∃ (s' : Cn) (h' : List Nat) (ls' : List (List Nat)) (s6' s7' : EN.Slot), Ok s' ∧ h' ∈ nd ∧ ls'.length ≤ ls.length + xs.length ∧
    forRun 5 6 (fun ρ => exs tb (runF tb fds (k + 2)) 5 leB ρ) xs (leE ns ee way s h (sD ls) s6 s7) = .nx (leE ns ee way s' h' (sD ls') s6' s7')
  | [], s, o, h, hh, ls, hl, s6, s7 => ⟨s, h, ls, s6, s7, o, hh, Nat.le_refl _, rfl⟩
  | x :: xs, s, o, h, hh, ls, hl, s6, s7 => by
    have hl : ls.length + (xs.length + 1) ≤ 50 := hl
    obtain ⟨s1, h1, ls1, t7, o1, hh1, hl1, q⟩ := le_step ns g way k o h hh ls (by omega) (.d x) s7
    obtain ⟨s2, h2, ls2, a, b, o2, hh2, hl2, f⟩ := le_loop k xs o1 h1 hh1 ls1 (by omega) (.d x) t7
    refine ⟨s2, h2, ls2, a, b, o2, hh2, by rw [List.length_cons]; omega, ?_⟩
    have st : EN.store 5 6 (leE ns ee way s h (sD ls) s6 s7) (.d x) = .ok () (leE ns ee way s h (sD ls) (.d x) s7) := rfl
    exact (fr_nx st q).trans f
theorem run_led (k : Nat) {s : Cn} (o : Ok s) (h : List Nat) (hh : h ∈ nd) : ∃ (s' : Cn) (h' : List Nat) (ls : List (List Nat)), Ok s' ∧ h' ∈ nd ∧ ls.length ≤ 12 ∧
    runF tb fds (k + 3) 24 [.d (.scr ns), .own s, .d (.tup (ee.map E.d)), .d (.str (S h)), .d (.bl way)] = .ok (.d (.tup [.tup (sD ls), .str (S h')])) [.un, .own s', .un, .un, .un] := by
  obtain ⟨x, s1, x0, x1, o1, e⟩ := draw k ns o 13 (by omega) (by omega)
  have xl : (rngD 0 x).length ≤ 12 := by rw [rng_list, List.length_map, List.length_range]; omega
  obtain ⟨s2, h2, ls2, a, b, o2, hh2, hl2, f⟩ := le_loop ns g way k (rngD 0 x) o1 h hh [] (by simp; omega) .un .un
  refine ⟨s2, h2, ls2, o2, hh2, by simp at hl2; omega, ?_⟩
  refine run_rt (np := 5) (ns := 9) (b := b__law_led) (ρ := leE ns ee way s2 h2 (sD ls2) a b) (as := [.d (.scr ns), .own s, .d (.tup (ee.map E.d)), .d (.str (S h)), .d (.bl way)]) rfl rfl ?_
  have h0 : ex tb (runF tb fds (k + 2)) 5 (.asg 5 (.lst .nil)) [.d (.scr ns), .own s, .d (.tup (ee.map E.d)), .d (.str (S h)), .d (.bl way), .un, .un, .un, .un] = .nx (leE ns ee way s h (sD []) .un .un) := ex_asgF (c := .lst []) (by rw [ev.eq_4]; rfl) rfl
  have hd : ev tb (runF tb fds (k + 2)) 5 (drw (.lit (.int 13))) (leE ns ee way s h (sD []) .un .un) = .ok (.d (.int x)) (leE ns ee way s1 h (sD []) .un .un) := by
    unfold drw leE
    generalize D.tup (ee.map E.d) = dd at *
    simp [ev.eq_20, evA, ev.eq_1, ev.eq_2, flatD, Env.at, R.bind, kpF, callR, prep, prepV, handAll, handed, slotsOf, md0, md1, md2, e, backR, back]
  have hi := evI_rng hd (rng_ok x0 (by omega))
  have hr : ev tb (runF tb fds (k + 2)) 5 (.tup (.cons (.bi .tuple (.cons (.var 5) .nil)) (.cons (.var 3) .nil))) (leE ns ee way s2 h2 (sD ls2) a b) = .ok (.d (.tup [.tup (sD ls2), .str (S h2)])) (leE ns ee way s2 h2 (sD ls2) a b) := by
    have ot : ∀ xs : List D, opF .tuple [.lst xs] = some (.d (.tup xs)) := fun _ => rfl
    have l2 : ∀ x y : D, [x, y].length ≤ line := fun _ _ => ln2
    unfold leE
    generalize sD ls2 = dl at *
    generalize D.tup (ee.map E.d) = dd at *
    simp only [ev.eq_3, evs, ev.eq_21, evA, ev.eq_1, Env.at, List.getD_cons_zero, List.getD_cons_succ, R.bind, kpF, kp, List.mapM_cons, List.mapM_nil, vw, Cn.toD, Option.pure_def, Option.bind_eq_bind, Option.bind_some, ot, R.val, l2, if_true]
  rw [b_led]
  exact (exs_cons h0).trans ((exs_cons (ex_for hi f)).trans (exs_rt (ex_retD hr)))
end
end K05
namespace K05
open PySem EN
/-! labels with one thing changed -/
theorem ev_drw {fn : Fn} {np : Nat} {B : IE} {ns : List Int} {s s' : Cn} {r : EN.Env} {x m : Int} (hB : ev tb fn np B (.d (.scr ns) :: .own s :: r) = .ok (.d (.int m)) (.d (.scr ns) :: .own s :: r)) (e : fn 15 [.d (.scr ns), .own s, .d (.int m)] = .ok (.d (.int x)) [.un, .own s', .un]) :
    ev tb fn np (drw B) (.d (.scr ns) :: .own s :: r) = .ok (.d (.int x)) (.d (.scr ns) :: .own s' :: r) := by
  unfold drw
  simp [ev.eq_20, evA, ev.eq_1, Env.at, R.bind, kpF, hB, callR, prep, prepV, handAll, handed, slotsOf, md0, md1, md2, e, backR, back]
theorem ev_li {fn : Fn} {np : Nat} (i : Int) (ρ : EN.Env) : ev tb fn np (.lit (.int i)) ρ = .ok (.d (.int i)) ρ := by
  rw [ev.eq_2]; rfl
theorem ev_ls {fn : Fn} {np : Nat} (z : Str) (ρ : EN.Env) : ev tb fn np (.lit (.str z)) ρ = .ok (.d (.str z)) ρ := by
  rw [ev.eq_2]; rfl
/-- one of a row -/
theorem ev_pick (k : Nat) {np : Nat} {A B : IE} {ns : List Int} {s : Cn} (o : Ok s) {r : EN.Env} (v : IV) (w : List D) (hA : ev tb (runF tb fds (k + 2)) np A (.d (.scr ns) :: .own s :: r) = .ok v (.d (.scr ns) :: .own s :: r)) (hv : v = .fr (.lst w) ∨ v = .d (.lst w) ∨ v = .d (.tup w))
    (hB : ev tb (runF tb fds (k + 2)) np B (.d (.scr ns) :: .own s :: r) = .ok (.d (.int (w.length : Int))) (.d (.scr ns) :: .own s :: r)) (h0 : 0 < w.length) (h1 : w.length < 1000) :
    ∃ (s' : Cn) (y : D), Ok s' ∧ y ∈ w ∧ ev tb (runF tb fds (k + 2)) np (.ix A (drw B)) (.d (.scr ns) :: .own s :: r) = .ok (.d y) (.d (.scr ns) :: .own s' :: r) := by
  obtain ⟨x, s', x0, x1, o', e⟩ := draw k ns o (w.length : Int) (by omega) (by omega)
  obtain ⟨y, hy, i1⟩ := at_mem (xs := w) x0 x1
  have hd := ev_drw hB e
  refine ⟨s', y, o', hy, ?_⟩
  rw [ev.eq_18, hA]
  rcases hv with rfl | rfl | rfl
  · have i1 : opI (Cn.toD (.lst w)) (.int x) = some y := i1
    simp only [R.bind, kpF, hd, kp, seen, vw, i1, R.dat]
  · have i1 : opI (.lst w) (.int x) = some y := i1
    simp only [R.bind, kpF, hd, kp, seen, vw, i1, R.dat]
  · have i1 : opI (.tup w) (.int x) = some y := i1
    simp only [R.bind, kpF, hd, kp, seen, vw, i1, R.dat]
section
variable {fn : Fn} {np : Nat} {ρ : EN.Env}
theorem ev_addT {a b : IE} {xs ys : List D} (h1 : ev tb fn np a ρ = .ok (.d (.tup xs)) ρ) (h2 : ev tb fn np b ρ = .ok (.d (.tup ys)) ρ) (hl : xs.length + ys.length ≤ line) : ev tb fn np (.bin .add a b) ρ = .ok (.d (.tup (xs ++ ys))) ρ := by
  have := opB_tt xs ys hl
  rw [ev.eq_6, h1]
  simp only [R.bind, kpF, h2, seen, vw, this, R.val]
theorem ev_addI {a b : IE} {x y : Int} (h1 : ev tb fn np a ρ = .ok (.d (.int x)) ρ) (h2 : ev tb fn np b ρ = .ok (.d (.int y)) ρ) : ev tb fn np (.bin .add a b) ρ = .ok (.d (.int (x + y))) ρ := by
  rw [ev.eq_6, h1]
  simp only [R.bind, kpF, h2, seen, vw, opB, R.val]
theorem ev_eqI {i : Nat} {x : Int} (n : Int) (h : ρ.at i = .d (.int x)) : ev tb fn np (.cmp .eq (.var i) (.lit (.int n))) ρ = .ok (.d (.bl (decide (x = n)))) ρ := by
  rw [ev.eq_8, ev_vd h]
  simp only [R.bind, kpF, ev_li, seen, vw, opC, eqD, eqS, R.bool]
theorem ev_ltI {i : Nat} {x : Int} (n : Int) (h : ρ.at i = .d (.int x)) : ev tb fn np (.cmp .lt (.var i) (.lit (.int n))) ρ = .ok (.d (.bl (decide (x < n)))) ρ := by
  rw [ev.eq_8, ev_vd h]
  simp only [R.bind, kpF, ev_li, seen, vw, opC, R.bool]
def Prt (fn : Fn) (np : Nat) (ρ : EN.Env) (e : IE) (o : Option Int) : Prop := prtR np e.nl (fun ρ => ev tb fn np e ρ) ρ = .ok o ρ
theorem prt_n : Prt fn np ρ (.lit .non) none := rfl
theorem prt_e {e : IE} {i : Int} (hn : e.nl = false) (h : ev tb fn np e ρ = .ok (.d (.int i)) ρ) : Prt fn np ρ e (some i) := by
  unfold Prt
  rw [hn]
  simp only [prtR, h, R.bind, kp]
theorem ev_slT {i : Nat} {lo hi : IE} {xs : List D} {l h : Option Int} (hx : ρ.at i = .d (.tup xs)) (h1 : Prt fn np ρ lo l) (h2 : Prt fn np ρ hi h) : ev tb fn np (.slc (.var i) lo hi) ρ = .ok (.d (.tup (cut xs l h))) ρ := by
  unfold Prt at h1 h2
  rw [ev.eq_19, ev_vd hx]
  simp only [R.bind, kpF, h1, h2, seen, vw, opS, R.val]
theorem ev_tup1 {a : IE} {x : D} (h : ev tb fn np a ρ = .ok (.d x) ρ) : ev tb fn np (.tup (.cons a .nil)) ρ = .ok (.d (.tup [x])) ρ := by
  rw [ev.eq_3]
  simp only [evs, h, R.bind, kp, List.length_cons, List.length_nil, Nat.zero_add, ln1, if_true]
theorem ev_lst1 {a : IE} {x : D} (h : ev tb fn np a ρ = .ok (.d x) ρ) : (ev tb fn np (.lst (.cons a .nil)) ρ).kept np = .ok (.lst [x]) ρ := by
  rw [ev.eq_4]
  simp only [evs, h, R.bind, kp, List.length_cons, List.length_nil, Nat.zero_add, ln1, if_true]
  rfl
end
/-- items that may stand in labels, at most n -/
def VT (n : Nat) (xs : List D) : Prop := xs.length ≤ n ∧ ∀ x ∈ xs, isTyN x = true
theorem VT.vl {n : Nat} {xs : List D} (h : VT n xs) (hn : n ≤ 100) : Vl (.tup xs) := ⟨rfl, fun ys e => by cases e; exact ⟨Nat.le_trans h.1 hn, h.2⟩⟩
theorem VT.cut {n : Nat} {xs : List D} (h : VT n xs) (l r : Option Int) : VT n (cut xs l r) := by
  unfold EN.cut
  refine ⟨?_, fun x hx => h.2 x (List.mem_of_mem_drop (List.mem_of_mem_take hx))⟩
  rw [List.length_take, List.length_drop]
  have := h.1
  omega
theorem VT.app {n m : Nat} {xs ys : List D} (h : VT n xs) (h2 : VT m ys) : VT (n + m) (xs ++ ys) := ⟨by rw [List.length_append]; have := h.1; have := h2.1; omega, fun x hx => (List.mem_append.mp hx).elim (h.2 x) (h2.2 x)⟩
theorem VT.one {x : D} (h : isTyN x = true) : VT 1 [x] := ⟨Nat.le_refl _, fun y hy => by rw [List.mem_singleton.mp hy]; exact h⟩
theorem VT.sD {ls : List (List Nat)} {n : Nat} (h : ls.length ≤ n) : VT n (sD ls) := ⟨by rw [sD_len]; exact h, fun x hx => by
  obtain ⟨l, _, rfl⟩ := List.mem_map.mp hx
  rfl⟩
theorem VT.le {n m : Nat} {xs : List D} (h : VT n xs) (hl : n ≤ m) : VT m xs := ⟨Nat.le_trans h.1 hl, h.2⟩
def sq1 : IS := .asg 4 (drw (.lit (.int 10)))
def sq2 : IS := .asg 5 (drw (.bin .add (ln (.var 2)) (.lit (.int 1))))
def sq3A : IE := .bin .add (.var 3) (.lst (.cons (.lit (.str "zzzzzzzz")) .nil))
def sq3 : IS := .asg 6 (.ix sq3A (drw (.bin .add (ln (.var 3)) (.lit (.int 1)))))
def sr1 : IE := .bin .add (.bin .add (.slc (.var 2) (.lit .non) (.var 5)) (.tup (.cons (.var 6) .nil))) (.slc (.var 2) (.bin .add (.var 5) (.var 4)) (.lit .non))
def sr2 : IE := .bin .add (.slc (.var 2) (.lit .non) (.var 5)) (.slc (.var 2) (.bin .add (.var 5) (.lit (.int 1))) (.lit .non))
def sr3 : IE := .bin .add (.bin .add (.slc (.var 2) (.lit .non) (.var 5)) (.slc (.var 2) (.var 5) (.bin .add (.var 5) (.lit (.int 1))))) (.slc (.var 2) (.var 5) (.lit .non))
def sr4 : IE := .revT (.bi .list (.cons (.var 2) .nil))
def sr5 : IE := .bin .add (.var 2) (.var 2)
def sq7A : IE := .lst (.cons (.lit .non) (.cons (.lit (.int 0)) (.cons (.lit (.bl true)) (.cons (.tup (.cons (.var 6) .nil)) (.cons (.lst (.cons (.var 6) .nil)) (.cons (.lit (.str "A")) (.cons (.lit (.str "")) .nil)))))))
def sq7 : IS := .asg 7 (.ix sq7A (drw (.lit (.int 7))))
def sr6 : IE := .bin .add (.bin .add (.slc (.var 2) (.lit .non) (.var 5)) (.tup (.cons (.var 7) .nil))) (.slc (.var 2) (.var 5) (.lit .non))
def sr7A : IE := .lst (.cons (.bi .list (.cons (.var 2) .nil)) (.cons (.lit .non) (.cons (.lit (.int 5)) (.cons (.var 6) (.cons (.lit (.bl true)) (.cons (.lit (.str "")) (.cons (.tup (.cons (.var 2) .nil)) .nil)))))))
def sr7 : IE := .ix sr7A (drw (.lit (.int 7)))
def pkI (n : Int) (e : IE) : IS := .ifS (.cmp .eq (.var 4) (.lit (.int n))) (.cons (.ret e) .nil) .nil
theorem b_spoilt : b__law_spoilt = .cons sq1 (.cons sq2 (.cons sq3 (.cons (.ifS (.cmp .lt (.var 4) (.lit (.int 2))) (.cons (.ret sr1) .nil) .nil) (.cons (pkI 2 sr2) (.cons (pkI 3 sr3) (.cons (pkI 4 sr4) (.cons (pkI 5 sr5) (.cons sq7 (.cons (pkI 6 sr6) (.cons (pkI 7 sr7) (.cons (.ret (.var 2)) .nil))))))))))) := rfl
theorem md25 : tb.md 25 0 = 0 ∧ tb.md 25 1 = 2 ∧ tb.md 25 2 = 0 ∧ tb.md 25 3 = 0 := ⟨rfl, rfl, rfl, rfl⟩
def spE (ns : List Int) (s : Cn) (T kn : List D) (s4 s5 s6 s7 : EN.Slot) : EN.Env := [.d (.scr ns), .own s, .d (.tup T), .d (.lst kn), s4, s5, s6, s7]
theorem evs7 {fn : Fn} {np : Nat} {a b c d e f g : IE} {ρ : EN.Env} {A B C X Y Z W : D} (h1 : (ev tb fn np a ρ).kept np = .ok A ρ) (h2 : (ev tb fn np b ρ).kept np = .ok B ρ) (h3 : (ev tb fn np c ρ).kept np = .ok C ρ) (h4 : (ev tb fn np d ρ).kept np = .ok X ρ) (h5 : (ev tb fn np e ρ).kept np = .ok Y ρ) (h6 : (ev tb fn np f ρ).kept np = .ok Z ρ) (h7 : (ev tb fn np g ρ).kept np = .ok W ρ) :
    ev tb fn np (.lst (.cons a (.cons b (.cons c (.cons d (.cons e (.cons f (.cons g .nil)))))))) ρ = .ok (.fr (.lst [A, B, C, X, Y, Z, W])) ρ := by
  have l7 : [A, B, C, X, Y, Z, W].length ≤ line := by show 7 ≤ line; decide
  rw [ev.eq_4]
  simp only [evs]
  rw [h1]
  simp only [R.bind]
  rw [h2]
  simp only [R.bind]
  rw [h3]
  simp only [R.bind]
  rw [h4]
  simp only [R.bind]
  rw [h5]
  simp only [R.bind]
  rw [h6]
  simp only [R.bind]
  rw [h7]
  simp only [R.bind, l7, if_true]
theorem kept_d {fn : Fn} {np : Nat} {a : IE} {ρ : EN.Env} {x : D} (h : ev tb fn np a ρ = .ok (.d x) ρ) : (ev tb fn np a ρ).kept np = .ok x ρ := by
  rw [h]; rfl
section
variable (k : Nat) (ns : List Int) (ls : List (List Nat)) (hl : ls.length ≤ 12) (kn : List (List Nat)) (hk : kn.length ≤ 14)
include hl
theorem sp_ln {fn : Fn} (s : Cn) (s4 s5 s6 s7 : EN.Slot) : ev tb fn 4 (ln (.var 2)) (spE ns s (sD ls) (sD kn) s4 s5 s6 s7) = .ok (.d (.int (ls.length : Int))) (spE ns s (sD ls) (sD kn) s4 s5 s6 s7) := by
  have ol : opF .len [.tup (sD ls)] = some (.d (.int (ls.length : Int))) := by
    show some (IV.d (.int ((sD ls).length : Int))) = _
    rw [sD_len]
  unfold ln spE
  generalize (ls.length : Int) = m at *
  generalize sD ls = dl at *
  generalize sD kn = dk at *
  simp only [ev.eq_21, evA, ev.eq_1, Env.at, List.getD_cons_zero, List.getD_cons_succ, R.bind, kpF, List.mapM_cons, List.mapM_nil, vw, Option.pure_def, Option.bind_eq_bind, Option.bind_some, ol, R.val]
theorem sp_lk {fn : Fn} (s : Cn) (s4 s5 s6 s7 : EN.Slot) : ev tb fn 4 (ln (.var 3)) (spE ns s (sD ls) (sD kn) s4 s5 s6 s7) = .ok (.d (.int (kn.length : Int))) (spE ns s (sD ls) (sD kn) s4 s5 s6 s7) := by
  have ol : opF .len [.lst (sD kn)] = some (.d (.int (kn.length : Int))) := by
    show some (IV.d (.int ((sD kn).length : Int))) = _
    rw [sD_len]
  unfold ln spE
  generalize (kn.length : Int) = m at *
  generalize sD ls = dl at *
  generalize sD kn = dk at *
  simp only [ev.eq_21, evA, ev.eq_1, Env.at, List.getD_cons_zero, List.getD_cons_succ, R.bind, kpF, List.mapM_cons, List.mapM_nil, vw, Option.pure_def, Option.bind_eq_bind, Option.bind_some, ol, R.val]
include hk
theorem run_spoilt {s : Cn} (o : Ok s) : ∃ (s' : Cn) (v : D), Ok s' ∧ Vl v ∧ runF tb fds (k + 3) 25 [.d (.scr ns), .own s, .d (.tup (sD ls)), .d (.lst (sD kn))] = .ok (.d v) [.un, .own s', .un, .un] := by
  obtain ⟨p, s1, p0, p1, o1, e1⟩ := draw k ns o 10 (by omega) (by omega)
  obtain ⟨a, s2, a0, a1, o2, e2⟩ := draw k ns o1 ((ls.length : Int) + 1) (by omega) (by omega)
  have go : ∀ {v : D} {s' : Cn} {ρ}, exs tb (runF tb fds (k + 2)) 4 b__law_spoilt (spE ns s (sD ls) (sD kn) .un .un .un .un) = .rt (.d v) ρ → mask [.d (.scr ns), .own s, .d (.tup (sD ls)), .d (.lst (sD kn))] ρ = [.un, .own s', .un, .un] → runF tb fds (k + 3) 25 [.d (.scr ns), .own s, .d (.tup (sD ls)), .d (.lst (sD kn))] = .ok (.d v) [.un, .own s', .un, .un] := fun {v s' ρ} e m => by
    rw [← m]
    exact run_rt (np := 4) (ns := 8) (b := b__law_spoilt) rfl rfl e
  rw [b_spoilt] at go
  have h1 : ex tb (runF tb fds (k + 2)) 4 sq1 (spE ns s (sD ls) (sD kn) .un .un .un .un) = .nx (spE ns s1 (sD ls) (sD kn) (.d (.int p)) .un .un .un) := ex_asgD (ev_drw (ev_li _ _) e1) rfl
  have h2 : ex tb (runF tb fds (k + 2)) 4 sq2 (spE ns s1 (sD ls) (sD kn) (.d (.int p)) .un .un .un) = .nx (spE ns s2 (sD ls) (sD kn) (.d (.int p)) (.d (.int a)) .un .un) := ex_asgD (ev_drw (ev_addI (sp_ln ns ls hl kn s1 _ _ _ _) (ev_li _ _)) e2) rfl
  have hA : ev tb (runF tb fds (k + 2)) 4 sq3A (spE ns s2 (sD ls) (sD kn) (.d (.int p)) (.d (.int a)) .un .un) = .ok (.fr (.lst (sD kn ++ [.str (Str.ofString "zzzzzzzz")]))) (spE ns s2 (sD ls) (sD kn) (.d (.int p)) (.d (.int a)) .un .un) := by
    have l1 : (sD kn).length + 1 ≤ line := by rw [sD_len]; unfold line; omega
    have lz : opB .add (.lst (sD kn)) (.lst [.str (Str.ofString "zzzzzzzz")]) = some (.fr (.lst (sD kn ++ [.str (Str.ofString "zzzzzzzz")]))) := if_pos l1
    have l3 : [D.str (Str.ofString "zzzzzzzz")].length ≤ line := ln1
    unfold sq3A spE
    generalize sD kn ++ [.str (Str.ofString "zzzzzzzz")] = w at *
    generalize sD kn = l at *
    generalize sD ls = dl at *
    generalize hz : [D.str (Str.ofString "zzzzzzzz")] = az at *
    simp only [ev.eq_6, ev.eq_1, Env.at, List.getD_cons_zero, List.getD_cons_succ, R.bind, kpF, ev.eq_4, evs, ev.eq_2, flatD, if_true, kp, hz, l3, seen, vw, Cn.toD, lz, R.val]
  have hB := ev_addI (sp_lk ns ls hl kn (fn := runF tb fds (k + 2)) s2 (.d (.int p)) (.d (.int a)) .un .un) (ev_li 1 _)
  have wl : ((sD kn ++ [D.str (Str.ofString "zzzzzzzz")]).length : Int) = (kn.length : Int) + 1 := by rw [List.length_append, sD_len]; rfl
  rw [← wl] at hB
  obtain ⟨s3, y, o3, hy, e3⟩ := ev_pick k (A := sq3A) o2 _ _ hA (.inl rfl) hB (by simp) (by rw [List.length_append, sD_len]; simp; omega)
  have ny : isTyN y = true := by
    rcases List.mem_append.mp hy with h | h
    · obtain ⟨l, _, rfl⟩ := List.mem_map.mp h; rfl
    · rw [List.mem_singleton.mp h]; rfl
  have h3 : ex tb (runF tb fds (k + 2)) 4 sq3 (spE ns s2 (sD ls) (sD kn) (.d (.int p)) (.d (.int a)) .un .un) = .nx (spE ns s3 (sD ls) (sD kn) (.d (.int p)) (.d (.int a)) (.d y) .un) := ex_asgD e3 rfl
  have vT : VT 12 (sD ls) := VT.sD hl
  have q : ∀ xs ys : List D, VT 40 xs → VT 40 ys → xs.length + ys.length ≤ line := fun xs ys h1 h2 => by have := h1.1; have := h2.1; unfold line; omega
  have cl : ∀ l r, VT 12 (cut (sD ls) l r) := fun l r => vT.cut l r
  -- the slices
  have sa : ∀ s7 s, ev tb (runF tb fds (k + 2)) 4 (.slc (.var 2) (.lit .non) (.var 5)) (spE ns s (sD ls) (sD kn) (.d (.int p)) (.d (.int a)) (.d y) s7) = .ok (.d (.tup (cut (sD ls) none (some a)))) (spE ns s (sD ls) (sD kn) (.d (.int p)) (.d (.int a)) (.d y) s7) := fun s7 s => ev_slT rfl prt_n (prt_e rfl (ev_vd rfl))
  have sb : ∀ s7 s, ev tb (runF tb fds (k + 2)) 4 (.slc (.var 2) (.var 5) (.lit .non)) (spE ns s (sD ls) (sD kn) (.d (.int p)) (.d (.int a)) (.d y) s7) = .ok (.d (.tup (cut (sD ls) (some a) none))) (spE ns s (sD ls) (sD kn) (.d (.int p)) (.d (.int a)) (.d y) s7) := fun s7 s => ev_slT rfl (prt_e rfl (ev_vd rfl)) prt_n
  have pre := fun r : ISs => (exs_cons h1 (ss := .cons sq2 (.cons sq3 r))).trans ((exs_cons h2 (ss := .cons sq3 r)).trans (exs_cons h3 (ss := r)))
  have ci : ∀ s s7 n, ev tb (runF tb fds (k + 2)) 4 (.cmp .eq (.var 4) (.lit (.int n))) (spE ns s (sD ls) (sD kn) (.d (.int p)) (.d (.int a)) (.d y) s7) = .ok (.d (.bl (decide (p = n)))) (spE ns s (sD ls) (sD kn) (.d (.int p)) (.d (.int a)) (.d y) s7) := fun s s7 n => ev_eqI n rfl
  have yes : ∀ {s s7 n e v ρ r}, p = n → ev tb (runF tb fds (k + 2)) 4 e (spE ns s (sD ls) (sD kn) (.d (.int p)) (.d (.int a)) (.d y) s7) = .ok (.d v) ρ → exs tb (runF tb fds (k + 2)) 4 (.cons (pkI n e) r) (spE ns s (sD ls) (sD kn) (.d (.int p)) (.d (.int a)) (.d y) s7) = .rt (.d v) ρ := fun {s s7 n e v ρ r} h1 h2 => by
    have c := ci s s7 n
    rw [decide_eq_true h1] at c
    exact exs_rt (ex_ifT c (exs_rt (ex_retD h2)))
  have no : ∀ {s s7 n e r}, p ≠ n → exs tb (runF tb fds (k + 2)) 4 (.cons (pkI n e) r) (spE ns s (sD ls) (sD kn) (.d (.int p)) (.d (.int a)) (.d y) s7) = exs tb (runF tb fds (k + 2)) 4 r (spE ns s (sD ls) (sD kn) (.d (.int p)) (.d (.int a)) (.d y) s7) := fun {s s7 n e r} h1 => by
    have c := ci s s7 n
    rw [decide_eq_false h1] at c
    exact exs_cons (ex_no c)
  have clt : ev tb (runF tb fds (k + 2)) 4 (.cmp .lt (.var 4) (.lit (.int 2))) (spE ns s3 (sD ls) (sD kn) (.d (.int p)) (.d (.int a)) (.d y) .un) = .ok (.d (.bl (decide (p < 2)))) (spE ns s3 (sD ls) (sD kn) (.d (.int p)) (.d (.int a)) (.d y) .un) := ev_ltI 2 rfl
  by_cases q1 : p < 2
  · rw [decide_eq_true q1] at clt
    have r1 : ev tb (runF tb fds (k + 2)) 4 sr1 (spE ns s3 (sD ls) (sD kn) (.d (.int p)) (.d (.int a)) (.d y) .un) = .ok (.d (.tup ((cut (sD ls) none (some a) ++ [y]) ++ cut (sD ls) (some (a + p)) none))) _ :=
      ev_addT (ev_addT (sa _ _) (ev_tup1 (ev_vd rfl)) (q _ _ ((cl _ _).le (by omega)) ((VT.one ny).le (by omega)))) (ev_slT rfl (prt_e rfl (ev_addI (ev_vd rfl) (ev_vd rfl))) prt_n) (q _ _ (((cl _ _).app (VT.one ny)).le (by omega)) ((cl _ _).le (by omega)))
    exact ⟨s3, _, o3, (((cl _ _).app (VT.one ny)).app (cl _ _)).vl (by omega), go ((pre _).trans (exs_rt (ex_ifT clt (exs_rt (ex_retD r1))))) rfl⟩
  rw [decide_eq_false q1] at clt
  have pre2 := fun r : ISs => (pre (.cons (.ifS (.cmp .lt (.var 4) (.lit (.int 2))) (.cons (.ret sr1) .nil) .nil) r)).trans (exs_cons (ex_no clt))
  by_cases q2 : p = 2
  · have r2 : ev tb (runF tb fds (k + 2)) 4 sr2 (spE ns s3 (sD ls) (sD kn) (.d (.int p)) (.d (.int a)) (.d y) .un) = .ok (.d (.tup (cut (sD ls) none (some a) ++ cut (sD ls) (some (a + 1)) none))) _ :=
      ev_addT (sa _ _) (ev_slT rfl (prt_e rfl (ev_addI (ev_vd rfl) (ev_li _ _))) prt_n) (q _ _ ((cl _ _).le (by omega)) ((cl _ _).le (by omega)))
    exact ⟨s3, _, o3, ((cl _ _).app (cl _ _)).vl (by omega), go ((pre2 _).trans (yes q2 r2)) rfl⟩
  by_cases q3 : p = 3
  · have r3 : ev tb (runF tb fds (k + 2)) 4 sr3 (spE ns s3 (sD ls) (sD kn) (.d (.int p)) (.d (.int a)) (.d y) .un) = .ok (.d (.tup ((cut (sD ls) none (some a) ++ cut (sD ls) (some a) (some (a + 1))) ++ cut (sD ls) (some a) none))) _ :=
      ev_addT (ev_addT (sa _ _) (ev_slT rfl (prt_e rfl (ev_vd rfl)) (prt_e rfl (ev_addI (ev_vd rfl) (ev_li _ _)))) (q _ _ ((cl _ _).le (by omega)) ((cl _ _).le (by omega)))) (sb _ _) (q _ _ (((cl _ _).app (cl _ _)).le (by omega)) ((cl _ _).le (by omega)))
    exact ⟨s3, _, o3, (((cl _ _).app (cl _ _)).app (cl _ _)).vl (by omega), go ((pre2 _).trans ((no q2).trans (yes q3 r3))) rfl⟩
  by_cases q4 : p = 4
  · have r4 : ev tb (runF tb fds (k + 2)) 4 sr4 (spE ns s3 (sD ls) (sD kn) (.d (.int p)) (.d (.int a)) (.d y) .un) = .ok (.d (.tup (sD ls).reverse)) (spE ns s3 (sD ls) (sD kn) (.d (.int p)) (.d (.int a)) (.d y) .un) := by
      have ot : ∀ xs : List D, opF .list [.tup xs] = some (.fr (.lst xs)) := fun _ => rfl
      unfold sr4 spE
      generalize sD ls = dl at *
      generalize sD kn = dk at *
      simp only [ev.eq_28, ev.eq_21, evA, ev.eq_1, Env.at, List.getD_cons_zero, List.getD_cons_succ, R.bind, kpF, List.mapM_cons, List.mapM_nil, vw, Option.pure_def, Option.bind_eq_bind, Option.bind_some, ot, R.val, Cn.toD, seen]
    have vr : VT 12 (sD ls).reverse := ⟨by rw [List.length_reverse]; exact vT.1, fun x hx => vT.2 x (List.mem_reverse.mp hx)⟩
    exact ⟨s3, _, o3, vr.vl (by omega), go ((pre2 _).trans ((no q2).trans ((no q3).trans (yes q4 r4)))) rfl⟩
  by_cases q5 : p = 5
  · have r5 : ev tb (runF tb fds (k + 2)) 4 sr5 (spE ns s3 (sD ls) (sD kn) (.d (.int p)) (.d (.int a)) (.d y) .un) = .ok (.d (.tup (sD ls ++ sD ls))) _ := ev_addT (ev_vd rfl) (ev_vd rfl) (q _ _ (vT.le (by omega)) (vT.le (by omega)))
    exact ⟨s3, _, o3, (vT.app vT).vl (by omega), go ((pre2 _).trans ((no q2).trans ((no q3).trans ((no q4).trans (yes q5 r5))))) rfl⟩
  have pre5 := fun r : ISs => (pre2 (.cons (pkI 2 sr2) (.cons (pkI 3 sr3) (.cons (pkI 4 sr4) (.cons (pkI 5 sr5) r))))).trans ((no q2).trans ((no q3).trans ((no q4).trans (no q5))))
  -- another value
  have h7A : ev tb (runF tb fds (k + 2)) 4 sq7A (spE ns s3 (sD ls) (sD kn) (.d (.int p)) (.d (.int a)) (.d y) .un) = .ok (.fr (.lst [.non, .int 0, .bl true, .tup [y], .lst [y], .str (Str.ofString "A"), .str (Str.ofString "")])) (spE ns s3 (sD ls) (sD kn) (.d (.int p)) (.d (.int a)) (.d y) .un) :=
    evs7 (kept_d (by rw [ev.eq_2]; rfl)) (kept_d (ev_li _ _)) (kept_d (ev_lb _ _ _ _)) (kept_d (ev_tup1 (ev_vd rfl))) (ev_lst1 (ev_vd rfl)) (kept_d (ev_ls _ _)) (kept_d (ev_ls _ _))
  obtain ⟨s4, z, o4, hz, e4⟩ := ev_pick k (A := sq7A) (B := .lit (.int 7)) o3 _ _ h7A (.inl rfl) (ev_li 7 _) (by simp) (by simp)
  have nz : isTyN z = true := by
    simp only [List.mem_cons, List.not_mem_nil, or_false] at hz
    rcases hz with rfl | rfl | rfl | rfl | rfl | rfl | rfl <;> rfl
  have h7 : ex tb (runF tb fds (k + 2)) 4 sq7 (spE ns s3 (sD ls) (sD kn) (.d (.int p)) (.d (.int a)) (.d y) .un) = .nx (spE ns s4 (sD ls) (sD kn) (.d (.int p)) (.d (.int a)) (.d y) (.d z)) := ex_asgD e4 rfl
  have pre7 := fun r : ISs => (pre5 (.cons sq7 r)).trans (exs_cons h7)
  by_cases q6 : p = 6
  · have r6 : ev tb (runF tb fds (k + 2)) 4 sr6 (spE ns s4 (sD ls) (sD kn) (.d (.int p)) (.d (.int a)) (.d y) (.d z)) = .ok (.d (.tup ((cut (sD ls) none (some a) ++ [z]) ++ cut (sD ls) (some a) none))) _ :=
      ev_addT (ev_addT (sa _ _) (ev_tup1 (ev_vd rfl)) (q _ _ ((cl _ _).le (by omega)) ((VT.one nz).le (by omega)))) (sb _ _) (q _ _ (((cl _ _).app (VT.one nz)).le (by omega)) ((cl _ _).le (by omega)))
    exact ⟨s4, _, o4, (((cl _ _).app (VT.one nz)).app (cl _ _)).vl (by omega), go ((pre7 _).trans (yes q6 r6)) rfl⟩
  by_cases q7 : p = 7
  · have hl7 : (ev tb (runF tb fds (k + 2)) 4 (.bi .list (.cons (.var 2) .nil)) (spE ns s4 (sD ls) (sD kn) (.d (.int p)) (.d (.int a)) (.d y) (.d z))).kept 4 = .ok (.lst (sD ls)) (spE ns s4 (sD ls) (sD kn) (.d (.int p)) (.d (.int a)) (.d y) (.d z)) := by
      have ot : ∀ xs : List D, opF .list [.tup xs] = some (.fr (.lst xs)) := fun _ => rfl
      unfold spE
      generalize sD ls = dl at *
      generalize sD kn = dk at *
      simp only [ev.eq_21, evA, ev.eq_1, Env.at, List.getD_cons_zero, List.getD_cons_succ, R.bind, kpF, List.mapM_cons, List.mapM_nil, vw, Option.pure_def, Option.bind_eq_bind, Option.bind_some, ot, R.val, Cn.toD, kp]
    have h8A : ev tb (runF tb fds (k + 2)) 4 sr7A (spE ns s4 (sD ls) (sD kn) (.d (.int p)) (.d (.int a)) (.d y) (.d z)) = .ok (.fr (.lst [.lst (sD ls), .non, .int 5, y, .bl true, .str (Str.ofString ""), .tup [.tup (sD ls)]])) (spE ns s4 (sD ls) (sD kn) (.d (.int p)) (.d (.int a)) (.d y) (.d z)) :=
      evs7 hl7 (kept_d (by rw [ev.eq_2]; rfl)) (kept_d (ev_li _ _)) (kept_d (ev_vd rfl)) (kept_d (ev_lb _ _ _ _)) (kept_d (ev_ls _ _)) (kept_d (ev_tup1 (ev_vd rfl)))
    obtain ⟨s5, w, o5, hw, e5⟩ := ev_pick k (A := sr7A) (B := .lit (.int 7)) o4 _ _ h8A (.inl rfl) (ev_li 7 _) (by simp) (by simp)
    have ys : ∃ t, y = .str t := by
      rcases List.mem_append.mp hy with h | h
      · obtain ⟨l, _, rfl⟩ := List.mem_map.mp h; exact ⟨_, rfl⟩
      · exact ⟨_, List.mem_singleton.mp h⟩
    have vw' : Vl w := by
      obtain ⟨t, rfl⟩ := ys
      simp only [List.mem_cons, List.not_mem_nil, or_false] at hw
      have nt : ∀ d : D, isTyN d = true → (∀ xs, d ≠ .tup xs) → Vl d := fun d h1 h2 => ⟨h1, fun xs e => absurd e (h2 xs)⟩
      rcases hw with rfl | rfl | rfl | rfl | rfl | rfl | rfl
      · exact nt _ rfl fun _ => D.noConfusion
      · exact nt _ rfl fun _ => D.noConfusion
      · exact nt _ rfl fun _ => D.noConfusion
      · exact nt _ rfl fun _ => D.noConfusion
      · exact nt _ rfl fun _ => D.noConfusion
      · exact nt _ rfl fun _ => D.noConfusion
      · exact (VT.one (x := .tup (sD ls)) rfl).vl (by omega)
    exact ⟨s5, w, o5, vw', go ((pre7 _).trans ((no q6).trans (yes q7 e5))) rfl⟩
  · exact ⟨s4, _, o4, vT.vl (by omega), go ((pre7 _).trans ((no q6).trans ((no q7).trans (exs_rt (ex_retD (ev_vd rfl)))))) rfl⟩
end
end K05
namespace K05
open PySem EN
/-! one turn of the law -/
abbrev F59 : Fn := runF tb fds 59
def LE (ns : List Int) (nd : List (List Nat)) (ee : List E) (s : Cn) (s5 s7 s8 s9 s10 s11 s12 s13 s14 s15 s16 s18 s19 : EN.Slot) : EN.Env :=
  [.d (.scr ns), .own s, .d (.tup (sD nd)), .d (.tup (ee.map E.d)), .d (G nd ee), s5, .un, s7, s8, s9, s10, s11, s12, s13, s14, s15, s16, .un, s18, s19]
theorem ev_call5 {fn : Fn} {np f : Nat} {a b c d e : IE} {ρ ρ1 : EN.Env} {x1 x2 x3 x4 x5 : D} {v : IV} {ps : EN.Env} (hm : ∀ j, tb.md f j = 0) (h1 : ev tb fn np a ρ = .ok (.d x1) ρ) (h2 : ev tb fn np b ρ = .ok (.d x2) ρ) (h3 : ev tb fn np c ρ = .ok (.d x3) ρ) (h4 : ev tb fn np d ρ = .ok (.d x4) ρ1) (h5 : ev tb fn np e ρ1 = .ok (.d x5) ρ1)
    (hf : fn f [.d x1, .d x2, .d x3, .d x4, .d x5] = .ok v ps) : ev tb fn np (.call f (.cons a (.cons b (.cons c (.cons d (.cons e .nil)))))) ρ = .ok v ρ1 := by
  simp [ev.eq_20, evA, h1, h2, h3, h4, h5, R.bind, kpF, callR, prep, prepV, handAll, handed, slotsOf, hm, hf, backR, back]
theorem ev_call2 {fn : Fn} {np f : Nat} {a b : IE} {ρ ρ1 ρ2 : EN.Env} {x1 x2 : D} {v : IV} {ps : EN.Env} (hm : ∀ j, tb.md f j = 0) (h1 : ev tb fn np a ρ = .ok (.d x1) ρ1) (h2 : ev tb fn np b ρ1 = .ok (.d x2) ρ2) (hf : fn f [.d x1, .d x2] = .ok v ps) : ev tb fn np (.call f (.cons a (.cons b .nil))) ρ = .ok v ρ2 := by
  simp [ev.eq_20, evA, h1, h2, R.bind, kpF, callR, prep, prepV, handAll, handed, slotsOf, hm, hf, backR, back]
def ckS (A B : IE) : IS := .ifS (.not (.call 19 (.cons A (.cons B .nil)))) ldR .nil
theorem ck_ok {A B : IE} {ρ ρ1 ρ2 : EN.Env} {p : Str × D} (hp : AL p.2) (h1 : ev tb F59 1 A ρ = .ok (.d (pairR p)) ρ1) (h2 : ev tb F59 1 B ρ1 = .ok (.d (pairR p)) ρ2) : ex tb F59 1 (ckS A B) ρ = .nx ρ2 := by
  have e := al_pair 56 p.1 p.2 hp
  simp only [Nat.reduceAdd] at e
  exact ex_no (ev_not (ev_call2 m20 h1 h2 e))
def ask (kk : IE) (a b c : IE) : IE := .call 26 (.cons kk (.cons (.var 4) (.cons a (.cons b (.cons c .nil)))))
def lead (b c : IE) (way : Bool) : IE := .call 23 (.cons (.var 3) (.cons (.var 8) (.cons b (.cons c (.cons (.lit (.bl way)) .nil)))))
def dueT (b c : IE) (way : Bool) : IE := .tup (.cons (.lit (.str "")) (.cons (lead b c way) .nil))
section
variable (ns : List Int) {nd : List (List Nat)} {ee : List E} (g : Gr nd ee)
include g
theorem ee14 : ee.length ≤ 14 := by have := g.e3; omega
theorem ev_due {ρ : EN.Env} {s0 t : List Nat} {v : D} (way : Bool) (hv : Vl v) {b c : IE} (r3 : ρ.at 3 = .d (.tup (ee.map E.d))) (r8 : ρ.at 8 = .d (.str (S s0))) (hb : ev tb F59 1 b ρ = .ok (.d (.str (S t))) ρ) (hc : ev tb F59 1 c ρ = .ok (.d v) ρ) :
    ev tb F59 1 (dueT b c way) ρ = .ok (.d (pairR (Str.ofString "", .bl (leadsV way ee s0 t v)))) ρ := by
  have e := run_lleads 57 ee (ee14 g) s0 t v way hv
  simp only [Nat.reduceAdd] at e
  exact ev_tup2 (ev_call5 m24' (ev_vd r3) (ev_vd r8) hb hc (ev_lb _ _ _ _) e)
theorem ev_ask {ρ : EN.Env} {s0 t : List Nat} (hs : s0 ∈ nd) (ht : t ∈ nd) {v : D} (kind : Int) (way : Bool) (hk : (way = true ∧ (kind = 0 ∨ kind = 3)) ∨ (way = false ∧ (kind = 1 ∨ kind = 4))) (hv : Vl v) {kk b c : IE} (r4 : ρ.at 4 = .d (G nd ee)) (r8 : ρ.at 8 = .d (.str (S s0)))
    (hkk : ev tb F59 1 kk ρ = .ok (.d (.int kind)) ρ) (hb : ev tb F59 1 b ρ = .ok (.d (.str (S t))) ρ) (hc : ev tb F59 1 c ρ = .ok (.d v) ρ) :
    ev tb F59 1 (ask kk (.var 8) b c) ρ = .ok (.d (pairR (Str.ofString "", .bl (leadsV way ee s0 t v)))) ρ := by
  refine ev_call5 m26' hkk (ev_vd r4) (ev_vd r8) hb hc (ps := [.un, .un, .un, .un, .un]) ?_
  rcases hk with ⟨rfl, hk⟩ | ⟨rfl, hk⟩
  · have e := ask_way g 55 kind hk hs ht v hv
    simp only [Nat.reduceAdd] at e
    exact e
  · have e := ask_walk g 55 kind hk hs ht v hv
    simp only [Nat.reduceAdd] at e
    exact e
def i2B : ISs := .cons (.asg 14 (dueT (.var 13) (.var 12) true)) (.cons (.asg 15 (dueT (.var 13) (.var 12) false)) (.cons (ckS (ask (.lit (.int 0)) (.var 8) (.var 13) (.var 12)) (.var 14)) (.cons (ckS (ask (.lit (.int 1)) (.var 8) (.var 13) (.var 12)) (.var 15)) .nil)))
theorem i2_ok (s : Cn) (s5 s7 s9 s10 s11 s14 s15 s16 s18 s19 : EN.Slot) {s0 t : List Nat} (hs : s0 ∈ nd) (ht : t ∈ nd) {v : D} (hv : Vl v) : ∃ s14' s15', exs tb F59 1 i2B (LE ns nd ee s s5 s7 (.d (.str (S s0))) s9 s10 s11 (.d v) (.d (.str (S t))) s14 s15 s16 s18 s19) = .nx (LE ns nd ee s s5 s7 (.d (.str (S s0))) s9 s10 s11 (.d v) (.d (.str (S t))) s14' s15' s16 s18 s19) := by
  refine ⟨.d (pairR (Str.ofString "", .bl (leadsV true ee s0 t v))), .d (pairR (Str.ofString "", .bl (leadsV false ee s0 t v))), ?_⟩
  have e1 := ev_due (ρ := LE ns nd ee s s5 s7 (.d (.str (S s0))) s9 s10 s11 (.d v) (.d (.str (S t))) s14 s15 s16 s18 s19) g true hv (b := .var 13) (c := .var 12) rfl rfl (ev_vd rfl) (ev_vd rfl)
  have h1 : ex tb F59 1 (.asg 14 (dueT (.var 13) (.var 12) true)) (LE ns nd ee s s5 s7 (.d (.str (S s0))) s9 s10 s11 (.d v) (.d (.str (S t))) s14 s15 s16 s18 s19) = .nx (LE ns nd ee s s5 s7 (.d (.str (S s0))) s9 s10 s11 (.d v) (.d (.str (S t))) (.d (pairR (Str.ofString "", .bl (leadsV true ee s0 t v)))) s15 s16 s18 s19) := ex_asgD e1 rfl
  generalize hd1 : pairR (Str.ofString "", .bl (leadsV true ee s0 t v)) = d1 at *
  have e2 := ev_due (ρ := LE ns nd ee s s5 s7 (.d (.str (S s0))) s9 s10 s11 (.d v) (.d (.str (S t))) (.d d1) s15 s16 s18 s19) g false hv (b := .var 13) (c := .var 12) rfl rfl (ev_vd rfl) (ev_vd rfl)
  have h2 : ex tb F59 1 (.asg 15 (dueT (.var 13) (.var 12) false)) (LE ns nd ee s s5 s7 (.d (.str (S s0))) s9 s10 s11 (.d v) (.d (.str (S t))) (.d d1) s15 s16 s18 s19) = .nx (LE ns nd ee s s5 s7 (.d (.str (S s0))) s9 s10 s11 (.d v) (.d (.str (S t))) (.d d1) (.d (pairR (Str.ofString "", .bl (leadsV false ee s0 t v)))) s16 s18 s19) := ex_asgD e2 rfl
  generalize hd2 : pairR (Str.ofString "", .bl (leadsV false ee s0 t v)) = d2 at *
  have a1 := ev_ask (ρ := LE ns nd ee s s5 s7 (.d (.str (S s0))) s9 s10 s11 (.d v) (.d (.str (S t))) (.d d1) (.d d2) s16 s18 s19) g hs ht 0 true (.inl ⟨rfl, .inl rfl⟩) hv (kk := .lit (.int 0)) (b := .var 13) (c := .var 12) rfl rfl (ev_li _ _) (ev_vd rfl) (ev_vd rfl)
  have a2 := ev_ask (ρ := LE ns nd ee s s5 s7 (.d (.str (S s0))) s9 s10 s11 (.d v) (.d (.str (S t))) (.d d1) (.d d2) s16 s18 s19) g hs ht 1 false (.inr ⟨rfl, .inl rfl⟩) hv (kk := .lit (.int 1)) (b := .var 13) (c := .var 12) rfl rfl (ev_li _ _) (ev_vd rfl) (ev_vd rfl)
  have c1 := ck_ok (p := (Str.ofString "", .bl (leadsV true ee s0 t v))) (.inl rfl) a1 (B := .var 14) (ev_vd (by rw [hd1]; rfl))
  have c2 := ck_ok (p := (Str.ofString "", .bl (leadsV false ee s0 t v))) (.inl rfl) a2 (B := .var 15) (ev_vd (by rw [hd2]; rfl))
  exact (exs_cons h1).trans ((exs_cons h2).trans (exs_two c1 c2))
def pkN : IE := .ix (.var 2) (drw (ln (.var 2)))
theorem nd8 : nd.length ≤ 8 := g.n3
theorem ev_pkN {s : Cn} (o : Ok s) (h0 : 0 < nd.length) {r : EN.Env} : ∃ (s' : Cn) (t : List Nat), Ok s' ∧ t ∈ nd ∧ ev tb F59 1 pkN (.d (.scr ns) :: .own s :: .d (.tup (sD nd)) :: r) = .ok (.d (.str (S t))) (.d (.scr ns) :: .own s' :: .d (.tup (sD nd)) :: r) := by
  have hl : ev tb F59 1 (ln (.var 2)) (.d (.scr ns) :: .own s :: .d (.tup (sD nd)) :: r) = .ok (.d (.int ((sD nd).length : Int))) (.d (.scr ns) :: .own s :: .d (.tup (sD nd)) :: r) := by
    have ol : opF .len [.tup (sD nd)] = some (.d (.int ((sD nd).length : Int))) := rfl
    unfold ln
    generalize ((sD nd).length : Int) = m at *
    generalize sD nd = dn at *
    simp only [ev.eq_21, evA, ev.eq_1, Env.at, List.getD_cons_zero, List.getD_cons_succ, R.bind, kpF, List.mapM_cons, List.mapM_nil, vw, Option.pure_def, Option.bind_eq_bind, Option.bind_some, ol, R.val]
  obtain ⟨s', y, o', hy, e⟩ := ev_pick 57 (np := 1) (A := .var 2) (B := ln (.var 2)) o (.d (.tup (sD nd))) (sD nd) (ev_vd rfl) (.inr (.inr rfl)) hl (by rw [sD_len]; exact h0) (by rw [sD_len]; have := g.n3; omega)
  obtain ⟨t, ht, rfl⟩ := List.mem_map.mp hy
  exact ⟨s', t, o', ht, e⟩
def i1I : IT := .e (.lst (.cons (.var 10) (.cons pkN .nil)))
def i1B : ISs := .cons (.forS 13 i1I i2B) .nil
theorem i1_ok {s : Cn} (o : Ok s) (h0 : 0 < nd.length) (s5 s7 s9 s11 s13 s14 s15 s16 s18 s19 : EN.Slot) {s0 h : List Nat} (hs : s0 ∈ nd) (hh : h ∈ nd) {v : D} (hv : Vl v) : ∃ (s' : Cn) (s13' s14' s15' : EN.Slot), Ok s' ∧ exs tb F59 1 i1B (LE ns nd ee s s5 s7 (.d (.str (S s0))) s9 (.d (.str (S h))) s11 (.d v) s13 s14 s15 s16 s18 s19) = .nx (LE ns nd ee s' s5 s7 (.d (.str (S s0))) s9 (.d (.str (S h))) s11 (.d v) s13' s14' s15' s16 s18 s19) := by
  obtain ⟨s1, t, o1, ht, e⟩ := ev_pkN ns g o h0 (r := [.d (.tup (ee.map E.d)), .d (G nd ee), s5, .un, s7, .d (.str (S s0)), s9, .d (.str (S h)), s11, .d v, s13, s14, s15, s16, .un, s18, s19])
  have e : ev tb F59 1 pkN (LE ns nd ee s s5 s7 (.d (.str (S s0))) s9 (.d (.str (S h))) s11 (.d v) s13 s14 s15 s16 s18 s19) = .ok (.d (.str (S t))) (LE ns nd ee s1 s5 s7 (.d (.str (S s0))) s9 (.d (.str (S h))) s11 (.d v) s13 s14 s15 s16 s18 s19) := e
  have v10 : ev tb F59 1 (.var 10) (LE ns nd ee s s5 s7 (.d (.str (S s0))) s9 (.d (.str (S h))) s11 (.d v) s13 s14 s15 s16 s18 s19) = .ok (.d (.str (S h))) (LE ns nd ee s s5 s7 (.d (.str (S s0))) s9 (.d (.str (S h))) s11 (.d v) s13 s14 s15 s16 s18 s19) := ev_vd rfl
  have hi : evI tb F59 1 i1I (LE ns nd ee s s5 s7 (.d (.str (S s0))) s9 (.d (.str (S h))) s11 (.d v) s13 s14 s15 s16 s18 s19) = .ok (.d (.lst [.str (S h), .str (S t)]), [.str (S h), .str (S t)]) (LE ns nd ee s1 s5 s7 (.d (.str (S s0))) s9 (.d (.str (S h))) s11 (.d v) s13 s14 s15 s16 s18 s19) := by
    have l2 : [D.str (S h), .str (S t)].length ≤ line := ln2
    unfold i1I evI
    rw [ev.eq_4]
    simp only [evs, v10, e, R.bind, kp, l2, if_true, kpF, Cn.toD, seen, vw, walkD]
  obtain ⟨ρ', f, s13', s14', s15', rfl⟩ := loop_inv (np := 1) (i := 13) (b := fun ρ => exs tb F59 1 i2B ρ) (fun ρ => ∃ s13 s14 s15 : EN.Slot, ρ = LE ns nd ee s1 s5 s7 (.d (.str (S s0))) s9 (.d (.str (S h))) s11 (.d v) s13 s14 s15 s16 s18 s19) (xs := [.str (S h), .str (S t)]) (fun ρ ⟨a, b, c, hρ⟩ x hx => by
    subst hρ
    obtain ⟨w, hw, rfl⟩ : ∃ w, w ∈ nd ∧ x = .str (S w) := by
      rcases List.mem_cons.mp hx with rfl | hx
      · exact ⟨h, hh, rfl⟩
      · rw [List.mem_singleton.mp hx]; exact ⟨t, ht, rfl⟩
    obtain ⟨d1, d2, q⟩ := i2_ok ns g s1 s5 s7 s9 (.d (.str (S h))) s11 b c s16 s18 s19 hs hw hv
    exact ⟨_, _, rfl, q, _, _, _, rfl⟩) (ρ := LE ns nd ee s1 s5 s7 (.d (.str (S s0))) s9 (.d (.str (S h))) s11 (.d v) s13 s14 s15 s16 s18 s19) ⟨s13, s14, s15, rfl⟩
  exact ⟨s1, s13', s14', s15', o1, exs_one (ex_for hi f)⟩
end
theorem ex_forO {fn : Fn} {np i j : Nat} {it : IT} {b : ISs} {ρ ρ' : EN.Env} {c : Cn} {xs : List D} (hi : evI tb fn np it ρ = .ok (.sl j, xs) ρ) (hj : ρ.at j = .own c) (h : forRun np i (fun ρ => exs tb fn np b ρ) xs (ρ.set j (.bor c)) = .nx ρ') (hj' : ρ'.at j = .bor c) : ex tb fn np (.forS i it b) ρ = .nx (ρ'.set j (.own c)) := by
  rw [ex.eq_12, hi]
  simp only [R.to, lend, hj]
  rw [h]
  show O.nx (match ρ.at j, ρ'.at j with
    | .own _, .bor c => ρ'.set j (.own c)
    | _, _ => ρ') = _
  rw [hj, hj']
section
variable (ns : List Int) {nd : List (List Nat)} {ee : List E} (g : Gr nd ee)
include g
theorem t4_ok {s : Cn} (o : Ok s) (h0 : 0 < nd.length) (s5 s7 s9 s12 s13 s14 s15 s16 s18 s19 : EN.Slot) {s0 h : List Nat} (hs : s0 ∈ nd) (hh : h ∈ nd) (vs : List D) (hl : vs.length ≤ line) (hv : ∀ v ∈ vs, Vl v) : ∃ (s' : Cn) (s12' s13' s14' s15' : EN.Slot), Ok s' ∧ ex tb F59 1 (.forS 12 (.e (.var 11)) i1B) (LE ns nd ee s s5 s7 (.d (.str (S s0))) s9 (.d (.str (S h))) (.own (.lst vs)) s12 s13 s14 s15 s16 s18 s19) = .nx (LE ns nd ee s' s5 s7 (.d (.str (S s0))) s9 (.d (.str (S h))) (.own (.lst vs)) s12' s13' s14' s15' s16 s18 s19) := by
  have hi : evI tb F59 1 (.e (.var 11)) (LE ns nd ee s s5 s7 (.d (.str (S s0))) s9 (.d (.str (S h))) (.own (.lst vs)) s12 s13 s14 s15 s16 s18 s19) = .ok (.sl 11, vs) (LE ns nd ee s s5 s7 (.d (.str (S s0))) s9 (.d (.str (S h))) (.own (.lst vs)) s12 s13 s14 s15 s16 s18 s19) := by
    have v11 : ev tb F59 1 (.var 11) (LE ns nd ee s s5 s7 (.d (.str (S s0))) s9 (.d (.str (S h))) (.own (.lst vs)) s12 s13 s14 s15 s16 s18 s19) = .ok (.sl 11) (LE ns nd ee s s5 s7 (.d (.str (S s0))) s9 (.d (.str (S h))) (.own (.lst vs)) s12 s13 s14 s15 s16 s18 s19) := by
      rw [ev.eq_1]; rfl
    have w11 : vw (LE ns nd ee s s5 s7 (.d (.str (S s0))) s9 (.d (.str (S h))) (.own (.lst vs)) s12 s13 s14 s15 s16 s18 s19) (.sl 11) = some (.lst vs) := rfl
    unfold evI
    rw [v11]
    simp only [R.bind, kpF, seen, w11, walkD, hl, if_true]
  obtain ⟨ρ', f, s', s12', s13', s14', s15', o', rfl⟩ := loop_inv (np := 1) (i := 12) (b := fun ρ => exs tb F59 1 i1B ρ) (fun ρ => ∃ (s : Cn) (s12 s13 s14 s15 : EN.Slot), Ok s ∧ ρ = LE ns nd ee s s5 s7 (.d (.str (S s0))) s9 (.d (.str (S h))) (.bor (.lst vs)) s12 s13 s14 s15 s16 s18 s19) (xs := vs) (fun ρ ⟨s, a, b, c, d, o, hρ⟩ x hx => by
    subst hρ
    obtain ⟨s1, d1, d2, d3, o1, q⟩ := i1_ok ns g o h0 s5 s7 s9 (.bor (.lst vs)) b c d s16 s18 s19 hs hh (hv x hx)
    exact ⟨_, _, rfl, q, _, _, _, _, _, o1, rfl⟩) (ρ := LE ns nd ee s s5 s7 (.d (.str (S s0))) s9 (.d (.str (S h))) (.bor (.lst vs)) s12 s13 s14 s15 s16 s18 s19) ⟨s, s12, s13, s14, s15, o, rfl⟩
  exact ⟨s', s12', s13', s14', s15', o', ex_forO (j := 11) hi rfl f rfl⟩
end
end K05
namespace K05
open PySem EN
def nOk5 (kn : List (List Nat)) (s5 : EN.Slot) : Prop := s5 = .own (.lst (sD kn)) ∨ s5 = .d (.lst (sD kn))
def nOk16 (ws : List (List Nat)) (s16 : EN.Slot) : Prop := s16 = .own (.lst (sD ws)) ∨ s16 = .d (.lst (sD ws))
def wyC : IE := .cmp .eq (.bin .mod (.bi .int (.cons (.var 7) .nil)) (.lit (.int 2))) (.lit (.int 0))
def ledC : IE := .call 24 (.cons (.var 0) (.cons (.var 1) (.cons (.var 3) (.cons (.var 8) (.cons wyC .nil)))))
def spC : IE := .call 25 (.cons (.var 0) (.cons (.var 1) (.cons (.var 9) (.cons (.var 5) .nil))))
def vsL : IE := .lst (.cons (.var 9) (.cons spC (.cons spC .nil)))
def fiC : IE := .lc (.var 17) 17 (.e (.ix (.var 11) (.lit (.int 1)))) true (.isi (.var 17) .str)
def ifC : IE := .ife (.isi (.ix (.var 11) (.lit (.int 1))) .tuple) fiC (.var 16)
def odA : IE := .lst (.cons (.lit (.str "zzzzzzzz")) (.cons (.lit (.str "")) (.cons (.lit (.int 5)) (.cons (.lit .non) (.cons (.lst (.cons (.lit (.str "a")) .nil)) .nil)))))
def yA : IE := .lst (.cons (.lit (.str "Y")) (.cons (.var 8) .nil))
def ndT : IE := .tup (.cons (.lit (.str "node")) (.cons (.var 18) .nil))
def pC : IE := .call 27 (.cons (.var 3) (.cons (.var 16) .nil))
def B13 : ISs := .cons (ckS (ask (.var 19) (.var 18) (.ix yA (drw (.lit (.int 2)))) (.var 9)) ndT) (.cons (ckS (ask (.var 19) (.var 8) (.var 18) (.ix (.var 11) (.lit (.int 1)))) ndT) .nil)
def u1 : IS := .asg 8 pkN
def u2 : IS := .asgT [9, 10] ledC
def u3 : IS := .asg 11 vsL
def u4 : IS := .forS 12 (.e (.var 11)) i1B
def u5 : IS := ckS (ask (.lit (.int 3)) (.var 8) (.var 10) (.var 9)) (dueT (.var 10) (.var 9) true)
def u6 : IS := ckS (ask (.lit (.int 4)) (.var 8) (.var 10) (.var 9)) (dueT (.var 10) (.var 9) false)
def u7 : IS := .asg 16 (.bi .list (.cons (.var 9) .nil))
def u8 : IS := .ifS (.cmp .eq (drw (.lit (.int 3))) (.lit (.int 1))) (.cons (.asg 16 ifC) .nil) .nil
def u9 : IS := ckS (ask (.lit (.int 2)) (.var 8) (.var 8) (.var 16)) pC
def u10 : IS := ckS (ask (.lit (.int 2)) (.var 8) (.var 8) (.bi .tuple (.cons (.var 16) .nil))) pC
def u11 : IS := .asg 18 (.ix odA (drw (.lit (.int 5))))
def u12 : IS := .ifS (.cmp .isin (.var 18) (.var 2)) (.cons (.asg 18 (.lit (.str "Z"))) .nil) .nil
def u13 : IS := .forS 19 (.rng (.lit (.int 2))) B13
def bT : ISs := .cons u1 (.cons u2 (.cons u3 (.cons u4 (.cons u5 (.cons u6 (.cons u7 (.cons u8 (.cons u9 (.cons u10 (.cons u11 (.cons u12 (.cons u13 .nil))))))))))))
def w1 : IS := .asg 1 (.dct (.cons (.lit (.str "rest")) (.cons (.lit (.int 0)) (.cons (.lit (.str "next")) (.cons (.lit (.int 0)) (.cons (.lit (.str "count")) (.cons (.lit (.int 0)) (.cons (.lit (.str "digits")) (.cons (.lit (.int 0)) .nil)))))))))
def w2 : IS := .asgT [2, 3] (.call 18 (.cons (.var 0) (.cons (.var 1) (.cons (.lit (.int 7)) (.cons (.lit (.int 12)) .nil)))))
def w3 : IS := .ifS (.cmp .eq (ln (.var 2)) (.lit (.int 0))) (.cons (.asg 2 (.tup (.cons (.lit (.str "a")) .nil))) .nil) .nil
def w4 : IS := .asg 4 (.new 0 (.cons (.var 2) (.cons (.var 3) .nil)))
def w5 : IS := .asg 5 (.lc (.ix (.var 6) (.lit (.int 0))) 6 (.e (.var 3)) false (.lit (.bl true)))
theorem b_lawE : b_law = .cons w1 (.cons w2 (.cons w3 (.cons w4 (.cons w5 (.cons (.forS 7 (.rng (.lit (.int 4))) bT) (.cons (.ret (.lit (.bl true))) .nil)))))) := rfl
section
variable (ns : List Int) {nd : List (List Nat)} {ee : List E} (g : Gr nd ee)
include g
theorem u1_ok {s : Cn} (o : Ok s) (h0 : 0 < nd.length) (s5 s7 s8 s9 s10 s11 s12 s13 s14 s15 s16 s18 s19 : EN.Slot) : ∃ (s' : Cn) (t : List Nat), Ok s' ∧ t ∈ nd ∧ ex tb F59 1 u1 (LE ns nd ee s s5 s7 s8 s9 s10 s11 s12 s13 s14 s15 s16 s18 s19) = .nx (LE ns nd ee s' s5 s7 (.d (.str (S t))) s9 s10 s11 s12 s13 s14 s15 s16 s18 s19) := by
  obtain ⟨s1, t, o1, ht, e⟩ := ev_pkN ns g o h0 (r := [.d (.tup (ee.map E.d)), .d (G nd ee), s5, .un, s7, s8, s9, s10, s11, s12, s13, s14, s15, s16, .un, s18, s19])
  exact ⟨s1, t, o1, ht, ex_asgD e rfl⟩
theorem u2_ok {s : Cn} (o : Ok s) (j : Int) (s5 s9 s10 s11 s12 s13 s14 s15 s16 s18 s19 : EN.Slot) {s0 : List Nat} (hs : s0 ∈ nd) : ∃ (s' : Cn) (h : List Nat) (ls : List (List Nat)), Ok s' ∧ h ∈ nd ∧ ls.length ≤ 12 ∧ ex tb F59 1 u2 (LE ns nd ee s s5 (.d (.int j)) (.d (.str (S s0))) s9 s10 s11 s12 s13 s14 s15 s16 s18 s19) = .nx (LE ns nd ee s' s5 (.d (.int j)) (.d (.str (S s0))) (.d (.tup (sD ls))) (.d (.str (S h))) s11 s12 s13 s14 s15 s16 s18 s19) := by
  obtain ⟨s', h, ls, o', hh, hl, e⟩ := run_led ns g (decide (j % 2 = 0)) 56 o s0 hs
  simp only [Nat.reduceAdd] at e
  refine ⟨s', h, ls, o', hh, hl, ?_⟩
  have hw : ∀ s, ev tb F59 1 wyC (LE ns nd ee s s5 (.d (.int j)) (.d (.str (S s0))) s9 s10 s11 s12 s13 s14 s15 s16 s18 s19) = .ok (.d (.bl (decide (j % 2 = 0)))) (LE ns nd ee s s5 (.d (.int j)) (.d (.str (S s0))) s9 s10 s11 s12 s13 s14 s15 s16 s18 s19) := fun s => by
    have om : opB .mod (.int j) (.int 2) = some (.d (.int (j % 2))) := by simp [opB]
    have oi : opF .int [.int j] = some (.d (.int j)) := rfl
    unfold wyC
    simp only [ev.eq_8, ev.eq_6, ev.eq_21, evA, ev_vd (T := tb) (fn := F59) (np := 1) (i := 7) (ρ := LE ns nd ee s s5 (.d (.int j)) (.d (.str (S s0))) s9 s10 s11 s12 s13 s14 s15 s16 s18 s19) (d := .int j) rfl, R.bind, kpF, List.mapM_cons, List.mapM_nil, vw, Option.pure_def, Option.bind_eq_bind, Option.bind_some, oi, R.val, ev_li, seen, om, opC, eqD, eqS, R.bool]
  have hw := hw s
  change F59 24 _ = _ at e
  unfold u2 ledC
  unfold LE at *
  generalize F59 = fn at *
  generalize decide (j % 2 = 0) = way at *
  generalize G nd ee = gg at *
  generalize D.tup (ee.map E.d) = dd at *
  generalize D.tup (sD nd) = dn at *
  generalize sD ls = dl at *
  generalize S h = H0 at *
  generalize S s0 = S0 at *
  generalize wyC = WC at *
  simp [ex.eq_2, ev.eq_20, evA, ev.eq_1, Env.at, R.bind, kpF, kp, hw, callR, prep, prepV, handAll, handed, slotsOf, md24, e, backR, back, R.to, EN.storeAll, EN.store]
theorem sp_ok {s : Cn} (o : Ok s) (s5 : EN.Slot) (kn : List (List Nat)) (hk : kn.length ≤ 14) (h5 : nOk5 kn s5) (s7 s8 s10 s11 s12 s13 s14 s15 s16 s18 s19 : EN.Slot) (ls : List (List Nat)) (hl : ls.length ≤ 12) : ∃ (s' : Cn) (v : D), Ok s' ∧ Vl v ∧ ev tb F59 1 spC (LE ns nd ee s s5 s7 s8 (.d (.tup (sD ls))) s10 s11 s12 s13 s14 s15 s16 s18 s19) = .ok (.d v) (LE ns nd ee s' (.d (.lst (sD kn))) s7 s8 (.d (.tup (sD ls))) s10 s11 s12 s13 s14 s15 s16 s18 s19) := by
  obtain ⟨s', v, o', hv, e⟩ := run_spoilt 56 ns ls hl kn hk o
  simp only [Nat.reduceAdd] at e
  refine ⟨s', v, o', hv, ?_⟩
  change F59 25 _ = _ at e
  unfold spC LE
  rcases h5 with rfl | rfl
  · generalize F59 = fn at *
    generalize G nd ee = gg at *
    generalize D.tup (ee.map E.d) = dd at *
    generalize D.tup (sD nd) = dn at *
    generalize sD ls = dl at *
    generalize sD kn = dk at *
    simp [ev.eq_20, evA, ev.eq_1, Env.at, R.bind, kpF, callR, prep, prepV, handAll, handed, slotsOf, md25, Cn.toD, e, backR, back]
  · generalize F59 = fn at *
    generalize G nd ee = gg at *
    generalize D.tup (ee.map E.d) = dd at *
    generalize D.tup (sD nd) = dn at *
    generalize sD ls = dl at *
    generalize sD kn = dk at *
    simp [ev.eq_20, evA, ev.eq_1, Env.at, R.bind, kpF, callR, prep, prepV, handAll, handed, slotsOf, md25, e, backR, back]
theorem u3_ok {s : Cn} (o : Ok s) (s5 : EN.Slot) (kn : List (List Nat)) (hk : kn.length ≤ 14) (h5 : nOk5 kn s5) (s7 s8 s10 s11 s12 s13 s14 s15 s16 s18 s19 : EN.Slot) (ls : List (List Nat)) (hl : ls.length ≤ 12) : ∃ (s' : Cn) (v v2 : D), Ok s' ∧ Vl v ∧ Vl v2 ∧ ex tb F59 1 u3 (LE ns nd ee s s5 s7 s8 (.d (.tup (sD ls))) s10 s11 s12 s13 s14 s15 s16 s18 s19) = .nx (LE ns nd ee s' (.d (.lst (sD kn))) s7 s8 (.d (.tup (sD ls))) s10 (.own (.lst [.tup (sD ls), v, v2])) s12 s13 s14 s15 s16 s18 s19) := by
  obtain ⟨s1, v, o1, hv, e1⟩ := sp_ok ns g o s5 kn hk h5 s7 s8 s10 s11 s12 s13 s14 s15 s16 s18 s19 ls hl
  obtain ⟨s2, v2, o2, hv2, e2⟩ := sp_ok ns g o1 (.d (.lst (sD kn))) kn hk (.inr rfl) s7 s8 s10 s11 s12 s13 s14 s15 s16 s18 s19 ls hl
  refine ⟨s2, v, v2, o2, hv, hv2, ?_⟩
  have v9 : ev tb F59 1 (.var 9) (LE ns nd ee s s5 s7 s8 (.d (.tup (sD ls))) s10 s11 s12 s13 s14 s15 s16 s18 s19) = .ok (.d (.tup (sD ls))) (LE ns nd ee s s5 s7 s8 (.d (.tup (sD ls))) s10 s11 s12 s13 s14 s15 s16 s18 s19) := ev_vd rfl
  have l3 : [D.tup (sD ls), v, v2].length ≤ line := by show 3 ≤ line; decide
  refine ex_asgF (ρ1 := LE ns nd ee s2 (.d (.lst (sD kn))) s7 s8 (.d (.tup (sD ls))) s10 s11 s12 s13 s14 s15 s16 s18 s19) (c := .lst [.tup (sD ls), v, v2]) ?_ rfl
  unfold vsL
  generalize spC = SC' at *
  rw [ev.eq_4]
  simp only [evs, v9, e1, e2, R.bind, kp, l3, if_true]
theorem u56_ok (s : Cn) (s5 s7 s11 s12 s13 s14 s15 s16 s18 s19 : EN.Slot) {s0 h : List Nat} (hs : s0 ∈ nd) (hh : h ∈ nd) (ls : List (List Nat)) (hl : ls.length ≤ 12) :
    ex tb F59 1 u5 (LE ns nd ee s s5 s7 (.d (.str (S s0))) (.d (.tup (sD ls))) (.d (.str (S h))) s11 s12 s13 s14 s15 s16 s18 s19) = .nx (LE ns nd ee s s5 s7 (.d (.str (S s0))) (.d (.tup (sD ls))) (.d (.str (S h))) s11 s12 s13 s14 s15 s16 s18 s19) ∧
    ex tb F59 1 u6 (LE ns nd ee s s5 s7 (.d (.str (S s0))) (.d (.tup (sD ls))) (.d (.str (S h))) s11 s12 s13 s14 s15 s16 s18 s19) = .nx (LE ns nd ee s s5 s7 (.d (.str (S s0))) (.d (.tup (sD ls))) (.d (.str (S h))) s11 s12 s13 s14 s15 s16 s18 s19) := by
  have hv : Vl (.tup (sD ls)) := (VT.sD hl).vl (by omega)
  refine ⟨?_, ?_⟩
  · exact ck_ok (p := (Str.ofString "", .bl (leadsV true ee s0 h (.tup (sD ls))))) (.inl rfl) (ev_ask g hs hh 3 true (.inl ⟨rfl, .inr rfl⟩) hv rfl rfl (ev_li _ _) (ev_vd rfl) (ev_vd rfl)) (ev_due g true hv rfl rfl (ev_vd rfl) (ev_vd rfl))
  · exact ck_ok (p := (Str.ofString "", .bl (leadsV false ee s0 h (.tup (sD ls))))) (.inl rfl) (ev_ask g hs hh 4 false (.inr ⟨rfl, .inr rfl⟩) hv rfl rfl (ev_li _ _) (ev_vd rfl) (ev_vd rfl)) (ev_due g false hv rfl rfl (ev_vd rfl) (ev_vd rfl))
theorem strs_of : ∀ xs : List D, ∃ ws : List (List Nat), xs.filter (fun x => isTy x .str) = sD ws ∧ ws.length ≤ xs.length
  | [] => ⟨[], rfl, Nat.le_refl _⟩
  | x :: xs => by
    obtain ⟨ws, h1, h2⟩ := strs_of xs
    rw [List.filter_cons]
    cases e : strL x with
    | none =>
      have : isTy x .str = false := by rw [isTy_str, e]; rfl
      rw [this]
      exact ⟨ws, h1, by rw [List.length_cons]; omega⟩
    | some w =>
      have : isTy x .str = true := by rw [isTy_str, e]; rfl
      rw [this, strL_some e]
      exact ⟨w :: ws, by rw [if_pos rfl, h1]; rfl, by rw [List.length_cons, List.length_cons]; omega⟩
theorem u7_ok (s : Cn) (s5 s7 s8 s10 s11 s12 s13 s14 s15 s16 s18 s19 : EN.Slot) (ls : List (List Nat)) : ex tb F59 1 u7 (LE ns nd ee s s5 s7 s8 (.d (.tup (sD ls))) s10 s11 s12 s13 s14 s15 s16 s18 s19) = .nx (LE ns nd ee s s5 s7 s8 (.d (.tup (sD ls))) s10 s11 s12 s13 s14 s15 (.own (.lst (sD ls))) s18 s19) := by
  have ot : ∀ xs : List D, opF .list [.tup xs] = some (.fr (.lst xs)) := fun _ => rfl
  refine ex_asgF (ρ1 := LE ns nd ee s s5 s7 s8 (.d (.tup (sD ls))) s10 s11 s12 s13 s14 s15 s16 s18 s19) (c := .lst (sD ls)) ?_ rfl
  simp only [ev.eq_21, evA, ev_vd (T := tb) (fn := F59) (np := 1) (i := 9) (ρ := LE ns nd ee s s5 s7 s8 (.d (.tup (sD ls))) s10 s11 s12 s13 s14 s15 s16 s18 s19) (d := .tup (sD ls)) rfl, R.bind, kpF, List.mapM_cons, List.mapM_nil, vw, Option.pure_def, Option.bind_eq_bind, Option.bind_some, ot, R.val]
theorem ev_v1 (s : Cn) (s5 s7 s8 s9 s10 s12 s13 s14 s15 s16 s18 s19 : EN.Slot) (a b c : D) : ev tb F59 1 (.ix (.var 11) (.lit (.int 1))) (LE ns nd ee s s5 s7 s8 s9 s10 (.own (.lst [a, b, c])) s12 s13 s14 s15 s16 s18 s19) = .ok (.d b) (LE ns nd ee s s5 s7 s8 s9 s10 (.own (.lst [a, b, c])) s12 s13 s14 s15 s16 s18 s19) := by
  have i1 : opI (.lst [a, b, c]) (.int 1) = some b := rfl
  have v11 : ev tb F59 1 (.var 11) (LE ns nd ee s s5 s7 s8 s9 s10 (.own (.lst [a, b, c])) s12 s13 s14 s15 s16 s18 s19) = .ok (.sl 11) (LE ns nd ee s s5 s7 s8 s9 s10 (.own (.lst [a, b, c])) s12 s13 s14 s15 s16 s18 s19) := by
    rw [ev.eq_1]; rfl
  have w11 : vw (LE ns nd ee s s5 s7 s8 s9 s10 (.own (.lst [a, b, c])) s12 s13 s14 s15 s16 s18 s19) (.sl 11) = some (.lst [a, b, c]) := rfl
  rw [ev.eq_18, v11]
  simp only [R.bind, kpF, ev_li, kp, seen, w11, i1, R.dat]
theorem u8_ok {s : Cn} (o : Ok s) (s5 s7 s8 s9 s10 s12 s13 s14 s15 s18 s19 : EN.Slot) (a b c : D) (hv : Vl b) (ls : List (List Nat)) (hl : ls.length ≤ 12) : ∃ (s' : Cn) (ws : List (List Nat)) (s16 : EN.Slot), Ok s' ∧ ws.length ≤ 100 ∧ nOk16 ws s16 ∧
    ex tb F59 1 u8 (LE ns nd ee s s5 s7 s8 s9 s10 (.own (.lst [a, b, c])) s12 s13 s14 s15 (.own (.lst (sD ls))) s18 s19) = .nx (LE ns nd ee s' s5 s7 s8 s9 s10 (.own (.lst [a, b, c])) s12 s13 s14 s15 s16 s18 s19) := by
  obtain ⟨x, s', x0, x1, o', e⟩ := draw 57 ns o 3 (by omega) (by omega)
  simp only [Nat.reduceAdd] at e
  have hd : ev tb F59 1 (drw (.lit (.int 3))) (LE ns nd ee s s5 s7 s8 s9 s10 (.own (.lst [a, b, c])) s12 s13 s14 s15 (.own (.lst (sD ls))) s18 s19) = .ok (.d (.int x)) (LE ns nd ee s' s5 s7 s8 s9 s10 (.own (.lst [a, b, c])) s12 s13 s14 s15 (.own (.lst (sD ls))) s18 s19) := ev_drw (ev_li _ _) e
  have hc : ev tb F59 1 (.cmp .eq (drw (.lit (.int 3))) (.lit (.int 1))) (LE ns nd ee s s5 s7 s8 s9 s10 (.own (.lst [a, b, c])) s12 s13 s14 s15 (.own (.lst (sD ls))) s18 s19) = .ok (.d (.bl (decide (x = 1)))) (LE ns nd ee s' s5 s7 s8 s9 s10 (.own (.lst [a, b, c])) s12 s13 s14 s15 (.own (.lst (sD ls))) s18 s19) := by
    rw [ev.eq_8, hd]
    simp only [R.bind, kpF, ev_li, seen, vw, opC, eqD, eqS, R.bool]
  have v1 := ev_v1 ns g s' s5 s7 s8 s9 s10 s12 s13 s14 s15 (.own (.lst (sD ls))) s18 s19 a b c
  have ci : ev tb F59 1 (.isi (.ix (.var 11) (.lit (.int 1))) .tuple) (LE ns nd ee s' s5 s7 s8 s9 s10 (.own (.lst [a, b, c])) s12 s13 s14 s15 (.own (.lst (sD ls))) s18 s19) = .ok (.d (.bl (isTy b .tuple))) (LE ns nd ee s' s5 s7 s8 s9 s10 (.own (.lst [a, b, c])) s12 s13 s14 s15 (.own (.lst (sD ls))) s18 s19) := by
    rw [ev.eq_22, v1]
    simp only [R.bind, kpF, isiR, tk_tup, if_true, excAt, seen, vw, hv.1]
  by_cases h1 : x = 1
  · rw [decide_eq_true h1] at hc
    by_cases ht : isTy b .tuple = true
    · obtain ⟨xs, rfl⟩ : ∃ xs, b = .tup xs := by
        cases b with
        | tup xs => exact ⟨xs, rfl⟩
        | _ => cases ht
      obtain ⟨hl2, hx⟩ := hv.2 xs rfl
      obtain ⟨ws, e1, e2⟩ := strs_of g xs
      rw [ht] at ci
      have hi : evI tb F59 1 (.e (.ix (.var 11) (.lit (.int 1)))) (LE ns nd ee s' s5 s7 s8 s9 s10 (.own (.lst [a, .tup xs, c])) s12 s13 s14 s15 (.own (.lst (sD ls))) s18 s19) = .ok (.d (.tup xs), xs) (LE ns nd ee s' s5 s7 s8 s9 s10 (.own (.lst [a, .tup xs, c])) s12 s13 s14 s15 (.own (.lst (sD ls))) s18 s19) := evI_d v1 rfl (by unfold line; omega)
      have lc := ev_lcF (T := tb) (fn := F59) (np := 1) (elt := .var 17) (i := 17) (hasIf := true) (c := .isi (.var 17) .str) (fun x => isTy x .str) id hi (.inl rfl) (fun _ y hy => by
        rw [ev_isi (x := y) rfl tk_str (hx y hy)]; rfl) (fun z => nomatch z) (fun y hy _ => by rw [ev_vd (d := y) rfl]; rfl)
      rw [List.map_id, e1] at lc
      refine ⟨s', ws, .own (.lst (sD ws)), o', by omega, .inl rfl, ex_ifT hc (exs_one (ex_asgF (ρ1 := LE ns nd ee s' s5 s7 s8 s9 s10 (.own (.lst [a, .tup xs, c])) s12 s13 s14 s15 (.own (.lst (sD ls))) s18 s19) (c := .lst (sD ws)) ?_ rfl))⟩
      unfold ifC
      rw [ev.eq_17, ci]
      simp only [R.bind, seen, vw, truD]
      exact lc
    · have ht : isTy b .tuple = false := by simpa using ht
      rw [ht] at ci
      refine ⟨s', ls, .d (.lst (sD ls)), o', by omega, .inr rfl, ex_ifT hc (exs_one ?_)⟩
      have ei : ev tb F59 1 ifC (LE ns nd ee s' s5 s7 s8 s9 s10 (.own (.lst [a, b, c])) s12 s13 s14 s15 (.own (.lst (sD ls))) s18 s19) = .ok (.sl 16) (LE ns nd ee s' s5 s7 s8 s9 s10 (.own (.lst [a, b, c])) s12 s13 s14 s15 (.own (.lst (sD ls))) s18 s19) := by
        unfold ifC
        rw [ev.eq_17, ci]
        simp only [R.bind, seen, vw, truD]
        rw [ev.eq_1]; rfl
      rw [ex.eq_1, ei]
      rfl
  · rw [decide_eq_false h1] at hc
    exact ⟨s', ls, .own (.lst (sD ls)), o', by omega, .inl rfl, ex_no hc⟩
theorem due_AL (ws : List (List Nat)) (T : Int) : AL (dueP ee ws T).2 := by
  unfold dueP
  cases prs ee ws with
  | inl ps => exact .inl rfl
  | inr w => exact .inl rfl
theorem ev_pC {ρ : EN.Env} (ws : List (List Nat)) (hl : ws.length ≤ 100) (r3 : ρ.at 3 = .d (.tup (ee.map E.d))) (r16 : ρ.at 16 = .d (.lst (sD ws))) : ev tb F59 1 pC ρ = .ok (.d (pairR (dueP ee ws 0))) ρ := by
  have e := run_lprice 58 ee (ee14 g) ws hl
  exact ev_call2 (fun j => rfl) (ev_vd r3) (ev_vd r16) e
theorem u9_ok (s : Cn) (s5 s7 s9 s10 s11 s12 s13 s14 s15 s16 s18 s19 : EN.Slot) (s0 : List Nat) (ws : List (List Nat)) (hl : ws.length ≤ 100) (h16 : nOk16 ws s16) :
    ex tb F59 1 u9 (LE ns nd ee s s5 s7 (.d (.str (S s0))) s9 s10 s11 s12 s13 s14 s15 s16 s18 s19) = .nx (LE ns nd ee s s5 s7 (.d (.str (S s0))) s9 s10 s11 s12 s13 s14 s15 (.d (.lst (sD ws))) s18 s19) := by
  have e := ask_price g 55 (.str (S s0)) (.str (S s0)) (.lst (sD ws)) ws rfl hl
  simp only [Nat.reduceAdd] at e
  refine ck_ok (p := dueP ee ws 0) (due_AL g ws 0) (ρ1 := LE ns nd ee s s5 s7 (.d (.str (S s0))) s9 s10 s11 s12 s13 s14 s15 (.d (.lst (sD ws))) s18 s19) ?_ (ev_pC g ws hl rfl rfl)
  change F59 26 _ = _ at e
  unfold ask LE
  rcases h16 with rfl | rfl
  · generalize F59 = fn at *
    generalize pairR (dueP ee ws 0) = pp at *
    generalize G nd ee = gg at *
    generalize D.tup (ee.map E.d) = dd at *
    generalize D.tup (sD nd) = dn at *
    generalize sD ws = dl at *
    generalize S s0 = S0 at *
    simp [ev.eq_20, evA, ev.eq_1, ev_li, Env.at, R.bind, kpF, callR, prep, prepV, handAll, handed, slotsOf, m26', Cn.toD, e, backR, back]
  · exact ev_call5 m26' (ev_li _ _) (ev_vd rfl) (ev_vd rfl) (ev_vd rfl) (ev_vd rfl) e
theorem u10_ok (s : Cn) (s5 s7 s9 s10 s11 s12 s13 s14 s15 s18 s19 : EN.Slot) (s0 : List Nat) (ws : List (List Nat)) (hl : ws.length ≤ 100) :
    ex tb F59 1 u10 (LE ns nd ee s s5 s7 (.d (.str (S s0))) s9 s10 s11 s12 s13 s14 s15 (.d (.lst (sD ws))) s18 s19) = .nx (LE ns nd ee s s5 s7 (.d (.str (S s0))) s9 s10 s11 s12 s13 s14 s15 (.d (.lst (sD ws))) s18 s19) := by
  have e := ask_price g 55 (.str (S s0)) (.str (S s0)) (.tup (sD ws)) ws rfl hl
  simp only [Nat.reduceAdd] at e
  have ot : ∀ xs : List D, opF .tuple [.lst xs] = some (.d (.tup xs)) := fun _ => rfl
  have ht : ev tb F59 1 (.bi .tuple (.cons (.var 16) .nil)) (LE ns nd ee s s5 s7 (.d (.str (S s0))) s9 s10 s11 s12 s13 s14 s15 (.d (.lst (sD ws))) s18 s19) = .ok (.d (.tup (sD ws))) (LE ns nd ee s s5 s7 (.d (.str (S s0))) s9 s10 s11 s12 s13 s14 s15 (.d (.lst (sD ws))) s18 s19) := by
    simp only [ev.eq_21, evA, ev_vd (T := tb) (fn := F59) (np := 1) (i := 16) (ρ := LE ns nd ee s s5 s7 (.d (.str (S s0))) s9 s10 s11 s12 s13 s14 s15 (.d (.lst (sD ws))) s18 s19) (d := .lst (sD ws)) rfl, R.bind, kpF, List.mapM_cons, List.mapM_nil, vw, Option.pure_def, Option.bind_eq_bind, Option.bind_some, ot, R.val]
  exact ck_ok (p := dueP ee ws 0) (due_AL g ws 0) (ev_call5 m26' (ev_li _ _) (ev_vd rfl) (ev_vd rfl) (ev_vd rfl) ht e) (ev_pC g ws hl rfl rfl)
theorem evs5 {fn : Fn} {np : Nat} {a b c d e : IE} {ρ : EN.Env} {A B C X Y : D} (h1 : (ev tb fn np a ρ).kept np = .ok A ρ) (h2 : (ev tb fn np b ρ).kept np = .ok B ρ) (h3 : (ev tb fn np c ρ).kept np = .ok C ρ) (h4 : (ev tb fn np d ρ).kept np = .ok X ρ) (h5 : (ev tb fn np e ρ).kept np = .ok Y ρ) :
    ev tb fn np (.lst (.cons a (.cons b (.cons c (.cons d (.cons e .nil)))))) ρ = .ok (.fr (.lst [A, B, C, X, Y])) ρ := by
  have l5 : [A, B, C, X, Y].length ≤ line := by show 5 ≤ line; decide
  rw [ev.eq_4]
  simp only [evs]
  rw [h1]
  simp only [R.bind]
  rw [h2]
  simp only [R.bind]
  rw [h3]
  simp only [R.bind]
  rw [h4]
  simp only [R.bind]
  rw [h5]
  simp only [R.bind, l5, if_true]
/-- a value that is no node -/
def Ood (nd : List (List Nat)) (x : D) : Prop := Nm x ∧ inS x nd = false
theorem u1112_ok {s : Cn} (o : Ok s) (s5 s7 s8 s9 s10 s11 s12 s13 s14 s15 s16 s18 s19 : EN.Slot) : ∃ (s' : Cn) (x : D), Ok s' ∧ Ood nd x ∧ ∀ r, exs tb F59 1 (.cons u11 (.cons u12 r)) (LE ns nd ee s s5 s7 s8 s9 s10 s11 s12 s13 s14 s15 s16 s18 s19) = exs tb F59 1 r (LE ns nd ee s' s5 s7 s8 s9 s10 s11 s12 s13 s14 s15 s16 (.d x) s19) := by
  have hA : ev tb F59 1 odA (LE ns nd ee s s5 s7 s8 s9 s10 s11 s12 s13 s14 s15 s16 s18 s19) = .ok (.fr (.lst [.str (Str.ofString "zzzzzzzz"), .str (Str.ofString ""), .int 5, .non, .lst [.str (Str.ofString "a")]])) (LE ns nd ee s s5 s7 s8 s9 s10 s11 s12 s13 s14 s15 s16 s18 s19) :=
    evs5 g (kept_d (ev_ls _ _)) (kept_d (ev_ls _ _)) (kept_d (ev_li _ _)) (kept_d (by rw [ev.eq_2]; rfl)) (ev_lst1 (ev_ls _ _))
  obtain ⟨s', y, o', hy, e⟩ := ev_pick 57 (np := 1) (A := odA) (B := .lit (.int 5)) o _ _ hA (.inl rfl) (ev_li 5 _) (by simp) (by simp)
  have hn : Nm y := by
    simp only [List.mem_cons, List.not_mem_nil, or_false] at hy
    rcases hy with rfl | rfl | rfl | rfl | rfl
    · exact nm_str _
    · exact nm_str _
    · exact .inr .i
    · exact .inr .n
    · rw [S_a]; exact .inr .l
  have h1 : ex tb F59 1 u11 (LE ns nd ee s s5 s7 s8 s9 s10 s11 s12 s13 s14 s15 s16 s18 s19) = .nx (LE ns nd ee s' s5 s7 s8 s9 s10 s11 s12 s13 s14 s15 s16 (.d y) s19) := ex_asgD e rfl
  have hc : ev tb F59 1 (.cmp .isin (.var 18) (.var 2)) (LE ns nd ee s' s5 s7 s8 s9 s10 s11 s12 s13 s14 s15 s16 (.d y) s19) = .ok (.d (.bl (inS y nd))) (LE ns nd ee s' s5 s7 s8 s9 s10 s11 s12 s13 s14 s15 s16 (.d y) s19) := by
    have q := nm_in hn g.n2
    have oc : opC .isin y (.tup (sD nd)) = some (inS y nd) := by rw [opC_in]; exact q
    rw [ev.eq_8, ev_vd (d := y) rfl]
    simp only [R.bind, kpF]
    rw [ev_vd (d := .tup (sD nd)) rfl]
    simp only [R.bind, seen, vw, oc, R.bool]
  cases hi : inS y nd with
  | false =>
    rw [hi] at hc
    exact ⟨s', y, o', ⟨hn, hi⟩, fun r => (exs_cons h1).trans (exs_cons (ex_no hc))⟩
  | true =>
    rw [hi] at hc
    refine ⟨s', .str (Str.ofString "Z"), o', ⟨nm_str _, ?_⟩, fun r => (exs_cons h1).trans (exs_cons (ex_ifT hc (exs_one (ex_asgD (ev_ls _ _) rfl))))⟩
    have zz : Str.ofString "Z" = S [90] := by decide
    rw [zz]
    refine List.any_eq_false.mpr fun l hl => ?_
    intro q
    have q : S [90] = S l := of_decide_eq_true q
    have q := (S_eq _ _).mp q
    have := g.n2 l hl
    rw [← q] at this
    exact absurd this.2.2 (by decide)
theorem B13_ok {s : Cn} (o : Ok s) (s5 s7 s10 s12 s13 s14 s15 s16 : EN.Slot) {s0 : List Nat} (hs : s0 ∈ nd) (a b c L x : D) (hx : Ood nd x) (kind : Int) (hk : kind = 0 ∨ kind = 1) : ∃ (s' : Cn), Ok s' ∧
    exs tb F59 1 B13 (LE ns nd ee s s5 s7 (.d (.str (S s0))) (.d L) s10 (.own (.lst [a, b, c])) s12 s13 s14 s15 s16 (.d x) (.d (.int kind))) = .nx (LE ns nd ee s' s5 s7 (.d (.str (S s0))) (.d L) s10 (.own (.lst [a, b, c])) s12 s13 s14 s15 s16 (.d x) (.d (.int kind))) := by
  have hA : ev tb F59 1 yA (LE ns nd ee s s5 s7 (.d (.str (S s0))) (.d L) s10 (.own (.lst [a, b, c])) s12 s13 s14 s15 s16 (.d x) (.d (.int kind))) = .ok (.fr (.lst [.str (Str.ofString "Y"), .str (S s0)])) (LE ns nd ee s s5 s7 (.d (.str (S s0))) (.d L) s10 (.own (.lst [a, b, c])) s12 s13 s14 s15 s16 (.d x) (.d (.int kind))) := by
    have l2 : [D.str (Str.ofString "Y"), .str (S s0)].length ≤ line := ln2
    have v8 : ev tb F59 1 (.var 8) (LE ns nd ee s s5 s7 (.d (.str (S s0))) (.d L) s10 (.own (.lst [a, b, c])) s12 s13 s14 s15 s16 (.d x) (.d (.int kind))) = .ok (.d (.str (S s0))) (LE ns nd ee s s5 s7 (.d (.str (S s0))) (.d L) s10 (.own (.lst [a, b, c])) s12 s13 s14 s15 s16 (.d x) (.d (.int kind))) := ev_vd rfl
    unfold yA
    rw [ev.eq_4]
    simp only [evs, ev_ls, v8, R.bind, kp, l2, if_true]
  obtain ⟨s', y, o', hy, e⟩ := ev_pick 57 (np := 1) (A := yA) (B := .lit (.int 2)) o _ _ hA (.inl rfl) (ev_li 2 _) (by simp) (by simp)
  have ny : Nm y := by
    simp only [List.mem_cons, List.not_mem_nil, or_false] at hy
    rcases hy with rfl | rfl <;> exact nm_str _
  refine ⟨s', o', ?_⟩
  have q1 := ask_no1 g 55 kind hk hx.1 ny hx.2 L
  have q2 := ask_no2 g 55 kind hk (nm_str (S s0)) hx.1 (in_nd g hs) hx.2 b
  simp only [Nat.reduceAdd] at q1 q2
  have al : AL (Str.ofString "node", x).2 := nm_AL hx.1
  have nt : ∀ s, ev tb F59 1 ndT (LE ns nd ee s s5 s7 (.d (.str (S s0))) (.d L) s10 (.own (.lst [a, b, c])) s12 s13 s14 s15 s16 (.d x) (.d (.int kind))) = .ok (.d (pairR (Str.ofString "node", x))) (LE ns nd ee s s5 s7 (.d (.str (S s0))) (.d L) s10 (.own (.lst [a, b, c])) s12 s13 s14 s15 s16 (.d x) (.d (.int kind))) := fun s => ev_tup2 (ev_vd rfl)
  have c1 := ck_ok (p := (Str.ofString "node", x)) al (A := ask (.var 19) (.var 18) (.ix yA (drw (.lit (.int 2)))) (.var 9)) (B := ndT) (ρ := LE ns nd ee s s5 s7 (.d (.str (S s0))) (.d L) s10 (.own (.lst [a, b, c])) s12 s13 s14 s15 s16 (.d x) (.d (.int kind))) (ev_call5 m26' (ev_vd rfl) (ev_vd rfl) (ev_vd rfl) e (ev_vd rfl) q1) (nt s')
  have c2 := ck_ok (p := (Str.ofString "node", x)) al (A := ask (.var 19) (.var 8) (.var 18) (.ix (.var 11) (.lit (.int 1)))) (B := ndT) (ρ := LE ns nd ee s' s5 s7 (.d (.str (S s0))) (.d L) s10 (.own (.lst [a, b, c])) s12 s13 s14 s15 s16 (.d x) (.d (.int kind))) (ev_call5 m26' (ev_vd rfl) (ev_vd rfl) (ev_vd rfl) (ev_vd rfl) (ev_v1 ns g s' _ _ _ _ _ _ _ _ _ _ _ _ a b c) q2) (nt s')
  exact exs_two c1 c2
theorem u13_ok {s : Cn} (o : Ok s) (s5 s7 s10 s12 s13 s14 s15 s16 s19 : EN.Slot) {s0 : List Nat} (hs : s0 ∈ nd) (a b c L x : D) (hx : Ood nd x) : ∃ (s' : Cn) (s19' : EN.Slot), Ok s' ∧
    ex tb F59 1 u13 (LE ns nd ee s s5 s7 (.d (.str (S s0))) (.d L) s10 (.own (.lst [a, b, c])) s12 s13 s14 s15 s16 (.d x) s19) = .nx (LE ns nd ee s' s5 s7 (.d (.str (S s0))) (.d L) s10 (.own (.lst [a, b, c])) s12 s13 s14 s15 s16 (.d x) s19') := by
  obtain ⟨ρ', f, s', s19', o', rfl⟩ := loop_inv (np := 1) (i := 19) (b := fun ρ => exs tb F59 1 B13 ρ) (fun ρ => ∃ (s : Cn) (s19 : EN.Slot), Ok s ∧ ρ = LE ns nd ee s s5 s7 (.d (.str (S s0))) (.d L) s10 (.own (.lst [a, b, c])) s12 s13 s14 s15 s16 (.d x) s19) (xs := rngD 0 ((2 : Nat) : Int)) (fun ρ ⟨s, t, o, hρ⟩ y hy => by
    subst hρ
    obtain ⟨j, hj, rfl⟩ := rng_mem hy
    obtain ⟨s1, o1, q⟩ := B13_ok ns g o s5 s7 s10 s12 s13 s14 s15 s16 hs a b c L x hx (j : Int) (by omega)
    exact ⟨_, _, rfl, q, s1, _, o1, rfl⟩) (ρ := LE ns nd ee s s5 s7 (.d (.str (S s0))) (.d L) s10 (.own (.lst [a, b, c])) s12 s13 s14 s15 s16 (.d x) s19) ⟨s, s19, o, rfl⟩
  exact ⟨s', s19', o', ex_for (evI_rng (ev_li 2 _) (rng_ok (by omega) (by omega))) f⟩
/-- a whole turn -/
theorem turn_ok {s : Cn} (o : Ok s) (h0 : 0 < nd.length) (kn : List (List Nat)) (hk : kn.length ≤ 14) (s5 : EN.Slot) (h5 : nOk5 kn s5) (j : Int) (s8 s9 s10 s11 s12 s13 s14 s15 s16 s18 s19 : EN.Slot) : ∃ (s' : Cn) (t5 t8 t9 t10 t11 t12 t13 t14 t15 t16 t18 t19 : EN.Slot), Ok s' ∧ nOk5 kn t5 ∧
    exs tb F59 1 bT (LE ns nd ee s s5 (.d (.int j)) s8 s9 s10 s11 s12 s13 s14 s15 s16 s18 s19) = .nx (LE ns nd ee s' t5 (.d (.int j)) t8 t9 t10 t11 t12 t13 t14 t15 t16 t18 t19) := by
  obtain ⟨s1, s0, o1, hs, h1⟩ := u1_ok ns g o h0 s5 (.d (.int j)) s8 s9 s10 s11 s12 s13 s14 s15 s16 s18 s19
  obtain ⟨s2, h, ls, o2, hh, hl, h2⟩ := u2_ok ns g o1 j s5 s9 s10 s11 s12 s13 s14 s15 s16 s18 s19 hs
  obtain ⟨s3, v, v2, o3, hv, hv2, h3⟩ := u3_ok ns g o2 s5 kn hk h5 (.d (.int j)) (.d (.str (S s0))) (.d (.str (S h))) s11 s12 s13 s14 s15 s16 s18 s19 ls hl
  obtain ⟨s4, a12, a13, a14, a15, o4, h4⟩ := t4_ok ns g o3 h0 (.d (.lst (sD kn))) (.d (.int j)) (.d (.tup (sD ls))) s12 s13 s14 s15 s16 s18 s19 hs hh [.tup (sD ls), v, v2] (by show 3 ≤ line; decide) (fun w hw => by
    simp only [List.mem_cons, List.not_mem_nil, or_false] at hw
    rcases hw with rfl | rfl | rfl
    · exact (VT.sD hl).vl (by omega)
    · exact hv
    · exact hv2)
  obtain ⟨h5', h6⟩ := u56_ok ns g s4 (.d (.lst (sD kn))) (.d (.int j)) (.own (.lst [.tup (sD ls), v, v2])) a12 a13 a14 a15 s16 s18 s19 hs hh ls hl
  have h7 := u7_ok ns g s4 (.d (.lst (sD kn))) (.d (.int j)) (.d (.str (S s0))) (.d (.str (S h))) (.own (.lst [.tup (sD ls), v, v2])) a12 a13 a14 a15 s16 s18 s19 ls
  obtain ⟨s5', ws, b16, o5, hw, hb, h8⟩ := u8_ok ns g o4 (.d (.lst (sD kn))) (.d (.int j)) (.d (.str (S s0))) (.d (.tup (sD ls))) (.d (.str (S h))) a12 a13 a14 a15 s18 s19 (.tup (sD ls)) v v2 hv ls hl
  have h9 := u9_ok ns g s5' (.d (.lst (sD kn))) (.d (.int j)) (.d (.tup (sD ls))) (.d (.str (S h))) (.own (.lst [.tup (sD ls), v, v2])) a12 a13 a14 a15 b16 s18 s19 s0 ws hw hb
  have h10 := u10_ok ns g s5' (.d (.lst (sD kn))) (.d (.int j)) (.d (.tup (sD ls))) (.d (.str (S h))) (.own (.lst [.tup (sD ls), v, v2])) a12 a13 a14 a15 s18 s19 s0 ws hw
  obtain ⟨s6, x, o6, hx, h11⟩ := u1112_ok ns g o5 (.d (.lst (sD kn))) (.d (.int j)) (.d (.str (S s0))) (.d (.tup (sD ls))) (.d (.str (S h))) (.own (.lst [.tup (sD ls), v, v2])) a12 a13 a14 a15 (.d (.lst (sD ws))) s18 s19
  obtain ⟨s7', c19, o7, h13⟩ := u13_ok ns g o6 (.d (.lst (sD kn))) (.d (.int j)) (.d (.str (S h))) a12 a13 a14 a15 (.d (.lst (sD ws))) s19 hs (.tup (sD ls)) v v2 (.tup (sD ls)) x hx
  have fin : exs tb F59 1 bT (LE ns nd ee s s5 (.d (.int j)) s8 s9 s10 s11 s12 s13 s14 s15 s16 s18 s19) = .nx (LE ns nd ee s7' (.d (.lst (sD kn))) (.d (.int j)) (.d (.str (S s0))) (.d (.tup (sD ls))) (.d (.str (S h))) (.own (.lst [.tup (sD ls), v, v2])) a12 a13 a14 a15 (.d (.lst (sD ws))) (.d x) c19) := by
    unfold bT
    exact (exs_cons h1).trans ((exs_cons h2).trans ((exs_cons h3).trans ((exs_cons h4).trans ((exs_cons h5').trans ((exs_cons h6).trans ((exs_cons h7).trans ((exs_cons h8).trans ((exs_cons h9).trans ((exs_cons h10).trans ((h11 _).trans (exs_one h13)))))))))))
  exact ⟨s7', .d (.lst (sD kn)), .d (.str (S s0)), .d (.tup (sD ls)), .d (.str (S h)), .own (.lst [.tup (sD ls), v, v2]), a12, a13, a14, a15, .d (.lst (sD ws)), .d x, c19, o7, .inr rfl, fin⟩
end
end K05
namespace K05
open PySem EN
theorem ok0' : Ok (SC 0 0 0 0) := ⟨0, 0, 0, 0, by omega, rfl⟩
def Z0 (ns : List Int) (s1 s2 s3 s4 s5 : EN.Slot) : EN.Env := [.d (.scr ns), s1, s2, s3, s4, s5, .un, .un, .un, .un, .un, .un, .un, .un, .un, .un, .un, .un, .un, .un]
theorem l1 (fn : Fn) (ns : List Int) : ex tb fn 1 w1 (Z0 ns .un .un .un .un .un) = .nx (Z0 ns (.own (SC 0 0 0 0)) .un .un .un .un) := by
  unfold w1
  have hp : putAll [] [((.inr (Str.ofString "rest") : Key), D.int 0), (.inr (Str.ofString "next"), .int 0), (.inr (Str.ofString "count"), .int 0), (.inr (Str.ofString "digits"), .int 0)] = SQ 0 0 0 0 := rfl
  have l4 : [((.inr (Str.ofString "rest") : Key), D.int 0), (.inr (Str.ofString "next"), .int 0), (.inr (Str.ofString "count"), .int 0), (.inr (Str.ofString "digits"), .int 0)].length ≤ 15 := by decide
  unfold SC
  generalize Str.ofString "rest" = a1 at *
  generalize Str.ofString "next" = a2 at *
  generalize Str.ofString "count" = a3 at *
  generalize Str.ofString "digits" = a4 at *
  generalize hz : [((.inr a1 : Key), D.int 0), (.inr a2, .int 0), (.inr a3, .int 0), (.inr a4, .int 0)] = z at *
  rw [ex.eq_1, ev.eq_5]
  simp only [evp, ev.eq_2, flatD, if_true, R.bind, kp, D.key?, hz, l4, hp, R.to, EN.store]
  rfl
theorem l2 (fn : Fn) (ns : List Int) (s s' : Cn) (a b : D) (e : fn 18 [.d (.scr ns), .own s, .d (.int 7), .d (.int 12)] = .ok (.d (.tup [a, b])) [.un, .own s', .un, .un]) : ex tb fn 1 w2 (Z0 ns (.own s) .un .un .un .un) = .nx (Z0 ns (.own s') (.d a) (.d b) .un .un) := by
  unfold w2 Z0
  simp [ex.eq_2, ev.eq_20, evA, ev.eq_1, ev.eq_2, flatD, Env.at, R.bind, kpF, kp, callR, prep, prepV, handAll, handed, slotsOf, md19, e, backR, back, R.to, EN.storeAll, EN.store]
theorem ini0 : tb.ini 0 = 29 := rfl
theorem nc1 : tb.nc = 1 := rfl
theorem l3 (fn : Fn) (ns : List Int) (s : Cn) (nd : List (List Nat)) (b : D) : ∃ nd', (nd = [] → nd' = [[97]]) ∧ (nd ≠ [] → nd' = nd) ∧ ex tb fn 1 w3 (Z0 ns (.own s) (.d (.tup (sD nd))) (.d b) .un .un) = .nx (Z0 ns (.own s) (.d (.tup (sD nd'))) (.d b) .un .un) := by
  have hl : ev tb fn 1 (ln (.var 2)) (Z0 ns (.own s) (.d (.tup (sD nd))) (.d b) .un .un) = .ok (.d (.int (nd.length : Int))) (Z0 ns (.own s) (.d (.tup (sD nd))) (.d b) .un .un) := by
    have ol : opF .len [.tup (sD nd)] = some (.d (.int (nd.length : Int))) := by
      show some (IV.d (.int ((sD nd).length : Int))) = _
      rw [sD_len]
    unfold ln
    rw [ev.eq_21]
    simp only [evA, ev_vd (T := tb) (fn := fn) (np := 1) (i := 2) (ρ := Z0 ns (.own s) (.d (.tup (sD nd))) (.d b) .un .un) (d := .tup (sD nd)) rfl, R.bind, kpF, List.mapM_cons, List.mapM_nil, vw, Option.pure_def, Option.bind_eq_bind, Option.bind_some, ol, R.val]
  have hc : ev tb fn 1 (.cmp .eq (ln (.var 2)) (.lit (.int 0))) (Z0 ns (.own s) (.d (.tup (sD nd))) (.d b) .un .un) = .ok (.d (.bl (decide ((nd.length : Int) = 0)))) (Z0 ns (.own s) (.d (.tup (sD nd))) (.d b) .un .un) := by
    rw [ev.eq_8, hl]
    simp only [R.bind, kpF, ev_li, seen, vw, opC, eqD, eqS, R.bool]
  cases nd with
  | nil =>
    refine ⟨[[97]], fun _ => rfl, fun z => absurd rfl z, ex_ifT hc (exs_one (ex_asgD (d := .tup (sD [[97]])) (ρ1 := Z0 ns (.own s) (.d (.tup (sD []))) (.d b) .un .un) ?_ rfl))⟩
    have : D.tup (sD [[97]]) = .tup [.str (Str.ofString "a")] := by rw [S_a]; rfl
    rw [this]
    exact ev_tup1 (ev_ls _ _)
  | cons l nd =>
    have z : decide (((l :: nd).length : Int) = 0) = false := decide_eq_false (by rw [List.length_cons]; omega)
    rw [z] at hc
    exact ⟨l :: nd, (fun z => by cases z), (fun _ => rfl), ex_no hc⟩
section
variable (ns : List Int) {nd : List (List Nat)} {ee : List E} (g : Gr nd ee)
include g
theorem l4 (s : Cn) : ex tb F59 1 w4 (Z0 ns (.own s) (.d (.tup (sD nd))) (.d (.tup (ee.map E.d))) .un .un) = .nx (Z0 ns (.own s) (.d (.tup (sD nd))) (.d (.tup (ee.map E.d))) (.d (G nd ee)) .un) := by
  have e := run_init 54 nd ee g
  simp only [Nat.reduceAdd] at e
  change F59 29 _ = _ at e
  have f : (D.obj 0 ((gF nd ee).map (·.2))) = G nd ee := rfl
  unfold w4 Z0
  rw [← f]
  generalize gF nd ee = gf at *
  generalize D.tup (sD nd) = dn at *
  generalize D.tup (ee.map E.d) = dd at *
  generalize F59 = fn at *
  simp [ex.eq_1, ev.eq_31, evA, ev.eq_1, Env.at, R.bind, kpF, newR, nc1, ini0, prep, prepV, handAll, handed, slotsOf, e, backR, back, R.to, EN.store, kp]
theorem l5 (s : Cn) : ex tb F59 1 w5 (Z0 ns (.own s) (.d (.tup (sD nd))) (.d (.tup (ee.map E.d))) (.d (G nd ee)) .un) = .nx (LE ns nd ee s (.own (.lst (sD (ee.map E.lab)))) .un .un .un .un .un .un .un .un .un .un .un .un) := by
  have hv : ev tb F59 1 (.var 3) (Z0 ns (.own s) (.d (.tup (sD nd))) (.d (.tup (ee.map E.d))) (.d (G nd ee)) .un) = .ok (.d (.tup (ee.map E.d))) (Z0 ns (.own s) (.d (.tup (sD nd))) (.d (.tup (ee.map E.d))) (.d (G nd ee)) .un) := ev_vd rfl
  have hi := evI_d hv rfl (by have := g.e3; rw [List.length_map]; unfold line; omega : (ee.map E.d).length ≤ line)
  have key := ev_lcG (T := tb) (fn := F59) (np := 1) (elt := .ix (.var 6) (.lit (.int 0))) (i := 6) (hasIf := false) (c := .lit (.bl true)) E.d (fun _ => true) (fun e => .str (S e.lab)) hi (.inl rfl) (fun z => nomatch z) (fun _ _ _ => rfl) fun e he _ => by
    rw [ev_ixL (d := e.d) rfl (i_lab e)]; rfl
  have ft : (ee.filter fun _ => true) = ee := List.filter_eq_self.mpr fun _ _ => rfl
  have fm : (ee.map fun e => D.str (S e.lab)) = sD (ee.map E.lab) := by unfold sD; rw [List.map_map]; rfl
  rw [ft, fm] at key
  unfold w5
  rw [ex.eq_1, key]
  rfl
theorem l6 {s : Cn} (o : Ok s) (h0 : 0 < nd.length) : ∃ ρ, ex tb F59 1 (.forS 7 (.rng (.lit (.int 4))) bT) (LE ns nd ee s (.own (.lst (sD (ee.map E.lab)))) .un .un .un .un .un .un .un .un .un .un .un .un) = .nx ρ := by
  have hk : (ee.map E.lab).length ≤ 14 := by rw [List.length_map]; have := g.e3; omega
  obtain ⟨ρ', f, _⟩ := loop_inv (np := 1) (i := 7) (b := fun ρ => exs tb F59 1 bT ρ) (fun ρ => ∃ (s : Cn) (s5 s7 s8 s9 s10 s11 s12 s13 s14 s15 s16 s18 s19 : EN.Slot), Ok s ∧ nOk5 (ee.map E.lab) s5 ∧ ρ = LE ns nd ee s s5 s7 s8 s9 s10 s11 s12 s13 s14 s15 s16 s18 s19) (xs := rngD 0 ((4 : Nat) : Int)) (fun ρ ⟨s, s5, s7, s8, s9, s10, s11, s12, s13, s14, s15, s16, s18, s19, o, h5, hρ⟩ y hy => by
    subst hρ
    obtain ⟨j, hj, rfl⟩ := rng_mem hy
    obtain ⟨s', t5, t8, t9, t10, t11, t12, t13, t14, t15, t16, t18, t19, o', h5', q⟩ := turn_ok ns g o h0 (ee.map E.lab) hk s5 h5 (j : Int) s8 s9 s10 s11 s12 s13 s14 s15 s16 s18 s19
    exact ⟨_, _, rfl, q, s', t5, _, t8, t9, t10, t11, t12, t13, t14, t15, t16, t18, t19, o', h5', rfl⟩) (ρ := LE ns nd ee s (.own (.lst (sD (ee.map E.lab)))) .un .un .un .un .un .un .un .un .un .un .un .un) ⟨s, _, _, _, _, _, _, _, _, _, _, _, _, _, o, .inl rfl, rfl⟩
  exact ⟨ρ', ex_for (evI_rng (ev_li 4 _) (rng_ok (by omega) (by omega))) f⟩
end
theorem runs (ns : List Int) (hl : ns.length ≤ 63) : ∃ ps, runF tb fds 60 28 [.d (.scr ns)] = .ok (.d (.bl true)) ps := by
  obtain ⟨s1, nd, ee, o1, g, e1⟩ := run_drawn 55 ns ok0'
  simp only [Nat.reduceAdd] at e1
  have h2 := l2 F59 ns (SC 0 0 0 0) s1 _ _ e1
  obtain ⟨nd', c1, c2, h3⟩ := l3 F59 ns s1 nd (.tup (ee.map E.d))
  have g' : Gr nd' ee ∧ 0 < nd'.length := by
    by_cases hz : nd = []
    · have he : ee = [] := by
        cases ee with
        | nil => rfl
        | cons e r =>
          have := (g.e2 e List.mem_cons_self).2.1
          rw [hz] at this
          cases this
      rw [c1 hz, he]
      exact ⟨⟨by simp, fun l hl => by rw [List.mem_singleton.mp hl]; exact ⟨by decide, by decide, rfl⟩, by simp, List.nodup_nil, (fun _ z => nomatch z), by simp⟩, by simp⟩
    · rw [c2 hz]
      exact ⟨g, List.length_pos_iff.mpr hz⟩
  obtain ⟨g', h0⟩ := g'
  obtain ⟨ρ, h6⟩ := l6 ns g' o1 h0
  have body : exs tb F59 1 b_law (Z0 ns .un .un .un .un .un) = .rt (.d (.bl true)) ρ := by
    rw [b_lawE, exs_cons (l1 _ ns), exs_cons h2, exs_cons h3, exs_cons (l4 ns g' s1), exs_cons (l5 ns g' s1), exs_cons h6]
    exact exs_rt (ex_retD (ev_lb _ _ _ _))
  exact ⟨_, run_rt (k := 59) (f := 28) (np := 1) (ns := 20) (b := b_law) (as := [.d (.scr ns)]) rfl rfl body⟩
end K05
namespace K05
open PySem EN L2
-- runs stands in P23
theorem mainF {K : PySem.W.Frag} {mg : Str → Option Value} {h : Heap} {fa : Addr} {w : World} (X : K.In h) (G : h.Ns mainGlobals mg) (hfa : mg "law" = some (.ref fa)) (hk : EN.kB K cc tb 32 = true)
    (f0 : FnL K "_wall" "_wall" (st 0) (adr K "_wall"))
    (f1 : FnL K "is_integer" "is_integer" (st 1) (adr K "is_integer"))
    (f2 : FnL K "is_number" "is_number" (st 2) (adr K "is_number"))
    (f3 : FnL K "is_name" "is_name" (st 3) (adr K "is_name"))
    (f4 : FnL K "is_sequence" "is_sequence" (st 4) (adr K "is_sequence"))
    (f5 : FnL K "has_parts" "has_parts" (st 5) (adr K "has_parts"))
    (f6 : FnL K "is_edge" "is_edge" (st 6) (adr K "is_edge"))
    (f7 : FnL K "require_nodes" "require_nodes" (st 7) (adr K "require_nodes"))
    (f8 : FnL K "_leads" "_leads" (st 8) (adr K "_leads"))
    (f9 : FnL K "is_way" "is_way" (st 9) (adr K "is_way"))
    (f10 : FnL K "is_walk" "is_walk" (st 10) (adr K "is_walk"))
    (f11 : FnL K "price_of" "price_of" (st 11) (adr K "price_of"))
    (f12 : FnL K "_are_unlike_names" "_are_unlike_names" (st 12) (adr K "_are_unlike_names"))
    (f13 : FnL K "_check_edges" "_check_edges" (st 13) (adr K "_check_edges"))
    (f14 : FnL K "_law_mixed" "_law_mixed" (st 14) (adr K "_law_mixed"))
    (f15 : FnL K "_law_draw" "_law_draw" (st 15) (adr K "_law_draw"))
    (f16 : FnL K "_law_names" "_law_names" (st 16) (adr K "_law_names"))
    (f17 : FnL K "_law_edge" "_law_edge" (st 17) (adr K "_law_edge"))
    (f18 : FnL K "_law_drawn" "_law_drawn" (st 18) (adr K "_law_drawn"))
    (f19 : FnL K "_law_alike" "_law_alike" (st 19) (adr K "_law_alike"))
    (f20 : FnL K "_law_classes" "_law_classes" (st 20) (adr K "_law_classes"))
    (f21 : FnL K "_law_lone" "_law_lone" (st 21) (adr K "_law_lone"))
    (f22 : FnL K "_law_end" "_law_end" (st 22) (adr K "_law_end"))
    (f23 : FnL K "_law_leads" "_law_leads" (st 23) (adr K "_law_leads"))
    (f24 : FnL K "_law_led" "_law_led" (st 24) (adr K "_law_led"))
    (f25 : FnL K "_law_spoilt" "_law_spoilt" (st 25) (adr K "_law_spoilt"))
    (f26 : FnL K "_law_asked" "_law_asked" (st 26) (adr K "_law_asked"))
    (f27 : FnL K "_law_price" "_law_price" (st 27) (adr K "_law_price"))
    (f28 : FnL K "law" "law" (st 28) (adr K "law"))
    (f29 : FnL K "__init__" "Graph.__init__" (st 29) (fad K cc 29))
    (f30 : FnL K "__contains__" "Graph.__contains__" (st 30) (fad K cc 30))
    (f31 : FnL K "__getitem__" "Graph.__getitem__" (st 31) (fad K cc 31))
    (c0 : ClL K (adr K "WardError"))
    (c1 : ClL K (adr K "InvalidGraph"))
    (c2 : ClL K (adr K "InvalidText"))
    (c3 : ClL K (adr K "UnknownNode"))
    (c4 : ClL K (adr K "UnknownEdge"))
    (c5 : ClL K (adr K "Taken"))
    (c6 : ClL K (adr K "InvalidNumber"))
    (c7 : ClL K (adr K "Undefined"))
    (c8 : ClL K (adr K "InvalidClaim"))
    (c9 : ClL K (adr K "Refused"))
    (c10 : ClL K (adr K "InvalidQuestion"))
    (c11 : ClL K (adr K "NotWatched"))
    (c12 : ClL K (adr K "NothingToUndo"))
    (c13 : ClL K (adr K "InvalidEdit"))
    (i1 : FnL K "__init__" "InvalidGraph.__init__" (sti 1) (iad K (adr K "InvalidGraph")))
    (i2 : FnL K "__init__" "InvalidText.__init__" (sti 2) (iad K (adr K "InvalidText")))
    (i3 : FnL K "__init__" "UnknownNode.__init__" (sti 3) (iad K (adr K "UnknownNode")))
    (i4 : FnL K "__init__" "UnknownEdge.__init__" (sti 4) (iad K (adr K "UnknownEdge")))
    (i5 : FnL K "__init__" "Taken.__init__" (sti 5) (iad K (adr K "Taken")))
    (i6 : FnL K "__init__" "InvalidNumber.__init__" (sti 6) (iad K (adr K "InvalidNumber")))
    (i7 : FnL K "__init__" "Undefined.__init__" (sti 7) (iad K (adr K "Undefined")))
    (i8 : FnL K "__init__" "InvalidClaim.__init__" (sti 8) (iad K (adr K "InvalidClaim")))
    (i9 : FnL K "__init__" "Refused.__init__" (sti 9) (iad K (adr K "Refused")))
    (i10 : FnL K "__init__" "InvalidQuestion.__init__" (sti 10) (iad K (adr K "InvalidQuestion")))
    (i11 : FnL K "__init__" "NotWatched.__init__" (sti 11) (iad K (adr K "NotWatched")))
    (i12 : FnL K "__init__" "NothingToUndo.__init__" (sti 12) (iad K (adr K "NothingToUndo")))
    (i13 : FnL K "__init__" "InvalidEdit.__init__" (sti 13) (iad K (adr K "InvalidEdit")))
    : ∃ fd : FuncData, (∀ (s : Shared) (u : Value), BindsTo s fd ⟨[u], []⟩ [("script", u)]) ∧ ∀ base : Heap, K.In base → base.Ns mainGlobals mg →
      FnOk PySem.Challenge.rw_bridgeward_k05_ways_walks_and_prices.prog w K mg base (L2N.CX PySem.Challenge.rw_bridgeward_k05_ways_walks_and_prices.prog w) 123 fa fd ["script"] (spLaw K) := by
  have fns : ∀ f, f < 32 → FnL K (cc.gn f) (ql f) (st f) (fad K cc f) := fun f hf => match f, hf with
    | 0, _ => fnL_fad rfl f0
    | 1, _ => fnL_fad rfl f1
    | 2, _ => fnL_fad rfl f2
    | 3, _ => fnL_fad rfl f3
    | 4, _ => fnL_fad rfl f4
    | 5, _ => fnL_fad rfl f5
    | 6, _ => fnL_fad rfl f6
    | 7, _ => fnL_fad rfl f7
    | 8, _ => fnL_fad rfl f8
    | 9, _ => fnL_fad rfl f9
    | 10, _ => fnL_fad rfl f10
    | 11, _ => fnL_fad rfl f11
    | 12, _ => fnL_fad rfl f12
    | 13, _ => fnL_fad rfl f13
    | 14, _ => fnL_fad rfl f14
    | 15, _ => fnL_fad rfl f15
    | 16, _ => fnL_fad rfl f16
    | 17, _ => fnL_fad rfl f17
    | 18, _ => fnL_fad rfl f18
    | 19, _ => fnL_fad rfl f19
    | 20, _ => fnL_fad rfl f20
    | 21, _ => fnL_fad rfl f21
    | 22, _ => fnL_fad rfl f22
    | 23, _ => fnL_fad rfl f23
    | 24, _ => fnL_fad rfl f24
    | 25, _ => fnL_fad rfl f25
    | 26, _ => fnL_fad rfl f26
    | 27, _ => fnL_fad rfl f27
    | 28, _ => fnL_fad rfl f28
    | 29, _ => f29
    | 30, _ => f30
    | 31, _ => f31
    | n + 32, h => absurd h (by omega)
  have cls : ∀ c, c < tb.ne → ClL K (adr K (cc.en c)) := fun c hc => by
    have hc : c < 14 := hc
    exact match c, hc with
    | 0, _ => c0
    | 1, _ => c1
    | 2, _ => c2
    | 3, _ => c3
    | 4, _ => c4
    | 5, _ => c5
    | 6, _ => c6
    | 7, _ => c7
    | 8, _ => c8
    | 9, _ => c9
    | 10, _ => c10
    | 11, _ => c11
    | 12, _ => c12
    | 13, _ => c13
  have ini : ∀ c, c < tb.ne → tb.ef c ≠ [] → FnL K "__init__" (qi c) (sti c) (iad K (adr K (cc.en c))) := fun c hc ne => by
    have hc : c < 14 := hc
    exact match c, hc, ne with
    | 0, _, ne => absurd rfl ne
    | 1, _, _ => i1
    | 2, _, _ => i2
    | 3, _, _ => i3
    | 4, _, _ => i4
    | 5, _, _ => i5
    | 6, _, _ => i6
    | 7, _, _ => i7
    | 8, _, _ => i8
    | 9, _, _ => i9
    | 10, _, _ => i10
    | 11, _, _ => i11
    | 12, _, _ => i12
    | 13, _, _ => i13
  have T := fun base => txt_of (base := base) (P := PySem.Challenge.rw_bridgeward_k05_ways_walks_and_prices.prog) (w := w) txtS X G hk fns cls ini
  have m8 := (T h).gl 28 (by decide)
  have F8 := ((T h).fn 28 (by decide)).1
  have m8 : mg "law" = some (.ref (fad K cc 28)) := m8
  rw [hfa] at m8
  cases m8
  obtain ⟨oc, od, kV, doc, pm, an, cdv, ct, osl, e, _, _⟩ := F8.ex
  refine ⟨_, fun s u => ?_, fun base _ _ => ((T base).allC 60 28 (by decide)).imp fun vs H Q E hs => law_sp (g := gOf K cc tb PySem.Challenge.rw_bridgeward_k05_ways_walks_and_prices.prog w) runs hs⟩
  rw [e]
  exact .of_eq (txtS.bnd 28 (by decide) kV doc pm an cdv ct [u] rfl)
end K05
open PySem PySem.W PyProof.Rows in
set_option maxRecDepth 100000 in
set_option maxHeartbeats 0 in
theorem K05x : PySem.Challenge.rw_bridgeward_k05_ways_walks_and_prices.Holds := by
  w_on; o_law; k_head; (case hw => w_witness2)
  k_fill
  refine L2.walk_of (l := PySem.Challenge.rw_bridgeward_k05_ways_walks_and_prices) (n := 63) (k := 123) (x := "script") (CX := fun w => L2N.CX PySem.Challenge.rw_bridgeward_k05_ways_walks_and_prices.prog w) (sp := fun w => EN.spLaw _) rfl (by decide) rfl ⟨rfl, by decide, by decide⟩ (fun w h Y => PySem.W.kIn_of Y) ?F (fun w H a ns hl _ hS => ⟨a, ns, rfl, hS, hl, fun _ => rfl⟩) (fun _ _ _ _ _ z => by
    obtain ⟨_, _, _, _, _, _, _, _, _, _, _, _, q⟩ := z
    exact q.elim)
  case F =>
    intro w mg fa h KX G hmg
    refine K05.mainF KX G hmg ?hk ?f0 ?f1 ?f2 ?f3 ?f4 ?f5 ?f6 ?f7 ?f8 ?f9 ?f10 ?f11 ?f12 ?f13 ?f14 ?f15 ?f16 ?f17 ?f18 ?f19 ?f20 ?f21 ?f22 ?f23 ?f24 ?f25 ?f26 ?f27 ?f28 ?f29 ?f30 ?f31 ?c0 ?c1 ?c2 ?c3 ?c4 ?c5 ?c6 ?c7 ?c8 ?c9 ?c10 ?c11 ?c12 ?c13 ?i1 ?i2 ?i3 ?i4 ?i5 ?i6 ?i7 ?i8 ?i9 ?i10 ?i11 ?i12 ?i13
    case hk => kernel_rfl
    case f0 => (refine' EN.fnL_mk ?a ?l ?c; (case a => k_is); (case l => k_is); (case c => k_is))
    case f1 => (refine' EN.fnL_mk ?a ?l ?c; (case a => k_is); (case l => k_is); (case c => k_is))
    case f2 => (refine' EN.fnL_mk ?a ?l ?c; (case a => k_is); (case l => k_is); (case c => k_is))
    case f3 => (refine' EN.fnL_mk ?a ?l ?c; (case a => k_is); (case l => k_is); (case c => k_is))
    case f4 => (refine' EN.fnL_mk ?a ?l ?c; (case a => k_is); (case l => k_is); (case c => k_is))
    case f5 => (refine' EN.fnL_mk ?a ?l ?c; (case a => k_is); (case l => k_is); (case c => k_is))
    case f6 => (refine' EN.fnL_mk ?a ?l ?c; (case a => k_is); (case l => k_is); (case c => k_is))
    case f7 => (refine' EN.fnL_mk ?a ?l ?c; (case a => k_is); (case l => k_is); (case c => k_is))
    case f8 => (refine' EN.fnL_mk ?a ?l ?c; (case a => k_is); (case l => k_is); (case c => k_is))
    case f9 => (refine' EN.fnL_mk ?a ?l ?c; (case a => k_is); (case l => k_is); (case c => k_is))
    case f10 => (refine' EN.fnL_mk ?a ?l ?c; (case a => k_is); (case l => k_is); (case c => k_is))
    case f11 => (refine' EN.fnL_mk ?a ?l ?c; (case a => k_is); (case l => k_is); (case c => k_is))
    case f12 => (refine' EN.fnL_mk ?a ?l ?c; (case a => k_is); (case l => k_is); (case c => k_is))
    case f13 => (refine' EN.fnL_mk ?a ?l ?c; (case a => k_is); (case l => k_is); (case c => k_is))
    case f14 => (refine' EN.fnL_mk ?a ?l ?c; (case a => k_is); (case l => k_is); (case c => k_is))
    case f15 => (refine' EN.fnL_mk ?a ?l ?c; (case a => k_is); (case l => k_is); (case c => k_is))
    case f16 => (refine' EN.fnL_mk ?a ?l ?c; (case a => k_is); (case l => k_is); (case c => k_is))
    case f17 => (refine' EN.fnL_mk ?a ?l ?c; (case a => k_is); (case l => k_is); (case c => k_is))
    case f18 => (refine' EN.fnL_mk ?a ?l ?c; (case a => k_is); (case l => k_is); (case c => k_is))
    case f19 => (refine' EN.fnL_mk ?a ?l ?c; (case a => k_is); (case l => k_is); (case c => k_is))
    case f20 => (refine' EN.fnL_mk ?a ?l ?c; (case a => k_is); (case l => k_is); (case c => k_is))
    case f21 => (refine' EN.fnL_mk ?a ?l ?c; (case a => k_is); (case l => k_is); (case c => k_is))
    case f22 => (refine' EN.fnL_mk ?a ?l ?c; (case a => k_is); (case l => k_is); (case c => k_is))
    case f23 => (refine' EN.fnL_mk ?a ?l ?c; (case a => k_is); (case l => k_is); (case c => k_is))
    case f24 => (refine' EN.fnL_mk ?a ?l ?c; (case a => k_is); (case l => k_is); (case c => k_is))
    case f25 => (refine' EN.fnL_mk ?a ?l ?c; (case a => k_is); (case l => k_is); (case c => k_is))
    case f26 => (refine' EN.fnL_mk ?a ?l ?c; (case a => k_is); (case l => k_is); (case c => k_is))
    case f27 => (refine' EN.fnL_mk ?a ?l ?c; (case a => k_is); (case l => k_is); (case c => k_is))
    case f28 => (refine' EN.fnL_mk ?a ?l ?c; (case a => k_is); (case l => k_is); (case c => k_is))
    case f29 => (refine' EN.metL_mk (c := 0) rfl ?b ?a ?l ?c; (case b => k_is); (case a => k_is); (case l => k_is); (case c => k_is))
    case f30 => (refine' EN.metL_mk (c := 0) rfl ?b ?a ?l ?c; (case b => k_is); (case a => k_is); (case l => k_is); (case c => k_is))
    case f31 => (refine' EN.metL_mk (c := 0) rfl ?b ?a ?l ?c; (case b => k_is); (case a => k_is); (case l => k_is); (case c => k_is))
    case c0 => (refine' EN.clL_mk ?b ?l ?r; (case b => k_is); (case l => k_is); (case r => decide +kernel))
    case c1 => (refine' EN.clL_mk ?b ?l ?r; (case b => k_is); (case l => k_is); (case r => decide +kernel))
    case c2 => (refine' EN.clL_mk ?b ?l ?r; (case b => k_is); (case l => k_is); (case r => decide +kernel))
    case c3 => (refine' EN.clL_mk ?b ?l ?r; (case b => k_is); (case l => k_is); (case r => decide +kernel))
    case c4 => (refine' EN.clL_mk ?b ?l ?r; (case b => k_is); (case l => k_is); (case r => decide +kernel))
    case c5 => (refine' EN.clL_mk ?b ?l ?r; (case b => k_is); (case l => k_is); (case r => decide +kernel))
    case c6 => (refine' EN.clL_mk ?b ?l ?r; (case b => k_is); (case l => k_is); (case r => decide +kernel))
    case c7 => (refine' EN.clL_mk ?b ?l ?r; (case b => k_is); (case l => k_is); (case r => decide +kernel))
    case c8 => (refine' EN.clL_mk ?b ?l ?r; (case b => k_is); (case l => k_is); (case r => decide +kernel))
    case c9 => (refine' EN.clL_mk ?b ?l ?r; (case b => k_is); (case l => k_is); (case r => decide +kernel))
    case c10 => (refine' EN.clL_mk ?b ?l ?r; (case b => k_is); (case l => k_is); (case r => decide +kernel))
    case c11 => (refine' EN.clL_mk ?b ?l ?r; (case b => k_is); (case l => k_is); (case r => decide +kernel))
    case c12 => (refine' EN.clL_mk ?b ?l ?r; (case b => k_is); (case l => k_is); (case r => decide +kernel))
    case c13 => (refine' EN.clL_mk ?b ?l ?r; (case b => k_is); (case l => k_is); (case r => decide +kernel))
    case i1 => (refine' EN.iniL_mk ?b ?a ?l ?c; (case b => k_is); (case a => k_is); (case l => k_is); (case c => k_is))
    case i2 => (refine' EN.iniL_mk ?b ?a ?l ?c; (case b => k_is); (case a => k_is); (case l => k_is); (case c => k_is))
    case i3 => (refine' EN.iniL_mk ?b ?a ?l ?c; (case b => k_is); (case a => k_is); (case l => k_is); (case c => k_is))
    case i4 => (refine' EN.iniL_mk ?b ?a ?l ?c; (case b => k_is); (case a => k_is); (case l => k_is); (case c => k_is))
    case i5 => (refine' EN.iniL_mk ?b ?a ?l ?c; (case b => k_is); (case a => k_is); (case l => k_is); (case c => k_is))
    case i6 => (refine' EN.iniL_mk ?b ?a ?l ?c; (case b => k_is); (case a => k_is); (case l => k_is); (case c => k_is))
    case i7 => (refine' EN.iniL_mk ?b ?a ?l ?c; (case b => k_is); (case a => k_is); (case l => k_is); (case c => k_is))
    case i8 => (refine' EN.iniL_mk ?b ?a ?l ?c; (case b => k_is); (case a => k_is); (case l => k_is); (case c => k_is))
    case i9 => (refine' EN.iniL_mk ?b ?a ?l ?c; (case b => k_is); (case a => k_is); (case l => k_is); (case c => k_is))
    case i10 => (refine' EN.iniL_mk ?b ?a ?l ?c; (case b => k_is); (case a => k_is); (case l => k_is); (case c => k_is))
    case i11 => (refine' EN.iniL_mk ?b ?a ?l ?c; (case b => k_is); (case a => k_is); (case l => k_is); (case c => k_is))
    case i12 => (refine' EN.iniL_mk ?b ?a ?l ?c; (case b => k_is); (case a => k_is); (case l => k_is); (case c => k_is))
    case i13 => (refine' EN.iniL_mk ?b ?a ?l ?c; (case b => k_is); (case a => k_is); (case l => k_is); (case c => k_is))

theorem PySem.Challenge.cw_bridgeward_k05_ways_walks_and_prices_holds : PySem.Challenge.rw_bridgeward_k05_ways_walks_and_prices.Holds := by
  exact K05x
