import PyProof.Rows.All
import Wide.All
import OpenK.AllK
import Wide.FinOn
import HandS.ForMost
import HandS.Exc
import HandS.ExcOwn
import HandS.ExcIs
import HandS.IsInst
import KE.KTryMore
import HandS.Strs
import HandS.SetFor
import HandS.Lambda
import HandS.EndBits
import HandS.EndTab
import HandS.TupAny
import HandS.Zip
import HandS.Wide
import HandS.WordsExc
import PyProof.P3In
import KE.KNestM
import HandS.Dict
import PyProof.ReprRoads
import HandS.Style
import KE.KRevSl
import PyProof.NeData
import HandS.Conv
import PySem.Challenge.RW_dealtongue_k03_what_is_a_rest_or_a_span
set_option Elab.async false
set_option linter.all false
set_option maxRecDepth 100000
set_option maxHeartbeats 4000000
/-! Errors that were caught and are kept as values: the heap knows them by their class; a try with a tuple of classes; isinstance of them. -/
namespace Dt
open PySem PySem.Spec PyProof.Rows L2
/-- at a stands an error of the program's class C, caught and kept -/
def ErrO (C a : Addr) : HO := .ext fun h => ∃ (ob : Obj) (fs : Array Value), h.get? a = some ob ∧ Zc (.ref C) none ob ∧ ob.data = .fields fs
theorem errO_ok {P : Program} {w : World} {H : Hp} {h : Heap} {a C : Addr} {ob : Obj} {fs : Array Value} (e : h.get? a = some ob) (z : Zc (.ref C) none ob) (d : ob.data = .fields fs) : ObjOk P w H h a (ErrO C a) := by
  refine ⟨⟨ob, fs, e, z, d⟩, ⟨ob, e⟩, ?_⟩
  rintro h1 h2 ⟨o, v, q, r⟩ k
  exact ⟨o, v, k o q, r⟩
section
variable {X : Cx} {pins : List (Addr × Obj)} {σ : L2.St} {H : Hp} {s : Shared}
/-- from here on the heap knows the error at a -/
theorem keepErr {a C : Addr} {ob : Obj} {fs : Array Value} (I : Inv X pins σ H s) (hn : H a = none) (h0 : X.s_0.heap.get? a = none) (e : s.heap.get? a = some ob) (z : Zc (.ref C) none ob) (d : ob.data = .fields fs)
    (hp : ∀ p ∈ X.pn ++ pins, p.1 ≠ a) : Inv X pins σ (upd H a (ErrO C a)) s := by
  have hL : X.env.locals ≠ a := by
    intro q
    obtain ⟨m, ⟨oL, es, ep, hoL, hdL, _⟩, _⟩ := id I.loc
    rw [q, e] at hoL
    cases hoL
    rw [d] at hdL
    cases hdL
  have hC : ∀ x c, X.env.cells.lookup x = some c → c ≠ a := by
    intro x c ec q
    obtain ⟨v, o, ho, hd⟩ := I.cell x c ec
    rw [q, e] at ho
    cases ho
    rw [d] at hd
    cases hd
  have ne : ∀ b u, H b = some u → b ≠ a := fun b u q => ne_of_none q hn
  refine { ok := I.ok, os := I.os, bare := I.bare, loc := I.loc, cell := I.cell, len := I.len, base := ?_, free := ?_, freeC := ?_, pin := ?_, hok := ?_ }
  · refine { keep := I.base.keep, slot := I.base.slot, there := I.base.there, free := ?_, tups := ?_, frzs := ?_, tbls := ?_ }
    · intro b o q n hx
      have hb : b ≠ a := fun y => by
        rw [y, h0] at q
        cases q
      rw [upd_ne hb]
      exact I.base.free b o q n hx
    · intro b xs q
      have q2 := I.base.tups b xs q
      rw [upd_ne (ne _ _ q2)]
      exact q2
    · intro b o u q
      have q2 := I.base.frzs b o u q
      rw [upd_ne (ne _ _ q2)]
      exact q2
    · intro b ps q
      obtain ⟨m, q2⟩ := I.base.tbls b ps q
      exact ⟨m, by rw [upd_ne (ne _ _ q2)]; exact q2⟩
  · rw [upd_ne hL]
    exact I.free
  · intro x c ec
    rw [upd_ne (hC x c ec)]
    exact I.freeC x c ec
  · intro p hm
    obtain ⟨q1, q2, q3⟩ := I.pin p hm
    exact ⟨q1, by rw [upd_ne (hp p hm)]; exact q2, q3⟩
  · intro b u q
    by_cases hb : b = a
    · subst hb
      rw [upd_same] at q
      cases q
      exact errO_ok e z d
    · rw [upd_ne hb] at q
      refine (I.hok b u q).stay (fun _ _ _ y => y) (fun c y => ?_) (fun c xs y => ?_)
      · rw [upd_ne (ne _ _ y)]
        exact y
      · rw [upd_ne (ne _ _ y)]
        exact y
/-! ### isinstance -/
/-- isinstance(e, c), e an error that is kept -/
def rIsK (K : PySem.W.Frag) : List V → Hp → VK → Prop := fun xs H Q => ∃ (a C : Addr) (c : V) (cv : Value) (b : Bool), xs = [.ref a, c] ∧ H a = some (ErrO C a) ∧ ExcC K C ∧ ClsV c cv ∧ PySem.W.kitOne K (.ref C) cv = some b ∧ Q (.bl b) H
/-- isinstance(e, (c, ..)) -/
def rIsKT (K : PySem.W.Frag) : List V → Hp → VK → Prop := fun xs H Q => ∃ (a C tp : Addr) (cs : List V) (us : List Value) (b : Bool), xs = [.ref a, .ref tp] ∧ H a = some (ErrO C a) ∧ ExcC K C ∧ H tp = some (.tup cs) ∧ Paired ClsV cs us ∧ PySem.W.kitAny K (.ref C) us = some b ∧ Q (.bl b) H
theorem instOf {h : Heap} {a C : Addr} {ob : Obj} {fs : Array Value} (e : h.get? a = some ob) (z : Zc (.ref C) none ob) (d : ob.data = .fields fs) : PySem.W.InstAt h a ob C none := by
  obtain ⟨oc, od, oda, osl⟩ := ob
  obtain ⟨z1, z2⟩ := z
  dsimp only at z1 z2 d
  subst z1 z2 d
  exact ⟨e, rfl, rfl, trivial⟩
theorem call_isK : CallR X (.builtin "isinstance") (rIsK X.K) := by
  intro pins s σ H xs us Q I r h
  obtain ⟨a, C, c, cv, b, rfl, ha, EC, hc, e, q⟩ := h
  obtain ⟨u1, u2, rfl, r1, r2⟩ := vals2 r
  cases (show u1 = Value.ref a from r1)
  have e2 := hc.eq r2
  subst e2
  obtain ⟨⟨ob, fs, g, z, d⟩, _, _⟩ := I.hok a _ ha
  refine PySem.W.kia_one (PySem.W.handS_kitx_exc EC.hg EC.hk EC.hs EC.hd EC.ha EC.hn EC.ht EC.hm) I.kIn (instOf g z d) e (fun y => nomatch y) fun tk => ?_
  exact ⟨.bl b, H, I.tok tk, rfl, q⟩
theorem call_isKT : CallR X (.builtin "isinstance") (rIsKT X.K) := by
  intro pins s σ H xs us Q I r h
  obtain ⟨a, C, tp, cs, ws, b, rfl, ha, EC, hT, hc, e, q⟩ := h
  obtain ⟨u1, u2, rfl, r1, r2⟩ := vals2 r
  cases (show u1 = Value.ref a from r1)
  cases (show u2 = Value.ref tp from r2)
  obtain ⟨⟨ob, fs, g, z, d⟩, _, _⟩ := I.hok a _ ha
  obtain ⟨_, its, rv, o, h1, h2, n, h3⟩ := I.hok tp _ hT
  have e3 := ClsV.all hc rv
  subst e3
  obtain ⟨oc, od, dt, sl⟩ := o
  simp only at h2 h3
  subst h2 h3
  refine PySem.W.kia_tup (PySem.W.handS_kitx_exc EC.hg EC.hk EC.hs EC.hd EC.ha EC.hn EC.ht EC.hm) I.kIn (instOf g z d) h1 e (fun y => nomatch y) fun tk => ?_
  exact ⟨.bl b, H, I.tok tk, rfl, q⟩
end
end Dt
set_option Elab.async false
set_option linter.all false
set_option maxRecDepth 100000
set_option maxHeartbeats 4000000
/-! try: body / except (A, B, ..) as n: suite, where what the body raises is met: behind it the error stands in the heap. -/
namespace Dt
open PySem PySem.Spec PyProof.Rows L2
section
variable {M : Model} {K : PySem.W.Frag}
/-- the error's class is matched by one of the six -/
theorem meets6 {c1 c2 c3 c4 c5 c6 cls : Value} {tp e : Addr} {h : Heap} (X : K.In h) (LT : PySem.W.Looks M h (typeOf (.ref e)) cls) (hp : h.get? tp = some { cls := .type "tuple", data := .seq [c1, c2, c3, c4, c5, c6].toArray })
    (hx : PySem.W.exmAny K cls [c1, c2, c3, c4, c5, c6] = some true) : PySem.W.Looks M h (excMatches (.ref e) (.ref tp)) true := by
  have isTup : PySem.W.Looks M h (isInstance (.ref tp) (.type "tuple")) true := ((PySem.W.Looks.ld hp).andThen .now).andThen (PySem.W.Looks.of_pure PySem.isSubtype_tuple_tuple)
  obtain ⟨b1, d1, x1, y1, z1⟩ := PySem.W.exmAny_cons hx
  obtain ⟨b2, d2, x2, y2, z2⟩ := PySem.W.exmAny_cons y1
  obtain ⟨b3, d3, x3, y3, z3⟩ := PySem.W.exmAny_cons y2
  obtain ⟨b4, d4, x4, y4, z4⟩ := PySem.W.exmAny_cons y3
  obtain ⟨b5, d5, x5, y5, z5⟩ := PySem.W.exmAny_cons y4
  obtain ⟨b6, d6, x6, y6, z6⟩ := PySem.W.exmAny_cons y5
  have w6 : some false = some d6 := y6
  cases w6
  obtain ⟨e1, S1⟩ := PySem.W.exm_cls (M := M) X x1
  obtain ⟨e2, S2⟩ := PySem.W.exm_cls (M := M) X x2
  obtain ⟨e3, S3⟩ := PySem.W.exm_cls (M := M) X x3
  obtain ⟨e4, S4⟩ := PySem.W.exm_cls (M := M) X x4
  obtain ⟨e5, S5⟩ := PySem.W.exm_cls (M := M) X x5
  obtain ⟨e6, S6⟩ := PySem.W.exm_cls (M := M) X x6
  rintro A Q E ⟨hh, g, d, tk, os⟩ k q
  have k : ∀ b o, h.get? b = some o → hh.get? b = some o := k
  replace e1 := e1.keeps k
  replace e2 := e2.keeps k
  replace e3 := e3.keeps k
  replace e4 := e4.keeps k
  replace e5 := e5.keeps k
  replace e6 := e6.keeps k
  replace S1 := S1.keeps k
  replace S2 := S2.keeps k
  replace S3 := S3.keeps k
  replace S4 := S4.keeps k
  replace S5 := S5.keeps k
  replace S6 := S6.keeps k
  replace LT := LT.keeps k
  replace isTup := isTup.keeps k
  have hp' := k _ _ hp
  subst z6
  unfold excMatches
  refine wpAny_bind (isTup.at ?_)
  dsimp only
  rw [if_pos rfl]
  first
    | refine wpAny_bind (wpAny_seqItems hp' rfl ?_)
    | refine wpAny_bind (wpAny_bind (wpAny_seqItems hp' rfl (wpAny_pure ?_)))
  cases b1 with
  | true => (repeat (first | simp only [List.forIn_cons, List.forIn_nil, Bool.not_true, Bool.false_eq_true, if_false, if_true] | lk)); exact q
  | false =>
  cases b2 with
  | true => (repeat (first | simp only [List.forIn_cons, List.forIn_nil, Bool.not_true, Bool.false_eq_true, if_false, if_true] | lk)); exact q
  | false =>
  cases b3 with
  | true => (repeat (first | simp only [List.forIn_cons, List.forIn_nil, Bool.not_true, Bool.false_eq_true, if_false, if_true] | lk)); exact q
  | false =>
  cases b4 with
  | true => (repeat (first | simp only [List.forIn_cons, List.forIn_nil, Bool.not_true, Bool.false_eq_true, if_false, if_true] | lk)); exact q
  | false =>
  cases b5 with
  | true => (repeat (first | simp only [List.forIn_cons, List.forIn_nil, Bool.not_true, Bool.false_eq_true, if_false, if_true] | lk)); exact q
  | false =>
  cases b6 with
  | true => (repeat (first | simp only [List.forIn_cons, List.forIn_nil, Bool.not_true, Bool.false_eq_true, if_false, if_true] | lk)); exact q
  | false =>
    subst z5 z4 z3 z2
    cases z1
end
/-- what is wished of an error of the body: it is met, and behind the suite (which goes on to the next statement) it is kept -/
def wKeep (K : PySem.W.Frag) (n : Nat) (cs : List Value) (i : Nat) (ts : Addr → Addr → TS) (D : Ends) : WX := fun cls d σ H =>
  PySem.W.exmAny K cls cs = some true ∧ d = none ∧ ∃ C, cls = .ref C ∧ ∀ a, H a = none → σ.length = n →
    ts a C { nx := fun σ' H' => H' = H ∧ D.nx (σ'.set i none) (upd H a (ErrO C a)), rt := fun _ _ => False } (σ.set i (some (.ref a))) H
section
variable {X : Cx} {n x1 x2 x3 x4 x5 x6 : Str} {c1 c2 c3 c4 c5 c6 : Value} {i : Nat} {body suite : List Stmt} {b₀ : Stmt} {p1 p2 p3 p4 p5 p6 tp pos pos' : Pos} {tk0 : Nat} {tb : WX → TS} {ts : Addr → Addr → TS}
theorem ps_try_six (hs : X.stack = X.env :: X.outer) (hf : X.env.frame = some X.env.locals) (hex : X.ex = []) (hN : X.N.Nodup) (hi : X.N[i]? = some n) (hln : X.env.kindOf n = some .local)
    (g1 : Gl X x1) (g2 : Gl X x2) (g3 : Gl X x3) (g4 : Gl X x4) (g5 : Gl X x5) (g6 : Gl X x6)
    (m1 : X.mg x1 = some c1) (m2 : X.mg x2 = some c2) (m3 : X.mg x3 = some c3) (m4 : X.mg x4 = some c4) (m5 : X.mg x5 = some c5) (m6 : X.mg x6 = some c6)
    (k1 : (x1 == ("__debug__" : Str)) = false) (k2 : (x2 == ("__debug__" : Str)) = false) (k3 : (x3 == ("__debug__" : Str)) = false) (k4 : (x4 == ("__debug__" : Str)) = false) (k5 : (x5 == ("__debug__" : Str)) = false) (k6 : (x6 == ("__debug__" : Str)) = false)
    (hb : ∀ (W : WX) (pn : List (Addr × Obj)) (xe : Value → Shared → Prop), Takes (X.tr pn xe) W → PassesOwn (model X.prog X.w) X.A X.env xe → PSs (X.tr pn xe) body (tb W))
    (hsu : ∀ (a C : Addr) (oe : Obj) (pn : List (Addr × Obj)), Zc (.ref C) none oe → (∃ vs, oe.data = .fields vs) → PSs (X.suite a ((a, oe) :: pn)) (b₀ :: suite) (ts a C)) :
    PS X (.Try body [.ExceptHandler (some (.Tuple [.Name x1 p1, .Name x2 p2, .Name x3 p3, .Name x4 p4, .Name x5 p5, .Name x6 p6] tk0 tp)) (some n) (b₀ :: suite) pos'] [] [] pos)
      (fun D σ H => tb (wKeep X.K X.N.length [c1, c2, c3, c4, c5, c6] i ts D) D σ H) := by
  refine ⟨fun pins s σ H D I h => ?_⟩
  have ok := I.ok
  have hfr : X.A.frames = some (X.env :: X.outer) := by rw [ok.frames, hs]
  refine wpAny_Try_except ?_
  have hbody := (hb (wKeep X.K X.N.length [c1, c2, c3, c4, c5, c6] i ts D) (X.pn ++ pins) (fun e s₁ => wpAny (model X.prog X.w) X.A (noteFrame e X.env) (fun _ s₂ => wpAny (model X.prog X.w) X.A (setFlight e none)
    (fun _ s₃ => wpAny (model X.prog X.w) X.A (handleBy e X.env [.ExceptHandler (some (.Tuple [.Name x1 p1, .Name x2 p2, .Name x3 p3, .Name x4 p4, .Name x5 p5, .Name x6 p6] tk0 tp)) (some n) (b₀ :: suite) pos']) (SP X pins D) X.xe s₃) X.xe s₂) X.xe s₁) ?_ PassesOwn.looking).run [] s σ H D (I.toTry _) h
  · refine wpAny_mono hbody (fun f s1 q => ?_) fun _ _ q => q
    cases f with
    | next =>
      obtain ⟨σ', H', J, q⟩ := q
      exact wpAny_execs_nil ⟨σ', H', J.ofTry ok, q⟩
    | brk =>
      obtain ⟨σ', H', J, q⟩ := q
      exact ⟨σ', H', J.ofTry ok, q⟩
    | cont =>
      obtain ⟨σ', H', J, q⟩ := q
      exact ⟨σ', H', J.ofTry ok, q⟩
    | ret u =>
      obtain ⟨v, σ', H', J, r, q⟩ := q
      exact ⟨v, σ', H', J.ofTry ok, r, q⟩
  · intro u s' xx
    obtain ⟨a, B, sI, pins', σ', H', cls, d, rfl, J0, nb, up, sky, na, os, ag, hm, hd0, C, hC, hgo⟩ := xx
    subst hd0 hC
    have J : Inv X pins σ' H' sI := J0.ofTry ok
    have sky' : Sky B (X.env :: X.outer) a (Zc (.ref C) none) X.env.locals s'.heap := by rw [← hs]; exact sky
    show wpAny (model X.prog X.w) X.A (noteFrame (.ref a) X.env) _ _ _
    refine Sky.land Zc.steady hfr hf sky' fun h3 fl3 up3 => ?_
    have J3 : Inv X pins σ' H' { s' with heap := h3 } := J.landed nb fl3.1 (up.trans up3) os ag
    obtain ⟨oe3, vs3, he3, hz3, hd3⟩ := fl3.there
    have nfr : a ∉ frs (X.env :: X.outer) := by
      intro y
      obtain ⟨_, o', e', hnf⟩ := fl3.2.2.1.mem y
      rw [he3] at e'
      cases e'
      exact hnf _ hd3
    have nL : a ≠ X.env.locals := fun y => nfr (List.mem_filterMap.mpr ⟨X.env, List.mem_cons_self, by rw [hf, y]⟩)
    have nF : a ∉ X.fs := fun y => by
      obtain ⟨e, he, q⟩ := List.mem_filterMap.mp y
      exact nfr (List.mem_filterMap.mpr ⟨e, List.mem_cons_of_mem _ he, q⟩)
    -- the error was not there ahead of the body
    have nB : B.get? a = none := fl3.2.1
    have nI : sI.heap.get? a = none := by
      cases e : sI.heap.get? a with
      | none => rfl
      | some o =>
        have y := nb a o e (by rw [hs]; exact nfr)
        rw [nB] at y
        cases y
    have n0 : X.s_0.heap.get? a = none := by
      cases e : X.s_0.heap.get? a with
      | none => rfl
      | some o =>
        obtain ⟨o', y⟩ := J.base.there a o e (by rw [hex]; exact List.not_mem_nil)
        rw [nI] at y
        cases y
    have npin : ∀ p ∈ X.pn ++ pins, p.1 ≠ a := fun p hp y => by
      have q := (J.pin p hp).1
      rw [y, nI] at q
      cases q
    have S3 := J3.suite he3 hd3 na nL nF
    refine wpAny_handleBy_cons (codeAny_handlers_test ?_) (by intro q; cases q)
    refine wpAny_Tuple ?_
    refine wpAny_items_cons (ld_glob (X := X.suite a ((a, oe3) :: (X.pn ++ pins))) S3 g1 m1 ?_ k1)
    refine wpAny_items_cons (ld_glob (X := X.suite a ((a, oe3) :: (X.pn ++ pins))) S3 g2 m2 ?_ k2)
    refine wpAny_items_cons (ld_glob (X := X.suite a ((a, oe3) :: (X.pn ++ pins))) S3 g3 m3 ?_ k3)
    refine wpAny_items_cons (ld_glob (X := X.suite a ((a, oe3) :: (X.pn ++ pins))) S3 g4 m4 ?_ k4)
    refine wpAny_items_cons (ld_glob (X := X.suite a ((a, oe3) :: (X.pn ++ pins))) S3 g5 m5 ?_ k5)
    refine wpAny_items_cons (ld_glob (X := X.suite a ((a, oe3) :: (X.pn ++ pins))) S3 g6 m6 ?_ k6)
    refine wpAny_items_nil ⟨by show 6 ≤ sizeLine; decide, ?_⟩
    have kp : ∀ b o, h3.get? b = some o → (h3.push { cls := .type "tuple", data := .seq [c1, c2, c3, c4, c5, c6].toArray }).get? b = some o := fun _ _ y => Heap.get?_push_of_some _ y
    have LT : PySem.W.Looks (model X.prog X.w) (h3.push { cls := .type "tuple", data := .seq [c1, c2, c3, c4, c5, c6].toArray }) (typeOf (.ref a)) (.ref C) := fun A Q E s k q => wpAny_typeOf_ref (k _ _ (kp _ _ he3)) (by rw [hz3.1]; exact q)
    refine (meets6 (M := model X.prog X.w) (J3.kIn.keeps kp) LT (Heap.get?_push_size h3 rfl) hm).here ?_
    have fl5 : HandSPX.FlyingZ B (X.env :: X.outer) a (Zc (.ref C) none) (h3.push { cls := .type "tuple", data := .seq [c1, c2, c3, c4, c5, c6].toArray }) := by
      obtain ⟨q1, q2, q3, ob, fs, T, oT, tv, r1, r2, r3, r4, r5, r6, r7, r8, r9⟩ := id fl3
      exact ⟨fun b o y => kp b o (q1 b o y), q2, Heap.FunFrames.of_keeps (fun b o y _ => ⟨o, kp b o y, rfl⟩) q3, ob, fs, T, oT, tv, kp _ _ r1, r2, r3, r4, r5, r6, kp _ _ r7, r8, r9⟩
    refine codeAny_handlers_suite_as ?_
    refine HandSPX.lands_againZ (s := { s' with heap := h3.push { cls := .type "tuple", data := .seq [c1, c2, c3, c4, c5, c6].toArray } }) fl5 fun h4 fl4 up4 => ?_
    have up34 : h3.UpToSlots h4 := (Heap.UpToSlots.of_keeps kp).trans up4
    have J4 : Inv X pins σ' H' { s' with heap := h4 } := J.landed nb fl4.1 ((up.trans up3).trans up34) os ag
    obtain ⟨oe4, vs4, he4, hz4, hd4⟩ := fl4.there
    have S4 := J4.suite he4 hd4 na nL nF
    refine store_ok (X := X.suite a ((a, oe4) :: (X.pn ++ pins))) (v := .ref a) S4 hN hi (.inl hln) rfl (fun s5 S5 => ?_) (.inr hln)
    refine wpAny_mono ((hsu a C oe4 (X.pn ++ pins) hz4 ⟨_, hd4⟩).run [] s5 _ H' _ S5 (hgo a na J.len)) (fun f s6 q => ?_) (fun _ _ y => False.elim y)
    cases f with
    | next =>
      obtain ⟨σ6, H6, S6, eH, q6⟩ := q
      subst eH
      have J6 : Inv X (pins ++ [(a, oe4)]) σ6 H6 s6 := by
        refine { ok := ok, os := S6.os, bare := S6.bare, base := S6.base, loc := S6.loc, cell := S6.cell, free := S6.free, freeC := S6.freeC, hok := S6.hok, len := S6.len, pin := fun p hp => S6.pin p ?_ }
        show p ∈ ((a, oe4) :: (X.pn ++ pins)) ++ []
        rw [List.append_nil]
        rcases List.mem_append.mp hp with y | y
        · exact List.mem_cons_of_mem _ (List.mem_append_left _ y)
        · rcases List.mem_append.mp y with y | y
          · exact List.mem_cons_of_mem _ (List.mem_append_right _ y)
          · rw [List.mem_singleton.mp y]
            exact List.mem_cons_self
      refine gone_ok J6 hN hi hln fun s7 J7 => ?_
      have pa := J7.pin (a, oe4) (List.mem_append_right _ (List.mem_append_right _ (List.mem_singleton.mpr rfl)))
      have J8 : Inv X pins (σ6.set i none) H6 s7 := J7.unpinned
      exact ⟨_, _, keepErr J8 na n0 pa.1 hz4 hd4 npin, q6⟩
    | brk =>
      obtain ⟨_, _, _, y⟩ := q
      exact y.elim
    | cont =>
      obtain ⟨_, _, _, y⟩ := q
      exact y.elim
    | ret u =>
      obtain ⟨_, _, _, _, _, y⟩ := q
      exact y.elim
end
end Dt
set_option Elab.async false
set_option linter.all false
set_option maxRecDepth 100000
set_option maxHeartbeats 4000000
/-! Rules of our own: set(a list of ints), repr of data, list.count of flat things. -/
namespace Dt
open PySem PySem.Spec PyProof.Rows L2
/-- a set of nothing, just made -/
abbrev noSet (w : World) : Obj := { cls := .type "set", dict := none, data := .set #[] 0 (.fresh 0 0 (!w.params.followText "set-order")) }
section
variable {P : Program} {w : World} {A : Around} {E : Value → Shared → Prop} {s : Shared}
set_option maxHeartbeats 8000000 in
theorem set_of_list {l : Addr} {its : Array Value} (ns : List Int) {Q : Value → Shared → Prop} (hh : A.handled = none) (hl : s.heap.IsList l its) (hi : IntsAre its.toList ns) (hb : ns.length + 1 < scanBound)
    (done : ∀ (h' : Heap) (t c : Nat), SetR w h' s.heap.objs.size (fun j => decide (j ∈ ns)) c → c ≤ ns.length → (∀ b o, s.heap.get? b = some o → h'.get? b = some o) → Q (.ref s.heap.objs.size) { s with heap := h', toks := t }) :
    wpAny (model P w) A (call (.type "set") [.ref l]) Q E s := by
  have many : its.size = ns.length := by have q := hi.length; rwa [Array.length_toList] at q
  have hlt : l < s.heap.objs.size := by obtain ⟨o, ho, _⟩ := hl; exact Heap.lt_size ho
  obtain ⟨c0, tl, r1⟩ := F.called_set.mro
  have r2 := F.called_set.made
  have r3 := F.called_set.sub
  have r4 := F.called_set.notType
  have r5 := F.called_set.canCreate
  have r6 := F.typeCall_set_1 (.ref l)
  refine wpAny_call (codeAny_of_tree ?_)
  show wpAny _ _ (callAny (.type "set") _) _ _ _
  refine wpAny_pure ⟨Code.quiet_builtin _ (by decide +kernel), codeAny_builtin F.entry_type_call ?_⟩
  rw [Around.under_plain (weight_type_call_type "set" [.ref l] []) rfl]
  repeat (any_goals (first | assumption | wp_step))
  refine codeAny_mono (code_set_led1 (.ref l) (E := E) (Q₁ := fun v t => v = .ref s.heap.objs.size ∧ t = { s with heap := s.heap.push (noSet w) }) ⟨rfl, rfl⟩) ?_
  rintro (e | (v | _ | _ | _)) t hr <;> first | exact hr | exact hr.elim | skip
  obtain ⟨rfl, rfl⟩ := hr
  have new : (s.heap.push (noSet w)).get? s.heap.objs.size = some (noSet w) := Heap.get?_push_size _ rfl
  have nsz : (s.heap.push (noSet w)).objs.size = s.heap.objs.size + 1 := Heap.size_push ..
  have ty : Shared.TypeIs { s with heap := s.heap.push (noSet w) } (.ref s.heap.objs.size) "set" := ⟨_, new, rfl⟩
  have r7 := F.called_set.init.lookup
  have r8 := F.called_set.init.bind (.ref s.heap.objs.size)
  repeat (any_goals (first | assumption | wp_step))
  refine codeAny_mono (codeAny_call_builtin (R := wants (fun v t => v = .none ∧ ∃ h' tk c, t = { s with heap := h', toks := tk } ∧ SetR w h' s.heap.objs.size (fun j => decide (j ∈ ns)) c ∧ c ≤ ns.length ∧ ∀ b o, s.heap.get? b = some o → h'.get? b = some o) E)
    F.called_set.init.plain F.entry_set_init (check_set_init_1 ty ?_)) ?_
  · obtain ⟨⟨oc, od, ot, osl⟩, hol, hcl, nl, hdl⟩ := hl
    simp only at hcl hdl
    subst hcl
    subst hdl
    have hol' : (s.heap.push (noSet w)).get? l = some { cls := .type "list", dict := od, data := .seq its nl, slots := osl } := Heap.get?_push_of_some _ hol
    have hl1 : (s.heap.push (noSet w)).IsList l its := ⟨_, hol', rfl, nl, rfl⟩
    have r9 := F.sub_list_set
    have r10 := F.sub_list_frozenset
    have r11 : (Value.type "list" == Value.type "dict") = false := by decide
    unfold Builtin.«set.__init__» noKeywords Builtin.Frozenset.updateFrom
    generalize hIt : pyIter = It0
    wp_walk
    subst hIt
    refine wpAny_pyIter_list hl1 ?_
    refine wpAny_bind (wpAny_runValue ?_)
    have far : l ≠ (s.heap.push (noSet w)).objs.size := by rw [nsz]; exact Nat.ne_of_lt (Nat.lt_succ_of_lt hlt)
    have apart : s.heap.objs.size ∉ [(s.heap.push (noSet w)).objs.size, l] := by
      rw [nsz]
      intro q
      rcases List.mem_cons.mp q with q | q
      · exact absurd q (Nat.ne_of_lt (Nat.lt_succ_self _))
      · exact absurd (List.mem_singleton.mp q) (Nat.ne_of_gt hlt)
    have each : ∀ (i : Nat) (v : Value), its[i]? = some v → ∃ k t, ns[i]? = some k ∧ v = .int k t := by
      intro i v hv
      have hin : i < ns.length := by rw [← many]; exact (Array.getElem?_eq_some_iff.mp hv).1
      obtain ⟨t, e⟩ := PyProof.Rows.IntsAre.int_at hi i v (by rw [Array.getElem?_toList]; exact hv)
      refine ⟨ns[i], t, List.getElem?_eq_getElem hin, ?_⟩
      rw [e, List.getD_eq_getElem?_getD, List.getElem?_eq_getElem hin] <;> rfl
    refine set_update_ints ((Walks.list (by simp [hh]) _ l far its).toS) s.heap.objs.size apart ns many hb each (its.size - 0) 0 _ (by omega) (Nat.zero_le _) ⟨⟨_, Heap.get?_push_size _ rfl, rfl, rfl⟩, (hl1.push _)⟩ ⟨0, Nat.le_refl 0, setR_new_at (Heap.get?_push_of_some _ new)⟩ ?_
    rintro ⟨h', g2, d', tk', os'⟩ c' hm hc' hS'
    have eg : g2 = s.gens := hm.gens
    have ed : d' = s.drawn := hm.drawn
    have eo : os' = s.os := hm.os
    subst eg ed eo
    show wpAny _ _ _ _ _ _
    refine wpAny_pure ?_
    show wpAny _ _ (ret Value.none) _ _ _
    rw [many] at hc'
    refine wpAny_pure ⟨rfl, h', tk', c', rfl, hS', hc', fun b o e => ?_⟩
    have hb0 : b < s.heap.objs.size := Heap.lt_size e
    have hb1 : b ≠ s.heap.objs.size := Nat.ne_of_lt hb0
    have hb2 : b ≠ (s.heap.push (noSet w)).objs.size := by rw [nsz]; exact Nat.ne_of_lt (Nat.lt_succ_of_lt hb0)
    refine hm.heap b o (fun q => ?_) (Heap.get?_push_of_some _ (Heap.get?_push_of_some _ e))
    rcases List.mem_cons.mp q with q | q
    · exact hb1 q
    · exact hb2 (List.mem_singleton.mp q)
  · rintro (e | (v | _ | _ | _)) t hr <;> first | exact hr | exact hr.elim | skip
    obtain ⟨rfl, h', tk, c', rfl, hS', hc', hk'⟩ := hr
    repeat (any_goals (first | assumption | wp_step))
    exact done _ _ _ hS' hc' hk'
end
section
variable {X : Cx} {pins : List (Addr × Obj)} {σ : L2.St} {H : Hp} {s : Shared}
/-- set(xs), xs a list of ints -/
def rSetL2 (K : PySem.W.Frag) (w : World) : List V → Hp → VK → Prop := fun xs H Q => ∃ (p : Addr) (ns : List Int), xs = [.ref p] ∧ SqL K H p (ns.map V.int) ∧ ns.length ≤ 1000 ∧
  ∀ q c, H q = none → c ≤ ns.length → Q (.ref q) (upd H q (SetO w q (fun j => decide (j ∈ ns)) c))
theorem call_setL (hc : X.calm = true) : CallR X (.type "set") (rSetL2 X.K X.w) := by
  intro pins s σ H xs us Q I r h
  obtain ⟨p, ns, rfl, hs, hz, q⟩ := h
  rw [Vals.ref1 r]
  obtain ⟨its, rv, pl, _⟩ := I.list hs
  have hi := ints_of_vals rv
  refine set_of_list (its := its.toArray) ns (I.ok.hd hc) pl.isList (by simpa using hi) (by unfold scanBound; omega) fun h' t c hS hcl k => ?_
  have hf : H s.heap.objs.size = none := I.hok.fresh (Nat.le_refl _)
  exact ⟨.ref _, _, I.laid (t' := t) k (Nat.le_refl _) (setO_new hS), rfl, q _ c hf hcl⟩
/-- list.count of a flat thing -/
def rCntF (K : PySem.W.Frag) : V → List V → Hp → VK → Prop := fun x xs H Q => ∃ (p : Addr) (ys : List V) (y : V), x = .ref p ∧ xs = [y] ∧ SqL K H p ys ∧ flatV y = true ∧ ys.all flatV = true ∧ Q (.int (ys.countP (fun z => eqV z y) : Nat)) H
theorem count_eqU {y : V} : ∀ {ys : List V} {us : List Value}, Vals ys us → ys.all flatV = true → us.countP (eqU y) = ys.countP fun z => eqV z y
  | _, _, .nil, _ => rfl
  | z :: ys, u :: us, .cons r t, h => by
    rw [List.all_cons, Bool.and_eq_true] at h
    rw [List.countP_cons, List.countP_cons, count_eqU t h.2, eqU_of r h.1]
theorem mt_countF : MtR X "list.count" (rCntF X.K) := by
  intro pins s σ H x xs v us Q I rx rxs h
  obtain ⟨p, ys, y, rfl, rfl, hs, fy, fys, q⟩ := h
  cases rx
  obtain ⟨u, rfl, ru⟩ := rxs.one
  obtain ⟨its, rv, ⟨⟨cls, dd, data, sl⟩, n, ho, hc, hdn, hd⟩, hlen⟩ := I.list hs
  simp only at hc hd
  subst hc hd
  refine call_meets PySem.F.slot_list_count ⟨_, ho, rfl⟩ PySem.F.entry_list_count (PySem.F.args_list_count_2 _ _)
    (SeqAt.list_countAt p its.toArray n dd sl u (eqU y)) ⟨ho, fun z hz => mem_eqAt ru fy rv fys z (by simpa using hz), ?_⟩
  refine ⟨.int (ys.countP (fun z => eqV z y) : Nat), H, I.tok _, ⟨s.toks, ?_⟩, q⟩
  show Value.int ((its.toArray.toList.countP (eqU y) : Nat) : Int) s.toks = Value.int ((ys.countP (fun z => eqV z y) : Nat) : Int) s.toks
  rw [← count_eqU rv fys]
/-! ### repr -/
mutual
theorem noDict {K : PySem.W.Frag} {H : Hp} : ∀ (d : PyData) (v : V), Dp K H v d → d.hasDict = false
  | .none, _, _ => by simp only [PyData.hasDict]
  | .bool _, _, _ => by simp only [PyData.hasDict]
  | .int _, _, _ => by simp only [PyData.hasDict]
  | .str _, _, _ => by simp only [PyData.hasDict]
  | .list ds, _, h => by
    cases h with
    | lst _ ha =>
      simp only [PyData.hasDict]
      exact noDictAll ds _ ha
  | .tuple ds, _, h => by
    cases h with
    | tup _ ha =>
      simp only [PyData.hasDict]
      exact noDictAll ds _ ha
  | .dict _, _, h => by cases h
theorem noDictAll {K : PySem.W.Frag} {H : Hp} : ∀ (ds : List PyData) (vs : List V), DpAll K H vs ds → PyData.hasDictAll ds = false
  | [], _, _ => by simp only [PyData.hasDictAll]
  | d :: ds, _, h => by
    cases h with
    | cons h1 h2 => simp only [PyData.hasDictAll, noDict d _ h1, noDictAll ds _ h2, Bool.or_false]
end
/-- repr(x), x a list, a tuple or a truth of data -/
def rRepr (K : PySem.W.Frag) : List V → Hp → VK → Prop := fun xs H Q => ∃ (x : V) (d : PyData), xs = [x] ∧ Dp K H x d ∧ ((∃ a, x = .ref a) ∨ ∃ b, x = .bl b) ∧ d.showable = true ∧ d.depth ≤ 60 ∧ d.shown.length ≤ sizeLine ∧ Q (.str d.shown) H
theorem call_repr (hg : X.A.guards = some []) (hu : X.A.units + 64 < cLine) : CallR X (.builtin "repr") (rRepr X.K) := by
  intro pins s σ H xs us Q I r h
  obtain ⟨x, d, rfl, hd, hx, hs, hdep, hz, q⟩ := h
  obtain ⟨u, rfl, ru⟩ := vals1 r
  obtain ⟨as, rd⟩ := Dp.reads I d x u hd ru
  rcases hx with ⟨a, rfl⟩ | ⟨b, rfl⟩
  · cases ru
    refine repr_of_reads' rd hs (PyData.noDict_hsm (noDict d _ hd)) hg (by omega) (fun _ _ e => e) (fun h' u tk k => ?_) hz
    exact ⟨.str d.shown, H, I.kept k, ⟨u, rfl⟩, q⟩
  · cases ru
    cases hd
    refine PySem.P.repr_of_bool ?_
    refine ⟨.str (PyData.bool b).shown, H, I.tok _, ⟨s.toks, ?_⟩, q⟩
    cases b <;> simp only [PyData.shown] <;> rfl
end
end Dt
set_option Elab.async false
set_option linter.all false
set_option maxRecDepth 100000
set_option maxHeartbeats 4000000
/-! The end of a law's row where the law's own call is walked from the very outermost frame (so that nothing is under way there). -/
namespace Dt
open PySem PySem.Spec PyProof.Rows L2 LamX
/-- what is tracked at the law's entry: the empty tables, and the script (where it is none of the module's own) -/
def entryH (K : PySem.W.Frag) (a : Addr) (scr : Obj) (xs : List V) (ts : List Addr) : Hp := fun b =>
  if b ∈ ts then some (.tbl #[]) else if b = a ∧ K.lookup a = none then some (.frz scr (.lst xs)) else none
/-- the law's def, called outermost over the base -/
def OuterOk (P : Program) (w : World) (K : PySem.W.Frag) (mg : Str → Option Value) (CX : CXT) (fa : Addr) (n : Nat) (cs : List (Addr × Addr)) : Prop :=
  ∀ (base : Heap) (s : Shared) (H : Hp) (a : Addr) (ns : List Int), K.In base → base.Ns mainGlobals mg → (∀ p ∈ cs, TabB base mg p.1 p.2) → Env0 P w K mg base callerA [] s H →
    (∀ p ∈ cs, H p.2 = some (.tbl #[])) → SqL K H a (ns.map V.int) → ns.length ≤ n → (∀ z ∈ ns, Builtin.Int.intBits z ≤ 1048576) →
    codeAny (model P w) callerA (.call (.ref fa) ⟨[.ref a], []⟩) (CR CX [] P w H s (fun v _ => v = .bl true) fun _ _ _ => False) s
section
variable {P : Program} {w : World} {K : PySem.W.Frag} {mg mb : Str → Option Value} {CX : CXT} {fa a : Addr} {n : Nat} {cs : List (Addr × Addr)} {s : Shared} {vs : List Value} {ns : List Int}
theorem outer_end (KX : K.In s.heap) (hns : s.heap.Ns mainGlobals mg) (hb : s.heap.Ns builtinsNs mb) (hbb : ∀ x : Str, x ≠ "__name__" → mb x = bootBuiltins x) (hlim : s.heap.NoLimit) (hg : s.gens = #[])
    (hT : ∀ p ∈ cs, s.heap.get? p.2 = some { cls := .none, data := .fields #[] }) (nT : ∀ p ∈ cs, K.lookup p.2 = none) (hC : ∀ p ∈ cs, PySem.W.CodeHd s.heap p.1 p.2)
    (hbm : ∃ (bm : Addr) (ob : Obj), mg "__builtins__" = some (.ref bm) ∧ bm ≠ builtinsNs ∧ s.heap.get? bm = some ob ∧ ob.cls = .type "module" ∧ ob.dict = some builtinsNs ∧ ob.data = .plain)
    (ha : s.heap.get? a = some { cls := .type "list", data := .seq vs.toArray }) (hi : IntsAre vs ns) (hl : ns.length ≤ n) (hn : n ≤ sizeLine) (hbits : ∀ z ∈ ns, Builtin.Int.intBits z ≤ 1048576)
    (F : OuterOk P w K mg CX fa n cs) (hCX : ∀ H e s', CX [] H s (fun _ _ _ => False) e s' → False) :
    codeAny (model P w) callerA (.call (.ref fa) ⟨[.ref a], []⟩) (fun r s' => r = .ok (.ret (.bool true)) ∧ OldK s.heap s'.heap ∧ s'.os = s.os ∧ AllBare s'.gens) s := by
  obtain ⟨scr, hscr⟩ : ∃ scr : Obj, scr = { cls := .type "list", data := .seq vs.toArray } := ⟨_, rfl⟩
  obtain ⟨ts, hts⟩ : ∃ ts : List Addr, ts = cs.map (·.2) := ⟨_, rfl⟩
  rw [← hscr] at ha
  have rv := vals_ints hi
  have inT : ∀ p ∈ cs, p.2 ∈ ts := fun p hp => by rw [hts]; exact List.mem_map.mpr ⟨p, hp, rfl⟩
  have tabAt : ∀ b ∈ ts, s.heap.get? b = some { cls := .none, data := .fields #[] } ∧ K.lookup b = none := fun b hb' => by
    rw [hts] at hb'
    obtain ⟨p, hp, e⟩ := List.mem_map.mp hb'
    rw [← e]
    exact ⟨hT p hp, nT p hp⟩
  have naT : a ∉ ts := fun q => by
    have e := (tabAt a q).1
    rw [ha, hscr] at e
    exact nomatch congrArg Obj.data (Option.some.inj e)
  have eH : ∀ b u, entryH K a scr (ns.map V.int) ts b = some u → (b ∈ ts ∧ u = .tbl #[]) ∨ (b = a ∧ K.lookup a = none ∧ u = .frz scr (.lst (ns.map V.int))) := fun b u e => by
    unfold entryH at e
    split at e
    · rename_i q
      exact .inl ⟨q, (Option.some.inj e).symm⟩
    · split at e
      · rename_i q
        exact .inr ⟨q.1, q.2, (Option.some.inj e).symm⟩
      · cases e
  have hok : HOk P w (entryH K a scr (ns.map V.int) ts) s.heap := fun b u e => by
    rcases eH b u e with ⟨q, rfl⟩ | ⟨rfl, _, rfl⟩
    · exact (tabAt b q).1
    · exact ⟨ha, by rw [List.length_map]; exact Nat.le_trans hl hn, vs, 0, rv, by rw [hscr] at ha; exact ha⟩
  -- what is neither a table nor the script stays in the base
  have un1 : ∀ {b : Addr} {o : Obj}, s.heap.get? b = some o → (∀ vs n, o.data ≠ .seq vs n) → o.data ≠ .fields #[] → entryH K a scr (ns.map V.int) ts b = none := fun {b o} e d1 d2 => by
    cases q : entryH K a scr (ns.map V.int) ts b with
    | none => rfl
    | some u =>
      rcases eH b u q with ⟨r, _⟩ | ⟨rfl, _⟩
      · rw [(tabAt b r).1] at e
        cases e
        exact (d2 rfl).elim
      · rw [ha, hscr] at e
        cases e
        exact (d1 _ _ rfl).elim
  have unD : ∀ {b : Addr} {o : Obj} {es : Array DictEntry} {ep : Nat}, s.heap.get? b = some o → o.data = .dict es ep → (hidT s.heap (entryH K a scr (ns.map V.int) ts)).get? b = some o := fun {b o es ep} e d =>
    hidT_get e (un1 e (fun _ _ q => by rw [d] at q; cases q) fun q => by rw [d] at q; cases q)
  have nsB : ∀ {b : Addr} {m : Str → Option Value}, s.heap.Ns b m → (hidT s.heap (entryH K a scr (ns.map V.int) ts)).Ns b m := fun {b m} ⟨o, es, ep, e, d, r⟩ => ⟨o, es, ep, unD e d, d, r⟩
  have KB : K.In (hidT s.heap (entryH K a scr (ns.map V.int) ts)) := fun b o e => hidT_get (KX b o e) (by
    cases q : entryH K a scr (ns.map V.int) ts b with
    | none => rfl
    | some u =>
      rcases eH b u q with ⟨r, _⟩ | ⟨rfl, r, _⟩
      · rw [(tabAt b r).2] at e
        cases e
      · rw [r] at e
        cases e)
  have MB : Mod K mg (hidT s.heap (entryH K a scr (ns.map V.int) ts)) := by
    obtain ⟨mc, q1, q2⟩ := hlim
    exact ⟨KB, nsB hns, ⟨mb, nsB hb, hbb⟩, ⟨mc, nsB q1, q2⟩⟩
  have e0 : Env0 P w K mg (hidT s.heap (entryH K a scr (ns.map V.int) ts)) callerA [] s (entryH K a scr (ns.map V.int) ts) := by
    refine ⟨rfl, MB, fun b o e => of_hidT e, Nat.le_of_eq (hidT_size _ _), trivial, fun b q => ?_, hok, .of_eq hg⟩
    exact absurd (show b ∈ ([] : List Addr) from q) List.not_mem_nil
  have TB : ∀ p ∈ cs, TabB (hidT s.heap (entryH K a scr (ns.map V.int) ts)) mg p.1 p.2 := fun p hp => by
    refine ⟨?_, ?_, fun q => ?_⟩
    · obtain ⟨o, us, f1, f2, f3, f4, f5, f6, f7, e, r1, r2, r3, r⟩ := hC p hp
      exact ⟨o, us, f1, f2, f3, f4, f5, f6, f7, hidT_get e (un1 e (fun _ _ q => by rw [r2] at q; cases q) fun q => by rw [r2] at q; cases q; simp at r3), r1, r2, r3, r⟩
    · obtain ⟨bm, ob, b1, b2, b3, b4, b5, b6⟩ := hbm
      refine ⟨bm, ob, b1, b2, fun q => ?_, fun q => ?_, hidT_get b3 (un1 b3 (fun _ _ q => by rw [b6] at q; cases q) fun q => by rw [b6] at q; cases q), b4, b5, b6⟩
      · obtain ⟨o, es, ep, e, d, _⟩ := hns
        rw [q, e] at b3
        cases b3
        rw [d] at b6
        cases b6
      · rw [q, hT p hp] at b3
        cases b3
        cases b6
    · obtain ⟨o, es, ep, e, d, _⟩ := hns
      rw [q, hT p hp] at e
      cases e
      cases d
  have hS : SqL K (entryH K a scr (ns.map V.int) ts) a (ns.map V.int) := by
    cases hk : K.lookup a with
    | none => exact .inl (.inr ⟨scr, by unfold entryH; rw [if_neg naT, if_pos ⟨rfl, hk⟩]⟩)
    | some o =>
      have e := KX a o hk
      rw [ha] at e
      cases e
      refine .inr ⟨scr, vs.toArray, 0, hk, by rw [hscr], by rw [hscr], by rw [hscr], ?_, by simpa using rv⟩
      rw [List.size_toArray, hi.length]
      exact Nat.le_trans hl hn
  have hTab : ∀ p ∈ cs, entryH K a scr (ns.map V.int) ts p.2 = some (.tbl #[]) := fun p hp => by unfold entryH; rw [if_pos (inT p hp)]
  refine codeAny_mono (F _ s _ a ns KB (nsB hns) TB e0 hTab hS hl hbits) fun r s' q => ?_
  cases r with
  | error e => exact (hCX _ e s' q).elim
  | ok fl =>
    cases fl with
    | next => exact False.elim q
    | brk => exact False.elim q
    | cont => exact False.elim q
    | ret u =>
      obtain ⟨v, H', os, bare, un, hok', r', rfl⟩ := q
      cases (show u = Value.bool true from r')
      have keep1 : ∀ b o, b ∉ ts → s.heap.get? b = some o → s'.heap.get? b = some o := fun b o nb e => by
        cases q : entryH K a scr (ns.map V.int) ts b with
        | none => exact un.keep b o e q (fun z => absurd (show b ∈ ([] : List Addr) from z) List.not_mem_nil) List.not_mem_nil
        | some x =>
          rcases eH b x q with ⟨y, _⟩ | ⟨rfl, _, rfl⟩
          · exact absurd y nb
          · obtain ⟨e1, _⟩ := hok' _ _ (un.frzs _ _ _ q)
            rw [ha] at e
            cases e
            exact e1
      have grown : ∀ p ∈ cs, ∃ more : Array Value, s'.heap.get? p.2 = some { cls := .none, data := .fields more } := fun p hp => by
        obtain ⟨more, z⟩ := un.tbls p.2 #[] (hTab p hp)
        exact ⟨_, hok' p.2 _ z⟩
      have ofT : ∀ b ∈ ts, ∃ p ∈ cs, p.2 = b := fun b hb' => by
        rw [hts] at hb'
        exact List.mem_map.mp hb'
      refine ⟨rfl, ⟨fun b o e => ?_, fun b o e => ?_⟩, os, bare⟩
      · by_cases hbt : b ∈ ts
        · obtain ⟨p, hp, rfl⟩ := ofT b hbt
          obtain ⟨more, hm⟩ := grown p hp
          rw [hT p hp] at e
          cases e
          exact .inr (.inl ⟨((hC p hp).tab (hT p hp)).isCodeTable, rfl, #[], more, rfl, by rw [Array.empty_append]; exact hm⟩)
        · exact .inl (keep1 b o hbt e)
      · by_cases hbt : b ∈ ts
        · obtain ⟨p, hp, rfl⟩ := ofT b hbt
          obtain ⟨more, hm⟩ := grown p hp
          exact ⟨_, hm⟩
        · exact ⟨o, keep1 b o hbt e⟩
end
/-- the goal that the head leaves, from the law's outermost call -/
theorem walk_outer {l : PySem.W.OpenLaw} {n : Nat} {q : Program} {loose : List Str} {XP : (Str → Option Value) → Heap → Prop} {YP : World → Heap → Prop} {d : DefRec} {K : Params → PySem.W.Frag} {CX : World → CXT}
    (hn : l.most = some n) (hn2 : n ≤ sizeLine) (hdf : d.params.defaults = []) (hY : ∀ (w : World) (h : Heap), YP w h → (K w.params).In h)
    (F : ∀ (w : World) (mg : Str → Option Value) (fa : Addr) (h : Heap), YP w h → (K w.params).In h → h.Ns mainGlobals mg → mg d.name = some (.ref fa) →
      ∃ cs : List (Addr × Addr), (∀ p ∈ cs, h.get? p.2 = some { cls := .none, data := .fields #[] }) ∧ (∀ p ∈ cs, (K w.params).lookup p.2 = none) ∧ (∀ p ∈ cs, PySem.W.CodeHd h p.1 p.2) ∧ OuterOk l.prog w (K w.params) mg (CX w) fa n cs)
    (hCX : ∀ (w : World) (H : Hp) (s : Shared) (e : Value) (s' : Shared), CX w [] H s (fun _ _ _ => False) e s' → False) :
    PySem.W.WalkO q loose XP YP l.row.toRowW d [] (fun f vs => PySem.call f vs) := by
  refine Att.attach_callB hn hdf fun w s₀ s₁ mg mb fa o pm cd doc a vs ns G Y ho hd hcd hmg hobj hints hlen hbits hg => ?_
  obtain ⟨cs, h1, h2, h3, h4⟩ := F w mg fa _ Y (hY w _ Y) G.T.g hmg
  exact outer_end (hY w _ Y) G.T.g G.T.b G.T.builtins G.T.nolimit hg h1 h2 h3 G.T.bmain hobj hints hlen hn2 hbits h4 fun H e s' => hCX w H s₁ e s'
end Dt
set_option Elab.async false
set_option linter.all false
set_option maxRecDepth 100000
set_option maxHeartbeats 4000000
/-! Defs of the text as facts; data that stays; what a rest, a span is, as plain functions of data. -/
namespace Dt
open PySem PySem.Spec PyProof.Rows L2
/-- the def x of the module keeps the promise sp -/
structure Has (P : Program) (w : World) (K : PySem.W.Frag) (mg : Str → Option Value) (base : Heap) (CX : CXT) (k : Nat) (x : Str) (ps : List Str) (sp : Sp) : Prop where
  ex : ∃ (f : Addr) (fd : FuncData), FnOk P w K mg base CX k f fd ps sp ∧ mg x = some (.ref f) ∧ PySem.W.keepIn K (.ref f) = true ∧ Binds K fd ps []
/-- the def x as the text has it -/
structure FnAt (K : PySem.W.Frag) (mg : Str → Option Value) (x : Str) (st : Stmt) (f : Addr) (fd : FuncData) : Prop where
  fn : Fun K x x st f fd
  at_ : mg x = some (.ref f)
theorem pe_has {X : Cx} {CX : CXT} {k : Nat} {x : Str} {ps : List Str} {sp : Sp} {E : XK} {e : Expr} {es : List Expr} {t : TA} {p pos : Pos} (D : Has X.prog X.w X.K X.mg X.base CX k x ps sp) (hr : Room k X.A) (hg : Gl X x) (hx : Passes CX X E)
    (ha : PA X (e :: es) t) (hdb : (x == ("__debug__" : Str)) = false := by decide) (he : starEach (e :: es) X.env = (false, eval e X.env) :: starEach es X.env := by rfl) (hpl : (backTo pos (starEach es X.env)).any (·.1) = false := by rfl) :
    PE X (.Call (.Name x p) (e :: es) [] pos) (tCall sp [] E t) := by
  obtain ⟨f, fd, F, hm, hk, hb⟩ := D.ex
  exact pe_call F hr hg hm hk hb .nil hx ha hdb he hpl
/-- what an own class of error is, as a raise of it asks -/
structure ErrC (K : PySem.W.Frag) (mg : Str → Option Value) (x : Str) (C : Addr) (B newId initId : String) (bmB : List Value) : Prop where
  F : ExcBaseFacts B newId initId bmB
  xi : PySem.W.excIn K C bmB newId = true
  g : mg x = some (.ref C)
  k : PySem.W.keepIn K (.ref C) = true
  b : PySem.W.subIn K (.ref C) (.type "BaseException") = some true
  t : PySem.W.typeIn K (.ref C) = some (.type "type")
/-! ### data that stays -/
section
variable {K : PySem.W.Frag} {H H' : Hp}
theorem seqL_mono {a : Addr} {xs : List V} (e : Same H H') (h : SqL K H a xs) : SqL K H' a xs := e.seq h
theorem seqT_mono {a : Addr} {xs : List V} (e : Same H H') (h : SqT K H a xs) : SqT K H' a xs := by
  rcases h with (h | ⟨o, h⟩) | h
  · exact .inl (.inl (e _ _ h))
  · exact .inl (.inr ⟨o, e _ _ h⟩)
  · exact .inr h
mutual
theorem dp_mono (e : Same H H') : ∀ (d : PyData) (v : V), Dp K H v d → Dp K H' v d
  | .none, _, h => by cases h; exact .non
  | .bool b, _, h => by cases h; exact .bl b
  | .int i, _, h => by cases h; exact .int i
  | .str x, _, h => by cases h; exact .str x
  | .list ds, _, h => by
    cases h with
    | lst hs ha => exact .lst (seqL_mono e hs) (dpAll_mono e ds _ ha)
  | .tuple ds, _, h => by
    cases h with
    | tup hs ha => exact .tup (seqT_mono e hs) (dpAll_mono e ds _ ha)
  | .dict _, _, h => by cases h
theorem dpAll_mono (e : Same H H') : ∀ (ds : List PyData) (vs : List V), DpAll K H vs ds → DpAll K H' vs ds
  | [], _, h => by cases h; exact .nil
  | d :: ds, _, h => by
    cases h with
    | cons h1 h2 => exact .cons (dp_mono e d _ h1) (dpAll_mono e ds _ h2)
end
theorem Dp.mono' {v : V} {d : PyData} (h : Dp K H v d) (e : Same H H') : Dp K H' v d := dp_mono e d v h
theorem dpAll_len : ∀ {vs : List V} {ds : List PyData}, DpAll K H vs ds → vs.length = ds.length
  | _, _, .nil => rfl
  | _, _, .cons _ h => congrArg (· + 1) (dpAll_len h)
theorem dpAll_get : ∀ {vs : List V} {ds : List PyData} {i : Nat} {v : V}, DpAll K H vs ds → vs[i]? = some v → ∃ d, ds[i]? = some d ∧ Dp K H v d
  | _, _, i, v, .nil, h => by simp at h
  | _, _, 0, v, .cons h _, e => by
    simp at e
    subst e
    exact ⟨_, rfl, h⟩
  | _, _, i + 1, v, .cons _ h, e => dpAll_get (i := i) h (by simpa using e)
theorem dpAll_ints : ∀ (ns : List Int), DpAll K H (ns.map V.int) (ns.map PyData.int)
  | [] => .nil
  | n :: r => .cons (.int n) (dpAll_ints r)
/-- a new object -/
theorem same_new {p : Addr} {o : HO} (h : H p = none) : Same H (upd H p o) := fun b u e => by
  rw [upd_ne (ne_of_none e h)]
  exact e
/-- an object that the first heap didn't know may change -/
theorem same_mut {p : Addr} {o : HO} (e : Same H H') (h : H p = none) : Same H (upd H' p o) := fun b u q => by
  rw [upd_ne (ne_of_none q h)]
  exact e b u q
end
/-! ### the type of data -/
def tyName : PyData → String
  | .none => "NoneType"
  | .bool _ => "bool"
  | .int _ => "int"
  | .str _ => "str"
  | .list _ => "list"
  | .tuple _ => "tuple"
  | .dict _ => "dict"
theorem dp_ty {K : PySem.W.Frag} {H : Hp} {v : V} {d : PyData} (h : Dp K H v d) : TyX K H v (.type (tyName d)) := by
  cases h with
  | non => exact .base .non
  | bl b => exact .base (.bl b)
  | int i => exact .base (.int i)
  | str x => exact .base (.str x)
  | lst hs _ =>
    rcases hs with (h | ⟨o, h⟩) | ⟨o, its, n, hk, hc, _⟩
    · exact .base (.lst h)
    · exact .base (.frz h)
    · exact .kList hk hc
  | tup hs _ =>
    rcases hs with (h | ⟨o, h⟩) | ⟨o, its, n, hk, hc, _⟩
    · exact .base (.tup h)
    · exact .fTuple h
    · exact .kTuple hk hc
/-! ### x in (a, b), whatever x is -/
section
variable {X : Cx}
def rInTD (K : PySem.W.Frag) : R2 := fun x y H Q => ∃ d ds, Dp K H x d ∧ Dp K H y (.tuple ds) ∧ SeqAt.shaped d = true ∧ SeqAt.shaped (.tuple ds) = true ∧ Q (.bl (ds.any fun z => PyData.eqv z d)) H
theorem op_inTD (hu : X.A.units + 65 < cLine) : OpR X (compareOp .In) (rInTD X.K) := by
  intro pins s σ H x y v u Q I rx ry h
  obtain ⟨d, ds, hd, he, sd, se, q⟩ := h
  obtain ⟨as, r1⟩ := Dp.reads I d x v hd rx
  obtain ⟨bs, r2⟩ := Dp.reads I (.tuple ds) y u he ry
  refine SeqAt.in_tuple_reads r2 r1 ?_ (SeqAt.canLay_of_shaped sd) ?_ ⟨.bl _, H, I, rfl, q⟩
  · have h := SeqAt.canLay_of_shaped se
    simpa only [PyData.canLay0] using h
  · have h1 := SeqAt.depth_of_shaped sd
    have h2 : min (PyData.depthAll ds) d.depth ≤ d.depth := Nat.min_le_right _ _
    omega
end
/-! ### numbers, rests, spans as functions of data -/
def isNum : PyData → Bool
  | .int _ => true
  | _ => false
def numIn (d : PyData) (lo hi : Int) : Bool := match d with
  | .int i => decide (lo ≤ i) && decide (i ≤ hi)
  | _ => false
def dayD (d : PyData) : Bool := numIn d 0 3000
def tupIn (d : PyData) (lo hi : Int) : Bool := match d with
  | .tuple ds => decide (lo ≤ (ds.length : Int)) && decide ((ds.length : Int) ≤ hi)
  | _ => false
def ltD (a b : PyData) : Bool := match a, b with
  | .int i, .int j => decide (i < j)
  | _, _ => false
def risingL : List PyData → Bool
  | a :: b :: r => ltD a b && risingL (b :: r)
  | _ => true
def risingD (d : PyData) (most gr : Int) : Bool := match d with
  | .tuple ds => decide ((ds.length : Int) ≤ most) && (ds.all (fun x => numIn x 0 gr) && risingL ds)
  | _ => false
def restD (d : PyData) : Bool := match d with
  | .tuple [a, b] => risingD a 4 6 && risingD b 20 3000
  | _ => false
def spanWord (d : PyData) : Bool := PyData.eqv (.str "days") d || PyData.eqv (.str "work") d
def spanD (d : PyData) : Bool := match d with
  | .tuple [a, b] => spanWord a && numIn b 1 30
  | _ => false
end Dt
set_option Elab.async false
set_option linter.all false
set_option maxRecDepth 100000
set_option maxHeartbeats 4000000
/-! Kinds of data, asked; constants; the promises of the program's defs on days. -/
namespace Dt
open PySem PySem.Spec PyProof.Rows L2
theorem pe_const {X : Cx} {x : Str} {n : Int} {pos : Pos} (hg : Gl X x) (h : ∃ t, X.mg x = some (.int n t)) (hd : (x == ("__debug__" : Str)) = false := by decide) : PE X (.Name x pos) (tC (.int n)) := by
  obtain ⟨t, h⟩ := h
  exact pe_glob hg h ⟨t, rfl⟩ hd
section
variable {K : PySem.W.Frag}
def isIntB : PyData → Bool
  | .int _ => true
  | .bool _ => true
  | _ => false
def isBool : PyData → Bool
  | .bool _ => true
  | _ => false
def isTup : PyData → Bool
  | .tuple _ => true
  | _ => false
def isStr : PyData → Bool
  | .str _ => true
  | _ => false
def isSeqB : PyData → Bool
  | .tuple _ => true
  | .list _ => true
  | _ => false
theorem k_NoneType_int : kitB "NoneType" "int" = some false := by decide +kernel
theorem k_bool_int : kitB "bool" "int" = some true := by decide +kernel
theorem k_int_int : kitB "int" "int" = some true := by decide +kernel
theorem k_str_int : kitB "str" "int" = some false := by decide +kernel
theorem k_list_int : kitB "list" "int" = some false := by decide +kernel
theorem k_tuple_int : kitB "tuple" "int" = some false := by decide +kernel
theorem k_dict_int : kitB "dict" "int" = some false := by decide +kernel
theorem k_NoneType_bool : kitB "NoneType" "bool" = some false := by decide +kernel
theorem k_bool_bool : kitB "bool" "bool" = some true := by decide +kernel
theorem k_int_bool : kitB "int" "bool" = some false := by decide +kernel
theorem k_str_bool : kitB "str" "bool" = some false := by decide +kernel
theorem k_list_bool : kitB "list" "bool" = some false := by decide +kernel
theorem k_tuple_bool : kitB "tuple" "bool" = some false := by decide +kernel
theorem k_dict_bool : kitB "dict" "bool" = some false := by decide +kernel
theorem k_NoneType_tuple : kitB "NoneType" "tuple" = some false := by decide +kernel
theorem k_bool_tuple : kitB "bool" "tuple" = some false := by decide +kernel
theorem k_int_tuple : kitB "int" "tuple" = some false := by decide +kernel
theorem k_str_tuple : kitB "str" "tuple" = some false := by decide +kernel
theorem k_list_tuple : kitB "list" "tuple" = some false := by decide +kernel
theorem k_tuple_tuple : kitB "tuple" "tuple" = some true := by decide +kernel
theorem k_dict_tuple : kitB "dict" "tuple" = some false := by decide +kernel
theorem k_NoneType_str : kitB "NoneType" "str" = some false := by decide +kernel
theorem k_bool_str : kitB "bool" "str" = some false := by decide +kernel
theorem k_int_str : kitB "int" "str" = some false := by decide +kernel
theorem k_str_str : kitB "str" "str" = some true := by decide +kernel
theorem k_list_str : kitB "list" "str" = some false := by decide +kernel
theorem k_tuple_str : kitB "tuple" "str" = some false := by decide +kernel
theorem k_dict_str : kitB "dict" "str" = some false := by decide +kernel
theorem k_NoneType_list : kitB "NoneType" "list" = some false := by decide +kernel
theorem k_bool_list : kitB "bool" "list" = some false := by decide +kernel
theorem k_int_list : kitB "int" "list" = some false := by decide +kernel
theorem k_str_list : kitB "str" "list" = some false := by decide +kernel
theorem k_list_list : kitB "list" "list" = some true := by decide +kernel
theorem k_tuple_list : kitB "tuple" "list" = some false := by decide +kernel
theorem k_dict_list : kitB "dict" "list" = some false := by decide +kernel
theorem kitD_int (d : PyData) : PySem.W.kitOne K (.type (tyName d)) (.type "int") = some (isIntB d) := by
  cases d <;> (refine kit_ty ?_; first | exact k_NoneType_int | exact k_bool_int | exact k_int_int | exact k_str_int | exact k_list_int | exact k_tuple_int | exact k_dict_int)
theorem kitD_bool (d : PyData) : PySem.W.kitOne K (.type (tyName d)) (.type "bool") = some (isBool d) := by
  cases d <;> (refine kit_ty ?_; first | exact k_NoneType_bool | exact k_bool_bool | exact k_int_bool | exact k_str_bool | exact k_list_bool | exact k_tuple_bool | exact k_dict_bool)
theorem kitD_tuple (d : PyData) : PySem.W.kitOne K (.type (tyName d)) (.type "tuple") = some (isTup d) := by
  cases d <;> (refine kit_ty ?_; first | exact k_NoneType_tuple | exact k_bool_tuple | exact k_int_tuple | exact k_str_tuple | exact k_list_tuple | exact k_tuple_tuple | exact k_dict_tuple)
theorem kitD_str (d : PyData) : PySem.W.kitOne K (.type (tyName d)) (.type "str") = some (isStr d) := by
  cases d <;> (refine kit_ty ?_; first | exact k_NoneType_str | exact k_bool_str | exact k_int_str | exact k_str_str | exact k_list_str | exact k_tuple_str | exact k_dict_str)
theorem kitD_list (d : PyData) : PySem.W.kitOne K (.type (tyName d)) (.type "list") = some (match d with | .list _ => true | _ => false) := by
  cases d <;> (refine kit_ty ?_; first | exact k_NoneType_list | exact k_bool_list | exact k_int_list | exact k_str_list | exact k_list_list | exact k_tuple_list | exact k_dict_list)
end
/-! ### promises: the answer is a truth about the data, and all that stood stands -/
/-- one thing -/
def spOne (K : PySem.W.Frag) (f : PyData → Bool) : Sp := fun vs H Q _ => ∃ (v : V) (d : PyData), vs = [v] ∧ Dp K H v d ∧ SeqAt.shaped d = true ∧ ∀ H', Same H H' → Q (.bl (f d)) H'
/-- one thing, two numbers -/
def spThree (K : PySem.W.Frag) (f : PyData → Int → Int → Bool) : Sp := fun vs H Q _ => ∃ (v : V) (d : PyData) (i j : Int), vs = [v, .int i, .int j] ∧ Dp K H v d ∧ SeqAt.shaped d = true ∧ ∀ H', Same H H' → Q (.bl (f d i j)) H'
theorem len_spOne {K : PySem.W.Frag} {f : PyData → Bool} : ∀ vs H Q E, spOne K f vs H Q E → vs.length = 1 := by
  rintro vs H Q E ⟨v, d, rfl, _⟩
  rfl
theorem len_spThree {K : PySem.W.Frag} {f : PyData → Int → Int → Bool} : ∀ vs H Q E, spThree K f vs H Q E → vs.length = 3 := by
  rintro vs H Q E ⟨v, d, i, j, rfl, _⟩
  rfl
/-- a comprehension over zip of two tuples, the other one no longer -/
theorem lc_zipT {K : PySem.W.Frag} {a b : Addr} {xs ys : List V} {g : TG} {tt : TT} {te : TE} {vs : List Nat} {σ : L2.St} {H1 : Hp} {D : Addr} {Qd : Hp → Prop} (hl : ys.length ≤ xs.length) (Pv : Nat → Hp → Prop) (h0 : Pv 0 (upd H1 D (.lst [])))
    (hq : ∀ i H, Pv i H → SqT K H a xs ∧ SqT K H b ys)
    (hs : ∀ (i : Nat) (x y : V) (T : Addr) (H : Hp), xs[i]? = some x → ys[i]? = some y → Pv i H → H T = none → g (.ref T) (wipe σ vs) (upd H T (.tup [x, y])) fun σ2 H2 => wipe σ2 vs = wipe σ vs ∧ tt σ2 H2 fun b H3 =>
      if b = true then te σ2 H3 fun y H4 => ∃ acc, H4 D = some (.lst acc) ∧ acc.length < sizeLine ∧ Pv (i + 1) (upd H4 D (.lst (acc ++ [y]))) else Pv (i + 1) H3) (hd : ∀ H, Pv ys.length H → Qd H) :
    ∃ W : Nat → Nat → Hp → Prop, (∃ m, W 0 m (upd H1 D (.lst []))) ∧ ∀ i m H, W i m H →
      ((RZ.ItzT K a b).stop i H ∧ Qd H) ∨ ((RZ.ItzT K a b).go i H ∧ ∃ Nx : Hp → Prop, (∀ H', Nx H' → ∃ m', m' < m ∧ W (i + 1) m' H') ∧ ∀ x H', (RZ.ItzT K a b).yld i H x H' → g x (wipe σ vs) H' fun σ2 H2 => wipe σ2 vs = wipe σ vs ∧ tt σ2 H2 fun b H3 =>
        if b = true then te σ2 H3 fun y H4 => ∃ acc, H4 D = some (.lst acc) ∧ acc.length < sizeLine ∧ Nx (upd H4 D (.lst (acc ++ [y]))) else Nx H3) := by
  refine ⟨fun i m H => m = ys.length - i ∧ i ≤ ys.length ∧ Pv i H, ⟨ys.length, rfl, Nat.zero_le _, h0⟩, ?_⟩
  rintro i m H ⟨rfl, hi, p⟩
  obtain ⟨qx, qy⟩ := hq i H p
  rcases Nat.lt_or_ge i ys.length with hlt | hge
  · have hx : xs[i]? = some (xs[i]'(by omega)) := List.getElem?_eq_getElem (by omega)
    have hy : ys[i]? = some (ys[i]) := List.getElem?_eq_getElem hlt
    refine .inr ⟨⟨xs, ys, _, _, qx, qy, hx, hy⟩, Pv (i + 1), fun H' p' => ⟨ys.length - (i + 1), by omega, rfl, hlt, p'⟩, ?_⟩
    rintro v H' ⟨T, x', y', rfl, hT, rfl, f1, f2⟩
    exact hs i x' y' T H (f1 xs qx) (f2 ys qy) p hT
  · have e : i = ys.length := Nat.le_antisymm hi hge
    subst e
    exact .inl ⟨⟨xs, ys, qx, qy, Or.inr (Nat.le_refl _)⟩, hd H p⟩
/-- a row of items, in order: what is told of each -/
theorem all_take {α : Type} {f : α → V} {l : List α} {i : Nat} {x : α} (h : l[i]? = some x) : (l.take (i + 1)).map f = (l.take i).map f ++ [f x] := by
  rw [List.take_add_one, h]
  simp
def spRise (K : PySem.W.Frag) : Sp := fun vs H Q _ => ∃ (v : V) (d : PyData) (i j : Int), vs = [v, .int i, .int j] ∧ Dp K H v d ∧ SeqAt.shaped d = true ∧ i ≤ 1000 ∧ ∀ H', Same H H' → Q (.bl (risingD d i j)) H'
theorem len_spRise {K : PySem.W.Frag} : ∀ vs H Q E, spRise K vs H Q E → vs.length = 3 := by
  rintro vs H Q E ⟨v, d, i, j, rfl, _⟩
  rfl
theorem layAll_mem : ∀ {ds : List PyData}, PyData.canLayAll0 ds = true → ∀ d ∈ ds, d.canLay0 = true
  | [], _, d, hd => by cases hd
  | a :: r, h, d, hd => by
    simp only [PyData.canLayAll0, Bool.and_eq_true] at h
    rcases List.mem_cons.mp hd with e | e
    · rw [e]; exact h.1
    · exact layAll_mem h.2 d e
theorem depthAll_mem : ∀ {ds : List PyData} {n : Nat}, PyData.depthAll ds ≤ n → ∀ d ∈ ds, d.depth ≤ n
  | [], _, _, d, hd => by cases hd
  | a :: r, n, h, d, hd => by
    simp only [PyData.depthAll] at h
    rcases List.mem_cons.mp hd with e | e
    · rw [e]; omega
    · exact depthAll_mem (n := n) (by omega) d e
theorem shaped_all {ds : List PyData} (h : SeqAt.shaped (.tuple ds) = true) : ∀ d ∈ ds, SeqAt.shaped d = true := by
  intro d hd
  have h1 := SeqAt.canLay_of_shaped h
  have h2 := SeqAt.depth_of_shaped h
  simp only [PyData.canLay0] at h1
  simp only [PyData.depth] at h2
  show (d.canLay0 && decide (d.depth ≤ 64)) = true
  rw [layAll_mem h1 d hd, Bool.true_and]
  exact decide_eq_true (depthAll_mem (n := 64) (by omega) d hd)
/-- rising, by the neighbours -/
theorem risingL_iff : ∀ (ds : List PyData), risingL ds = ((List.range (ds.length - 1)).map fun i => ltD (ds.getD i .none) (ds.getD (i + 1) .none)).all id
  | [] => rfl
  | [_] => rfl
  | a :: b :: r => by
    have ih := risingL_iff (b :: r)
    show (ltD a b && risingL (b :: r)) = _
    rw [ih]
    show _ = ((List.range (r.length + 1)).map fun i => ltD ((a :: b :: r).getD i .none) ((a :: b :: r).getD (i + 1) .none)).all id
    rw [List.range_succ_eq_map, List.map_cons, List.all_cons, List.map_map]
    rfl
/-- t[1:], t a tuple -/
theorem cut_tail {K : PySem.W.Frag} {H2 : Hp} {Q : VK} {p : Addr} {xs : List V} (hs : SqT K H2 p xs) (k : ∀ p2 H3, Same H2 H3 → SqT K H3 p2 (xs.drop 1) → Q (.ref p2) H3) : rSlA K (.ref p) (some 1) none H2 Q := by
  have e0 : HT.sIx xs.length 0 (some 1) = min 1 xs.length := HT.sIx_nat xs.length 0 1
  have e1 : HT.sIx xs.length xs.length none = xs.length := rfl
  refine ⟨p, xs, rfl, hs, fun hw => ?_, fun hw p2 hp2 => ?_⟩
  · rw [e0] at hw
    have hx : xs = [] := by
      cases xs with
      | nil => rfl
      | cons a r =>
        have h1 := hw.1
        simp only [List.length_cons] at h1
        omega
    subst hx
    exact k p H2 (Same.refl H2) hs
  · refine k p2 _ (same_new hp2) ?_
    have ec : cutV xs (some 1) none = xs.drop 1 := by
      unfold cutV
      rw [e0, e1]
      cases xs with
      | nil => rfl
      | cons a r =>
        have hm : min 1 (a :: r).length = 1 := by simp only [List.length_cons]; omega
        rw [hm, List.drop_one, List.tail_cons, List.length_cons]
        exact List.take_of_length_le (by omega)
    rw [ec]
    exact SqT.of upd_same
theorem w_tail {K : PySem.W.Frag} {σ : L2.St} {H2 : Hp} {Q : VK} {i : Nat} {p : Addr} {xs : List V} (hi : σ[i]? = some (some (.ref p))) (hs : SqT K H2 p xs) (k : ∀ p2 H3, Same H2 H3 → SqT K H3 p2 (xs.drop 1) → Q (.ref p2) H3) :
    tSl (rSlA K) (tVar i) (tPart (tC (.int 1))) tNoPart σ H2 Q := ⟨_, hi, 1, rfl, cut_tail hs k⟩
/-- a comprehension without a test -/
theorem w_yes {σ : L2.St} {H : Hp} {A B : Hp → Prop} (h : A H) : tYes σ H (fun b H3 => if b = true then A H3 else B H3) := by
  show (if true = true then A H else B H)
  rw [if_pos rfl]
  exact h
end Dt
set_option Elab.async false
set_option linter.all false
set_option maxRecDepth 100000
set_option maxHeartbeats 4000000
/-! Working days, as numbers alone. -/
namespace Dt
open PySem PySem.Spec PyProof.Rows L2
/-- is n a working day -/
def worksI (wd hd : List Int) (n : Int) : Bool := !decide (n.fmod 7 ∈ wd) && !decide (n ∈ hd)
/-- from day f it is m steps to the working day r that is the n-th one behind f -/
inductive WR (wd hd : List Int) (r : Int) : Nat → Int → Nat → Prop where
  | stop : WR wd hd r 0 r 0
  | work {m n : Nat} {f : Int} : worksI wd hd (f + 1) = true → WR wd hd r m (f + 1) n → WR wd hd r (m + 1) f (n + 1)
  | rest {m n : Nat} {f : Int} : worksI wd hd (f + 1) = false → WR wd hd r m (f + 1) (n + 1) → WR wd hd r (m + 1) f (n + 1)
theorem WR.same {wd hd : List Int} {r r' : Int} : ∀ {m m' : Nat} {f : Int} {n : Nat}, WR wd hd r m f n → WR wd hd r' m' f n → r = r'
  | _, _, _, _, .stop, h => by
    cases h
    rfl
  | _, _, _, _, .work a h, k => by
    cases k with
    | work b k => exact WR.same h k
    | rest b k => rw [a] at b; cases b
  | _, _, _, _, .rest a h, k => by
    cases k with
    | work b k => rw [a] at b; cases b
    | rest b k => exact WR.same h k
/-- how many holidays are later -/
def laterH (hd : List Int) (f : Int) : Nat := hd.countP fun h => decide (f < h)
theorem laterH_le (hd : List Int) (f : Int) : laterH hd (f + 1) ≤ laterH hd f := by
  induction hd with
  | nil => exact Nat.le_refl _
  | cons a r ih =>
    unfold laterH at ih ⊢
    rw [List.countP_cons, List.countP_cons]
    by_cases h : f + 1 < a
    · have h2 : f < a := by omega
      simp only [h, h2, decide_true, if_true]
      omega
    · simp only [h, decide_false, Bool.false_eq_true, if_false]
      omega
theorem laterH_lt {hd : List Int} {f : Int} (h : f + 1 ∈ hd) : laterH hd (f + 1) + 1 ≤ laterH hd f := by
  induction hd with
  | nil => cases h
  | cons a r ih =>
    have q := laterH_le r f
    unfold laterH at ih q ⊢
    rw [List.countP_cons, List.countP_cons]
    rcases List.mem_cons.mp h with e | e
    · subst e
      have h2 : f < f + 1 := by omega
      have h3 : ¬ f + 1 < f + 1 := by omega
      simp only [h2, h3, decide_true, decide_false, if_true, Bool.false_eq_true, if_false]
      omega
    · have i2 := ih e
      by_cases h4 : f + 1 < a
      · have h2 : f < a := by omega
        simp only [h4, h2, decide_true, if_true]
        omega
      · simp only [h4, decide_false, Bool.false_eq_true, if_false]
        omega
theorem WR.there {wd hd : List Int} {c : Int} (hc : 0 ≤ c ∧ c < 7) (hw : c ∉ wd) : ∀ (k : Nat) (f : Int) (n : Nat), 8 * (n + laterH hd f) + ((c - f - 1).fmod 7).toNat ≤ k → ∃ r m, WR wd hd r m f n := by
  intro k
  induction k with
  | zero =>
    intro f n h
    have : n = 0 := by omega
    subst this
    exact ⟨f, 0, .stop⟩
  | succ k ih =>
    intro f n h
    cases n with
    | zero => exact ⟨f, 0, .stop⟩
    | succ n =>
      have b1 : 0 ≤ (c - f - 1).fmod 7 := Int.fmod_nonneg_of_pos _ (by decide)
      have b2 : 0 ≤ (c - (f + 1) - 1).fmod 7 := Int.fmod_nonneg_of_pos _ (by decide)
      have b3 : (c - (f + 1) - 1).fmod 7 < 7 := Int.fmod_lt_of_pos _ (by decide)
      have l1 := laterH_le hd f
      have e1 : (c - f - 1).fmod 7 = (c - f - 1) % 7 := Int.fmod_eq_emod_of_nonneg _ (by decide)
      have e2 : (c - (f + 1) - 1).fmod 7 = (c - (f + 1) - 1) % 7 := Int.fmod_eq_emod_of_nonneg _ (by decide)
      have e3 : (f + 1).fmod 7 = (f + 1) % 7 := Int.fmod_eq_emod_of_nonneg _ (by decide)
      cases hwk : worksI wd hd (f + 1) with
      | true =>
        obtain ⟨r, m, q⟩ := ih (f + 1) n (by omega)
        exact ⟨r, m + 1, .work hwk q⟩
      | false =>
        obtain ⟨r, m, q⟩ := ih (f + 1) (n + 1) (by
          by_cases hh : f + 1 ∈ hd
          · have l2 := laterH_lt hh
            omega
          · have h7 : (f + 1).fmod 7 ∈ wd := by
              unfold worksI at hwk
              rw [decide_eq_false hh] at hwk
              simp at hwk
              exact hwk
            have h8 : (f + 1).fmod 7 ≠ c := fun e => hw (by rw [← e]; exact h7)
            rw [e3] at h8
            omega)
        exact ⟨r, m + 1, .rest hwk q⟩
/-- of seven weekdays some one is no day of rest -/
theorem free7 (wd : List Int) (h : wd.length ≤ 6) : ∃ c : Int, (0 ≤ c ∧ c < 7) ∧ c ∉ wd := by
  have key : ∀ l : List Int, ((List.range 7).countP fun (c : Nat) => decide ((c : Int) ∈ l)) ≤ l.length := by
    intro l
    induction l with
    | nil => simp
    | cons a r ih =>
      have h1 : ∀ k : List Nat, (k.countP fun (c : Nat) => decide ((c : Int) ∈ a :: r)) ≤ (k.countP fun (c : Nat) => decide ((c : Int) = a)) + k.countP fun (c : Nat) => decide ((c : Int) ∈ r) := by
        intro k
        induction k with
        | nil => simp
        | cons b s ihs =>
          rw [List.countP_cons, List.countP_cons, List.countP_cons]
          by_cases e1 : (b : Int) = a
          · have e2 : (b : Int) ∈ a :: r := by rw [e1]; exact List.mem_cons_self
            simp only [e1, decide_true, if_true]
            have e3 : a ∈ a :: r := List.mem_cons_self
            simp only [e3, decide_true, if_true]
            omega
          · by_cases e2 : (b : Int) ∈ r
            · have e3 : (b : Int) ∈ a :: r := List.mem_cons_of_mem _ e2
              simp only [e1, e2, e3, decide_true, decide_false, if_true, Bool.false_eq_true, if_false]
              omega
            · have e3 : ¬ (b : Int) ∈ a :: r := fun q => by
                rcases List.mem_cons.mp q with q | q
                · exact e1 q
                · exact e2 q
              simp only [e1, e2, e3, decide_false, Bool.false_eq_true, if_false]
              omega
      have h2 : ((List.range 7).countP fun (c : Nat) => decide ((c : Int) = a)) ≤ 1 := by
        show ([0, 1, 2, 3, 4, 5, 6].countP fun (c : Nat) => decide ((c : Int) = a)) ≤ 1
        simp only [List.countP_cons, List.countP_nil, decide_eq_true_eq]
        split <;> split <;> split <;> split <;> split <;> split <;> split <;> omega
      have h3 := h1 (List.range 7)
      rw [List.length_cons]
      omega
  have hlt : ((List.range 7).countP fun (c : Nat) => decide ((c : Int) ∈ wd)) < (List.range 7).length := by
    have := key wd
    rw [List.length_range]
    omega
  have : ∃ c ∈ List.range 7, ¬ (c : Int) ∈ wd := by
    refine Classical.byContradiction fun no => ?_
    have all : ∀ c ∈ List.range 7, decide ((c : Int) ∈ wd) = true := fun c hc => decide_eq_true (Classical.byContradiction fun q => no ⟨c, hc, q⟩)
    have := List.countP_eq_length.mpr all
    omega
  obtain ⟨c, hc, hn⟩ := this
  have := List.mem_range.mp hc
  exact ⟨c, ⟨by omega, by omega⟩, hn⟩
theorem WR.ex {wd hd : List Int} (h : wd.length ≤ 6) (f : Int) (n : Nat) : ∃ r m, WR wd hd r m f n := by
  obtain ⟨c, hc, hw⟩ := free7 wd h
  exact WR.there hc hw _ f n (Nat.le_refl _)
/-! ### data of numbers -/
def intsD (ns : List Int) : PyData := .tuple (ns.map PyData.int)
def restOf (wd hd : List Int) : PyData := .tuple [intsD wd, intsD hd]
theorem dpAll_ints_eq {K : PySem.W.Frag} {H : Hp} : ∀ {ns : List Int} {xs : List V}, DpAll K H xs (ns.map PyData.int) → xs = ns.map V.int
  | [], _, h => by cases h; rfl
  | n :: r, _, h => by
    cases h with
    | cons h1 h2 =>
      cases h1
      rw [dpAll_ints_eq h2]
      rfl
theorem dp_ints {K : PySem.W.Frag} {H : Hp} {ns : List Int} {v : V} (h : Dp K H v (intsD ns)) : ∃ p, v = .ref p ∧ SqT K H p (ns.map V.int) := by
  cases h with
  | tup hs ha => exact ⟨_, rfl, by rw [← dpAll_ints_eq ha]; exact hs⟩
theorem inV_ints (n : Int) : ∀ ns : List Int, inV (.int n) (ns.map V.int) = decide (n ∈ ns)
  | [] => by simp [inV]
  | a :: r => by
    have ih := inV_ints n r
    unfold inV at ih ⊢
    rw [List.map_cons, List.any_cons, ih]
    have e : eqV (.int a) (.int n) = decide (a = n) := by
      first
        | rfl
        | (unfold eqV; rw [Bool.beq_eq_decide_eq])
    rw [e]
    by_cases h : a = n
    · subst h; simp
    · have h' : ¬ n = a := fun q => h q.symm
      simp [h, h']
theorem flat_ints : ∀ ns : List Int, (ns.map V.int).all flatV = true
  | [] => rfl
  | _ :: r => by
    rw [List.map_cons, List.all_cons, flat_ints r]
    rfl
theorem nums_of : ∀ {ds : List PyData} {lo hi : Int}, ds.all (fun x => numIn x lo hi) = true → ∃ ns : List Int, ds = ns.map PyData.int ∧ ∀ n ∈ ns, lo ≤ n ∧ n ≤ hi
  | [], _, _, _ => ⟨[], rfl, fun _ h => by cases h⟩
  | d :: r, lo, hi, h => by
    rw [List.all_cons, Bool.and_eq_true] at h
    obtain ⟨ns, e, q⟩ := nums_of h.2
    cases d with
    | int i =>
      refine ⟨i :: ns, by rw [e]; rfl, fun n hn => ?_⟩
      rcases List.mem_cons.mp hn with z | z
      · subst z
        have := h.1
        simpa [numIn] using this
      · exact q n z
    | none => cases h.1
    | bool _ => cases h.1
    | str _ => cases h.1
    | list _ => cases h.1
    | tuple _ => cases h.1
    | dict _ => cases h.1
/-- what is a rest, taken apart -/
theorem restD_of {d : PyData} (h : restD d = true) : ∃ wd hd : List Int, d = restOf wd hd ∧ wd.length ≤ 4 := by
  match d, h with
  | .tuple [a, b], h =>
    have h' : (risingD a 4 6 && risingD b 20 3000) = true := h
    rw [Bool.and_eq_true] at h'
    obtain ⟨ha, hb⟩ := h'
    cases a with
    | tuple xs =>
      cases b with
      | tuple ys =>
        simp only [risingD, Bool.and_eq_true] at ha hb
        obtain ⟨wd, e1, _⟩ := nums_of ha.2.1
        obtain ⟨hd, e2, _⟩ := nums_of hb.2.1
        refine ⟨wd, hd, by rw [e1, e2]; rfl, ?_⟩
        have := of_decide_eq_true ha.1
        rw [e1, List.length_map] at this
        omega
      | _ => cases hb
    | _ => cases ha
theorem spanWord_of {d : PyData} (h : spanWord d = true) : d = .str "days" ∨ d = .str "work" := by
  unfold spanWord at h
  rw [Bool.or_eq_true] at h
  cases d with
  | str x =>
    simp only [PyData.eqv, decide_eq_true_eq, beq_iff_eq] at h
    rcases h with h | h
    · exact .inl (by rw [h])
    · exact .inr (by rw [h])
  | none => simp [PyData.eqv] at h
  | bool _ => simp [PyData.eqv] at h
  | int _ => simp [PyData.eqv] at h
  | list _ => simp [PyData.eqv] at h
  | tuple _ => simp [PyData.eqv] at h
  | dict _ => simp [PyData.eqv] at h
theorem spanD_of {d : PyData} (h : spanD d = true) : ∃ (m : Int), 1 ≤ m ∧ m ≤ 30 ∧ (d = .tuple [.str "days", .int m] ∨ d = .tuple [.str "work", .int m]) := by
  match d, h with
  | .tuple [a, b], h =>
    have h' : (spanWord a && numIn b 1 30) = true := h
    rw [Bool.and_eq_true] at h'
    obtain ⟨ha, hb⟩ := h'
    cases b with
    | int m =>
      have : 1 ≤ m ∧ m ≤ 30 := by simpa [numIn] using hb
      refine ⟨m, this.1, this.2, ?_⟩
      rcases spanWord_of ha with e | e
      · exact .inl (by rw [e])
      · exact .inr (by rw [e])
    | _ => cases hb
theorem room65 {k : Nat} {A : Around} (hr : Room k A) : A.units + 65 < cLine := by
  have := hr.un
  omega
end Dt
set_option Elab.async false
set_option linter.all false
set_option maxRecDepth 100000
set_option maxHeartbeats 4000000
/-! The law's pen: a list that is drawn from, and what stays beside it. -/
namespace Dt
open PySem PySem.Spec PyProof.Rows L2
/-- the heap without the pen and without the tables of code objects -/
def core (p : Addr) (H : Hp) : Hp := fun b => if b = p then none else match H b with
  | some (.tbl _) => none
  | x => x
theorem core_le {p : Addr} {H : Hp} : Same (core p H) H := fun b o e => by
  unfold core at e
  split at e
  · cases e
  · split at e
    · cases e
    · exact e
theorem core_of {p b : Addr} {H : Hp} {o : HO} (e : H b = some o) (hb : b ≠ p) (ho : ∀ ps, o ≠ .tbl ps) : core p H b = some o := by
  unfold core
  rw [if_neg hb, e]
  cases o with
  | tbl ps => exact absurd rfl (ho ps)
  | _ => rfl
/-- all but the pen stays -/
def Keep (p : Addr) (H H' : Hp) : Prop := ∀ b o, b ≠ p → H b = some o → H' b = some o
theorem Keep.refl {p : Addr} {H : Hp} : Keep p H H := fun _ _ _ e => e
theorem Keep.trans {p : Addr} {H H1 H2 : Hp} (a : Keep p H H1) (b : Keep p H1 H2) : Keep p H H2 := fun c o n e => b c o n (a c o n e)
theorem Keep.of {p : Addr} {H H' : Hp} (e : Same H H') : Keep p H H' := fun b o _ q => e b o q
theorem Keep.new {p q : Addr} {H : Hp} {o : HO} (h : H q = none) : Keep p H (upd H q o) := Keep.of (same_new h)
theorem Keep.pen {p : Addr} {H : Hp} {o : HO} : Keep p H (upd H p o) := fun b u n e => by rw [upd_ne n]; exact e
/-- all but the pen and the tables stays: a relation of the cores -/
abbrev Stay (p : Addr) (H H' : Hp) : Prop := Same (core p H) (core p H')
theorem Keep.stay {p : Addr} {H H' : Hp} (k : Keep p H H') : Stay p H H' := fun b o e => by
  have h1 := core_le b o e
  have h2 : b ≠ p := fun q => by
    unfold core at e
    rw [if_pos q] at e
    cases e
  have h3 : ∀ ps, o ≠ .tbl ps := fun ps q => by
    subst q
    unfold core at e
    rw [if_neg h2, h1] at e
    cases e
  exact core_of (k b o h2 h1) h2 h3
theorem ExtN.stay {p : Addr} {H H' : Hp} (k : LamX.ExtN H H') : Stay p H H' := fun b o e => by
  have h1 := core_le b o e
  have h2 : b ≠ p := fun q => by
    unfold core at e
    rw [if_pos q] at e
    cases e
  have h3 : ∀ ps, o ≠ .tbl ps := fun ps q => by
    subst q
    unfold core at e
    rw [if_neg h2, h1] at e
    cases e
  exact core_of (k b o h1 h3) h2 h3
/-- the pen at p, with the cells ns at q: at most c draws so far -/
structure Pen (K : PySem.W.Frag) (p q : Addr) (ns : List Int) (c : Nat) (H : Hp) : Prop where
  ex : ∃ (at_ rest : Int), H p = some (.lst [.ref q, .int at_, .int rest]) ∧ 0 ≤ at_ ∧ at_ ≤ c ∧ 0 ≤ rest
  cells : SqL K H q (ns.map V.int)
  ne : q ≠ p
  few : ns.length ≤ 63
theorem seqL_keep {K : PySem.W.Frag} {p q : Addr} {H H' : Hp} {xs : List V} (k : Keep p H H') (h : SqL K H q xs) (n : q ≠ p) : SqL K H' q xs := by
  rcases h with (h | ⟨o, h⟩) | h
  · exact .inl (.inl (k _ _ n h))
  · exact .inl (.inr ⟨o, k _ _ n h⟩)
  · exact .inr h
section
variable {K : PySem.W.Frag} {p q : Addr} {ns : List Int} {c d : Nat} {H H' : Hp}
theorem Pen.same (h : Pen K p q ns c H) (e : Same H H') : Pen K p q ns c H' := by
  obtain ⟨⟨a, r, h1, h3⟩, h2, n, l⟩ := h
  exact ⟨⟨a, r, e _ _ h1, h3⟩, e.seq h2, n, l⟩
theorem Pen.mono (h : Pen K p q ns c H) (e : c ≤ d) : Pen K p q ns d H := by
  obtain ⟨⟨a, r, h1, h4, h5, h6⟩, h2, n, l⟩ := h
  exact ⟨⟨a, r, h1, h4, by omega, h6⟩, h2, n, l⟩
theorem Pen.extN (h : Pen K p q ns c H) (e : LamX.ExtN H H') : Pen K p q ns c H' := by
  obtain ⟨⟨a, r, h1, h3⟩, h2, n, l⟩ := h
  refine ⟨⟨a, r, e _ _ h1 (fun ps z => nomatch z), h3⟩, ?_, n, l⟩
  rcases h2 with (h | ⟨o, h⟩) | h
  · exact .inl (.inl (e _ _ h fun ps z => nomatch z))
  · exact .inl (.inr ⟨o, e _ _ h fun ps z => nomatch z⟩)
  · exact .inr h
theorem Pen.new {t : Addr} {o : HO} (h : Pen K p q ns c H) (e : H t = none) : Pen K p q ns c (upd H t o) := h.same (same_new e)
/-- a thing that is younger than the pen is written -/
theorem Pen.mut {t : Addr} {o : HO} {H0 : Hp} (h : Pen K p q ns c H) (h0 : Pen K p q ns d H0) (k : Keep p H0 H) (n : H0 t = none) : Pen K p q ns c (upd H t o) := by
  obtain ⟨⟨a, r, h1, h3⟩, _, ne, l⟩ := h
  obtain ⟨⟨a0, r0, e1, _⟩, h2, _, _⟩ := h0
  have np : p ≠ t := ne_of_none e1 n
  refine ⟨⟨a, r, by rw [upd_ne np]; exact h1, h3⟩, ?_, ne, l⟩
  rcases h2 with (h | ⟨o, h⟩) | h
  · exact .inl (.inl (by rw [upd_ne (ne_of_none h n)]; exact k _ _ ne h))
  · exact .inl (.inr ⟨o, by rw [upd_ne (ne_of_none h n)]; exact k _ _ ne h⟩)
  · exact .inr h
theorem Keep.mut {t : Addr} {o : HO} {H0 : Hp} (k : Keep p H0 H) (n : H0 t = none) : Keep p H0 (upd H t o) := fun b u nb e => by
  rw [upd_ne (ne_of_none e n)]
  exact k b u nb e
end
/-! ### promises of the law's helpers that draw -/
def spDraw (K : PySem.W.Frag) : Sp := fun vs H Q _ => ∃ (p b : Addr) (ns : List Int) (c : Nat) (many : Int), vs = [.ref p, .int many] ∧ Pen K p b ns c H ∧ c ≤ 1000000 ∧ 1 ≤ many ∧ many < 1073741824 ∧
  ∀ v H', 0 ≤ v → v < many → Keep p H H' → Pen K p b ns (c + 1) H' → Q (.int v) H'
def spPick (K : PySem.W.Frag) : Sp := fun vs H Q _ => ∃ (p b l : Addr) (ns : List Int) (c : Nat) (xs : List V), vs = [.ref p, .ref l] ∧ Pen K p b ns c H ∧ c ≤ 1000000 ∧ SqL K H l xs ∧ l ≠ p ∧ 1 ≤ xs.length ∧ xs.length ≤ 1000000 ∧
  ∀ (i : Nat) (v : V) H', xs[i]? = some v → Keep p H H' → Pen K p b ns (c + 1) H' → Q v H'
def spPen (K : PySem.W.Frag) : Sp := fun vs H Q _ => ∃ (a : Addr) (ns : List Int), vs = [.ref a] ∧ SqL K H a (ns.map V.int) ∧ ns.length ≤ 63 ∧
  ∀ p b H', H p = none → Same H H' → Pen K p b ns 0 H' → Q (.ref p) H'
theorem fresh_ne {H : Hp} {p q : Addr} {o : HO} (h : H p = some o) (n : H q = none) : q ≠ p := fun e => by
  rw [e, h] at n
  cases n
theorem Pen.off {K : PySem.W.Frag} {p b t : Addr} {ns : List Int} {c : Nat} {H : Hp} (h : Pen K p b ns c H) (n : H t = none) : t ≠ p := by
  obtain ⟨a, r, e, _⟩ := h.ex
  exact fresh_ne e n
/-- data that stands beside the pen, read -/
theorem dp_core {K : PySem.W.Frag} {p : Addr} {H : Hp} {v : V} {d : PyData} (h : Dp K (core p H) v d) : Dp K H v d := dp_mono core_le d v h
theorem dp_keep {K : PySem.W.Frag} {p : Addr} {H H' : Hp} {v : V} {d : PyData} (k : Keep p H H') (h : Dp K (core p H) v d) : Dp K (core p H') v d := dp_mono k.stay d v h
/-- a statement, then the others: what holds between -/
theorem seq_cut {t u : TS} {D : Ends} {σ : L2.St} {H : Hp} (R : L2.St → Hp → Prop) (h1 : ∀ nx : L2.St → Hp → Prop, (∀ σ' H', R σ' H' → nx σ' H') → t { D with nx := nx } σ H) (h2 : ∀ σ' H', R σ' H' → u D σ' H') : tSeq t u D σ H := h1 _ h2
theorem w_setc {v : V} {i : Nat} {u : TS} {D : Ends} {σ : L2.St} {H : Hp} (h : u D (σ.set i (some v)) H) : tSeq (tAsg (tC v) (gName i)) u D σ H := h
end Dt
set_option Elab.async false
set_option linter.all false
set_option maxRecDepth 100000
set_option maxHeartbeats 4000000
/-! What stays around the law's turns: the pen, the tables, data. -/
namespace Dt
open PySem PySem.Spec PyProof.Rows L2 LamX
section
variable {K : PySem.W.Frag} {p q : Addr} {ns : List Int} {c d : Nat} {T : List (Addr × Str)} {H H' H0 : Hp}
theorem TabS.keepP {P : Addr} {n : Str} (t : TabS H P n) (hp : Pen K p q ns c H) (k : Keep p H H') : TabS H' P n := by
  obtain ⟨at_, rest, ep, _⟩ := hp.ex
  obtain ⟨ps, e1, e2, e3⟩ := t
  have n1 : P ≠ p := fun z => by
    rw [z, ep] at e1
    cases e1
  refine ⟨ps, k _ _ n1 e1, e2, fun pos cv hc => ?_⟩
  obtain ⟨c0, e4, e5⟩ := e3 pos cv hc
  refine ⟨c0, e4, k _ _ (fun z => ?_) e5⟩
  rw [z, ep] at e5
  cases e5
theorem TabS.mutL {P t : Addr} {n : Str} {xs : List V} {o : HO} (h : TabS H P n) (e : H t = some (.lst xs)) : TabS (upd H t o) P n := by
  obtain ⟨ps, e1, e2, e3⟩ := h
  have n1 : P ≠ t := fun z => by
    rw [z, e] at e1
    cases e1
  refine ⟨ps, by rw [upd_ne n1]; exact e1, e2, fun pos cv hc => ?_⟩
  obtain ⟨c0, e4, e5⟩ := e3 pos cv hc
  refine ⟨c0, e4, ?_⟩
  rw [upd_ne (fun z => by rw [z, e] at e5; cases e5)]
  exact e5
/-- the pen and the tables are there -/
structure Amb (K : PySem.W.Frag) (p q : Addr) (ns : List Int) (T : List (Addr × Str)) (c : Nat) (H : Hp) : Prop where
  pen : Pen K p q ns c H
  tabs : Tabs T H
theorem Amb.same (a : Amb K p q ns T c H) (e : Same H H') : Amb K p q ns T c H' := ⟨a.pen.same e, a.tabs.ext e⟩
theorem Amb.new {t : Addr} {o : HO} (a : Amb K p q ns T c H) (e : H t = none) : Amb K p q ns T c (upd H t o) := a.same (same_new e)
theorem Amb.keep (a : Amb K p q ns T c H) (k : Keep p H H') (h : Pen K p q ns d H') : Amb K p q ns T d H' := ⟨h, fun x hx => TabS.keepP (a.tabs x hx) a.pen k⟩
theorem Amb.ext (a : Amb K p q ns T c H) (k : ExtN H H') (t : Tabs T H') : Amb K p q ns T c H' := ⟨a.pen.extN k, t⟩
theorem Amb.mono (a : Amb K p q ns T c H) (h : c ≤ d) : Amb K p q ns T d H := ⟨a.pen.mono h, a.tabs⟩
theorem Amb.off {t : Addr} (a : Amb K p q ns T c H) (n : H t = none) : t ≠ p := a.pen.off n
/-- a list that is younger than the pen is written -/
theorem Amb.mut {t : Addr} {xs : List V} {o : HO} (a : Amb K p q ns T c H) (h0 : Pen K p q ns d H0) (k : Keep p H0 H) (n : H0 t = none) (e : H t = some (.lst xs)) : Amb K p q ns T c (upd H t o) :=
  ⟨a.pen.mut h0 k n, fun x hx => TabS.mutL (a.tabs x hx) e⟩
theorem core_new {t : Addr} (e : H t = none) : core p H t = none := by
  unfold core
  split
  · rfl
  · rw [e]
/-- a thing that is younger than what stays is written -/
theorem stay_mut {t : Addr} {xs : List V} (k : Stay p H0 H) (n : H0 t = none) (hp : t ≠ p) : Stay p H0 (upd H t (.lst xs)) := fun b o e => by
  have hb : b ≠ t := fun z => by
    rw [z, core_new (p := p) n] at e
    cases e
  have e2 := k b o e
  have e3 := core_le b o e2
  refine core_of (by rw [upd_ne hb]; exact e3) (fun z => ?_) (fun ps z => ?_)
  · unfold core at e
    rw [if_pos z] at e
    cases e
  · subst z
    have e4 := e
    unfold core at e4
    split at e4
    · cases e4
    · split at e4
      · cases e4
      · rename_i hx
        exact hx ps e4
theorem stay_trans {H1 H2 H3 : Hp} (a : Stay p H1 H2) (b : Stay p H2 H3) : Stay p H1 H3 := Same.trans a b
theorem same_stay (e : Same H H') : Stay p H H' := (Keep.of e).stay
end
/-! ### what repr asks of a rest and a span -/
theorem leaves_ints : ∀ ns : List Int, (∀ x ∈ ns, x.natAbs < 10 ^ 12) → PyData.leavesShortAll 13 (ns.map PyData.int) = true
  | [], _ => by simp only [List.map_nil, PyData.leavesShortAll]
  | x :: ns, h => by
    simp only [List.map_cons, PyData.leavesShortAll, PyData.leavesShort, Bool.and_eq_true, decide_eq_true_eq]
    exact ⟨PyData.shown_int_le (h x List.mem_cons_self), leaves_ints ns fun y hy => h y (List.mem_cons_of_mem _ hy)⟩
theorem bulk_ints : ∀ ns : List Int, PyData.bulkAll (ns.map PyData.int) = ns.length
  | [] => by simp only [List.map_nil, PyData.bulkAll, List.length_nil]
  | x :: ns => by
    simp only [List.map_cons, PyData.bulkAll, PyData.bulk, bulk_ints ns, List.length_cons]
    omega
theorem depth_ints : ∀ ns : List Int, PyData.depthAll (ns.map PyData.int) = 0
  | [] => by simp only [List.map_nil, PyData.depthAll]
  | x :: ns => by simp only [List.map_cons, PyData.depthAll, PyData.depth, depth_ints ns, Nat.max_self]
theorem small_log {x : Int} (h : x.natAbs < 10 ^ 12) : x.natAbs.log2 < 1920 := by
  by_cases hz : x.natAbs = 0
  · rw [hz]
    decide
  · exact (Nat.log2_lt hz).mpr (Nat.lt_of_lt_of_le h (by decide +kernel))
theorem show_ints : ∀ ns : List Int, (∀ x ∈ ns, x.natAbs < 10 ^ 12) → PyData.showableAll (ns.map PyData.int) = true
  | [], _ => by simp only [List.map_nil, PyData.showableAll]
  | x :: ns, h => by
    simp only [List.map_cons, PyData.showableAll, PyData.showable, Bool.and_eq_true, decide_eq_true_eq]
    exact ⟨small_log (h x List.mem_cons_self), show_ints ns fun y hy => h y (List.mem_cons_of_mem _ hy)⟩
/-- a rest and a span, as they are handed to repr -/
abbrev keptD (wd hd : List Int) (x : Str) (m : Int) : PyData := .tuple [restOf wd hd, .tuple [.str x, .int m]]
theorem kept_ok {wd hd : List Int} {x : Str} {m : Int} (h1 : ∀ y ∈ wd, 0 ≤ y ∧ y ≤ 6) (h2 : ∀ y ∈ hd, 0 ≤ y ∧ y ≤ 3000) (l1 : wd.length ≤ 4) (l2 : hd.length ≤ 20) (hx : x = "days" ∨ x = "work") (m0 : 1 ≤ m) (m1 : m ≤ 30) :
    (keptD wd hd x m).showable = true ∧ (keptD wd hd x m).depth ≤ 60 ∧ (keptD wd hd x m).shown.length ≤ sizeLine := by
  have a1 : ∀ y ∈ wd, y.natAbs < 10 ^ 12 := fun y hy => by
    have := h1 y hy
    omega
  have a2 : ∀ y ∈ hd, y.natAbs < 10 ^ 12 := fun y hy => by
    have := h2 y hy
    omega
  have am : m.natAbs < 10 ^ 12 := by omega
  have hs : (PyData.str x).leavesShort 13 = true := by
    rcases hx with rfl | rfl <;> decide +kernel
  have hb : PyData.bulk (.str x) = 4 := by
    rcases hx with rfl | rfl <;> rfl
  refine ⟨?_, ?_, PyData.shown_fits_bulk (B := 13) (by decide) (by decide) ?_ ?_⟩
  · simp only [keptD, restOf, intsD, PyData.showable, PyData.showableAll, show_ints wd a1, show_ints hd a2, Bool.and_true, Bool.true_and, decide_eq_true_eq]
    exact small_log am
  · simp only [keptD, restOf, intsD, PyData.depth, PyData.depthAll, depth_ints]
    decide
  · simp only [keptD, restOf, intsD, PyData.leavesShort, PyData.leavesShortAll, leaves_ints wd a1, leaves_ints hd a2, Bool.and_true, Bool.true_and, Bool.and_eq_true, decide_eq_true_eq]
    simp only [PyData.leavesShort] at hs
    exact ⟨hs, PyData.shown_int_le am⟩
  · have hb : x.cps.size = 4 := by
      rcases hx with rfl | rfl <;> rfl
    simp only [keptD, restOf, intsD, PyData.bulk, PyData.bulkAll, bulk_ints]
    omega
end Dt
namespace Dt
open PySem PySem.Spec PyProof.Rows L2 LamX
/-- the core without one more thing -/
def core2 (p l : Addr) (H : Hp) : Hp := fun b => if b = l then none else core p H b
theorem core2_of {p l b : Addr} {H : Hp} {o : HO} (e : H b = some o) (hb : b ≠ p) (hl : b ≠ l) (ho : ∀ ps, o ≠ .tbl ps) : core2 p l H b = some o := by
  unfold core2
  rw [if_neg hl]
  exact core_of e hb ho
theorem core2_upd {p l : Addr} {H : Hp} {o : HO} : Same (core2 p l H) (core p (upd H l o)) := fun b u e => by
  unfold core2 at e
  split at e
  · cases e
  · rename_i hb
    unfold core at e ⊢
    rw [upd_ne hb]
    exact e
theorem core2_keep {p l : Addr} {H H' : Hp} (k : Keep p H H') : Same (core2 p l H) (core2 p l H') := fun b u e => by
  unfold core2 at e ⊢
  split at e
  · cases e
  · rename_i hb
    rw [if_neg hb]
    exact k.stay b u e
end Dt
namespace Dt
open PySem PySem.Spec PyProof.Rows L2 LamX
section
variable {K : PySem.W.Frag} {p q t : Addr} {ns : List Int} {c d : Nat} {T : List (Addr × Str)} {H H0 : Hp} {o : HO} {xs : List V}
theorem Pen.mutL (h : Pen K p q ns c H) (h0 : Pen K p q ns d H0) (n : H0 t = none) : Pen K p q ns c (upd H t o) := by
  obtain ⟨⟨a, r, h1, h3⟩, h2, ne, l⟩ := h
  obtain ⟨⟨a0, r0, e1, _⟩, g2, _, _⟩ := h0
  have np : p ≠ t := ne_of_none e1 n
  refine ⟨⟨a, r, by rw [upd_ne np]; exact h1, h3⟩, ?_, ne, l⟩
  have go : q ≠ t → SqL K (upd H t o) q (ns.map V.int) := fun nq => by
    rcases h2 with (h | ⟨u, h⟩) | h
    · exact .inl (.inl (by rw [upd_ne nq]; exact h))
    · exact .inl (.inr ⟨u, by rw [upd_ne nq]; exact h⟩)
    · exact .inr h
  rcases g2 with (g | ⟨u, g⟩) | g
  · exact go (ne_of_none g n)
  · exact go (ne_of_none g n)
  · exact .inr g
theorem Amb.mutL (a : Amb K p q ns T c H) (h0 : Pen K p q ns d H0) (n : H0 t = none) (e : H t = some (.lst xs)) : Amb K p q ns T c (upd H t o) := ⟨a.pen.mutL h0 n, fun x hx => TabS.mutL (a.tabs x hx) e⟩
theorem core_free {H1 : Hp} (k : Stay p H0 H1) (n : H1 t = none) : core p H0 t = none := by
  cases e : core p H0 t with
  | none => rfl
  | some u =>
    have := core_le t u (k t u e)
    rw [n] at this
    cases this
theorem stay_mutL (k : Stay p H0 H) (n : core p H0 t = none) (hp : t ≠ p) : Stay p H0 (upd H t (.lst xs)) := fun b o e => by
  have hb : b ≠ t := fun z => by
    rw [z, n] at e
    cases e
  have e2 := k b o e
  have e3 := core_le b o e2
  refine core_of (by rw [upd_ne hb]; exact e3) (fun z => ?_) (fun ps z => ?_)
  · unfold core at e
    rw [if_pos z] at e
    cases e
  · subst z
    have e4 := e
    unfold core at e4
    split at e4
    · cases e4
    · split at e4
      · cases e4
      · rename_i hx
        exact hx ps e4
end
end Dt
set_option Elab.async false
set_option linter.all false
set_option maxRecDepth 100000
set_option maxHeartbeats 4000000
namespace Dt
open PySem PySem.Spec PyProof.Rows L2 LamX
/-- walk_outer for a law with one table, its own -/
theorem walk_own {l : PySem.W.OpenLaw} {n : Nat} {q : Program} {loose : List Str} {XP : (Str → Option Value) → Heap → Prop} {YP : World → Heap → Prop} {d : DefRec} {K : Params → PySem.W.Frag} {CX : World → CXT}
    (hn : l.most = some n) (hn2 : n ≤ sizeLine) (hdf : d.params.defaults = []) (hrec : ((recsOf q).any fun e => e.name == d.name) = true) (hY : ∀ (w : World) (h : Heap), YP w h → (K w.params).In h)
    (F : ∀ (w : World) (mg : Str → Option Value) (fa : Addr) (h : Heap), (K w.params).In h → h.Ns mainGlobals mg → mg d.name = some (.ref fa) →
      ∃ c P : Addr, PySem.W.tabIn (K w.params) d.name = some (c, P) ∧ (K w.params).lookup P = none ∧ OuterOk l.prog w (K w.params) mg (CX w) fa n [(c, P)])
    (hCX : ∀ (w : World) (H : Hp) (s : Shared) (e : Value) (s' : Shared), CX w [] H s (fun _ _ _ => False) e s' → False) :
    PySem.W.WalkO q loose XP YP l.row.toRowW d [] (fun f vs => PySem.call f vs) := by
  refine Att.attach_callB hn hdf fun w s₀ s₁ mg mb fa o pm cd doc a vs ns G Y ho hd hcd hmg hobj hints hlen hbits hg => ?_
  obtain ⟨c, P, h1, h2, h3⟩ := F w mg fa _ (hY w _ Y) G.T.g hmg
  obtain ⟨dL, hL⟩ := Option.isSome_iff_exists.mp (show ((recsOf q).find? fun e => e.name == d.name).isSome = true by
    rw [List.find?_isSome]
    exact List.any_eq_true.mp hrec)
  obtain ⟨t1, t2⟩ := PySem.W.tab_of G.T (hY w _ Y) hL h1
  refine outer_end (cs := [(c, P)]) (hY w _ Y) G.T.g G.T.b G.T.builtins G.T.nolimit hg ?_ ?_ ?_ G.T.bmain hobj hints hlen hn2 hbits h3 fun H e s' => hCX w H s₁ e s'
  · intro p hp
    rw [List.mem_singleton.mp hp]
    exact t2
  · intro p hp
    rw [List.mem_singleton.mp hp]
    exact h2
  · intro p hp
    rw [List.mem_singleton.mp hp]
    exact t1
end Dt
set_option Elab.async false
set_option linter.all false
set_option maxRecDepth 100000
set_option maxHeartbeats 4000000
/-! How many working days there are up to a day. -/
namespace Dt
open PySem PySem.Spec PyProof.Rows L2
/-- by weekdays: of the first i remainders that are none of wd, how many such days there are up to n -/
def wkL (wd : List Int) (n : Int) : Nat → List Int
  | 0 => []
  | i + 1 => wkL wd n i ++ (if (i : Int) ∈ wd then [] else [(n - i) / 7 + 1])
/-- the holidays up to n that aren't of rest anyway -/
def lostL (wd : List Int) (n : Int) (hd : List Int) : List Int := hd.filter fun h => decide (h ≤ n) && !decide (h.fmod 7 ∈ wd)
def sumI (l : List Int) : Int := l.sum
theorem sumI_app (a b : List Int) : sumI (a ++ b) = sumI a + sumI b := by
  induction a with
  | nil => simp [sumI]
  | cons x a ih =>
    show (x :: (a ++ b)).sum = (x :: a).sum + b.sum
    unfold sumI at ih
    rw [List.sum_cons, List.sum_cons, ih]
    omega
def nWork (wd hd : List Int) (n : Int) : Int := sumI (wkL wd n 7) - (lostL wd n hd).length
theorem fdiv_step (n : Int) (i : Nat) (hi : i < 7) : (n + 1 - i) / 7 = (n - i) / 7 + (if (n + 1).fmod 7 = i then 1 else 0) := by
  rw [Int.fmod_eq_emod_of_nonneg _ (by decide)]
  split <;> omega
theorem wkL_step (wd : List Int) (n : Int) : ∀ i : Nat, i ≤ 7 → sumI (wkL wd (n + 1) i) = sumI (wkL wd n i) + (if (n + 1).fmod 7 < i ∧ (n + 1).fmod 7 ∉ wd then 1 else 0)
  | 0, _ => by
    have : ¬ ((n + 1).fmod 7 < ((0 : Nat) : Int)) := by
      rw [Int.fmod_eq_emod_of_nonneg _ (by decide)]
      omega
    rw [if_neg (fun z => this z.1)]
    simp [wkL, sumI]
  | i + 1, hi => by
    have ih := wkL_step wd n i (by omega)
    have st := fdiv_step n i (by omega)
    show sumI (wkL wd (n + 1) i ++ _) = sumI (wkL wd n i ++ _) + _
    rw [sumI_app, sumI_app, ih]
    by_cases hw : (i : Int) ∈ wd
    · rw [if_pos hw, if_pos hw]
      have : ((n + 1).fmod 7 < ((i : Nat) : Int) ∧ (n + 1).fmod 7 ∉ wd) ↔ ((n + 1).fmod 7 < ((i + 1 : Nat) : Int) ∧ (n + 1).fmod 7 ∉ wd) := by
        constructor
        · rintro ⟨a, b⟩
          exact ⟨by omega, b⟩
        · rintro ⟨a, b⟩
          refine ⟨?_, b⟩
          by_cases e : (n + 1).fmod 7 = i
          · rw [e] at b
            exact absurd hw b
          · omega
      simp only [this]
      omega
    · rw [if_neg hw, if_neg hw]
      show _ + (_ + 1 + 0) = _ + (_ + 1 + 0) + _
      rw [st]
      by_cases e : (n + 1).fmod 7 = i
      · have h1 : ¬ ((n + 1).fmod 7 < ((i : Nat) : Int) ∧ (n + 1).fmod 7 ∉ wd) := by
          rintro ⟨a, _⟩
          omega
        have h2 : (n + 1).fmod 7 < ((i + 1 : Nat) : Int) ∧ (n + 1).fmod 7 ∉ wd := ⟨by omega, by rw [e]; exact hw⟩
        rw [if_neg h1, if_pos h2, if_pos e]
        omega
      · have : ((n + 1).fmod 7 < ((i : Nat) : Int) ∧ (n + 1).fmod 7 ∉ wd) ↔ ((n + 1).fmod 7 < ((i + 1 : Nat) : Int) ∧ (n + 1).fmod 7 ∉ wd) := by
          constructor
          · rintro ⟨a, b⟩
            exact ⟨by omega, b⟩
          · rintro ⟨a, b⟩
            exact ⟨by omega, b⟩
        rw [if_neg e]
        simp only [this]
        omega
theorem lostL_step (wd : List Int) (n : Int) : ∀ hd : List Int, hd.Pairwise (· < ·) → ((lostL wd (n + 1) hd).length : Int) = (lostL wd n hd).length + (if n + 1 ∈ hd ∧ (n + 1).fmod 7 ∉ wd then 1 else 0)
  | [], _ => by simp [lostL]
  | h :: hd, hp => by
    have ih := lostL_step wd n hd (List.pairwise_cons.mp hp).2
    have lt := (List.pairwise_cons.mp hp).1
    unfold lostL at ih ⊢
    rw [List.filter_cons, List.filter_cons]
    by_cases hw : h.fmod 7 ∈ wd
    · have e1 : (decide (h ≤ n + 1) && !decide (h.fmod 7 ∈ wd)) = false := by simp [hw]
      have e2 : (decide (h ≤ n) && !decide (h.fmod 7 ∈ wd)) = false := by simp [hw]
      rw [e1, e2]
      have : (n + 1 ∈ h :: hd ∧ (n + 1).fmod 7 ∉ wd) ↔ (n + 1 ∈ hd ∧ (n + 1).fmod 7 ∉ wd) := by
        constructor
        · rintro ⟨a, b⟩
          rcases List.mem_cons.mp a with e | e
          · rw [e] at b
            exact absurd hw b
          · exact ⟨e, b⟩
        · rintro ⟨a, b⟩
          exact ⟨List.mem_cons_of_mem _ a, b⟩
      simp only [this, Bool.false_eq_true, if_false]
      exact ih
    · have e1 : (decide (h ≤ n + 1) && !decide (h.fmod 7 ∈ wd)) = decide (h ≤ n + 1) := by simp [hw]
      have e2 : (decide (h ≤ n) && !decide (h.fmod 7 ∈ wd)) = decide (h ≤ n) := by simp [hw]
      rw [e1, e2]
      by_cases q : h = n + 1
      · have n1 : n + 1 ∉ hd := fun z => by
          have := lt _ z
          omega
        have d1 : decide (h ≤ n + 1) = true := decide_eq_true (by omega)
        have d2 : decide (h ≤ n) = false := decide_eq_false (by omega)
        rw [d1, d2]
        have c1 : ¬ (n + 1 ∈ hd ∧ (n + 1).fmod 7 ∉ wd) := fun z => n1 z.1
        have c2 : n + 1 ∈ h :: hd ∧ (n + 1).fmod 7 ∉ wd := ⟨by rw [q]; exact List.mem_cons_self, by rw [← q]; exact hw⟩
        rw [if_neg c1] at ih
        rw [if_pos c2]
        simp only [if_true, Bool.false_eq_true, if_false, List.length_cons]
        omega
      · have : (n + 1 ∈ h :: hd ∧ (n + 1).fmod 7 ∉ wd) ↔ (n + 1 ∈ hd ∧ (n + 1).fmod 7 ∉ wd) := by
          constructor
          · rintro ⟨a, b⟩
            rcases List.mem_cons.mp a with e | e
            · exact absurd e.symm q
            · exact ⟨e, b⟩
          · rintro ⟨a, b⟩
            exact ⟨List.mem_cons_of_mem _ a, b⟩
        simp only [this]
        have d : decide (h ≤ n + 1) = decide (h ≤ n) := by
          rw [decide_eq_decide]
          omega
        rw [d]
        cases decide (h ≤ n) with
        | true =>
          simp only [if_true, List.length_cons]
          omega
        | false =>
          simp only [Bool.false_eq_true, if_false]
          omega
theorem nWork_step {wd hd : List Int} (hp : hd.Pairwise (· < ·)) (n : Int) : nWork wd hd (n + 1) = nWork wd hd n + (if worksI wd hd (n + 1) = true then 1 else 0) := by
  unfold nWork
  rw [wkL_step wd n 7 (Nat.le_refl 7), lostL_step wd n hd hp]
  have h7 : (n + 1).fmod 7 < ((7 : Nat) : Int) := by
    rw [Int.fmod_eq_emod_of_nonneg _ (by decide)]
    omega
  by_cases a : (n + 1).fmod 7 ∈ wd
  · have e : worksI wd hd (n + 1) = false := by simp [worksI, a]
    rw [e]
    simp [a]
  · by_cases b : n + 1 ∈ hd
    · have e : worksI wd hd (n + 1) = false := by simp [worksI, b]
      rw [e]
      simp [a, b, h7]
      omega
    · have e : worksI wd hd (n + 1) = true := by simp [worksI, a, b]
      rw [e]
      simp [a, b, h7]
      omega
theorem nWork_mono {wd hd : List Int} (hp : hd.Pairwise (· < ·)) (n : Int) : ∀ m : Nat, nWork wd hd n ≤ nWork wd hd (n + m)
  | 0 => by
    rw [show n + ((0 : Nat) : Int) = n by omega]
    exact Int.le_refl _
  | m + 1 => by
    have ih := nWork_mono (wd := wd) hp n m
    have st := nWork_step (wd := wd) hp (n + m)
    rw [show n + ((m + 1 : Nat) : Int) = n + m + 1 by omega, st]
    split <;> omega
theorem nWork_le {wd hd : List Int} (hp : hd.Pairwise (· < ·)) {n k : Int} (h : n ≤ k) : nWork wd hd n ≤ nWork wd hd k := by
  have := nWork_mono (wd := wd) hp n (k - n).toNat
  rw [show n + (((k - n).toNat : Nat) : Int) = k by omega] at this
  exact this
/-- the n-th working day, counted -/
theorem WR.count {wd hd : List Int} (hp : hd.Pairwise (· < ·)) {r : Int} {k : Nat} {f : Int} {n : Nat} (h : WR wd hd r k f n) : nWork wd hd r = nWork wd hd f + n ∧ (0 < n → worksI wd hd r = true ∧ f < r) ∧ f ≤ r := by
  induction h with
  | stop => exact ⟨by omega, fun z => by omega, Int.le_refl _⟩
  | @work m n f a h ih =>
    have st := nWork_step (wd := wd) hp f
    rw [a] at st
    simp only [if_true] at st
    obtain ⟨i1, i2, i3⟩ := ih
    refine ⟨by omega, fun _ => ⟨?_, by omega⟩, by omega⟩
    cases n with
    | zero =>
      cases h
      exact a
    | succ n => exact (i2 (by omega)).1
  | @rest m n f a h ih =>
    have st := nWork_step (wd := wd) hp f
    rw [a] at st
    simp only [Bool.false_eq_true, if_false] at st
    obtain ⟨i1, i2, i3⟩ := ih
    exact ⟨by omega, fun _ => ⟨(i2 (by omega)).1, by omega⟩, by omega⟩
end Dt
namespace Dt
open PySem PySem.Spec PyProof.Rows L2
theorem wkL_len (wd : List Int) (n : Int) : ∀ i : Nat, (wkL wd n i).length ≤ i
  | 0 => Nat.le_refl 0
  | i + 1 => by
    have := wkL_len wd n i
    show (wkL wd n i ++ (if (i : Int) ∈ wd then [] else [(n - i) / 7 + 1])).length ≤ i + 1
    rw [List.length_append]
    split
    · show _ + 0 ≤ _
      omega
    · show _ + 1 ≤ _
      omega
theorem wkL_in {wd : List Int} {n : Int} {i : Nat} (h : decide ((0 + (i : Int)) ∈ wd) = true) : wkL wd n (i + 1) = wkL wd n i := by
  have h := of_decide_eq_true h
  rw [Int.zero_add] at h
  show wkL wd n i ++ (if (i : Int) ∈ wd then [] else [(n - i) / 7 + 1]) = _
  rw [if_pos h, List.append_nil]
theorem wkL_out {wd : List Int} {n : Int} {i : Nat} (h : decide ((0 + (i : Int)) ∈ wd) = false) : wkL wd n (i + 1) = wkL wd n i ++ [(n - (0 + (i : Int))) / 7 + 1] := by
  have h := of_decide_eq_false h
  rw [Int.zero_add] at h
  show wkL wd n i ++ (if (i : Int) ∈ wd then [] else [(n - i) / 7 + 1]) = _
  rw [if_neg h, Int.zero_add]
theorem lostL_take {wd : List Int} {n : Int} {hd : List Int} {i : Nat} {h : Int} (e : hd[i]? = some h) : lostL wd n (hd.take (i + 1)) = lostL wd n (hd.take i) ++ (if (decide (h ≤ n) && !decide (h.fmod 7 ∈ wd)) = true then [h] else []) := by
  unfold lostL
  rw [List.take_add_one, e, List.filter_append]
  congr 1
  show List.filter _ [h] = _
  rw [List.filter_cons]
  rfl
theorem lostL_len (wd : List Int) (n : Int) (hd : List Int) : (lostL wd n hd).length ≤ hd.length := List.length_filter_le _ _
end Dt
set_option Elab.async false
set_option linter.all false
set_option maxRecDepth 100000
set_option maxHeartbeats 4000000
/-! Whole weeks passed at once. -/
namespace Dt
open PySem PySem.Spec PyProof.Rows L2
/-- the numbers of a rest -/
structure RestI (wd hd : List Int) : Prop where
  w1 : wd.Pairwise (· < ·)
  w2 : ∀ x ∈ wd, 0 ≤ x ∧ x ≤ 6
  w3 : wd.length ≤ 4
  h1 : hd.Pairwise (· < ·)
  h3 : hd.length ≤ 20
theorem pw_of_rising : ∀ {ns : List Int}, risingL (ns.map PyData.int) = true → ns.Pairwise (· < ·)
  | [], _ => .nil
  | [_], _ => List.pairwise_singleton ..
  | a :: b :: r, h => by
    have h' : (decide (a < b) && risingL ((b :: r).map PyData.int)) = true := h
    rw [Bool.and_eq_true, decide_eq_true_eq] at h'
    have ih := pw_of_rising h'.2
    refine List.pairwise_cons.mpr ⟨fun x hx => ?_, ih⟩
    rcases List.mem_cons.mp hx with rfl | hx
    · exact h'.1
    · exact Int.lt_trans h'.1 ((List.pairwise_cons.mp ih).1 x hx)
theorem restD_full {d : PyData} (h : restD d = true) : ∃ wd hd : List Int, d = restOf wd hd ∧ RestI wd hd := by
  match d, h with
  | .tuple [a, b], h =>
    have h' : (risingD a 4 6 && risingD b 20 3000) = true := h
    rw [Bool.and_eq_true] at h'
    obtain ⟨ha, hb⟩ := h'
    cases a with
    | tuple xs =>
      cases b with
      | tuple ys =>
        simp only [risingD, Bool.and_eq_true] at ha hb
        obtain ⟨wd, e1, r1⟩ := nums_of ha.2.1
        obtain ⟨hd, e2, _⟩ := nums_of hb.2.1
        have l1 := of_decide_eq_true ha.1
        have l2 := of_decide_eq_true hb.1
        rw [e1, List.length_map] at l1
        rw [e2, List.length_map] at l2
        exact ⟨wd, hd, by rw [e1, e2]; rfl, ⟨pw_of_rising (by rw [← e1]; exact ha.2.2), r1, by omega, pw_of_rising (by rw [← e2]; exact hb.2.2), by omega⟩⟩
      | _ => cases hb
    | _ => cases ha
theorem wkL_jump (wd : List Int) (n w : Int) : ∀ i : Nat, sumI (wkL wd (n + 7 * w) i) = sumI (wkL wd n i) + w * (wkL wd n i).length
  | 0 => by simp [wkL, sumI]
  | i + 1 => by
    have ih := wkL_jump wd n w i
    show sumI (wkL wd (n + 7 * w) i ++ _) = sumI (wkL wd n i ++ _) + w * ((wkL wd n i ++ _).length : Nat)
    rw [sumI_app, sumI_app, ih, List.length_append]
    by_cases hw : (i : Int) ∈ wd
    · rw [if_pos hw, if_pos hw]
      simp [sumI]
    · rw [if_neg hw, if_neg hw]
      have e : (n + 7 * w - i) / 7 + 1 = (n - i) / 7 + 1 + w := by omega
      have e2 : w * (((wkL wd n i).length + [(n - (i : Int)) / 7 + 1].length : Nat) : Int) = w * ((wkL wd n i).length : Int) + w := by
        rw [List.length_singleton, Int.natCast_add, Int.mul_add]
        simp
      rw [e2, e]
      simp only [sumI, List.sum_cons, List.sum_nil]
      omega
theorem filt_step : ∀ {wd : List Int}, wd.Pairwise (· < ·) → ∀ i : Nat, (wd.filter fun x => decide (x < ((i + 1 : Nat) : Int))).length = (wd.filter fun x => decide (x < (i : Int))).length + (if (i : Int) ∈ wd then 1 else 0)
  | [], _, i => by simp
  | x :: r, hp, i => by
    have ih := filt_step (List.pairwise_cons.mp hp).2 i
    have lt := (List.pairwise_cons.mp hp).1
    rw [List.filter_cons, List.filter_cons]
    by_cases q : x = (i : Int)
    · have n1 : (i : Int) ∉ r := fun z => by
        have := lt _ z
        omega
      have d1 : decide (x < ((i + 1 : Nat) : Int)) = true := decide_eq_true (by omega)
      have d2 : decide (x < (i : Int)) = false := decide_eq_false (by omega)
      rw [d1, d2, if_pos (show (i : Int) ∈ x :: r by rw [q]; exact List.mem_cons_self)]
      rw [if_neg n1] at ih
      simp only [if_true, Bool.false_eq_true, if_false, List.length_cons]
      omega
    · have d : decide (x < ((i + 1 : Nat) : Int)) = decide (x < (i : Int)) := by
        rw [decide_eq_decide]
        omega
      have m : ((i : Int) ∈ x :: r) ↔ ((i : Int) ∈ r) := by
        rw [List.mem_cons]
        exact ⟨fun z => z.resolve_left fun e => q e.symm, .inr⟩
      rw [d]
      simp only [m]
      cases decide (x < (i : Int)) with
      | true =>
        simp only [if_true, List.length_cons]
        omega
      | false =>
        simp only [Bool.false_eq_true, if_false]
        omega
theorem wkL_free {wd : List Int} (hp : wd.Pairwise (· < ·)) (h0 : ∀ x ∈ wd, 0 ≤ x) (n : Int) : ∀ i : Nat, (wkL wd n i).length + (wd.filter fun x => decide (x < (i : Int))).length = i
  | 0 => by
    have e : (wd.filter fun x => decide (x < ((0 : Nat) : Int))) = [] := by
      rw [List.filter_eq_nil_iff]
      intro x hx
      have := h0 x hx
      simp
      omega
    rw [e]
    rfl
  | i + 1 => by
    have ih := wkL_free hp h0 n i
    have st := filt_step hp i
    show (wkL wd n i ++ _).length + _ = i + 1
    rw [List.length_append, st]
    by_cases hw : (i : Int) ∈ wd
    · rw [if_pos hw, if_pos hw]
      simp only [List.length_nil]
      omega
    · rw [if_neg hw, if_neg hw]
      simp only [List.length_singleton]
      omega
theorem wkL_seven {wd hd : List Int} (R : RestI wd hd) (n : Int) : ((wkL wd n 7).length : Int) = 7 - wd.length := by
  have h := wkL_free R.w1 (fun x hx => (R.w2 x hx).1) n 7
  have e : (wd.filter fun x => decide (x < ((7 : Nat) : Int))) = wd := by
    rw [List.filter_eq_self]
    intro x hx
    have := (R.w2 x hx).2
    simp
    omega
  rw [e] at h
  omega
/-- the holidays behind a, to b, that aren't of rest anyway -/
def lostB (wd : List Int) (a b : Int) (hd : List Int) : List Int := hd.filter fun h => (decide (a < h) && decide (h ≤ b)) && !decide (h.fmod 7 ∈ wd)
theorem lostL_split {wd : List Int} {a b : Int} (hab : a ≤ b) : ∀ hd : List Int, (lostL wd b hd).length = (lostL wd a hd).length + (lostB wd a b hd).length
  | [] => rfl
  | h :: r => by
    have ih := lostL_split (wd := wd) hab r
    unfold lostL lostB at ih ⊢
    rw [List.filter_cons, List.filter_cons, List.filter_cons]
    cases decide (h.fmod 7 ∈ wd) with
    | true => simpa using ih
    | false =>
      by_cases c1 : h ≤ a
      · have c2 : h ≤ b := by omega
        have c3 : ¬ a < h := by omega
        simp only [c1, c2, c3, decide_true, decide_false, Bool.not_false, Bool.true_and, Bool.false_and, if_true, Bool.false_eq_true, if_false, List.length_cons]
        omega
      · have c3 : a < h := by omega
        by_cases c2 : h ≤ b
        · simp only [c1, c2, c3, decide_true, decide_false, Bool.not_false, Bool.true_and, Bool.false_and, if_true, Bool.false_eq_true, if_false, List.length_cons]
          omega
        · simp only [c1, c2, c3, decide_true, decide_false, Bool.not_false, Bool.true_and, Bool.false_and, if_true, Bool.false_eq_true, if_false, Bool.and_true]
          exact ih
theorem nWork_jump {wd hd : List Int} (R : RestI wd hd) (n : Int) {w : Int} (hw : 0 ≤ w) : nWork wd hd (n + 7 * w) = nWork wd hd n + w * (7 - wd.length) - (lostB wd n (n + 7 * w) hd).length := by
  unfold nWork
  rw [wkL_jump, wkL_seven R, lostL_split (a := n) (b := n + 7 * w) (by omega) hd]
  omega
theorem WR.jump {wd hd : List Int} {r : Int} (hp : hd.Pairwise (· < ·)) : ∀ (m : Nat) {k : Nat} {f : Int} {n : Nat}, WR wd hd r k f n → nWork wd hd (f + m) < nWork wd hd f + n → ∃ k' n', WR wd hd r k' (f + m) n' ∧ (n' : Int) = nWork wd hd f + n - nWork wd hd (f + m)
  | 0, k, f, n, h, _ => by
    rw [show f + ((0 : Nat) : Int) = f by omega]
    exact ⟨k, n, h, by omega⟩
  | m + 1, k, f, n, h, hlt => by
    have e : f + ((m + 1 : Nat) : Int) = f + 1 + m := by omega
    rw [e] at hlt ⊢
    have st := nWork_step (wd := wd) hp f
    have mono := nWork_le (wd := wd) hp (n := f) (k := f + 1 + m) (by omega)
    cases h with
    | stop => omega
    | @work m1 n1 _ a h' =>
      rw [a] at st
      simp only [if_true] at st
      obtain ⟨k', n', h1, h2⟩ := WR.jump hp m h' (by omega)
      exact ⟨k', n', h1, by omega⟩
    | @rest m1 n1 _ a h' =>
      rw [a] at st
      simp only [Bool.false_eq_true, if_false] at st
      obtain ⟨k', n', h1, h2⟩ := WR.jump hp m h' (by omega)
      exact ⟨k', n', h1, by omega⟩
/-- how many weeks may be passed -/
def weeksI (m : Int) (wd : List Int) : Int := (m - 1) / (7 - wd.length)
theorem weeks_lt {m : Int} {wd : List Int} (hm : 1 ≤ m) (hl : wd.length ≤ 4) : 0 ≤ weeksI m wd ∧ weeksI m wd * (7 - wd.length) ≤ m - 1 := by
  have hp : (0 : Int) < 7 - wd.length := by omega
  exact ⟨Int.ediv_nonneg (by omega) (by omega), Int.ediv_mul_le _ (by omega)⟩
theorem WR.weeks {wd hd : List Int} {r f : Int} {k m : Nat} (R : RestI wd hd) (hm : 1 ≤ m) (h : WR wd hd r k f m) : ∃ k' l : Nat, WR wd hd r k' (f + 7 * weeksI m wd) l ∧ (l : Int) = m - weeksI m wd * (7 - wd.length) + (lostB wd f (f + 7 * weeksI m wd) hd).length := by
  obtain ⟨w0, w1⟩ := weeks_lt (m := (m : Int)) (by omega) R.w3
  have j := nWork_jump R f w0
  have e : f + ((7 * weeksI m wd).toNat : Int) = f + 7 * weeksI m wd := by omega
  obtain ⟨k', l, h1, h2⟩ := WR.jump R.h1 (7 * weeksI m wd).toNat h (by rw [e, j]; omega)
  rw [e] at h1 h2
  exact ⟨k', l, h1, by rw [h2, j]; omega⟩
theorem lostB_take {wd : List Int} {a b : Int} {hd : List Int} {i : Nat} {h : Int} (e : hd[i]? = some h) : lostB wd a b (hd.take (i + 1)) = lostB wd a b (hd.take i) ++ (if ((decide (a < h) && decide (h ≤ b)) && !decide (h.fmod 7 ∈ wd)) = true then [h] else []) := by
  unfold lostB
  rw [List.take_add_one, e, List.filter_append]
  congr 1
  show List.filter _ [h] = _
  rw [List.filter_cons]
  rfl
theorem lostB_len (wd : List Int) (a b : Int) (hd : List Int) : (lostB wd a b hd).length ≤ hd.length := List.length_filter_le _ _
end Dt
set_option Elab.async false
set_option linter.all false
set_option maxRecDepth 100000
set_option maxHeartbeats 4000000
/-! Data with empty dicts in it: what it reads as, isinstance, repr, a text compared with it. -/
namespace Dt
open PySem PySem.Spec PyProof.Rows L2
mutual
/-- data as Dp, an empty dict among it -/
inductive Dq (K : PySem.W.Frag) (H : Hp) : V → PyData → Prop
  | non : Dq K H .non .none
  | bl (b : Bool) : Dq K H (.bl b) (.bool b)
  | int (i : Int) : Dq K H (.int i) (.int i)
  | str (x : Str) : Dq K H (.str x) (.str x)
  | lst {a : Addr} {xs : List V} {ds : List PyData} : SqL K H a xs → DqAll K H xs ds → Dq K H (.ref a) (.list ds)
  | tup {a : Addr} {xs : List V} {ds : List PyData} : SqT K H a xs → DqAll K H xs ds → Dq K H (.ref a) (.tuple ds)
  | dct {a : Addr} : H a = some (.dK []) → Dq K H (.ref a) (.dict [])
  | dct1 {a : Addr} {x : Str} {i : Int} : H a = some (.dK [(.inr x, .int i)]) → Dq K H (.ref a) (.dict [(.str x, .int i)])
inductive DqAll (K : PySem.W.Frag) (H : Hp) : List V → List PyData → Prop
  | nil : DqAll K H [] []
  | cons {v : V} {vs : List V} {d : PyData} {ds : List PyData} : Dq K H v d → DqAll K H vs ds → DqAll K H (v :: vs) (d :: ds)
end
section
variable {K : PySem.W.Frag} {H H' : Hp}
mutual
theorem dq_mono (e : Same H H') : ∀ (d : PyData) (v : V), Dq K H v d → Dq K H' v d
  | .none, _, h => by
    cases h
    exact .non
  | .bool b, _, h => by
    cases h
    exact .bl b
  | .int i, _, h => by
    cases h
    exact .int i
  | .str x, _, h => by
    cases h
    exact .str x
  | .list ds, _, h => by
    cases h with
    | lst hs ha => exact .lst (seqL_mono e hs) (dqAll_mono e ds _ ha)
  | .tuple ds, _, h => by
    cases h with
    | tup hs ha => exact .tup (seqT_mono e hs) (dqAll_mono e ds _ ha)
  | .dict _, _, h => by
    cases h with
    | dct g => exact .dct (e _ _ g)
    | dct1 g => exact .dct1 (e _ _ g)
theorem dqAll_mono (e : Same H H') : ∀ (ds : List PyData) (vs : List V), DqAll K H vs ds → DqAll K H' vs ds
  | [], _, h => by
    cases h
    exact .nil
  | d :: ds, _, h => by
    cases h with
    | cons h1 h2 => exact .cons (dq_mono e d _ h1) (dqAll_mono e ds _ h2)
end
mutual
theorem dq_of : ∀ (d : PyData) (v : V), Dp K H v d → Dq K H v d
  | .none, _, h => by
    cases h
    exact .non
  | .bool b, _, h => by
    cases h
    exact .bl b
  | .int i, _, h => by
    cases h
    exact .int i
  | .str x, _, h => by
    cases h
    exact .str x
  | .list ds, _, h => by
    cases h with
    | lst hs ha => exact .lst hs (dqAll_of ds _ ha)
  | .tuple ds, _, h => by
    cases h with
    | tup hs ha => exact .tup hs (dqAll_of ds _ ha)
  | .dict _, _, h => by cases h
theorem dqAll_of : ∀ (ds : List PyData) (vs : List V), DpAll K H vs ds → DqAll K H vs ds
  | [], _, h => by
    cases h
    exact .nil
  | d :: ds, _, h => by
    cases h with
    | cons h1 h2 => exact .cons (dq_of d _ h1) (dqAll_of ds _ h2)
end
theorem dqAll_get : ∀ {vs : List V} {ds : List PyData}, DqAll K H vs ds → ∀ {i : Nat} {v : V}, vs[i]? = some v → ∃ d, ds[i]? = some d ∧ Dq K H v d
  | _, _, .nil, i, v, h => by simp at h
  | _, _, .cons h1 h2, 0, v, h => by
    cases h
    exact ⟨_, rfl, h1⟩
  | _, _, .cons h1 h2, i + 1, v, h => dqAll_get h2 (i := i) h
theorem dqAll_len : ∀ {vs : List V} {ds : List PyData}, DqAll K H vs ds → vs.length = ds.length
  | _, _, .nil => rfl
  | _, _, .cons _ h => congrArg (· + 1) (dqAll_len h)
theorem seqT_tyq {a : Addr} {xs : List V} (h : SqT K H a xs) : TyX K H (.ref a) (.type "tuple") := by
  rcases h with (h | ⟨o, h⟩) | ⟨o, _, _, h, c, _⟩
  · exact .base (.tup h)
  · exact .fTuple h
  · exact .kTuple h c
theorem seqL_tyq {a : Addr} {xs : List V} (h : SqL K H a xs) : TyX K H (.ref a) (.type "list") := by
  rcases h with (h | ⟨o, h⟩) | ⟨o, _, _, h, c, _⟩
  · exact .base (.lst h)
  · exact .base (.frz h)
  · exact .kList h c
theorem dq_ty {v : V} {d : PyData} (h : Dq K H v d) : TyX K H v (.type (tyName d)) := by
  cases h with
  | non => exact .base .non
  | bl b => exact .base (.bl b)
  | int i => exact .base (.int i)
  | str x => exact .base (.str x)
  | lst hs _ => exact seqL_tyq hs
  | tup hs _ => exact seqT_tyq hs
  | dct e => exact .base (.dK e)
  | dct1 e => exact .base (.dK e)
end
section
variable {X : Cx} {pins : List (Addr × Obj)} {σ : L2.St} {H : Hp} {s : Shared}
/-- an empty dict in the heap -/
theorem dct_at {a : Addr} (I : Inv X pins σ H s) (e : H a = some (.dK [])) : (a == sysModules) = false ∧ ∃ (o : Obj) (es : Array DictEntry) (n : Nat), s.heap.get? a = some o ∧ o.cls = .type "dict" ∧ o.dict = none ∧ o.slots = #[] ∧ o.data = .dict es n ∧ es.toList = [] := by
  obtain ⟨_, hs, vs, rel, o, es, ep, g, ex, hd, _, pr, _⟩ := dk_of I.hok e
  cases rel
  have := pr.length
  refine ⟨hs, o, es, ep, g, ex.1, ex.2.1, ex.2.2, hd, ?_⟩
  cases h : es.toList with
  | nil => rfl
  | cons x r => rw [h] at this; cases this
theorem dct1_at {a : Addr} {x : Str} {i : Int} (I : Inv X pins σ H s) (e : H a = some (.dK [(.inr x, .int i)])) : (a == sysModules) = false ∧ ∃ (o : Obj) (es : Array DictEntry) (n : Nat) (e1 : DictEntry) (t u : Tok), s.heap.get? a = some o ∧ o.cls = .type "dict" ∧ o.dict = none ∧ o.slots = #[] ∧ o.data = .dict es n ∧ es.toList = [e1] ∧ e1.key = .str x t ∧ e1.val = .int i u := by
  obtain ⟨_, hs, vs, rel, o, es, ep, g, ex, hd, _, pr, _⟩ := dk_of I.hok e
  cases rel with
  | cons r1 r2 =>
    cases r2
    cases hl : es.toList with
    | nil =>
      rw [hl] at pr
      cases pr
    | cons e1 r =>
      rw [hl] at pr
      cases pr with
      | cons k1 v1 p2 =>
        cases p2
        obtain ⟨q1, u, q2⟩ := r1
        rw [← q1] at k1
        rcases keyIs_shape (show keyIs (.inr x) e1.key = true from k1) with ⟨_, _, z, _⟩ | ⟨y, t, z, z2⟩
        · cases z
        · cases z
          exact ⟨hs, o, es, ep, e1, t, u, g, ex.1, ex.2.1, ex.2.2, hd, hl, z2, by rw [v1]; exact q2⟩
mutual
theorem Dq.reads (I : Inv X pins σ H s) : ∀ (d : PyData) (v : V) (u : Value), Dq X.K H v d → RelV v u → ∃ as, Reads s.heap u d as
  | .none, _, _, h, r => by
    cases h
    cases r
    exact ⟨_, Reads.none⟩
  | .bool b, _, _, h, r => by
    cases h
    cases r
    exact ⟨_, Reads.bool b⟩
  | .int i, _, _, h, r => by
    cases h
    obtain ⟨t, rfl⟩ := r
    exact ⟨_, Reads.int i t⟩
  | .str x, _, _, h, r => by
    cases h
    obtain ⟨t, rfl⟩ := r
    exact ⟨_, Reads.str x t⟩
  | .list ds, _, _, h, r => by
    cases h with
    | lst hs ha =>
      cases r
      obtain ⟨its, rv, ⟨o, n, ho, hc, _, hd⟩, _⟩ := I.list hs
      obtain ⟨as, hr⟩ := Dq.readsAll I ds _ its ha rv
      exact ⟨_, Reads.list ho hc hd hr⟩
  | .tuple ds, _, _, h, r => by
    cases h with
    | tup hs ha =>
      cases r
      obtain ⟨its, rv, ⟨o, ho, hc, n, hd⟩, _⟩ := I.tuple hs
      obtain ⟨as, hr⟩ := Dq.readsAll I ds _ its ha rv
      exact ⟨_, Reads.tuple ho hc hd hr⟩
  | .dict _, _, _, h, r => by
    cases h with
    | dct e =>
      cases r
      obtain ⟨_, o, es, n, g, hc, _, _, hd, hn⟩ := dct_at I e
      exact ⟨_, Reads.dict g hc hd (by rw [hn]; exact .nil) (by rw [hn]; exact .nil)⟩
    | dct1 e =>
      cases r
      obtain ⟨_, o, es, n, e1, t, u, g, hc, _, _, hd, hn, hk, hv⟩ := dct1_at I e
      exact ⟨_, Reads.dict g hc hd (by rw [hn]; simp only [List.map_cons, List.map_nil, hk]; exact .cons (.str _ _) .nil) (by rw [hn]; simp only [List.map_cons, List.map_nil, hv]; exact .cons (.int _ _) .nil)⟩
theorem Dq.readsAll (I : Inv X pins σ H s) : ∀ (ds : List PyData) (vs : List V) (us : List Value), DqAll X.K H vs ds → Vals vs us → ∃ as, ReadsAll s.heap us ds as
  | [], _, _, h, r => by
    cases h
    cases r
    exact ⟨_, ReadsAll.nil⟩
  | d :: ds, _, _, h, r => by
    cases h with
    | cons h1 h2 =>
      cases r with
      | cons r1 r2 =>
        obtain ⟨as, q1⟩ := Dq.reads I d _ _ h1 r1
        obtain ⟨bs, q2⟩ := Dq.readsAll I ds _ _ h2 r2
        exact ⟨_, ReadsAll.cons q1 q2⟩
end
end
end Dt
set_option Elab.async false
set_option linter.all false
set_option maxRecDepth 100000
set_option maxHeartbeats 4000000
/-! repr of data with empty dicts in it. -/
namespace Dt
open PySem PySem.Spec PyProof.Rows L2
section
variable {X : Cx} {pins : List (Addr × Obj)} {σ : L2.St} {H : Hp} {s : Shared}
mutual
theorem dq_reprK (I : Inv X pins σ H s) : ∀ (d : PyData) (v : V) (u : Value), Dq X.K H v d → RelV v u → d.showable = true → d.shown.length ≤ sizeLine →
    ∃ bs, ReadAtMost s.heap d.depth bs ∧ ReprK X.prog X.w bs s.heap d.depth u d.shown
  | .none, _, _, h, r, _, _ => by
    cases h
    cases r
    exact ⟨[], (fun _ h => nomatch h), by simp only [PyData.shown]; exact .of_is ReprIs.none _ _ _⟩
  | .bool b, _, _, h, r, _, _ => by
    cases h
    cases r
    exact ⟨[], (fun _ h => nomatch h), by simp only [PyData.shown]; exact .of_is (ReprIs.bool b) _ _ _⟩
  | .int i, _, _, h, r, hs, _ => by
    cases h
    obtain ⟨t, rfl⟩ := r
    exact ⟨[], (fun _ h => nomatch h), by simp only [PyData.shown]; exact .of_is (ReprIs.int t (by simpa [PyData.showable] using hs)) _ _ _⟩
  | .str x, _, _, h, r, _, hz => by
    cases h
    obtain ⟨t, rfl⟩ := r
    exact ⟨[], (fun _ h => nomatch h), by simp only [PyData.shown]; exact .of_is (ReprIs.str x t (by simpa only [PyData.shown] using hz)) _ _ _⟩
  | .list ds, v, u, h, r, hs, hz => by
    have rd := Dq.reads I _ v u h r
    cases h with
    | lst hq ha =>
      cases r
      obtain ⟨its, rv, ⟨o, n, ho, hc, _, hd⟩, _⟩ := I.list hq
      have hz' : (listText (PyData.shownAll ds)).length ≤ sizeLine := by simpa only [PyData.shown] using hz
      obtain ⟨bs, hb, hk⟩ := dq_reprAllK I ds _ its ha rv (by simpa [PyData.showable] using hs) (fun t ht => Nat.le_trans (listText_mem_le ht) hz')
      obtain ⟨as, r⟩ := rd
      have hna := not_mem_of_deeper r (by simp only [PyData.depth]; omega) hb
      refine ⟨_ :: bs, ReadAtMost.cons r (by simp only [PyData.depth]; omega) hb, ?_⟩
      simp only [PyData.depth, PyData.shown]
      cases its with
      | nil =>
        cases rv
        cases ha
        simp only [PyData.shownAll]
        rw [listText_nil]
        exact ReprK.listEmpty ho hc hd
      | cons x l => exact ReprK.list ho hc hd hna (by simpa using hk.length_eq) (fun i y e => hk.item i y (by simpa using e))
  | .tuple ds, v, u, h, r, hs, hz => by
    have rd := Dq.reads I _ v u h r
    cases h with
    | tup hq ha =>
      cases r
      obtain ⟨its, rv, ⟨o, ho, hc, n, hd⟩, _⟩ := I.tuple hq
      have hz' : (tupleText (PyData.shownAll ds)).length ≤ sizeLine := by simpa only [PyData.shown] using hz
      obtain ⟨bs, hb, hk⟩ := dq_reprAllK I ds _ its ha rv (by simpa [PyData.showable] using hs) (fun t ht => Nat.le_trans (tupleText_mem_le ht) hz')
      obtain ⟨as, r⟩ := rd
      have hna := not_mem_of_deeper r (by simp only [PyData.depth]; omega) hb
      refine ⟨_ :: bs, ReadAtMost.cons r (by simp only [PyData.depth]; omega) hb, ?_⟩
      simp only [PyData.depth, PyData.shown]
      exact ReprK.tuple ho hc hd hna (by simpa using hk)
  | .dict _, v, u, h, r, hs, hz => by
    have rd := Dq.reads I _ v u h r
    cases h with
    | dct e =>
      cases r
      obtain ⟨hsys, o, es, n, g, hc, _, _, hd, hn⟩ := dct_at I e
      obtain ⟨as, r⟩ := rd
      refine ⟨[_], ReadAtMost.cons r (by simp only [PyData.depth]; omega) (show ReadAtMost s.heap (PyData.depthKv []) [] from fun _ h => nomatch h), ?_⟩
      simp only [PyData.depth, PyData.shown, PyData.depthKv, PyData.shownKv]
      exact ReprK.dict g hc hd hsys (fun h => nomatch h) (by rw [hn]; exact .nil)
    | @dct1 _ x i e =>
      cases r
      obtain ⟨hsys, o, es, n, e1, t, u, g, hc, _, _, hd, hn, hk, hv⟩ := dct1_at I e
      obtain ⟨as, r⟩ := rd
      have hs' : (PyData.int i).showable = true := by
        simp only [PyData.showable, PyData.showableKv, Bool.and_true, Bool.true_and] at hs
        simpa only [PyData.showable] using hs
      have hz' : (PyData.shown (.str x)).length ≤ sizeLine := by
        refine Nat.le_trans ?_ hz
        simp only [PyData.shown, PyData.shownKv]
        refine Nat.le_trans ?_ (dictText_mem_le (List.mem_cons_self))
        simp only [Str.length_append]
        omega
      refine ⟨[_], ReadAtMost.cons r (by simp only [PyData.depth]; omega) (show ReadAtMost s.heap (PyData.depthKv [(.str x, .int i)]) [] from fun _ h => nomatch h), ?_⟩
      simp only [PyData.depth, PyData.shown, PyData.depthKv, PyData.shownKv]
      refine ReprK.dict g hc hd hsys (fun h => nomatch h) ?_
      rw [hn]
      refine .cons ?_ ?_ .nil
      · rw [hk]
        exact .of_is (ReprIs.str x t (by simpa only [PyData.shown] using hz')) _ _ _
      · rw [hv]
        exact .of_is (ReprIs.int u (by simpa [PyData.showable] using hs')) _ _ _
theorem dq_reprAllK (I : Inv X pins σ H s) : ∀ (ds : List PyData) (vs : List V) (us : List Value), DqAll X.K H vs ds → Vals vs us → PyData.showableAll ds = true → (∀ t ∈ PyData.shownAll ds, t.length ≤ sizeLine) →
    ∃ bs, ReadAtMost s.heap (PyData.depthAll ds) bs ∧ ReprAllK X.prog X.w bs s.heap (PyData.depthAll ds) us (PyData.shownAll ds)
  | [], _, _, h, r, _, _ => by
    cases h
    cases r
    exact ⟨[], (fun _ h => nomatch h), by simp only [PyData.shownAll]; exact .nil⟩
  | d :: ds, _, _, h, r, hs, hz => by
    cases h with
    | cons h1 h2 =>
      cases r with
      | cons r1 r2 =>
        have hs' : d.showable = true ∧ PyData.showableAll ds = true := by simpa [PyData.showableAll] using hs
        obtain ⟨b1, hb1, k1⟩ := dq_reprK I d _ _ h1 r1 hs'.1 (hz _ (by simp only [PyData.shownAll]; exact List.mem_cons_self ..))
        obtain ⟨b2, hb2, k2⟩ := dq_reprAllK I ds _ _ h2 r2 hs'.2 (fun t ht => hz t (by simp only [PyData.shownAll]; exact List.mem_cons_of_mem _ ht))
        refine ⟨b1 ++ b2, fun b hm => ?_, ?_⟩
        · simp only [PyData.depthAll]
          rcases List.mem_append.mp hm with hm | hm
          · obtain ⟨d', as', r', hd'⟩ := hb1 b hm
            exact ⟨d', as', r', Nat.le_trans hd' (Nat.le_max_left _ _)⟩
          · obtain ⟨d', as', r', hd'⟩ := hb2 b hm
            exact ⟨d', as', r', Nat.le_trans hd' (Nat.le_max_right _ _)⟩
        · simp only [PyData.depthAll, PyData.shownAll]
          exact .cons ((k1.more fun b hb => List.mem_append_left _ hb).level_le (Nat.le_max_left _ _)) (k2.more_le (fun b hb => List.mem_append_right _ hb) (Nat.le_max_right _ _))
end
/-- repr(x), x a tuple of data, empty dicts among it -/
def rReprQ (K : PySem.W.Frag) : List V → Hp → VK → Prop := fun xs H Q => ∃ (a : Addr) (ds : List PyData), xs = [.ref a] ∧ Dq K H (.ref a) (.tuple ds) ∧ (PyData.tuple ds).showable = true ∧ (PyData.tuple ds).depth ≤ 60 ∧ (PyData.tuple ds).shown.length ≤ sizeLine ∧ Q (.str (PyData.tuple ds).shown) H
theorem call_reprQ (hg : X.A.guards = some []) (hu : X.A.units + 64 < cLine) : CallR X (.builtin "repr") (rReprQ X.K) := by
  intro pins s σ H xs us Q I r h
  obtain ⟨a, ds, rfl, hd, hs, hdep, hz, q⟩ := h
  obtain ⟨u, rfl, ru⟩ := vals1 r
  cases ru
  obtain ⟨as, rd⟩ := Dq.reads I _ _ _ hd rfl
  cases hd with
  | tup hq ha =>
    obtain ⟨its, rv, ⟨o, ho, hc, n, hdd⟩, _⟩ := I.tuple hq
    have hz' : (tupleText (PyData.shownAll ds)).length ≤ sizeLine := by simpa only [PyData.shown] using hz
    obtain ⟨bs, hb, hk⟩ := dq_reprAllK I ds _ its ha rv (by simpa [PyData.showable] using hs) (fun t ht => Nat.le_trans (tupleText_mem_le ht) hz')
    have hna := not_mem_of_deeper rd (by simp only [PyData.depth]; omega) hb
    simp only [PyData.depth] at hdep
    refine call_repr_slot (by omega) ⟨o, ho, hc⟩ F.slot_tuple_repr ?_
    refine call_tuple_reprK ho hc hdd hna (by simpa using hk) hg (fun b _ => Clear.nil b) (by show X.A.units + 1 + _ < cLine; omega) (fun _ _ e => e) (fun h' u tk k => ?_) hz'
    refine ⟨_, _, rfl, ⟨.str (PyData.tuple ds).shown, H, I.kept k, ⟨u, ?_⟩, q⟩⟩
    simp only [PyData.shown]
end
end Dt
set_option Elab.async false
set_option linter.all false
set_option maxRecDepth 100000
set_option maxHeartbeats 4000000
/-! A text compared with data in which there are empty dicts. -/
namespace Dt
open PySem PySem.Spec PyProof.Rows L2
open PySem.MeetsSeq PySem.SeqAt
theorem strEq_dict (b : Str) (u : Tok) (l : Addr) (c : Value) (es : Array DictEntry) (n : Nat) (dd : Option Addr) (sl : Array (Option Value)) :
    Meets (Builtin.«str.__eq__» ⟨[.str b u, .ref l], []⟩) (fun _ R s => s.heap.get? l = some { cls := c, dict := dd, data := .dict es n, slots := sl } ∧ R (.ok (.ret .notImplemented)) s) :=
  .of_wp fun prog w A R s h => by
    obtain ⟨hp, g, d, tk, os⟩ := s
    obtain ⟨hl, h⟩ := h
    wp_walk using wpAny_loadPart' hl, wpAny_load hl
    exact ⟨_, rfl, h⟩
theorem dictEq_str (b : Str) (u : Tok) (l : Addr) (es : Array DictEntry) (n : Nat) (dd : Option Addr) (sl : Array (Option Value)) :
    Meets (Builtin.«dict.__eq__» ⟨[.ref l, .str b u], []⟩) (fun _ R s => s.heap.get? l = some { cls := .type "dict", dict := dd, data := .dict es n, slots := sl } ∧ R (.ok (.ret .notImplemented)) s) :=
  .of_wp fun prog w A R s h => by
    obtain ⟨hp, g, d, tk, os⟩ := s
    obtain ⟨hl, h⟩ := h
    have f1 := F.sub_str_dict
    wp_walk using wpAny_loadPart' hl, wpAny_load hl
    exact ⟨_, rfl, h⟩
end Dt
namespace Dt
open PySem PySem.Spec PyProof.Rows L2
open PySem.MeetsSeq PySem.SeqAt
section
variable {A : Around} {s : Shared}
theorem rcAt_str_dict {l : Addr} {o : Obj} {es : Array DictEntry} {n : Nat} (b : Str) (u : Tok) (ho : s.heap.get? l = some o) (hc : o.cls = .type "dict") (hd : o.data = .dict es n) (hu : A.units < cLine) : RcAt A s (.str b u) (.ref l) false := fun prog w E Q h => by
  obtain ⟨cls, dd, data, sl⟩ := o
  simp only at hc hd
  subst hc hd
  exact rc_eq_decline_or (k := false) (typeIs_str s b u) ⟨_, ho, rfl⟩ (by decide) F.sub_dict_str F.slot_str_eq F.slot_dict_eq_refl
    (fun _ hq => call_meets F.slot_str_eq (typeIs_str s b u) F.entry_str_eq (F.args_str_eq_2 _ _) (strEq_dict b u l (.type "dict") es n dd sl) ⟨ho, hq⟩)
    (fun _ hq => call_meets F.slot_dict_eq_refl ⟨_, ho, rfl⟩ F.entry_dict_eq (F.args_dict_eq_2 _ _) (dictEq_str b u l es n dd sl) ⟨ho, hq⟩)
    (fun _ hq => wpAny_of_eq (rfl : isSame (.str b u) (.ref l) = pure false) hq) (.inr hu) h
theorem eqAt_str_dict {l : Addr} {o : Obj} {es : Array DictEntry} {n : Nat} (b : Str) (u : Tok) (ho : s.heap.get? l = some o) (hc : o.cls = .type "dict") (hd : o.data = .dict es n) (hu : A.units < cLine) : EqAt A s (.str b u) (.ref l) false := fun prog w E Q h => by
  unfold eqBool
  refine wpAny_holding ?_
  refine wpAny_ite_split (fun hab => absurd (eq_of_beq hab) nofun) (fun _ => ?_)
  exact wpAny_bind (rcAt_str_dict b u ho hc hd hu prog w E _ (wpAny_truthy_bool h))
end
section
variable {X : Cx} {pins : List (Addr × Obj)} {σ : L2.St} {H : Hp} {s : Shared}
theorem eqAt_strQ {A : Around} (I : Inv X pins σ H s) (hu : A.units < cLine) {d : PyData} {v : V} {u : Value} (h : Dq X.K H v d) (r : RelV v u) (z : Str) (t : Tok) : EqAt A s (.str z t) u (PyData.eqv (.str z) d) := by
  cases h with
  | non =>
    cases r
    have := EqAt.str_none (A := A) (s := s) z t
    simpa [PyData.eqv] using this
  | bl b =>
    cases r
    have := EqAt.str_bool (A := A) (s := s) z t b
    simpa [PyData.eqv] using this
  | int i =>
    obtain ⟨t', rfl⟩ := r
    have := EqAt.str_int (A := A) (s := s) z t i t'
    simpa [PyData.eqv] using this
  | str x =>
    obtain ⟨t', rfl⟩ := r
    have := EqAt.str_str (A := A) (s := s) z t x t'
    simpa [PyData.eqv] using this
  | lst hq ha =>
    cases r
    obtain ⟨its, rv, pl, _⟩ := I.list hq
    have := EqAt.str_list (A := A) (s := s) z t pl.isList hu
    simpa [PyData.eqv] using this
  | tup hq ha =>
    cases r
    obtain ⟨its, rv, tp, _⟩ := I.tuple hq
    have := EqAt.str_tuple (A := A) (s := s) z t tp hu
    simpa [PyData.eqv] using this
  | dct e =>
    cases r
    obtain ⟨_, o, es, n, g, hc, _, _, hd, _⟩ := dct_at I e
    have := eqAt_str_dict (A := A) (s := s) z t g hc hd hu
    simpa [PyData.eqv] using this
  | dct1 e =>
    cases r
    obtain ⟨_, o, es, n, _, _, _, g, hc, _, _, hd, _⟩ := dct1_at I e
    have := eqAt_str_dict (A := A) (s := s) z t g hc hd hu
    simpa [PyData.eqv] using this
/-- what a text of the tuple is told of -/
def strEqB (d : PyData) : Value → Bool
  | .str z _ => PyData.eqv (.str z) d
  | _ => false
theorem strs_of : ∀ {ds : List Str} {us : List Value}, Vals (ds.map V.str) us → (∀ y ∈ us, ∃ z t, y = .str z t) ∧ ∀ d, us.any (strEqB d) = ds.any fun z => PyData.eqv (.str z) d
  | [], _, .nil => ⟨fun _ h => (by cases h), fun _ => rfl⟩
  | x :: ds, u :: us, .cons r t => by
    obtain ⟨a, b⟩ := strs_of t
    obtain ⟨tk, rfl⟩ := r
    refine ⟨fun y hy => ?_, fun d => ?_⟩
    · rcases List.mem_cons.mp hy with rfl | hy
      · exact ⟨_, _, rfl⟩
      · exact a y hy
    · rw [List.any_cons, List.any_cons, b d]
      rfl
/-- x in (a text, ..), whatever x is -/
def rInTQ (K : PySem.W.Frag) : R2 := fun x y H Q => ∃ (d : PyData) (p : Addr) (ds : List Str), Dq K H x d ∧ y = .ref p ∧ SqT K H p (ds.map V.str) ∧ Q (.bl (ds.any fun z => PyData.eqv (.str z) d)) H
theorem op_inTQ (hu : X.A.units + 65 < cLine) : OpR X (compareOp .In) (rInTQ X.K) := by
  intro pins s σ H x y v u Q I rx ry h
  obtain ⟨d, p, ds, hd, rfl, hs, q⟩ := h
  cases ry
  obtain ⟨its, rv, tp, _⟩ := I.tuple hs
  obtain ⟨a, b⟩ := strs_of rv
  refine in_tupleAt (strEqB d) tp (fun y hy => ?_) ⟨.bl _, H, I, ?_, q⟩
  · obtain ⟨z, t, rfl⟩ := a y (by simpa using hy)
    exact eqAt_strQ I (by show X.A.units + 1 < cLine; omega) hd rx z t
  · show Value.bool _ = Value.bool _
    rw [← b d]
    simp
end
end Dt
set_option Elab.async false
set_option linter.all false
set_option maxRecDepth 100000
set_option maxHeartbeats 4000000
/-! The promises of the defs on days over data with empty dicts. -/
namespace Dt
open PySem PySem.Spec PyProof.Rows L2
/-- nothing more is asked of data -/
abbrev okQ (_ : PyData) : Bool := true
def spOneQ (K : PySem.W.Frag) (f : PyData → Bool) : Sp := fun vs H Q _ => ∃ (v : V) (d : PyData), vs = [v] ∧ Dq K H v d ∧ okQ d = true ∧ ∀ H', Same H H' → Q (.bl (f d)) H'
def spThreeQ (K : PySem.W.Frag) (f : PyData → Int → Int → Bool) : Sp := fun vs H Q _ => ∃ (v : V) (d : PyData) (i j : Int), vs = [v, .int i, .int j] ∧ Dq K H v d ∧ okQ d = true ∧ ∀ H', Same H H' → Q (.bl (f d i j)) H'
theorem len_spOneQ {K : PySem.W.Frag} {f : PyData → Bool} : ∀ vs H Q E, spOneQ K f vs H Q E → vs.length = 1 := by
  rintro vs H Q E ⟨v, d, rfl, _⟩
  rfl
theorem len_spThreeQ {K : PySem.W.Frag} {f : PyData → Int → Int → Bool} : ∀ vs H Q E, spThreeQ K f vs H Q E → vs.length = 3 := by
  rintro vs H Q E ⟨v, d, i, j, rfl, _⟩
  rfl
def spRiseQ (K : PySem.W.Frag) : Sp := fun vs H Q _ => ∃ (v : V) (d : PyData) (i j : Int), vs = [v, .int i, .int j] ∧ Dq K H v d ∧ okQ d = true ∧ i ≤ 1000 ∧ ∀ H', Same H H' → Q (.bl (risingD d i j)) H'
theorem len_spRiseQ {K : PySem.W.Frag} : ∀ vs H Q E, spRiseQ K vs H Q E → vs.length = 3 := by
  rintro vs H Q E ⟨v, d, i, j, rfl, _⟩
  rfl
mutual
theorem dp_ofQ {K : PySem.W.Frag} {H : Hp} : ∀ (d : PyData) (v : V), d.hasDict = false → Dq K H v d → Dp K H v d
  | .none, _, _, h => by
    cases h
    exact .non
  | .bool b, _, _, h => by
    cases h
    exact .bl b
  | .int i, _, _, h => by
    cases h
    exact .int i
  | .str x, _, _, h => by
    cases h
    exact .str x
  | .list ds, _, n, h => by
    cases h with
    | lst hs ha => exact .lst hs (dpAll_ofQ ds _ (by simpa [PyData.hasDict] using n) ha)
  | .tuple ds, _, n, h => by
    cases h with
    | tup hs ha => exact .tup hs (dpAll_ofQ ds _ (by simpa [PyData.hasDict] using n) ha)
  | .dict _, _, n, h => by simp [PyData.hasDict] at n
theorem dpAll_ofQ {K : PySem.W.Frag} {H : Hp} : ∀ (ds : List PyData) (vs : List V), PyData.hasDictAll ds = false → DqAll K H vs ds → DpAll K H vs ds
  | [], _, _, h => by
    cases h
    exact .nil
  | d :: ds, _, n, h => by
    simp only [PyData.hasDictAll, Bool.or_eq_false_iff] at n
    cases h with
    | cons h1 h2 => exact .cons (dp_ofQ d _ n.1 h1) (dpAll_ofQ ds _ n.2 h2)
end
theorem hasDict_ints : ∀ ns : List Int, PyData.hasDictAll (ns.map PyData.int) = false
  | [] => by simp only [List.map_nil, PyData.hasDictAll]
  | x :: ns => by simp only [List.map_cons, PyData.hasDictAll, PyData.hasDict, hasDict_ints ns, Bool.or_false]
theorem rest_noDict (wd hd : List Int) : (restOf wd hd).hasDict = false := by
  simp only [restOf, intsD, PyData.hasDict, PyData.hasDictAll, hasDict_ints, Bool.or_false]
theorem dq_pair {K : PySem.W.Frag} {H : Hp} {v : V} {a b : PyData} (h : Dq K H v (.tuple [a, b])) : ∃ p x y, v = .ref p ∧ SqT K H p [x, y] ∧ Dq K H x a ∧ Dq K H y b := by
  cases h with
  | tup hs ha =>
    cases ha with
    | cons h1 h2 =>
      cases h2 with
      | cons h3 h4 =>
        cases h4
        exact ⟨_, _, _, rfl, hs, h1, h3⟩
end Dt
set_option Elab.async false
set_option linter.all false
set_option maxRecDepth 100000
set_option maxHeartbeats 4000000
/-! Lists and tuples alike: cut, turned about, put together. -/
namespace Dt
open PySem PySem.Spec PyProof.Rows L2
theorem rev_pick (xs : Array Value) : ((List.range xs.size).filterMap fun (k : Nat) => xs[(((xs.size : Int) - 1) + (k : Int) * (-1)).toNat]?) = xs.toList.reverse := by
  have e : ∀ k ∈ List.range xs.size, xs[(((xs.size : Int) - 1) + (k : Int) * (-1)).toNat]? = xs[xs.size - 1 - k]? := fun k hk => by
    have := List.mem_range.mp hk
    have : (((xs.size : Int) - 1) + (k : Int) * (-1)).toNat = xs.size - 1 - k := by omega
    rw [this]
  have e2 : ((List.range xs.size).filterMap fun (k : Nat) => xs[(((xs.size : Int) - 1) + (k : Int) * (-1)).toNat]?) = (List.range xs.size).filterMap fun (k : Nat) => xs[xs.size - 1 - k]? := by
    generalize List.range xs.size = l at e ⊢
    induction l with
    | nil => rfl
    | cons k l ih =>
      rw [List.filterMap_cons, List.filterMap_cons, e k List.mem_cons_self, ih fun j hj => e j (List.mem_cons_of_mem _ hj)]
  rw [e2]
  have q := PySem.W.krv_range xs.size
  have e3 : ((List.range xs.size).filterMap fun (k : Nat) => xs[xs.size - 1 - k]?) = ((List.range xs.size).map (fun k => xs.size - 1 - k)).filterMap (fun k => xs[k]?) := by
    rw [List.filterMap_map]
    rfl
  rw [e3, q, List.filterMap_reverse, PySem.W.krv_all]
section
variable {P : Program} {w : World} {A : Around} {E : Value → Shared → Prop} {s : Shared}
theorem applied_rev {sl : Addr} {vs : Value} {n : Nat} {Q : Int × Int × Nat → Shared → Prop} (hs : s.heap.IsSliceOf sl .none .none vs) (ps : IsPart vs (some (-1))) (h : Q ((n : Int) - 1, -1, n) s) :
    wpAny (model P w) A (Builtin.Slice.sliceApplied (.ref sl) (pure (n : Int))) Q E s := by
  obtain ⟨os, hos, hcs, hds⟩ := id hs
  unfold Builtin.Slice.sliceApplied Builtin.Slice.sliceFields
  refine wpAny_bind (wpAny_bind (wpAny_field hos hds (x := .none) rfl (wpAny_bind (wpAny_field hos hds (x := .none) rfl (wpAny_bind (wpAny_field hos hds (x := vs) rfl (wpAny_pure ?_)))))))
  refine wpAny_bind (HT.slicePart_ ps ?_)
  show wpAny _ _ (if ((-1 : Int) == 0) = true then _ else _) _ _ s
  rw [if_neg (by decide)]
  refine wpAny_bind (HT.slicePart_ .none (wpAny_bind (HT.slicePart_ .none (wpAny_bind (wpAny_pure ?_)))))
  have ha : Builtin.Slice.sliceAdjust none none (-1) (n : Int) = ((n : Int) - 1, -1) := rfl
  show wpAny _ _ (match Builtin.Slice.sliceAdjust none none (-1) (n : Int) with | (lo, hi) => pure (lo, (-1 : Int), Builtin.Slice.slicePlaces lo hi (-1))) _ _ s
  rw [ha]
  have hp : Builtin.Slice.slicePlaces ((n : Int) - 1) (-1) (-1) = n := by
    unfold Builtin.Slice.slicePlaces
    rw [if_neg (by decide)]
    split
    · simp only [Int.neg_neg, Int.ediv_one]
      omega
    · omega
  show wpAny _ _ (pure ((n : Int) - 1, (-1 : Int), Builtin.Slice.slicePlaces ((n : Int) - 1) (-1) (-1))) _ _ s
  rw [hp]
  exact wpAny_pure h
theorem getItem_tuple_rev {t sl : Addr} {items : Array Value} {vs : Value} {Q : Value → Shared → Prop} (ht : IsTup s.heap t items) (hs : s.heap.IsSliceOf sl .none .none vs) (ps : IsPart vs (some (-1)))
    (h : Q (.ref s.heap.objs.size) { s with heap := s.heap.push { cls := .type "tuple", data := .seq items.toList.reverse.toArray } }) (hsz : items.size ≤ sizeLine) : wpAny (model P w) A (getItem (.ref t) (.ref sl)) Q E s := by
  have hfit : sizeOk (.seq items.toList.reverse.toArray) := by
    show items.toList.reverse.toArray.size ≤ sizeLine
    rw [List.size_toArray, List.length_reverse, Array.length_toList]
    exact hsz
  obtain ⟨os, hos, hcs, hds⟩ := id hs
  have hTs : s.TypeIs (.ref sl) "slice" := ⟨os, hos, hcs⟩
  unfold getItem
  try with_reducible refine wpAny_holding ?_
  first | refine wpAny_bind (wpAny_pure ?_) | skip
  refine wpAny_bind (wpAny_sequenceKey ht.typeIs (by decide) ?_)
  refine wpAny_bind (wpAny_callSpecial?_slot (name := Str.ofString "__getitem__") ht.typeIs PyProof.Rows.slot_tuple_getitem
    (wpAny_call_entry PyProof.Rows.slot_tuple_getitem ht.typeIs entry_tuple_getitem ?_ (args_tuple_getitem _ _)))
  show wpAny _ _ (Builtin.Tuple.tupleItemsOf (.ref t) >>= _) _ _ s
  refine wpAny_bind (tupleItemsOf_ ht ?_)
  refine wpAny_bind (wpAny_typeOf hTs ?_)
  rw [if_pos (by decide)]
  refine wpAny_bind (applied_rev hs ps ?_)
  have hno : ¬ ((((items.size : Int) - 1) == 0 && (-1 : Int) == 1 && items.size == items.size) = true) := by
    rw [show ((-1 : Int) == 1) = false from rfl, Bool.and_false, Bool.false_and]
    exact Bool.false_ne_true
  show wpAny _ _ (if (((items.size : Int) - 1) == 0 && (-1 : Int) == 1 && items.size == items.size) = true then _ else _) _ _ s
  rw [if_neg hno]
  have hr := rev_pick items
  rw [hr]
  first
    | exact wpAny_bind (m := Builtin.Tuple.tupleExact _) (wpAny_newObj_type (wpAny_pure ⟨_, rfl, wpAny_pure h⟩) hfit)
    | exact wpAny_bind (m := Builtin.Tuple.tupleExact _) (wpAny_newObj_type (wpAny_bind (wpAny_pure (wpAny_pure ⟨_, rfl, wpAny_pure h⟩))) hfit)
    | exact wpAny_bind (wpAny_bind (m := Builtin.Tuple.tupleExact _) (wpAny_newObj_type (wpAny_pure (wpAny_pure ⟨_, rfl, wpAny_pure h⟩)) hfit))
    | exact wpAny_bind (wpAny_bind (m := Builtin.Tuple.tupleExact _) (wpAny_newObj_type (wpAny_pure ⟨_, rfl, wpAny_pure h⟩) hfit))
end
end Dt
namespace Dt
open PySem PySem.Spec PyProof.Rows L2
section
variable {X : Cx}
/-- e[::-1], e a list or a tuple -/
def rRevB (K : PySem.W.Frag) : V → Hp → VK → Prop := fun x H1 Q => ∃ (a : Addr) (xs : List V), x = .ref a ∧
  ((SqL K H1 a xs ∧ ∀ p, H1 p = none → Q (.ref p) (upd H1 p (.lst xs.reverse))) ∨ (SqT K H1 a xs ∧ ∀ p, H1 p = none → Q (.ref p) (upd H1 p (.tup xs.reverse))))
def tRevB (K : PySem.W.Frag) (te : TE) : TE := fun σ H Q => te σ H fun x H1 => rRevB K x H1 Q
theorem pe_revB {e : Expr} {te : TE} {k : Nat} {p1 p2 p3 pos : Pos} (he : PE X e te) : PE X (.Subscript e (.Slice none none (some (.UnaryOp .USub (.Constant (.int 1) k p1) p2)) p3) pos) (tRevB X.K te) := by
  refine ⟨fun pins s σ H Q I h => ?_⟩
  refine Subscript_ (thn (he.run pins s σ H _ I h) fun v s1 ⟨x, H1, I1, r1, q1⟩ => ?_)
  obtain ⟨a, xs, ex, q⟩ := q1
  subst ex
  cases r1
  have hst : PO X (some (.UnaryOp .USub (.Constant (.int 1) k p1) p2)) (tPart (tUn (rU fun i => .int (-i)) (tC (.int 1)))) := po_some (pe_un un_neg pe_int)
  refine wpAny_Slice (thn (po_none.run pins s1 σ H1 (fun o H2 => o = none ∧ H2 = H1) I1 ⟨rfl, rfl⟩) fun vl s2 ⟨l, H2, I2, pl, el, e2⟩ => ?_)
  subst el e2
  refine thn (po_none.run pins s2 σ H2 (fun o H3 => o = none ∧ H3 = H2) I2 ⟨rfl, rfl⟩) fun vu s3 ⟨u, H3, I3, pu, eu, e3⟩ => ?_
  subst eu e3
  refine thn (hst.run pins s3 σ H3 (fun o H4 => o = some (-1) ∧ H4 = H3) I3 ⟨1, rfl, -1, rfl, rfl, rfl⟩) fun vs s4 ⟨o, H4, I4, ps, eo, e4⟩ => ?_
  subst eo e4
  have I5 : Inv X pins σ H4 { s4 with heap := s4.heap.push { cls := .type "slice", data := .fields #[vl, vu, vs] } } := I4.kept (t' := s4.toks) fun b ob q => Heap.get?_push_of_some _ q
  rcases q with ⟨hx, q⟩ | ⟨hx, q⟩
  · obtain ⟨its, r, ht, hz⟩ := I5.list hx
    have hlen := r.length
    show wpAny (model X.prog X.w) X.A (subscriptTail e (.Slice none none (some (.UnaryOp .USub (.Constant (.int 1) k p1) p2)) p3) (.ref a) (.ref s4.heap.objs.size)) (EP X pins σ Q) X.xe { s4 with heap := s4.heap.push { cls := .type "slice", data := .fields #[vl, vu, vs] } }
    refine tail_any (ops := [.ref a, .ref s4.heap.objs.size]) ht.isList.typeIs (PySem.slot_list_getitem.lookup) ?_ (by with_unfolding_all rfl)
    refine wpAny_getItem_list_slice ht.isList (Heap.IsSliceOf.new _ vl vu vs) pl pu ps (by decide) ?_ (by rw [List.size_toArray]; omega)
    rw [PySem.W.krv_pick]
    refine ⟨.ref _, _, I5.laid (t' := s4.toks) (o := .lst xs.reverse) (fun b ob q => Heap.get?_push_of_some _ q) (Nat.le_refl _) ?_, rfl, q _ (I5.hok.fresh (Nat.le_refl _))⟩
    exact ⟨by rw [List.length_reverse]; exact hz, _, 0, r.reverse, Heap.get?_push_size _ rfl⟩
  · obtain ⟨its, r, ht, hz⟩ := I5.tuple hx
    have hlen := r.length
    cases pl
    cases pu
    show wpAny (model X.prog X.w) X.A (subscriptTail e (.Slice none none (some (.UnaryOp .USub (.Constant (.int 1) k p1) p2)) p3) (.ref a) (.ref s4.heap.objs.size)) (EP X pins σ Q) X.xe { s4 with heap := s4.heap.push { cls := .type "slice", data := .fields #[Value.none, Value.none, vs] } }
    refine tail_any (ops := [.ref a, .ref s4.heap.objs.size]) ht.typeIs (PyProof.Rows.slot_tuple_getitem.lookup) ?_ (by with_unfolding_all rfl)
    refine getItem_tuple_rev ht (Heap.IsSliceOf.new _ _ _ vs) ps ?_ (by rw [List.size_toArray]; omega)
    refine ⟨.ref _, _, I5.laid (t' := s4.toks) (o := .tup xs.reverse) (fun b ob q => Heap.get?_push_of_some _ q) (Nat.le_refl _) ?_, rfl, q _ (I5.hok.fresh (Nat.le_refl _))⟩
    exact ⟨by rw [List.length_reverse]; exact hz, _, r.reverse, ⟨_, Heap.get?_push_size _ rfl, rfl, 0, rfl⟩⟩
def rSlB (K : PySem.W.Frag) : V → Option Int → Option Int → Hp → VK → Prop := fun x lo hi H Q => rSlL K x lo hi H Q ∨ rSlA K x lo hi H Q
theorem sl_B : SlR X (rSlB X.K) := by
  intro pins s σ H x v vl vu lo hi sl Q I rx hs pl pu h
  rcases h with h | h
  · exact sl_list pins s σ H x v vl vu lo hi sl Q I rx hs pl pu h
  · exact sl_tupA pins s σ H x v vl vu lo hi sl Q I rx hs pl pu h
def rCatB (K : PySem.W.Frag) : R2 := fun x y H Q => rCat x y H Q ∨ rCatA K x y H Q
theorem op_catB : OpR X (binaryOp .Add) (rCatB X.K) := by
  intro pins s σ H x y v u Q I rx ry h
  rcases h with h | h
  · exact op_cat pins s σ H x y v u Q I rx ry h
  · exact op_catA pins s σ H x y v u Q I rx ry h
def rIxB (K : PySem.W.Frag) : R2 := fun x y H Q => rIxL K x y H Q ∨ rIxT K x y H Q
theorem ix_B : IxR X (rIxB X.K) := by
  intro value slice pins s σ H x y v u Q I rx ry h hs
  rcases h with h | h
  · exact ix_list value slice pins s σ H x y v u Q I rx ry h hs
  · exact ix_tup value slice pins s σ H x y v u Q I rx ry h hs
/-- a truth or a number, and a number -/
def rAddB : R2 := fun x y H Q => ∃ (i j : Int), (x = .int i ∨ ∃ b, x = .bl b ∧ i = (if b = true then 1 else 0)) ∧ y = .int j ∧ Q (.int (i + j)) H
theorem op_addB : OpR X (binaryOp .Add) rAddB := by
  intro pins s σ H x y v u Q I rx ry h
  obtain ⟨i, j, hx, rfl, q⟩ := h
  rcases hx with rfl | ⟨b, rfl, rfl⟩
  · exact op_add pins s σ H _ _ v u Q I rx ry ⟨i, j, rfl, rfl, q⟩
  · obtain ⟨t, rfl⟩ := ry
    cases rx
    exact PySem.IntBool.add_bool_int ⟨.int _, H, I.tok _, ⟨_, rfl⟩, q⟩
end
end Dt
set_option Elab.async false
set_option linter.all false
set_option maxRecDepth 100000
set_option maxHeartbeats 4000000
/-! Data that is bent: how great its numbers, how deep, how much of it; lists and tuples of it, cut and put together beside the pen. -/
namespace Dt
open PySem PySem.Spec PyProof.Rows L2
/-- numbers to m either way, short texts, at most k deep -/
inductive Small (m : Int) : Nat → PyData → Prop
  | none (k : Nat) : Small m k .none
  | bool (k : Nat) (b : Bool) : Small m k (.bool b)
  | int (k : Nat) {i : Int} (h1 : -m ≤ i) (h2 : i ≤ m) : Small m k (.int i)
  | str (k : Nat) {x : Str} (h : x.cps.toList.all (fun c => decide (c < 16 ^ 8)) = true) : Small m k (.str x)
  | dct (k : Nat) : Small m (k + 1) (.dict [])
  | dct1 (k : Nat) {x : Str} {i : Int} (h : x.cps.toList.all (fun c => decide (c < 16 ^ 8)) = true) (h1 : -m ≤ i) (h2 : i ≤ m) : Small m (k + 1) (.dict [(.str x, .int i)])
  | list {k : Nat} {ds : List PyData} (h : ∀ d ∈ ds, Small m k d) : Small m (k + 1) (.list ds)
  | tuple {k : Nat} {ds : List PyData} (h : ∀ d ∈ ds, Small m k d) : Small m (k + 1) (.tuple ds)
theorem Small.mono {m m' : Int} (hm : m ≤ m') {k : Nat} {d : PyData} (h : Small m k d) : ∀ {k' : Nat}, k ≤ k' → Small m' k' d := by
  induction h with
  | none k => exact fun _ => .none _
  | bool k b => exact fun _ => .bool _ b
  | int k h1 h2 => exact fun _ => .int _ (by omega) (by omega)
  | str k h => exact fun _ => .str _ h
  | dct k =>
    intro k' hk
    cases k' with
    | zero => omega
    | succ k' => exact .dct k'
  | dct1 k h h1 h2 =>
    intro k' hk
    cases k' with
    | zero => omega
    | succ k' => exact .dct1 k' h (by omega) (by omega)
  | @list k ds h ih =>
    intro k' hk
    cases k' with
    | zero => omega
    | succ k' => exact .list fun d hd => ih d hd (by omega)
  | @tuple k ds h ih =>
    intro k' hk
    cases k' with
    | zero => omega
    | succ k' => exact .tuple fun d hd => ih d hd (by omega)
theorem leavesAll_of {B : Nat} : ∀ {ds : List PyData}, (∀ d ∈ ds, d.leavesShort B = true) → PyData.leavesShortAll B ds = true
  | [], _ => by simp only [PyData.leavesShortAll]
  | d :: ds, h => by
    simp only [PyData.leavesShortAll, h d List.mem_cons_self, leavesAll_of fun x hx => h x (List.mem_cons_of_mem _ hx), Bool.and_self]
theorem showAll_of : ∀ {ds : List PyData}, (∀ d ∈ ds, d.showable = true) → PyData.showableAll ds = true
  | [], _ => by simp only [PyData.showableAll]
  | d :: ds, h => by
    simp only [PyData.showableAll, h d List.mem_cons_self, showAll_of fun x hx => h x (List.mem_cons_of_mem _ hx), Bool.and_self]
theorem depthAll_of {k : Nat} : ∀ {ds : List PyData}, (∀ d ∈ ds, d.depth ≤ k) → PyData.depthAll ds ≤ k
  | [], _ => by simp only [PyData.depthAll]; exact Nat.zero_le _
  | d :: ds, h => by
    have h1 := h d List.mem_cons_self
    have h2 := depthAll_of fun x hx => h x (List.mem_cons_of_mem _ hx)
    simp only [PyData.depthAll]
    omega
theorem shown_int14 {i : Int} (h : i.natAbs < 10 ^ 13) : (PyData.shown (.int i)).length ≤ 14 := by
  have e := int_text_length_le10 (k := 13) (by decide) h
  show (Str.ofString (toString i)).length ≤ 14
  rw [PySem.ofString_length]
  exact e
theorem small_log13 {x : Int} (h : x.natAbs < 10 ^ 13) : x.natAbs.log2 < 1920 := by
  by_cases hz : x.natAbs = 0
  · rw [hz]
    decide
  · exact (Nat.log2_lt hz).mpr (Nat.lt_of_lt_of_le h (by decide +kernel))
theorem Small.facts {m : Int} (hm : m < 10 ^ 13) {k : Nat} {d : PyData} (h : Small m k d) : d.leavesShort 14 = true ∧ d.showable = true ∧ d.depth ≤ k := by
  induction h with
  | none k => exact ⟨by simp only [PyData.leavesShort], by simp only [PyData.showable], by simp only [PyData.depth]; exact Nat.zero_le _⟩
  | bool k b => exact ⟨by simp only [PyData.leavesShort], by simp only [PyData.showable], by simp only [PyData.depth]; exact Nat.zero_le _⟩
  | @int k i h1 h2 =>
    have : i.natAbs < 10 ^ 13 := by omega
    refine ⟨?_, ?_, by simp only [PyData.depth]; exact Nat.zero_le _⟩
    · simp only [PyData.leavesShort, decide_eq_true_eq]
      exact shown_int14 this
    · simp only [PyData.showable, decide_eq_true_eq]
      exact small_log13 this
  | str k h => exact ⟨by simp only [PyData.leavesShort]; exact h, by simp only [PyData.showable], by simp only [PyData.depth]; exact Nat.zero_le _⟩
  | dct k => exact ⟨by simp only [PyData.leavesShort, PyData.leavesShortKv], by simp only [PyData.showable, PyData.showableKv], by simp only [PyData.depth, PyData.depthKv]; omega⟩
  | @dct1 k x i h h1 h2 =>
    have : i.natAbs < 10 ^ 13 := by omega
    refine ⟨?_, ?_, by simp only [PyData.depth, PyData.depthKv]; omega⟩
    · simp only [PyData.leavesShort, PyData.leavesShortKv, Bool.and_true, Bool.and_eq_true, decide_eq_true_eq]
      exact ⟨h, shown_int14 this⟩
    · simp only [PyData.showable, PyData.showableKv, Bool.and_true, Bool.true_and, decide_eq_true_eq]
      exact small_log13 this
  | list h ih =>
    refine ⟨by simp only [PyData.leavesShort]; exact leavesAll_of fun d hd => (ih d hd).1, by simp only [PyData.showable]; exact showAll_of fun d hd => (ih d hd).2.1, ?_⟩
    have := depthAll_of fun d hd => (ih d hd).2.2
    simp only [PyData.depth]
    omega
  | tuple h ih =>
    refine ⟨by simp only [PyData.leavesShort]; exact leavesAll_of fun d hd => (ih d hd).1, by simp only [PyData.showable]; exact showAll_of fun d hd => (ih d hd).2.1, ?_⟩
    have := depthAll_of fun d hd => (ih d hd).2.2
    simp only [PyData.depth]
    omega
theorem bulkAll_app : ∀ a b : List PyData, PyData.bulkAll (a ++ b) = PyData.bulkAll a + PyData.bulkAll b
  | [], b => by simp [PyData.bulkAll]
  | x :: a, b => by
    simp only [List.cons_append, PyData.bulkAll, bulkAll_app a b]
    omega
theorem bulkAll_rev : ∀ a : List PyData, PyData.bulkAll a.reverse = PyData.bulkAll a
  | [] => by simp [PyData.bulkAll]
  | x :: a => by
    rw [List.reverse_cons, bulkAll_app, bulkAll_rev a]
    simp only [PyData.bulkAll]
    omega
theorem bulkAll_len : ∀ a : List PyData, a.length ≤ PyData.bulkAll a
  | [] => Nat.zero_le _
  | x :: a => by
    have := bulkAll_len a
    simp only [PyData.bulkAll, List.length_cons]
    omega
theorem bulkAll_split (ds : List PyData) (i : Nat) : PyData.bulkAll ds = PyData.bulkAll (ds.take i) + PyData.bulkAll (ds.drop i) := by
  rw [← bulkAll_app, List.take_append_drop]
/-! ### lists and tuples alike, beside the pen -/
section
variable {K : PySem.W.Frag} {p q0 : Addr} {ns : List Int} {c : Nat} {H H' : Hp}
def SqC (K : PySem.W.Frag) (L : Bool) (H : Hp) (a : Addr) (xs : List V) : Prop := if L = true then SqL K H a xs else SqT K H a xs
/-- one that is new (a list that may be put together) -/
def NewC (K : PySem.W.Frag) (L : Bool) (H : Hp) (a : Addr) (xs : List V) : Prop := if L = true then H a = some (.lst xs) else SqT K H a xs
theorem NewC.sq {L : Bool} {a : Addr} {xs : List V} (h : NewC K L H a xs) : SqC K L H a xs := by
  cases L with
  | true => exact SqL.of h
  | false => exact h
theorem SqC.mono {L : Bool} {a : Addr} {xs : List V} (e : Same H H') (h : SqC K L H a xs) : SqC K L H' a xs := by
  cases L with
  | true => exact seqL_mono e h
  | false => exact seqT_mono e h
theorem NewC.mono {L : Bool} {a : Addr} {xs : List V} (e : Same H H') (h : NewC K L H a xs) : NewC K L H' a xs := by
  cases L with
  | true => exact e _ _ h
  | false => exact seqT_mono e h
def mkD (L : Bool) (ds : List PyData) : PyData := if L = true then .list ds else .tuple ds
theorem SqC.dq {L : Bool} {a : Addr} {xs : List V} {ds : List PyData} (h : SqC K L H a xs) (ha : DqAll K H xs ds) : Dq K H (.ref a) (mkD L ds) := by
  cases L with
  | true => exact .lst h ha
  | false => exact .tup h ha
theorem w_slC {L : Bool} {a : Addr} {xs : List V} {lo hi : Option Int} {Q : VK} (hp : Pen K p q0 ns c H) (hS : SqC K L (core p H) a xs)
    (q : ∀ a' H', Same H H' → NewC K L (core p H') a' (cutV xs lo hi) → Q (.ref a') H') : rSlB K (.ref a) lo hi H Q := by
  cases L with
  | true => exact .inl ⟨a, xs, rfl, seqL_mono core_le hS, fun p' h' => q p' _ (same_new h') (core_of upd_same (hp.off h') (fun ps z => nomatch z))⟩
  | false =>
    refine .inr ⟨a, xs, rfl, seqT_mono core_le hS, fun e => q a H (Same.refl H) ?_, fun _ p' h' => q p' _ (same_new h') (SqT.of (core_of upd_same (hp.off h') (fun ps z => nomatch z)))⟩
    have e2 : cutV xs lo hi = xs := by
      unfold cutV
      rw [e.1, e.2]
      simp
    rw [e2]
    exact hS
theorem w_catC {L : Bool} {a b : Addr} {xs ys : List V} {Q : VK} (hp : Pen K p q0 ns c H) (hA : NewC K L (core p H) a xs) (hB : NewC K L (core p H) b ys) (hz : xs.length + ys.length ≤ sizeLine)
    (q : ∀ a' H', Same H H' → NewC K L (core p H') a' (xs ++ ys) → Q (.ref a') H') : rCatB K (.ref a) (.ref b) H Q := by
  cases L with
  | true => exact .inl ⟨a, b, xs, ys, rfl, rfl, core_le _ _ hA, core_le _ _ hB, hz, fun p' h' => q p' _ (same_new h') (core_of upd_same (hp.off h') (fun ps z => nomatch z))⟩
  | false =>
    refine .inr ⟨a, b, xs, ys, rfl, rfl, seqT_mono core_le hA, seqT_mono core_le hB, hz, fun e => q b H (Same.refl H) ?_, fun _ e => q a H (Same.refl H) ?_, fun _ _ p' h' => q p' _ (same_new h') (SqT.of (core_of upd_same (hp.off h') (fun ps z => nomatch z)))⟩
    · rw [e]
      exact hB
    · rw [e, List.append_nil]
      exact hA
theorem dqAll_take : ∀ {xs : List V} {ds : List PyData}, DqAll K H xs ds → ∀ i : Nat, DqAll K H (xs.take i) (ds.take i)
  | _, _, .nil, i => by rw [List.take_nil, List.take_nil]; exact .nil
  | _, _, .cons h1 h2, 0 => .nil
  | _, _, .cons h1 h2, i + 1 => .cons h1 (dqAll_take h2 i)
theorem dqAll_drop : ∀ {xs : List V} {ds : List PyData}, DqAll K H xs ds → ∀ i : Nat, DqAll K H (xs.drop i) (ds.drop i)
  | _, _, .nil, i => by rw [List.drop_nil, List.drop_nil]; exact .nil
  | _, _, .cons h1 h2, 0 => .cons h1 h2
  | _, _, .cons h1 h2, i + 1 => dqAll_drop h2 i
theorem dqAll_app : ∀ {xs : List V} {ds : List PyData}, DqAll K H xs ds → ∀ {ys : List V} {es : List PyData}, DqAll K H ys es → DqAll K H (xs ++ ys) (ds ++ es)
  | _, _, .nil, _, _, h => h
  | _, _, .cons h1 h2, _, _, h => .cons h1 (dqAll_app h2 h)
theorem dqAll_rev : ∀ {xs : List V} {ds : List PyData}, DqAll K H xs ds → DqAll K H xs.reverse ds.reverse
  | _, _, .nil => .nil
  | _, _, .cons h1 h2 => by
    rw [List.reverse_cons, List.reverse_cons]
    exact dqAll_app (dqAll_rev h2) (.cons h1 .nil)
theorem cut_to (xs : List V) (i : Nat) : cutV xs none (some (i : Int)) = xs.take i := by
  unfold cutV
  rw [HT.sIx_none, HT.sIx_nat, List.drop_zero, Nat.sub_zero]
  by_cases h : i ≤ xs.length
  · rw [Nat.min_eq_left h]
  · rw [Nat.min_eq_right (by omega), List.take_length, List.take_of_length_le (by omega)]
theorem cut_from (xs : List V) (i : Nat) : cutV xs (some (i : Int)) none = xs.drop i := by
  unfold cutV
  rw [HT.sIx_none, HT.sIx_nat]
  by_cases h : i ≤ xs.length
  · rw [Nat.min_eq_left h, List.take_of_length_le (by rw [List.length_drop]; omega)]
  · rw [Nat.min_eq_right (by omega), List.drop_length, List.drop_of_length_le (by omega)]
    simp
theorem cut_one (xs : List V) (i : Nat) : cutV xs (some (i : Int)) (some ((i : Int) + 1)) = (xs.drop i).take 1 := by
  unfold cutV
  rw [show (i : Int) + 1 = ((i + 1 : Nat) : Int) by omega, HT.sIx_nat, HT.sIx_nat]
  by_cases h : i + 1 ≤ xs.length
  · rw [Nat.min_eq_left h, Nat.min_eq_left (by omega), show i + 1 - i = 1 by omega]
  · by_cases h2 : i ≤ xs.length
    · rw [Nat.min_eq_left h2, Nat.min_eq_right (by omega), List.drop_of_length_le (by omega)]
      simp
    · rw [Nat.min_eq_right (by omega), Nat.min_eq_right (by omega), List.drop_length, List.drop_of_length_le (by omega)]
      simp
end
end Dt
namespace Dt
open PySem PySem.Spec PyProof.Rows L2
theorem cut_from1 (xs : List V) (i : Nat) : cutV xs (some ((i : Int) + 1)) none = xs.drop (i + 1) := by
  have := cut_from xs (i + 1)
  rwa [show ((i + 1 : Nat) : Int) = (i : Int) + 1 by omega] at this
theorem small_mk {m : Int} {k : Nat} {L : Bool} {ds : List PyData} (h : ∀ x ∈ ds, Small m k x) : Small m (k + 1) (mkD L ds) := by
  cases L with
  | true => exact .list h
  | false => exact .tuple h
theorem bulk_mk (L : Bool) (ds : List PyData) : (mkD L ds).bulk = PyData.bulkAll ds := by
  cases L <;> simp [mkD, PyData.bulk]
section
variable {K : PySem.W.Frag} {p q0 : Addr} {ns : List Int} {c : Nat} {H H' : Hp}
theorem w_revC {L : Bool} {a : Addr} {xs : List V} {Q : VK} (hp : Pen K p q0 ns c H) (hS : SqC K L (core p H) a xs)
    (q : ∀ a' H', Same H H' → NewC K L (core p H') a' xs.reverse → Q (.ref a') H') : rRevB K (.ref a) H Q := by
  cases L with
  | true => exact ⟨a, xs, rfl, .inl ⟨seqL_mono core_le hS, fun p' h' => q p' _ (same_new h') (core_of upd_same (hp.off h') (fun ps z => nomatch z))⟩⟩
  | false => exact ⟨a, xs, rfl, .inr ⟨seqT_mono core_le hS, fun p' h' => q p' _ (same_new h') (SqT.of (core_of upd_same (hp.off h') (fun ps z => nomatch z)))⟩⟩
end
end Dt
namespace Dt
open PySem PySem.Spec PyProof.Rows L2
section
variable {K : PySem.W.Frag} {p q0 : Addr} {ns : List Int} {c : Nat} {H H' : Hp}
theorem w_tupC {L : Bool} {a : Addr} {xs : List V} {Q : VK} (hp : Pen K p q0 ns c H) (hS : SqC K L (core p H) a xs) (q : ∀ a' H', Same H H' → SqT K (core p H') a' xs → Q (.ref a') H') :
    (SqL K H a xs ∧ ∀ l, H l = none → Q (.ref l) (upd H l (.tup xs))) ∨ SqT K H a xs ∧ Q (.ref a) H := by
  cases L with
  | true => exact .inl ⟨seqL_mono core_le hS, fun l h => q l _ (same_new h) (SqT.of (core_of upd_same (hp.off h) (fun ps z => nomatch z)))⟩
  | false => exact .inr ⟨seqT_mono core_le hS, q a H (Same.refl H) hS⟩
theorem w_ixC {L : Bool} {a : Addr} {xs : List V} {x : V} {i : Int} {Q : VK} (hS : SqC K L (core p H) a xs) (hx : atI xs i = some x) (q : Q x H) : rIxB K (.ref a) (.int i) H Q := by
  cases L with
  | true => exact .inl ⟨a, xs, i, x, rfl, rfl, seqL_mono core_le hS, hx, q⟩
  | false => exact .inr ⟨a, xs, i, x, rfl, rfl, seqT_mono core_le hS, hx, q⟩
end
end Dt
set_option Elab.async false
set_option linter.all false
set_option maxRecDepth 100000
set_option maxHeartbeats 4000000
/-! A list compared with the empty one. -/
namespace Dt
open PySem PySem.Spec PyProof.Rows L2
open PySem.SeqAt
section
variable {X : Cx}
def rNeNil (K : PySem.W.Frag) : R2 := fun x y H Q => ∃ (a b : Addr) (xs : List V), x = .ref a ∧ y = .ref b ∧ SqL K H a xs ∧ SqL K H b [] ∧ Q (.bl (!xs.isEmpty)) H
def rEqNil (K : PySem.W.Frag) : R2 := fun x y H Q => ∃ (a b : Addr) (xs : List V), x = .ref a ∧ y = .ref b ∧ SqL K H a xs ∧ SqL K H b [] ∧ Q (.bl xs.isEmpty) H
theorem op_neNil (hu : X.A.units < cLine) : OpR X (compareOp .NotEq) (rNeNil X.K) := by
  intro pins s σ H x y v u Q I rx ry h
  obtain ⟨a, b, xs, rfl, rfl, ha, hb, q⟩ := h
  cases rx
  cases ry
  obtain ⟨its, r1, p1, _⟩ := I.list ha
  obtain ⟨its2, r2, p2, _⟩ := I.list hb
  cases r2
  cases r1 with
  | nil =>
    refine RcNeAt.lists (e := fun _ => true) p1.isList p2.isList rfl hu (fun j h1 h2 => absurd h1 (by simp)) _ _ _ _ ?_
    exact ⟨.bl false, H, I, rfl, q⟩
  | cons r t =>
    refine RcNeAt.lists_lengths p1.isList p2.isList (by simp) hu _ _ _ _ ?_
    exact ⟨.bl true, H, I, rfl, q⟩
theorem op_eqNil (hu : X.A.units < cLine) : OpR X (compareOp .Eq) (rEqNil X.K) := by
  intro pins s σ H x y v u Q I rx ry h
  obtain ⟨a, b, xs, rfl, rfl, ha, hb, q⟩ := h
  cases rx
  cases ry
  obtain ⟨its, r1, p1, _⟩ := I.list ha
  obtain ⟨its2, r2, p2, _⟩ := I.list hb
  cases r2
  cases r1 with
  | nil =>
    refine eq_listAt (e := fun _ => true) p1.isList p2.isList rfl hu (fun j h1 h2 => absurd h1 (by simp)) ?_
    exact ⟨.bl true, H, I, rfl, q⟩
  | cons r t =>
    refine eq_list_lengthsAt p1.isList p2.isList (by simp) hu ?_
    exact ⟨.bl false, H, I, rfl, q⟩
end
end Dt
set_option Elab.async false
set_option linter.all false
set_option maxRecDepth 100000
set_option maxHeartbeats 4000000
/-! The program's defs on days. -/
namespace Ka
open PySem PySem.Spec PyProof.Rows L2 Dt
def top (i : Nat) : Stmt := PySem.Challenge.pw_dealtongue_k03_what_is_a_rest_or_a_span.main.body.getD i (.Pass ⟨0, 0, 0, 0⟩)
abbrev s_is_number : Stmt := top 25
abbrev n_is_number : List Str := ["thing"]
theorem sc_is_number : FnScope ["thing"] ["thing"] (defScope s_is_number) := ⟨rfl, rfl, rfl, by decide +kernel, rfl, by decide +kernel, by decide +kernel⟩
abbrev s_is_number_within : Stmt := top 26
abbrev n_is_number_within : List Str := ["thing", "least", "greatest"]
theorem sc_is_number_within : FnScope ["thing", "least", "greatest"] ["thing", "least", "greatest"] (defScope s_is_number_within) := ⟨rfl, rfl, rfl, by decide +kernel, rfl, by decide +kernel, by decide +kernel⟩
abbrev s_is_day : Stmt := top 27
abbrev n_is_day : List Str := ["thing"]
theorem sc_is_day : FnScope ["thing"] ["thing"] (defScope s_is_day) := ⟨rfl, rfl, rfl, by decide +kernel, rfl, by decide +kernel, by decide +kernel⟩
abbrev s_is_tuple_of : Stmt := top 28
abbrev n_is_tuple_of : List Str := ["thing", "least", "most"]
theorem sc_is_tuple_of : FnScope ["thing", "least", "most"] ["thing", "least", "most"] (defScope s_is_tuple_of) := ⟨rfl, rfl, rfl, by decide +kernel, rfl, by decide +kernel, by decide +kernel⟩
abbrev s_are_rising_numbers : Stmt := top 29
abbrev n_are_rising_numbers : List Str := ["thing", "most", "greatest", "part", "one", "other"]
theorem sc_are_rising_numbers : FnScope ["thing", "most", "greatest", "part", "one", "other"] ["thing", "most", "greatest"] (defScope s_are_rising_numbers) := ⟨rfl, rfl, rfl, by decide +kernel, rfl, by decide +kernel, by decide +kernel⟩
abbrev s_is_rest : Stmt := top 35
abbrev n_is_rest : List Str := ["thing", "weekdays", "holidays"]
theorem sc_is_rest : FnScope ["thing", "weekdays", "holidays"] ["thing"] (defScope s_is_rest) := ⟨rfl, rfl, rfl, by decide +kernel, rfl, by decide +kernel, by decide +kernel⟩
abbrev s_is_span : Stmt := top 36
abbrev n_is_span : List Str := ["thing", "word", "many"]
theorem sc_is_span : FnScope ["thing", "word", "many"] ["thing"] (defScope s_is_span) := ⟨rfl, rfl, rfl, by decide +kernel, rfl, by decide +kernel, by decide +kernel⟩
abbrev s_after : Stmt := top 37
abbrev n_after : List Str := ["day", "span", "rest"]
theorem sc_after : FnScope ["day", "span", "rest"] ["day", "span", "rest"] (defScope s_after) := ⟨rfl, rfl, rfl, by decide +kernel, rfl, by decide +kernel, by decide +kernel⟩
abbrev s_refuse_no_day : Stmt := top 38
abbrev n_refuse_no_day : List Str := ["thing"]
theorem sc_refuse_no_day : FnScope ["thing"] ["thing"] (defScope s_refuse_no_day) := ⟨rfl, rfl, rfl, by decide +kernel, rfl, by decide +kernel, by decide +kernel⟩
abbrev s_refuse_no_rest : Stmt := top 39
abbrev n_refuse_no_rest : List Str := ["thing"]
theorem sc_refuse_no_rest : FnScope ["thing"] ["thing"] (defScope s_refuse_no_rest) := ⟨rfl, rfl, rfl, by decide +kernel, rfl, by decide +kernel, by decide +kernel⟩
abbrev s_works : Stmt := top 40
abbrev n_works : List Str := ["day", "rest", "weekdays", "holidays"]
theorem sc_works : FnScope ["day", "rest", "weekdays", "holidays"] ["day", "rest"] (defScope s_works) := ⟨rfl, rfl, rfl, by decide +kernel, rfl, by decide +kernel, by decide +kernel⟩
abbrev s_day_led_to : Stmt := top 41
abbrev n_day_led_to : List Str := ["day", "span", "rest", "word", "many"]
theorem sc_day_led_to : FnScope ["day", "span", "rest", "word", "many"] ["day", "span", "rest"] (defScope s_day_led_to) := ⟨rfl, rfl, rfl, by decide +kernel, rfl, by decide +kernel, by decide +kernel⟩
abbrev s_nth_work_day : Stmt := top 42
abbrev n_nth_work_day : List Str := ["day", "many", "rest", "each_week", "weeks", "found", "lost", "left", "weekdays", "holidays", "holiday"]
theorem sc_nth_work_day : FnScope ["day", "many", "rest", "each_week", "weeks", "found", "lost", "left", "weekdays", "holidays", "holiday"] ["day", "many", "rest"] (defScope s_nth_work_day) := ⟨rfl, rfl, rfl, by decide +kernel, rfl, by decide +kernel, by decide +kernel⟩
abbrev s__law_pen : Stmt := top 44
abbrev n__law_pen : List Str := ["_law_script"]
theorem sc__law_pen : FnScope ["_law_script"] ["_law_script"] (defScope s__law_pen) := ⟨rfl, rfl, rfl, by decide +kernel, rfl, by decide +kernel, by decide +kernel⟩
abbrev s__law_draw : Stmt := top 45
abbrev n__law_draw : List Str := ["_law_pen_here", "_law_many", "_law_at", "_law_cell", "_law_number", "_law_found"]
theorem sc__law_draw : FnScope ["_law_pen_here", "_law_many", "_law_at", "_law_cell", "_law_number", "_law_found"] ["_law_pen_here", "_law_many"] (defScope s__law_draw) := ⟨rfl, rfl, rfl, by decide +kernel, rfl, by decide +kernel, by decide +kernel⟩
abbrev s__law_word : Stmt := top 46
abbrev n__law_word : List Str := ["_law_e", "_law_words", "_law_some", "_law_at", "_law_under"]
theorem sc__law_word : FnScope ["_law_e", "_law_words", "_law_some", "_law_at", "_law_under"] ["_law_e"] (defScope s__law_word) := ⟨rfl, rfl, rfl, by decide +kernel, rfl, by decide +kernel, by decide +kernel⟩
abbrev s__law_pick : Stmt := top 47
abbrev n__law_pick : List Str := ["_law_pen_here", "_law_some"]
theorem sc__law_pick : FnScope ["_law_pen_here", "_law_some"] ["_law_pen_here", "_law_some"] (defScope s__law_pick) := ⟨rfl, rfl, rfl, by decide +kernel, rfl, by decide +kernel, by decide +kernel⟩
abbrev s__law_odd : Stmt := top 48
abbrev n__law_odd : List Str := ["_law_pen_here", "_law_some"]
theorem sc__law_odd : FnScope ["_law_pen_here", "_law_some"] ["_law_pen_here"] (defScope s__law_odd) := ⟨rfl, rfl, rfl, by decide +kernel, rfl, by decide +kernel, by decide +kernel⟩
abbrev s__law_bent : Stmt := top 49
abbrev n__law_bent : List Str := ["_law_pen_here", "_law_thing", "_law_inner", "_law_at", "_law_choice", "_law_some"]
theorem sc__law_bent : FnScope ["_law_pen_here", "_law_thing", "_law_inner", "_law_at", "_law_choice", "_law_some"] ["_law_pen_here", "_law_thing"] (defScope s__law_bent) := ⟨rfl, rfl, rfl, by decide +kernel, rfl, by decide +kernel, by decide +kernel⟩
abbrev s__law_rest : Stmt := top 50
abbrev n__law_rest : List Str := ["_law_pen_here", "_law_weekdays", "_law_k", "_law_first", "_law_holidays"]
theorem sc__law_rest : FnScope ["_law_pen_here", "_law_weekdays", "_law_k", "_law_first", "_law_holidays"] ["_law_pen_here"] (defScope s__law_rest) := ⟨rfl, rfl, rfl, by decide +kernel, rfl, by decide +kernel, by decide +kernel⟩
abbrev s__law_any_span : Stmt := top 51
abbrev n__law_any_span : List Str := ["_law_pen_here"]
theorem sc__law_any_span : FnScope ["_law_pen_here"] ["_law_pen_here"] (defScope s__law_any_span) := ⟨rfl, rfl, rfl, by decide +kernel, rfl, by decide +kernel, by decide +kernel⟩
abbrev s__law_tell : Stmt := top 52
abbrev n__law_tell : List Str := ["_law_call", "_law_e", "_law_caught", "_law_found"]
theorem sc__law_tell : FnScope ["_law_call", "_law_e", "_law_caught", "_law_found"] ["_law_call"] (defScope s__law_tell) := ⟨rfl, rfl, rfl, by decide +kernel, rfl, by decide +kernel, by decide +kernel⟩
abbrev s__law_is_whole : Stmt := top 53
abbrev n__law_is_whole : List Str := ["_law_thing", "_law_least", "_law_greatest"]
theorem sc__law_is_whole : FnScope ["_law_thing", "_law_least", "_law_greatest"] ["_law_thing", "_law_least", "_law_greatest"] (defScope s__law_is_whole) := ⟨rfl, rfl, rfl, by decide +kernel, rfl, by decide +kernel, by decide +kernel⟩
abbrev s__law_is_rising : Stmt := top 54
abbrev n__law_is_rising : List Str := ["_law_thing", "_law_many", "_law_greatest", "_law_one", "_law_k"]
theorem sc__law_is_rising : FnScope ["_law_thing", "_law_many", "_law_greatest", "_law_one", "_law_k"] ["_law_thing", "_law_many", "_law_greatest"] (defScope s__law_is_rising) := ⟨rfl, rfl, rfl, by decide +kernel, rfl, by decide +kernel, by decide +kernel⟩
abbrev s__law_is_a_rest : Stmt := top 55
abbrev n__law_is_a_rest : List Str := ["_law_thing"]
theorem sc__law_is_a_rest : FnScope ["_law_thing"] ["_law_thing"] (defScope s__law_is_a_rest) := ⟨rfl, rfl, rfl, by decide +kernel, rfl, by decide +kernel, by decide +kernel⟩
abbrev s__law_is_a_span : Stmt := top 56
abbrev n__law_is_a_span : List Str := ["_law_thing"]
theorem sc__law_is_a_span : FnScope ["_law_thing"] ["_law_thing"] (defScope s__law_is_a_span) := ⟨rfl, rfl, rfl, by decide +kernel, rfl, by decide +kernel, by decide +kernel⟩
abbrev s_law : Stmt := top 57
abbrev n_law : List Str := ["_law_script", "_law_pen_here", "_law_turn", "_law_kept", "_law_one", "_law_word_here", "_law_rest_here", "_law_span", "_law_bad", "_law_odd_here"]
theorem sc_law : FnScope ["_law_script", "_law_pen_here", "_law_turn", "_law_kept", "_law_one", "_law_word_here", "_law_rest_here", "_law_span", "_law_bad", "_law_odd_here"] ["_law_script"] (defScope s_law) := ⟨rfl, rfl, rfl, by decide +kernel, rfl, by decide +kernel, by decide +kernel⟩
/-- what the module's names hold -/
structure Cls where
  (DealError NoSpan NoRest NoAgreement NoText NoLetters NoLetter NoCondition NoHappening NoVersions NoOpen Open Withdrawn NoDeed HasCoins OtherParties TooWide NoLetterThere NoClause NoDay NothingDone Twice : Addr)
structure Txt (K : PySem.W.Frag) (mg : Str → Option Value) (A : Cls) : Prop where
  z_isinstance : mg "isinstance" = none
  z_int : mg "int" = none
  z_bool : mg "bool" = none
  z_tuple : mg "tuple" = none
  z_list : mg "list" = none
  z_str : mg "str" = none
  z_len : mg "len" = none
  z_all : mg "all" = none
  z_zip : mg "zip" = none
  z_sorted : mg "sorted" = none
  z_set : mg "set" = none
  z_range : mg "range" = none
  z_min : mg "min" = none
  z_max : mg "max" = none
  z_repr : mg "repr" = none
  z_KeyError : mg "KeyError" = none
  z_IndexError : mg "IndexError" = none
  z_LookupError : mg "LookupError" = none
  z_RuntimeError : mg "RuntimeError" = none
  z_ValueError : mg "ValueError" = none
  c_LAST_DAY : ∃ t, mg "LAST_DAY" = some (.int 3000 t)
  c_WEEK : ∃ t, mg "WEEK" = some (.int 7 t)
  c_MOST_WEEKDAYS : ∃ t, mg "MOST_WEEKDAYS" = some (.int 4 t)
  c_MOST_HOLIDAYS : ∃ t, mg "MOST_HOLIDAYS" = some (.int 20 t)
  c_LONGEST_SPAN : ∃ t, mg "LONGEST_SPAN" = some (.int 30 t)
  e_NoDay : ErrC K mg "NoDay" A.NoDay "IndexError" "IndexError.__new__" "IndexError.__init__" [.type "IndexError", .type "LookupError", .type "Exception", .type "BaseException", .type "object"]
  e_NoSpan : ErrC K mg "NoSpan" A.NoSpan "ValueError" "ValueError.__new__" "ValueError.__init__" [.type "ValueError", .type "Exception", .type "BaseException", .type "object"]
  e_NoRest : ErrC K mg "NoRest" A.NoRest "ValueError" "ValueError.__new__" "ValueError.__init__" [.type "ValueError", .type "Exception", .type "BaseException", .type "object"]
section
variable {P : Program} {w : World} {K : PySem.W.Frag} {mg : Str → Option Value} {base : Heap} {A : Cls} {f : Addr} {fd : FuncData}
theorem ok_is_number (F : FnAt K mg "is_number" s_is_number f fd) (T : Txt K mg A) : Has P w K mg base CX0 1 "is_number" ["thing"] (spOneQ K isNum) := by
  refine ⟨f, fd, F.fn.ok sc_is_number len_spOneQ (fun cdv A outer s H vs Q E hr h => ?_), F.at_, F.fn.kp, F.fn.binds fun _ _ _ _ _ _ us hl => match us, hl with | [_], _ => rfl⟩
  obtain ⟨v, d, rfl, hd, _, q⟩ := h
  refine ⟨_, (pss_one (ps_ret (pe_and (pe_callB call_isi (by rfl) T.z_isinstance (by decide +kernel) (pa_cons (pv 0) (pa_cons (pe_bltn (v := .ty "int") rfl T.z_int (by decide +kernel) rfl) pa_nil))) (pe_one (pe_not (pe_callB call_isi (by rfl) T.z_isinstance (by decide +kernel) (pa_cons (pv 0) (pa_cons (pe_bltn (v := .ty "bool") rfl T.z_bool (by decide +kernel) rfl) pa_nil)))))))), ?_⟩
  refine ⟨_, rfl, _, _, _, _, _, rfl, .ty "int", dq_ty hd, kitD_int d, _, rfl, ?_⟩
  cases d with
  | int i => exact iteT ⟨_, rfl, _, _, _, _, _, rfl, .ty "bool", dq_ty hd, kitD_bool _, _, rfl, q H (Same.refl H)⟩
  | bool b => exact iteT ⟨_, rfl, _, _, _, _, _, rfl, .ty "bool", dq_ty hd, kitD_bool _, _, rfl, q H (Same.refl H)⟩
  | none => exact iteF (q H (Same.refl H))
  | str x => exact iteF (q H (Same.refl H))
  | list x => exact iteF (q H (Same.refl H))
  | tuple x => exact iteF (q H (Same.refl H))
  | dict x => exact iteF (q H (Same.refl H))
structure Pk (P : Program) (w : World) (K : PySem.W.Frag) (mg : Str → Option Value) (base : Heap) : Prop where
  d_is_number : Has P w K mg base CX0 1 "is_number" ["thing"] (spOneQ K isNum)
theorem ok_is_number_within (F : FnAt K mg "is_number_within" s_is_number_within f fd) (T : Txt K mg A) (D : Pk P w K mg base) : Has P w K mg base CX0 2 "is_number_within" ["thing", "least", "greatest"] (spThreeQ K numIn) := by
  refine ⟨f, fd, F.fn.ok sc_is_number_within len_spThreeQ (fun cdv A outer s H vs Q E hr h => ?_), F.at_, F.fn.kp, F.fn.binds fun _ _ _ _ _ _ us hl => match us, hl with | [_, _, _], _ => rfl⟩
  obtain ⟨v, d, i, j, rfl, hd, sd, q⟩ := h
  refine ⟨_, (pss_one (ps_ret (pe_and (pe_has D.d_is_number (hr.mono (by decide)) (by rfl) pass0 (pa_cons (pv 0) pa_nil)) (pe_one (pe_chain op_le op_le (pv 1) (pv 0) (pv 2)))))), ?_⟩
  refine ⟨_, rfl, v, d, rfl, hd, sd, fun H1 s1 => ⟨_, rfl, ?_⟩⟩
  cases d with
  | int k =>
    cases hd
    refine iteT ⟨_, rfl, _, rfl, _, _, rfl, rfl, _, rfl, ?_⟩
    by_cases h1 : i ≤ k
    · rw [decide_eq_true h1]
      refine iteT ⟨_, rfl, _, _, rfl, rfl, ?_⟩
      have := q H1 s1
      rw [show numIn (.int k) i j = decide (k ≤ j) by simp [numIn, h1]] at this
      exact this
    · rw [decide_eq_false h1]
      have := q H1 s1
      rw [show numIn (.int k) i j = false by simp [numIn, h1]] at this
      exact iteF this
  | bool b => exact iteF (q H1 s1)
  | none => exact iteF (q H1 s1)
  | str x => exact iteF (q H1 s1)
  | list x => exact iteF (q H1 s1)
  | tuple x => exact iteF (q H1 s1)
  | dict x => exact iteF (q H1 s1)
end
end Ka
set_option Elab.async false
set_option linter.all false
set_option maxRecDepth 100000
set_option maxHeartbeats 4000000
namespace Ka
open PySem PySem.Spec PyProof.Rows L2 Dt
structure Pk2 (P : Program) (w : World) (K : PySem.W.Frag) (mg : Str → Option Value) (base : Heap) : Prop where
  d_is_number_within : Has P w K mg base CX0 2 "is_number_within" ["thing", "least", "greatest"] (spThreeQ K numIn)
section
variable {P : Program} {w : World} {K : PySem.W.Frag} {mg : Str → Option Value} {base : Heap} {A : Cls} {f : Addr} {fd : FuncData}
theorem ok_is_day (F : FnAt K mg "is_day" s_is_day f fd) (T : Txt K mg A) (D : Pk2 P w K mg base) : Has P w K mg base CX0 3 "is_day" ["thing"] (spOneQ K dayD) := by
  refine ⟨f, fd, F.fn.ok sc_is_day len_spOneQ (fun cdv A outer s H vs Q E hr h => ?_), F.at_, F.fn.kp, F.fn.binds fun _ _ _ _ _ _ us hl => match us, hl with | [_], _ => rfl⟩
  obtain ⟨v, d, rfl, hd, sd, q⟩ := h
  refine ⟨_, (pss_one (ps_ret (pe_has D.d_is_number_within (hr.mono (by decide)) (by rfl) pass0 (pa_cons (pv 0) (pa_cons pe_int (pa_cons (pe_const rfl T.c_LAST_DAY) pa_nil)))))), ?_⟩
  exact ⟨_, rfl, v, d, 0, 3000, rfl, hd, sd, q⟩
theorem ok_is_tuple_of (F : FnAt K mg "is_tuple_of" s_is_tuple_of f fd) (T : Txt K mg A) : Has P w K mg base CX0 1 "is_tuple_of" ["thing", "least", "most"] (spThreeQ K tupIn) := by
  refine ⟨f, fd, F.fn.ok sc_is_tuple_of len_spThreeQ (fun cdv A outer s H vs Q E hr h => ?_), F.at_, F.fn.kp, F.fn.binds fun _ _ _ _ _ _ us hl => match us, hl with | [_, _, _], _ => rfl⟩
  obtain ⟨v, d, i, j, rfl, hd, sd, q⟩ := h
  refine ⟨_, (pss_one (ps_ret (pe_and (pe_callB call_isi (by rfl) T.z_isinstance (by decide +kernel) (pa_cons (pv 0) (pa_cons (pe_bltn (v := .ty "tuple") rfl T.z_tuple (by decide +kernel) rfl) pa_nil))) (pe_one (pe_chain op_le op_le (pv 1) (pe_callB call_len_seq (by rfl) T.z_len (by decide +kernel) (pa_cons (pv 0) pa_nil)) (pv 2)))))), ?_⟩
  refine ⟨_, rfl, _, _, _, _, _, rfl, .ty "tuple", dq_ty hd, kitD_tuple d, _, rfl, ?_⟩
  cases d with
  | tuple ds =>
    cases hd with
    | @tup p xs _ hs ha =>
      have el : (xs.length : Int) = (ds.length : Int) := by rw [dqAll_len ha]
      refine iteT ⟨_, rfl, _, rfl, p, xs, rfl, .inr hs, _, _, rfl, rfl, _, rfl, ?_⟩
      rw [el]
      have := q H (Same.refl H)
      by_cases h1 : i ≤ (ds.length : Int)
      · rw [decide_eq_true h1]
        refine iteT ⟨_, rfl, _, _, rfl, rfl, ?_⟩
        rw [show tupIn (.tuple ds) i j = decide ((ds.length : Int) ≤ j) by simp [tupIn, h1]] at this
        exact this
      · rw [decide_eq_false h1]
        rw [show tupIn (.tuple ds) i j = false by simp [tupIn, h1]] at this
        exact iteF this
  | int b => exact iteF (q H (Same.refl H))
  | bool b => exact iteF (q H (Same.refl H))
  | none => exact iteF (q H (Same.refl H))
  | str x => exact iteF (q H (Same.refl H))
  | list x => exact iteF (q H (Same.refl H))
  | dict x => exact iteF (q H (Same.refl H))
structure Pk3 (P : Program) (w : World) (K : PySem.W.Frag) (mg : Str → Option Value) (base : Heap) : Prop extends Pk2 P w K mg base where
  d_is_tuple_of : Has P w K mg base CX0 1 "is_tuple_of" ["thing", "least", "most"] (spThreeQ K tupIn)
theorem ok_are_rising_numbers (F : FnAt K mg "are_rising_numbers" s_are_rising_numbers f fd) (T : Txt K mg A) (D : Pk3 P w K mg base) : Has P w K mg base CX0 3 "are_rising_numbers" ["thing", "most", "greatest"] (spRiseQ K) := by
  refine ⟨f, fd, F.fn.ok sc_are_rising_numbers len_spRiseQ (fun cdv A outer s H vs Q E hr h => ?_), F.at_, F.fn.kp, F.fn.binds fun _ _ _ _ _ _ us hl => match us, hl with | [_, _, _], _ => rfl⟩
  obtain ⟨v, d, i, j, rfl, hd, sd, hi, q⟩ := h
  refine ⟨_, (pss_cons (ps_if (pt_not (pt_val (pe_has D.d_is_tuple_of (hr.mono (by decide)) (by rfl) pass0 (pa_cons (pv 0) (pa_cons pe_int (pa_cons (pv 1) pa_nil)))))) (pss_one (ps_ret pe_bl)) pss_nil) (pss_cons (ps_if (pt_not (pt_val (pe_callB (cr_all rfl) (by rfl) T.z_all (by decide +kernel) (pa_cons (pe_lc (own := [("part", 3)]) (g := gName 3) (tt := tYes) (by rfl) sc_are_rising_numbers.nd (pi_tup (pv 0)) (blkOk_by (own := [("part", 3)]) (N := ["thing", "most", "greatest", "part", "one", "other"]) (sc := defScope s_are_rising_numbers) (by decide +kernel)) (fun _ _ _ _ _ => (pg_name (i := 3) sc_are_rising_numbers.nd rfl (Or.inl rfl))) (fun _ _ _ _ _ => pts_nil) (fun _ _ _ _ _ => (pe_has D.d_is_number_within (hr.mono (by decide)) (by rfl) pass0 (pa_cons (pv 3) (pa_cons pe_int (pa_cons (pv 2) pa_nil)))))) pa_nil)))) (pss_one (ps_ret pe_bl)) pss_nil) (pss_one (ps_ret (pe_callB (cr_all rfl) (by rfl) T.z_all (by decide +kernel) (pa_cons (pe_lc (own := [("one", 4), ("other", 5)]) (g := gTup K 2 (gCons (gName 4) (gCons (gName 5) gNil))) (tt := tYes) (by rfl) sc_are_rising_numbers.nd (RZ.pi_zipA (by rfl) T.z_zip (pa_cons (pv 0) (pa_cons (pe_slice sl_tupA (pv 0) (po_some pe_int) po_none) pa_nil))) (blkOk_by (own := [("one", 4), ("other", 5)]) (N := ["thing", "most", "greatest", "part", "one", "other"]) (sc := defScope s_are_rising_numbers) (by decide +kernel)) (fun _ _ _ _ _ => (pg_tup (by rfl) (pgs_cons (pg_name (i := 4) sc_are_rising_numbers.nd rfl (Or.inl rfl)) (pgs_cons (pg_name (i := 5) sc_are_rising_numbers.nd rfl (Or.inl rfl)) pgs_nil)))) (fun _ _ _ _ _ => pts_nil) (fun _ _ _ _ _ => (pe_cmpR op_lt (pv 4) (pv 5) (nomark _)))) pa_nil)))))), ?_⟩
  refine ⟨_, rfl, _, rfl, v, d, 0, i, rfl, hd, sd, fun H1 s1 => ⟨_, rfl, ?_⟩⟩
  have no : tupIn d 0 i = false → risingD d i j = false := by
    intro e
    cases d with
    | tuple ds =>
      have e2 : decide ((ds.length : Int) ≤ i) = false := by simpa [tupIn] using e
      simp only [risingD, e2, Bool.false_and]
    | _ => rfl
  cases et : tupIn d 0 i with
  | false =>
    refine iteT ?_
    have := q H1 s1
    rw [no et] at this
    exact this
  | true =>
  refine iteF ?_
  cases d with
  | int b => cases et
  | bool b => cases et
  | none => cases et
  | str x => cases et
  | list x => cases et
  | dict x => cases et
  | tuple ds =>
  have hlen : (ds.length : Int) ≤ i := by simpa [tupIn] using et
  have hd1 := dq_mono s1 _ _ hd
  cases hd1 with
  | @tup p xs _ hs ha =>
  have el : xs.length = ds.length := dqAll_len ha
  refine ⟨_, rfl, p, rfl, ⟨xs, hs⟩, fun L hL => ?_⟩
  refine lc_tup (K := K) (a := p) (xs := xs) (fun n H' => Same H1 H' ∧ H' L = some (.lst (((ds.take n).map fun x => numIn x 0 j).map V.bl))) ⟨same_new hL, upd_same⟩ (fun n H' _ R => seqT_mono R.1 hs) ?_ ?_
  · rintro n x H' hx ⟨s2, hL2⟩
    obtain ⟨dx, hdx, hdp⟩ := dqAll_get ha hx
    refine ⟨rfl, ?_⟩
    refine w_yes ?_
    refine ⟨_, rfl, _, rfl, x, dx, 0, j, rfl, dq_mono s2 _ _ hdp, rfl, fun H2 s3 => ⟨_, s3 _ _ hL2, ?_, ?_, ?_⟩⟩
    · rw [List.length_map, List.length_map, List.length_take]
      exact small1000 (by omega)
    · exact same_mut (s2.trans s3) hL
    · rw [upd_same, List.take_add_one, hdx]
      simp
  · rintro H2 ⟨s2, hL2⟩
    rw [el, List.take_length] at hL2
    refine ⟨L, (ds.map fun x => numIn x 0 j), rfl, SqL.of hL2, _, rfl, ?_⟩
    have ea : (List.map (fun x => numIn x 0 j) ds).all id = ds.all fun x => numIn x 0 j := by
      rw [List.all_map]
      rfl
    rw [ea]
    have er : risingD (.tuple ds) i j = (ds.all (fun x => numIn x 0 j) && risingL ds) := by
      show (decide ((ds.length : Int) ≤ i) && _) = _
      rw [decide_eq_true hlen, Bool.true_and]
    cases eall : ds.all fun x => numIn x 0 j with
    | false =>
      refine iteT ?_
      have := q H2 (s1.trans s2)
      rw [er, eall, Bool.false_and] at this
      exact this
    | true =>
    refine iteF ?_
    rw [eall, Bool.true_and] at er
    have num : ∀ (n : Nat) (x : V), xs[n]? = some x → ∃ k, x = .int k ∧ ds[n]? = some (.int k) := by
      intro n x hx
      obtain ⟨dx, hdx, hdp⟩ := dqAll_get ha hx
      have hn := List.all_eq_true.mp eall dx (List.mem_of_getElem? hdx)
      cases hdp with
      | int k => exact ⟨k, rfl, hdx⟩
      | non => cases hn
      | bl _ => cases hn
      | str _ => cases hn
      | lst _ _ => cases hn
      | tup _ _ => cases hn
      | dct _ => cases hn
      | dct1 _ => cases hn
    have hs2 : SqT K H2 p xs := seqT_mono s2 hs
    refine ⟨_, rfl, ?_⟩
    refine w_tail rfl hs2 fun p2 H3 s3 hs3 => ?_
    refine ⟨p, p2, xs, xs.drop 1, rfl, .inr ⟨seqT_mono s3 hs2, hs3, fun L3 hL3 => ?_⟩⟩
    refine lc_zipT (K := K) (by rw [List.length_drop]; omega) (fun n H' => Same H3 H' ∧ H' L3 = some (.lst (((List.range n).map fun k => ltD (ds.getD k .none) (ds.getD (k + 1) .none)).map V.bl))) ⟨same_new hL3, upd_same⟩
      (fun n H' R => ⟨seqT_mono (s3.trans R.1) hs2, seqT_mono R.1 hs3⟩) ?_ ?_
    · rintro n x y T' H' hx hy ⟨s4, hL4⟩ hT
      rw [List.getElem?_drop] at hy
      obtain ⟨k1, rfl, hk1⟩ := num n x hx
      obtain ⟨k2, rfl, hk2⟩ := num (1 + n) y hy
      have hn : 1 + n < ds.length := (List.getElem?_eq_some_iff.mp hk2).1
      have nLT : L3 ≠ T' := ne_of_none hL4 hT
      refine ⟨T', _, rfl, SqT.of upd_same, rfl, _, _, rfl, _, _, rfl, rfl, rfl, ?_⟩
      refine w_yes ?_
      refine ⟨_, rfl, _, rfl, _, _, rfl, rfl, _, (by rw [upd_ne nLT]; exact hL4), ?_, ?_, ?_⟩
      · rw [List.length_map, List.length_map, List.length_range]
        exact small1000 (by omega)
      · exact same_mut (s4.trans (same_new hT)) hL3
      · rw [upd_same, List.range_succ, List.map_append, List.map_append]
        have e1 : ds.getD n .none = .int k1 := by rw [List.getD_eq_getElem?_getD, hk1]; rfl
        have e2 : ds.getD (n + 1) .none = .int k2 := by rw [List.getD_eq_getElem?_getD, Nat.add_comm, hk2]; rfl
        show some (HO.lst (_ ++ [V.bl (decide (k1 < k2))])) = some (HO.lst (_ ++ [V.bl (ltD (ds.getD n .none) (ds.getD (n + 1) .none))]))
        rw [e1, e2]
        rfl
    · rintro H4 ⟨s4, hL4⟩
      rw [List.length_drop, el] at hL4
      refine ⟨L3, _, rfl, SqL.of hL4, ?_⟩
      have := q H4 (((s1.trans s2).trans s3).trans s4)
      rw [er, risingL_iff] at this
      exact this
end
end Ka
set_option Elab.async false
set_option linter.all false
set_option maxRecDepth 100000
set_option maxHeartbeats 4000000
namespace Ka
open PySem PySem.Spec PyProof.Rows L2 Dt
structure Pk4 (P : Program) (w : World) (K : PySem.W.Frag) (mg : Str → Option Value) (base : Heap) : Prop extends Pk3 P w K mg base where
  d_are_rising_numbers : Has P w K mg base CX0 3 "are_rising_numbers" ["thing", "most", "greatest"] (spRiseQ K)
/-- a day's number and a rest -/
def spWorks (K : PySem.W.Frag) : Sp := fun vs H Q _ => ∃ (n : Int) (v : V) (wd hd : List Int), vs = [.int n, v] ∧ Dp K H v (restOf wd hd) ∧ ∀ H', Same H H' → Q (.bl (worksI wd hd n)) H'
def spNth (K : PySem.W.Frag) : Sp := fun vs H Q _ => ∃ (n : Int) (m : Nat) (v : V) (wd hd : List Int) (r : Int) (k : Nat), vs = [.int n, .int m, v] ∧ Dp K H v (restOf wd hd) ∧ RestI wd hd ∧ 1 ≤ m ∧ WR wd hd r k n m ∧ ∀ H', Same H H' → Q (.int r) H'
section
variable {P : Program} {w : World} {K : PySem.W.Frag} {mg : Str → Option Value} {base : Heap} {A : Cls} {f : Addr} {fd : FuncData}
theorem dp_pair {H : Hp} {v : V} {a b : PyData} (h : Dp K H v (.tuple [a, b])) : ∃ p x y, v = .ref p ∧ SqT K H p [x, y] ∧ Dp K H x a ∧ Dp K H y b := by
  cases h with
  | tup hs ha =>
    cases ha with
    | cons h1 h2 =>
      cases h2 with
      | cons h3 h4 =>
        cases h4
        exact ⟨_, _, _, rfl, hs, h1, h3⟩
theorem tup2_of {d : PyData} (h : tupIn d 2 2 = true) : ∃ a b, d = .tuple [a, b] := by
  cases d with
  | tuple ds =>
    match ds, h with
    | [a, b], _ => exact ⟨a, b, rfl⟩
    | [], h => simp [tupIn] at h
    | [a], h => simp [tupIn] at h
    | a :: b :: c :: r, h =>
      simp [tupIn] at h
      omega
  | _ => cases h
theorem ok_is_rest (F : FnAt K mg "is_rest" s_is_rest f fd) (T : Txt K mg A) (D : Pk4 P w K mg base) : Has P w K mg base CX0 4 "is_rest" ["thing"] (spOneQ K restD) := by
  refine ⟨f, fd, F.fn.ok sc_is_rest len_spOneQ (fun cdv A outer s H vs Q E hr h => ?_), F.at_, F.fn.kp, F.fn.binds fun _ _ _ _ _ _ us hl => match us, hl with | [_], _ => rfl⟩
  obtain ⟨v, d, rfl, hd, sd, q⟩ := h
  refine ⟨_, (pss_cons (ps_if (pt_not (pt_val (pe_has D.d_is_tuple_of (hr.mono (by decide)) (by rfl) pass0 (pa_cons (pv 0) (pa_cons pe_int (pa_cons pe_int pa_nil)))))) (pss_one (ps_ret pe_bl)) pss_nil) (pss_cons (ps_asg (pv 0) (pg_tup (by rfl) (pgs_cons (pg_name (i := 1) sc_is_rest.nd rfl (Or.inl rfl)) (pgs_cons (pg_name (i := 2) sc_is_rest.nd rfl (Or.inl rfl)) pgs_nil)))) (pss_cons (ps_if (pt_not (pt_val (pe_has D.d_are_rising_numbers (hr.mono (by decide)) (by rfl) pass0 (pa_cons (pv 1) (pa_cons (pe_const rfl T.c_MOST_WEEKDAYS) (pa_cons (pe_op op_sub (pe_const rfl T.c_WEEK) pe_int) pa_nil)))))) (pss_one (ps_ret pe_bl)) pss_nil) (pss_one (ps_ret (pe_has D.d_are_rising_numbers (hr.mono (by decide)) (by rfl) pass0 (pa_cons (pv 2) (pa_cons (pe_const rfl T.c_MOST_HOLIDAYS) (pa_cons (pe_const rfl T.c_LAST_DAY) pa_nil))))))))), ?_⟩
  refine ⟨_, rfl, v, d, 2, 2, rfl, hd, sd, fun H1 s1 => ⟨_, rfl, ?_⟩⟩
  cases et : tupIn d 2 2 with
  | false =>
    refine iteT ?_
    have e : restD d = false := by
      cases e : restD d with
      | false => rfl
      | true =>
        obtain ⟨wd, hd, rfl, _⟩ := restD_of e
        cases et
    have := q H1 s1
    rw [e] at this
    exact this
  | true =>
    refine iteF ?_
    obtain ⟨a, b, rfl⟩ := tup2_of et
    obtain ⟨p, x, y, rfl, hs, ha, hb⟩ := dq_pair (dq_mono s1 _ _ hd)
    have sa := (rfl : okQ PyData.none = true)
    have sb := (rfl : okQ PyData.none = true)
    refine ⟨_, rfl, p, _, rfl, hs, rfl, _, _, rfl, _, _, rfl, rfl, _, rfl, _, _, rfl, rfl, x, a, 4, 6, rfl, ha, sa, by decide, fun H2 s2 => ⟨_, rfl, ?_⟩⟩
    have eq : restD (.tuple [a, b]) = (risingD a 4 6 && risingD b 20 3000) := rfl
    cases er : risingD a 4 6 with
    | false =>
      refine iteT ?_
      have := q H2 (s1.trans s2)
      rw [eq, er] at this
      exact this
    | true =>
      refine iteF ?_
      refine ⟨_, rfl, y, b, 20, 3000, rfl, dq_mono s2 _ _ hb, sb, by decide, fun H3 s3 => ?_⟩
      have := q H3 ((s1.trans s2).trans s3)
      rw [eq, er, Bool.true_and] at this
      exact this
theorem ok_is_span (F : FnAt K mg "is_span" s_is_span f fd) (T : Txt K mg A) (D : Pk4 P w K mg base) : Has P w K mg base CX0 4 "is_span" ["thing"] (spOneQ K spanD) := by
  refine ⟨f, fd, F.fn.ok sc_is_span len_spOneQ (fun cdv A outer s H vs Q E hr h => ?_), F.at_, F.fn.kp, F.fn.binds fun _ _ _ _ _ _ us hl => match us, hl with | [_], _ => rfl⟩
  obtain ⟨v, d, rfl, hd, sd, q⟩ := h
  refine ⟨_, (pss_cons (ps_if (pt_not (pt_val (pe_has D.d_is_tuple_of (hr.mono (by decide)) (by rfl) pass0 (pa_cons (pv 0) (pa_cons pe_int (pa_cons pe_int pa_nil)))))) (pss_one (ps_ret pe_bl)) pss_nil) (pss_cons (ps_asg (pv 0) (pg_tup (by rfl) (pgs_cons (pg_name (i := 1) sc_is_span.nd rfl (Or.inl rfl)) (pgs_cons (pg_name (i := 2) sc_is_span.nd rfl (Or.inl rfl)) pgs_nil)))) (pss_one (ps_ret (pe_and (pe_cmpR (op_inTQ (room65 hr)) (pv 1) (pe_tup (pa_cons pe_str (pa_cons pe_str pa_nil))) (by rfl)) (pe_one (pe_has D.d_is_number_within (hr.mono (by decide)) (by rfl) pass0 (pa_cons (pv 2) (pa_cons pe_int (pa_cons (pe_const rfl T.c_LONGEST_SPAN) pa_nil)))))))))), ?_⟩
  refine ⟨_, rfl, v, d, 2, 2, rfl, hd, sd, fun H1 s1 => ⟨_, rfl, ?_⟩⟩
  cases et : tupIn d 2 2 with
  | false =>
    refine iteT ?_
    have e : spanD d = false := by
      cases e : spanD d with
      | false => rfl
      | true =>
        obtain ⟨m, _, _, rfl | rfl⟩ := spanD_of e <;> cases et
    have := q H1 s1
    rw [e] at this
    exact this
  | true =>
    refine iteF ?_
    obtain ⟨a, b, rfl⟩ := tup2_of et
    obtain ⟨p, x, y, rfl, hs, ha, hb⟩ := dq_pair (dq_mono s1 _ _ hd)
    have sa := (rfl : okQ PyData.none = true)
    have sb := (rfl : okQ PyData.none = true)
    refine ⟨_, rfl, p, _, rfl, hs, rfl, _, _, rfl, _, _, rfl, rfl, _, rfl, by show 2 ≤ sizeLine; decide, fun p2 hp2 => ?_⟩
    have s2 := same_new (o := .tup [.str "days", .str "work"]) hp2
    refine ⟨a, p2, ["days", "work"], dq_mono s2 _ _ ha, rfl, SqT.of upd_same, _, rfl, ?_⟩
    have eq : spanD (.tuple [a, b]) = (spanWord a && numIn b 1 30) := rfl
    have ew : ((["days", "work"] : List Str).any fun z => PyData.eqv (.str z) a) = spanWord a := by
      show (PyData.eqv (.str "days") a || (PyData.eqv (.str "work") a || false)) = spanWord a
      rw [Bool.or_false]
      rfl
    rw [ew]
    cases es : spanWord a with
    | false =>
      refine iteF ?_
      have := q _ (s1.trans s2)
      rw [eq, es] at this
      exact this
    | true =>
      refine iteT ?_
      refine ⟨_, rfl, y, b, 1, 30, rfl, dq_mono s2 _ _ hb, sb, fun H3 s3 => ?_⟩
      have := q H3 ((s1.trans s2).trans s3)
      rw [eq, es, Bool.true_and] at this
      exact this
theorem ok_works (F : FnAt K mg "works" s_works f fd) (T : Txt K mg A) : Has P w K mg base CX0 1 "works" ["day", "rest"] (spWorks K) := by
  refine ⟨f, fd, F.fn.ok sc_works (fun vs H Q E h => ?_) (fun cdv A outer s H vs Q E hr h => ?_), F.at_, F.fn.kp, F.fn.binds fun _ _ _ _ _ _ us hl => match us, hl with | [_, _], _ => rfl⟩
  · obtain ⟨n, v, wd, hd, rfl, _⟩ := h
    rfl
  obtain ⟨n, v, wd, hd, rfl, hdat, q⟩ := h
  refine ⟨_, (pss_cons (ps_asg (pv 1) (pg_tup (by rfl) (pgs_cons (pg_name (i := 2) sc_works.nd rfl (Or.inl rfl)) (pgs_cons (pg_name (i := 3) sc_works.nd rfl (Or.inl rfl)) pgs_nil)))) (pss_one (ps_ret (pe_and (pe_cmpR op_notIn_seq (pe_op op_modN (pv 0) (pe_const rfl T.c_WEEK)) (pv 2) (by rfl)) (pe_one (pe_cmpR op_notIn_seq (pv 0) (pv 3) (by rfl))))))), ?_⟩
  obtain ⟨p, x, y, rfl, hs, ha, hb⟩ := dp_pair hdat
  obtain ⟨pw, rfl, hw⟩ := dp_ints ha
  obtain ⟨ph, rfl, hh⟩ := dp_ints hb
  refine ⟨_, rfl, p, _, rfl, hs, rfl, _, _, rfl, _, _, rfl, rfl, _, rfl, _, _, rfl, rfl, (by show (7 : Int) ≠ 0; decide), _, rfl, pw, _, rfl, .inr hw, rfl, flat_ints wd, _, rfl, ?_⟩
  have := q H (Same.refl H)
  rw [inV_ints]
  show if (!decide (n.fmod 7 ∈ wd)) = true then _ else _
  cases e1 : decide (n.fmod 7 ∈ wd) with
  | true =>
    refine iteF ?_
    rw [show worksI wd hd n = false by unfold worksI; rw [e1]; rfl] at this
    exact this
  | false =>
    refine iteT ⟨_, rfl, _, rfl, ph, _, rfl, .inr hh, rfl, flat_ints hd, ?_⟩
    rw [inV_ints]
    rw [show worksI wd hd n = !decide (n ∈ hd) by unfold worksI; rw [e1]; rfl] at this
    exact this
structure Pk5 (P : Program) (w : World) (K : PySem.W.Frag) (mg : Str → Option Value) (base : Heap) : Prop where
  d_works : Has P w K mg base CX0 1 "works" ["day", "rest"] (spWorks K)
theorem ok_nth_work_day (F : FnAt K mg "nth_work_day" s_nth_work_day f fd) (T : Txt K mg A) (D : Pk5 P w K mg base) : Has P w K mg base CX0 2 "nth_work_day" ["day", "many", "rest"] (spNth K) := by
  refine ⟨f, fd, F.fn.ok sc_nth_work_day (fun vs H Q E h => ?_) (fun cdv A outer s H vs Q E hr h => ?_), F.at_, F.fn.kp, F.fn.binds fun _ _ _ _ _ _ us hl => match us, hl with | [_, _, _], _ => rfl⟩
  · obtain ⟨n, m, v, wd, hd, r, k, rfl, _⟩ := h
    rfl
  obtain ⟨n, m, v, wd, hd, r, k, rfl, hdat, R, hm, hw, q⟩ := h
  refine ⟨_, (pss_cons (ps_asg (pv 2) (pg_tup (by rfl) (pgs_cons (pg_name (i := 8) sc_nth_work_day.nd rfl (Or.inr rfl)) (pgs_cons (pg_name (i := 9) sc_nth_work_day.nd rfl (Or.inl rfl)) pgs_nil)))) (pss_cons (ps_set (i := 3) sc_nth_work_day.nd rfl (Or.inl rfl) (pe_op op_sub (pe_const rfl T.c_WEEK) (pe_callB call_len_seq (by rfl) T.z_len (by decide +kernel) (pa_cons (pv 8) pa_nil)))) (pss_cons (ps_set (i := 4) sc_nth_work_day.nd rfl (Or.inl rfl) (pe_op op_fdiv (pe_op op_sub (pv 1) pe_int) (pv 3))) (pss_cons (ps_set (i := 5) sc_nth_work_day.nd rfl (Or.inr rfl) (pe_op op_add (pv 0) (pe_op op_mul (pe_const rfl T.c_WEEK) (pv 4)))) (pss_cons (ps_setLc (i := 6) (own := [("holiday", 10)]) (g := gName 10) rfl sc_nth_work_day.nd rfl rfl (sw_true rfl rfl rfl (by decide +kernel)) (pi_tup (pv 9)) (blkOk_by (own := [("holiday", 10)]) (N := ["day", "many", "rest", "each_week", "weeks", "found", "lost", "left", "weekdays", "holidays", "holiday"]) (sc := defScope s_nth_work_day) (by decide +kernel)) (fun _ _ _ _ _ => (pg_name (i := 10) sc_nth_work_day.nd rfl (Or.inl rfl))) (fun _ _ _ _ _ => (pts_one (PW.pt (pw_and (pt_chain op_lt op_le (pv 0) (pv 10) (pv 5)) (pw_and1 (pt_cmpR (show OpR _ _ (rIn K true) from op_notIn_seq) (pe_op op_modN (pv 10) (pe_const rfl T.c_WEEK)) (pv 8) (by rfl))))))) (fun _ _ _ _ _ => (pv 10))) (pss_cons (ps_set (i := 7) sc_nth_work_day.nd rfl (Or.inl rfl) (pe_op op_add (pe_op op_sub (pv 1) (pe_op op_mul (pv 4) (pv 3))) (pe_callB call_len_seq (by rfl) T.z_len (by decide +kernel) (pa_cons (pv 6) pa_nil)))) (pss_cons (ps_while PassesOwn.never (pt_cmpR op_gt (pv 7) pe_int (nomark _)) (pss_cons (ps_aug (i := 5) sc_nth_work_day.nd rfl (Or.inr rfl) pe_int ip_add) (pss_one (ps_if (pt_val (pe_has D.d_works (hr.mono (by decide)) (by rfl) pass0 (pa_cons (pv 5) (pa_cons (pv 2) pa_nil)))) (pss_one (ps_aug (i := 7) sc_nth_work_day.nd rfl (Or.inl rfl) pe_int ip_sub)) pss_nil)))) (pss_one (ps_ret (pv 5)))))))))), ?_⟩
  obtain ⟨p, x, y, rfl, hs, ha, hb⟩ := dp_pair hdat
  obtain ⟨pw, rfl, hwd⟩ := dp_ints ha
  obtain ⟨ph, rfl, hh⟩ := dp_ints hb
  refine ⟨_, rfl, p, _, rfl, hs, rfl, _, _, rfl, _, _, rfl, rfl, ?_⟩
  refine ⟨_, rfl, pw, _, rfl, .inr hwd, _, _, rfl, rfl, ?_⟩
  have lw : (7 - (((wd.map V.int).length : Nat) : Int)) = 7 - (wd.length : Int) := by rw [List.length_map]
  dsimp only
  rw [lw]
  have w3 := R.w3
  refine ⟨_, rfl, _, _, rfl, rfl, _, rfl, _, _, rfl, rfl, ⟨by omega, by omega⟩, ?_⟩
  obtain ⟨w0, w1⟩ := weeks_lt (m := (m : Int)) (by omega) R.w3
  obtain ⟨k', l', hw', hl'⟩ := hw.weeks R hm
  have eW : ((m : Int) - 1) / (7 - (wd.length : Int)) = weeksI m wd := rfl
  dsimp only
  rw [eW]
  generalize weeksI (m : Int) wd = W at w0 w1 hw' hl'
  refine ⟨_, rfl, _, rfl, _, _, rfl, rfl, .inl ⟨by decide, by decide⟩, _, _, rfl, rfl, ?_⟩
  refine ⟨_, rfl, ph, rfl, ⟨_, hh⟩, fun L hL => ?_⟩
  refine lc_tup (K := K) (a := ph) (xs := hd.map V.int) (fun i H' => Same H H' ∧ H' L = some (.lst ((lostB wd n (n + 7 * W) (hd.take i)).map V.int))) ⟨same_new hL, upd_same⟩ (fun i H' _ R => seqT_mono R.1 hh) ?_ ?_
  · rintro i x H2 hx ⟨s2, e2⟩
    rw [List.getElem?_map] at hx
    obtain ⟨h, eh, rfl⟩ := Option.map_eq_some_iff.mp hx
    refine ⟨rfl, ?_⟩
    have lt := lostB_take (wd := wd) (a := n) (b := n + 7 * W) eh
    refine ⟨_, rfl, _, rfl, _, _, rfl, rfl, _, rfl, ?_⟩
    cases c1 : decide (n < h) with
    | false =>
      rw [c1] at lt
      refine iteF ⟨_, rfl, iteF ⟨s2, ?_⟩⟩
      rw [lt]
      simpa using e2
    | true =>
    rw [c1] at lt
    refine iteT ⟨_, rfl, _, _, rfl, rfl, _, rfl, ?_⟩
    cases c2 : decide (h ≤ n + 7 * W) with
    | false =>
      rw [c2] at lt
      refine iteF (iteF ⟨s2, ?_⟩)
      rw [lt]
      simpa using e2
    | true =>
    rw [c2] at lt
    refine iteT ⟨_, rfl, _, _, rfl, rfl, (by show (7 : Int) ≠ 0; decide), _, rfl, pw, _, rfl, .inr (seqT_mono s2 hwd), rfl, flat_ints wd, _, rfl, ?_⟩
    rw [inV_ints]
    show if (!decide (h.fmod 7 ∈ wd)) = true then _ else _
    cases c3 : decide (h.fmod 7 ∈ wd) with
    | true =>
      rw [c3] at lt
      refine iteF ⟨s2, ?_⟩
      rw [lt]
      simpa using e2
    | false =>
      rw [c3] at lt
      refine iteT ⟨_, rfl, _, e2, ?_, same_mut s2 hL, ?_⟩
      · rw [List.length_map]
        have a1 := lostB_len wd n (n + 7 * W) (hd.take i)
        have a2 := R.h3
        have a3 : (hd.take i).length ≤ hd.length := by rw [List.length_take]; omega
        exact small1000 (by omega)
      · rw [upd_same, lt, List.map_append]
        rfl
  · rintro H2 ⟨s2, e2⟩
    rw [List.length_map, List.take_length] at e2
    have eL : ((m : Int) - W * (7 - (wd.length : Int))) + (((lostB wd n (n + 7 * W) hd).map V.int).length : Nat) = (l' : Int) := by rw [List.length_map, hl']
    refine ⟨_, rfl, _, rfl, _, rfl, _, _, rfl, rfl, .inr ⟨by omega, by omega⟩, _, _, rfl, rfl, _, rfl, L, _, rfl, .inl (SqL.of e2), _, _, rfl, rfl, ?_⟩
    dsimp only
    rw [eL]
    have dS : ∀ {H'}, Same H2 H' → Dp K H' (.ref p) (restOf wd hd) := fun s => dp_mono (s2.trans s) _ _ hdat
    obtain ⟨each, he⟩ : ∃ each : Int, each = 7 - (wd.length : Int) := ⟨_, rfl⟩
    rw [← he]
    refine ⟨fun j σ H' => ∃ (g : Int) (l : Nat) (x : Option V), σ = [some (.int n), some (.int m), some (.ref p), some (.int each), some (.int W), some (.int g), some (.ref L), some (.int l), some (.ref pw), some (.ref ph), x] ∧ Same H2 H' ∧ WR wd hd r j g l, ⟨k', n + 7 * W, l', _, rfl, Same.refl H2, hw'⟩, ?_⟩
    rintro j σ H1 ⟨g, l, x, rfl, s1, hj⟩
    refine ⟨_, rfl, _, _, rfl, rfl, _, rfl, ?_⟩
    cases hj with
    | stop =>
      refine iteF ?_
      exact ⟨_, rfl, q H1 (s2.trans s1)⟩
    | @work m' n' _ e hm =>
      have h0 : decide ((0 : Int) < ((n' + 1 : Nat) : Int)) = true := decide_eq_true (by omega)
      rw [h0]
      refine iteT ⟨fun σ H' => ∃ j', j' < m' + 1 ∧ ∃ (g : Int) (l : Nat) (x : Option V), σ = [some (.int n), some (.int m), some (.ref p), some (.int each), some (.int W), some (.int g), some (.ref L), some (.int l), some (.ref pw), some (.ref ph), x] ∧ Same H2 H' ∧ WR wd hd r j' g l, fun _ _ x => x, ?_⟩
      refine ⟨_, rfl, _, _, rfl, rfl, _, rfl, _, rfl, g + 1, .ref p, wd, hd, rfl, dS s1, fun H2 s2 => ⟨_, rfl, ?_⟩⟩
      rw [e]
      refine iteT ⟨_, rfl, _, _, rfl, rfl, m', Nat.lt_succ_self _, g + 1, n', x, ?_, s1.trans s2, hm⟩
      show [some (V.int n), some (V.int m), some (V.ref p), some (V.int each), some (V.int W), some (V.int (g + 1)), some (V.ref L), some (V.int (((n' + 1 : Nat) : Int) - 1)), some (V.ref pw), some (V.ref ph), x] = _
      rw [show (((n' + 1 : Nat) : Int) - 1) = (n' : Int) by omega]
    | @rest m' n' _ e hm =>
      have h0 : decide ((0 : Int) < ((n' + 1 : Nat) : Int)) = true := decide_eq_true (by omega)
      rw [h0]
      refine iteT ⟨fun σ H' => ∃ j', j' < m' + 1 ∧ ∃ (g : Int) (l : Nat) (x : Option V), σ = [some (.int n), some (.int m), some (.ref p), some (.int each), some (.int W), some (.int g), some (.ref L), some (.int l), some (.ref pw), some (.ref ph), x] ∧ Same H2 H' ∧ WR wd hd r j' g l, fun _ _ x => x, ?_⟩
      refine ⟨_, rfl, _, _, rfl, rfl, _, rfl, _, rfl, g + 1, .ref p, wd, hd, rfl, dS s1, fun H2 s2 => ⟨_, rfl, ?_⟩⟩
      rw [e]
      exact iteF ⟨m', Nat.lt_succ_self _, g + 1, n' + 1, x, rfl, s1.trans s2, hm⟩
/-- the day to which a good span leads -/
def spLed (K : PySem.W.Frag) : Sp := fun vs H Q _ => ∃ (n m : Int) (x : Str) (v2 v3 : V) (wd hd : List Int) (r : Int), vs = [.int n, v2, v3] ∧ Dp K H v2 (.tuple [.str x, .int m]) ∧ Dp K H v3 (restOf wd hd) ∧ RestI wd hd ∧ 1 ≤ m ∧ ((x = "days" ∧ r = n + m) ∨ (x = "work" ∧ ∃ k, WR wd hd r k n m.toNat)) ∧ ∀ H', Same H H' → Q (.int r) H'
structure PkLed (P : Program) (w : World) (K : PySem.W.Frag) (mg : Str → Option Value) (base : Heap) : Prop where
  d_nth_work_day : Has P w K mg base CX0 2 "nth_work_day" ["day", "many", "rest"] (spNth K)
theorem ok_day_led_to (F : FnAt K mg "day_led_to" s_day_led_to f fd) (T : Txt K mg A) (D : PkLed P w K mg base) : Has P w K mg base CX0 3 "day_led_to" ["day", "span", "rest"] (spLed K) := by
  refine ⟨f, fd, F.fn.ok sc_day_led_to (fun vs H Q E h => ?_) (fun cdv A outer s H vs Q E hr h => ?_), F.at_, F.fn.kp, F.fn.binds fun _ _ _ _ _ _ us hl => match us, hl with | [_, _, _], _ => rfl⟩
  · obtain ⟨n, m, x, v2, v3, wd, hd, r, rfl, _⟩ := h
    rfl
  obtain ⟨n, m, x, v2, v3, wd, hd, r, rfl, h2, h3, R, hm, hcase, fin⟩ := h
  refine ⟨_, (pss_cons (ps_asg (pv 1) (pg_tup (by rfl) (pgs_cons (pg_name (i := 3) sc_day_led_to.nd rfl (Or.inl rfl)) (pgs_cons (pg_name (i := 4) sc_day_led_to.nd rfl (Or.inl rfl)) pgs_nil)))) (pss_cons (ps_if (pt_cmpR op_eq (pv 3) pe_str (nomark _)) (pss_one (ps_ret (pe_op op_add (pv 0) (pv 4)))) pss_nil) (pss_one (ps_ret (pe_has D.d_nth_work_day (hr.mono (by decide)) (by rfl) pass0 (pa_cons (pv 0) (pa_cons (pv 4) (pa_cons (pv 2) pa_nil)))))))), ?_⟩
  obtain ⟨p, x2, y, rfl, hs, ha, hb⟩ := dp_pair h2
  cases ha
  cases hb
  rcases hcase with ⟨rfl, rfl⟩ | ⟨rfl, k, hw⟩
  · refine ⟨_, rfl, p, _, rfl, hs, rfl, _, _, rfl, _, _, rfl, rfl, _, rfl, rfl, _, rfl, ?_⟩
    exact iteT ⟨_, rfl, _, rfl, _, _, rfl, rfl, fin H (Same.refl H)⟩
  · refine ⟨_, rfl, p, _, rfl, hs, rfl, _, _, rfl, _, _, rfl, rfl, _, rfl, rfl, _, rfl, ?_⟩
    refine iteF ⟨_, rfl, _, rfl, _, rfl, n, m.toNat, v3, wd, hd, r, k, ?_, h3, R, by omega, hw, fun H4 s4 => fin H4 s4⟩
    rw [Int.toNat_of_nonneg (by omega)]
    rfl
end
end Ka
set_option Elab.async false
set_option linter.all false
set_option maxRecDepth 100000
set_option maxHeartbeats 4000000
namespace Ka
open PySem PySem.Spec PyProof.Rows L2 Dt
/-- goes on where f holds of the thing, else refuses with C -/
def spRef (K : PySem.W.Frag) (C : Addr) (f : PyData → Bool) : Sp := fun vs H Q E => ∃ (v : V) (d : PyData), vs = [v] ∧ Dq K H v d ∧ okQ d = true ∧ (f d = true → ∀ H', Same H H' → Q .non H') ∧ (f d = false → ∀ H', Same H H' → E (.ref C) none H')
theorem len_spRef {K : PySem.W.Frag} {C : Addr} {f : PyData → Bool} : ∀ vs H Q E, spRef K C f vs H Q E → vs.length = 1 := by
  rintro vs H Q E ⟨v, d, rfl, _⟩
  rfl
/-- what after tells of three good things -/
def AfterI (d1 d2 d3 : PyData) (r : Int) : Prop := ∃ (n m : Int) (wd hd : List Int), d1 = .int n ∧ 1 ≤ m ∧ d3 = restOf wd hd ∧ ((d2 = .tuple [.str "days", .int m] ∧ r = n + m) ∨ (d2 = .tuple [.str "work", .int m] ∧ ∃ k, WR wd hd r k n m.toNat))
def spAfter (K : PySem.W.Frag) (A : Cls) : Sp := fun vs H Q E => ∃ (v1 v2 v3 : V) (d1 d2 d3 : PyData), vs = [v1, v2, v3] ∧ Dq K H v1 d1 ∧ Dq K H v2 d2 ∧ Dq K H v3 d3 ∧ okQ d1 = true ∧ okQ d2 = true ∧ okQ d3 = true ∧
  (dayD d1 = false → ∀ H', Same H H' → E (.ref A.NoDay) none H') ∧
  (dayD d1 = true → spanD d2 = false → ∀ H', Same H H' → E (.ref A.NoSpan) none H') ∧
  (dayD d1 = true → spanD d2 = true → restD d3 = false → ∀ H', Same H H' → E (.ref A.NoRest) none H') ∧
  (dayD d1 = true → spanD d2 = true → restD d3 = true → ∀ r, AfterI d1 d2 d3 r → ∀ H', Same H H' → Q (.int r) H')
theorem afterI_ex {d1 d2 d3 : PyData} (h1 : dayD d1 = true) (h2 : spanD d2 = true) (h3 : restD d3 = true) : ∃ r, AfterI d1 d2 d3 r := by
  cases d1 with
  | int n =>
    obtain ⟨m, hm, _, h2⟩ := spanD_of h2
    obtain ⟨wd, hd, rfl, hl⟩ := restD_of h3
    rcases h2 with rfl | rfl
    · exact ⟨n + m, n, m, wd, hd, rfl, hm, rfl, .inl ⟨rfl, rfl⟩⟩
    · obtain ⟨r, k, q⟩ := WR.ex (wd := wd) (hd := hd) (by omega) n m.toNat
      exact ⟨r, n, m, wd, hd, rfl, hm, rfl, .inr ⟨rfl, k, q⟩⟩
  | _ => cases h1
theorem ints_inj {a b : List Int} (h : a.map PyData.int = b.map PyData.int) : a = b := (List.map_inj_right fun x y e => by injection e).mp h
theorem restOf_inj {a b c d : List Int} (h : restOf a b = restOf c d) : a = c ∧ b = d := by
  unfold restOf intsD at h
  injection h with h
  injection h with h1 h2
  injection h2 with h2
  injection h1 with h1
  injection h2 with h2
  exact ⟨ints_inj h1, ints_inj h2⟩
structure Pk6 (P : Program) (w : World) (K : PySem.W.Frag) (mg : Str → Option Value) (base : Heap) : Prop where
  d_is_day : Has P w K mg base CX0 3 "is_day" ["thing"] (spOneQ K dayD)
  d_is_rest : Has P w K mg base CX0 4 "is_rest" ["thing"] (spOneQ K restD)
  d_is_span : Has P w K mg base CX0 4 "is_span" ["thing"] (spOneQ K spanD)
  d_day_led_to : Has P w K mg base CX0 3 "day_led_to" ["day", "span", "rest"] (spLed K)
section
variable {P : Program} {w : World} {K : PySem.W.Frag} {mg : Str → Option Value} {base : Heap} {A : Cls} {f : Addr} {fd : FuncData}
theorem ok_refuse_no_day (F : FnAt K mg "refuse_no_day" s_refuse_no_day f fd) (T : Txt K mg A) (D : Pk6 P w K mg base) : Has P w K mg base (L2.CX P w) 5 "refuse_no_day" ["thing"] (spRef K A.NoDay dayD) := by
  refine ⟨f, fd, F.fn.okX sc_refuse_no_day len_spRef (fun cdv A' outer s H vs Q E hr h => ?_), F.at_, F.fn.kp, F.fn.binds fun _ _ _ _ _ _ us hl => match us, hl with | [_], _ => rfl⟩
  obtain ⟨v, d, rfl, hd, sd, q1, q2⟩ := h
  refine ⟨_, (pss_one (ps_if (pt_not (pt_val (pe_has D.d_is_day (hr.mono (by decide)) (by rfl) pass0 (pa_cons (pv 0) pa_nil)))) (pss_one (ps_raise rfl (takes_of rfl rfl rfl rfl) (pmk_own T.e_NoDay.F T.e_NoDay.xi T.e_NoDay.g T.e_NoDay.k (raises_own T.e_NoDay.b T.e_NoDay.t) rfl))) pss_nil)), ?_⟩
  refine ⟨_, rfl, v, d, rfl, hd, sd, fun H1 s1 => ⟨_, rfl, ?_⟩⟩
  cases e : dayD d with
  | true => exact iteF (q1 e H1 s1)
  | false => exact iteT (q2 e H1 s1)
theorem ok_refuse_no_rest (F : FnAt K mg "refuse_no_rest" s_refuse_no_rest f fd) (T : Txt K mg A) (D : Pk6 P w K mg base) : Has P w K mg base (L2.CX P w) 5 "refuse_no_rest" ["thing"] (spRef K A.NoRest restD) := by
  refine ⟨f, fd, F.fn.okX sc_refuse_no_rest len_spRef (fun cdv A' outer s H vs Q E hr h => ?_), F.at_, F.fn.kp, F.fn.binds fun _ _ _ _ _ _ us hl => match us, hl with | [_], _ => rfl⟩
  obtain ⟨v, d, rfl, hd, sd, q1, q2⟩ := h
  refine ⟨_, (pss_one (ps_if (pt_not (pt_val (pe_has D.d_is_rest (hr.mono (by decide)) (by rfl) pass0 (pa_cons (pv 0) pa_nil)))) (pss_one (ps_raise rfl (takes_of rfl rfl rfl rfl) (pmk_own T.e_NoRest.F T.e_NoRest.xi T.e_NoRest.g T.e_NoRest.k (raises_own T.e_NoRest.b T.e_NoRest.t) rfl))) pss_nil)), ?_⟩
  refine ⟨_, rfl, v, d, rfl, hd, sd, fun H1 s1 => ⟨_, rfl, ?_⟩⟩
  cases e : restD d with
  | true => exact iteF (q1 e H1 s1)
  | false => exact iteT (q2 e H1 s1)
structure Pk7 (P : Program) (w : World) (K : PySem.W.Frag) (mg : Str → Option Value) (base : Heap) (A : Cls) : Prop extends Pk6 P w K mg base where
  d_refuse_no_day : Has P w K mg base (L2.CX P w) 5 "refuse_no_day" ["thing"] (spRef K A.NoDay dayD)
  d_refuse_no_rest : Has P w K mg base (L2.CX P w) 5 "refuse_no_rest" ["thing"] (spRef K A.NoRest restD)
theorem ok_after (F : FnAt K mg "after" s_after f fd) (T : Txt K mg A) (D : Pk7 P w K mg base A) : Has P w K mg base (L2.CX P w) 6 "after" ["day", "span", "rest"] (spAfter K A) := by
  refine ⟨f, fd, F.fn.okX sc_after (fun vs H Q E h => ?_) (fun cdv A' outer s H vs Q E hr h => ?_), F.at_, F.fn.kp, F.fn.binds fun _ _ _ _ _ _ us hl => match us, hl with | [_, _, _], _ => rfl⟩
  · obtain ⟨v1, v2, v3, d1, d2, d3, rfl, _⟩ := h
    rfl
  obtain ⟨v1, v2, v3, d1, d2, d3, rfl, h1, h2, h3, k1, k2, k3, q1, q2, q3, q4⟩ := h
  refine ⟨_, (pss_cons (ps_expr (pe_has D.d_refuse_no_day (hr.mono (by decide)) (by rfl) (passes_call (takes_of rfl rfl rfl rfl) fun _ _ _ _ h => h) (pa_cons (pv 0) pa_nil))) (pss_cons (ps_if (pt_not (pt_val (pe_has D.d_is_span (hr.mono (by decide)) (by rfl) pass0 (pa_cons (pv 1) pa_nil)))) (pss_one (ps_raise rfl (takes_of rfl rfl rfl rfl) (pmk_own T.e_NoSpan.F T.e_NoSpan.xi T.e_NoSpan.g T.e_NoSpan.k (raises_own T.e_NoSpan.b T.e_NoSpan.t) rfl))) pss_nil) (pss_cons (ps_expr (pe_has D.d_refuse_no_rest (hr.mono (by decide)) (by rfl) (passes_call (takes_of rfl rfl rfl rfl) fun _ _ _ _ h => h) (pa_cons (pv 2) pa_nil))) (pss_one (ps_ret (pe_has D.d_day_led_to (hr.mono (by decide)) (by rfl) pass0 (pa_cons (pv 0) (pa_cons (pv 1) (pa_cons (pv 2) pa_nil))))))))), ?_⟩
  refine ⟨_, rfl, v1, d1, rfl, h1, k1, fun e1 H1 s1 => ?_, fun e1 H1 s1 => q1 e1 H1 s1⟩
  refine ⟨_, rfl, v2, d2, rfl, dq_mono s1 _ _ h2, k2, fun H2 s2 => ⟨_, rfl, ?_⟩⟩
  have s12 := s1.trans s2
  cases e2 : spanD d2 with
  | false => exact iteT (q2 e1 e2 H2 s12)
  | true =>
  refine iteF ?_
  refine ⟨_, rfl, v3, d3, rfl, dq_mono s12 _ _ h3, k3, fun e3 H3 s3 => ?_, fun e3 H3 s3 => q3 e1 e2 e3 H3 (s12.trans s3)⟩
  have s123 := s12.trans s3
  obtain ⟨r, hr'⟩ := afterI_ex e1 e2 e3
  have fin := q4 e1 e2 e3 r hr'
  obtain ⟨n, m, wd, hd, rfl, hm, rfl, hcase⟩ := hr'
  obtain ⟨wd2, hd2, er, R⟩ := restD_full e3
  obtain ⟨rfl, rfl⟩ := restOf_inj er
  cases h1
  rcases hcase with ⟨rfl, rfl⟩ | ⟨rfl, k, hw⟩
  · exact ⟨_, rfl, _, rfl, _, rfl, n, m, "days", v2, v3, wd, hd, _, rfl, dp_ofQ _ _ (by simp only [PyData.hasDict, PyData.hasDictAll, Bool.or_false]) (dq_mono s123 _ _ h2), dp_ofQ _ _ (rest_noDict _ _) (dq_mono s123 _ _ h3), R, hm, .inl ⟨rfl, rfl⟩, fun H4 s4 => fin H4 (s123.trans s4)⟩
  · exact ⟨_, rfl, _, rfl, _, rfl, n, m, "work", v2, v3, wd, hd, _, rfl, dp_ofQ _ _ (by simp only [PyData.hasDict, PyData.hasDictAll, Bool.or_false]) (dq_mono s123 _ _ h2), dp_ofQ _ _ (rest_noDict _ _) (dq_mono s123 _ _ h3), R, hm, .inr ⟨rfl, k, hw⟩, fun H4 s4 => fin H4 (s123.trans s4)⟩
end
end Ka
set_option Elab.async false
set_option linter.all false
set_option maxRecDepth 100000
set_option maxHeartbeats 4000000
namespace Ka
open PySem PySem.Spec PyProof.Rows L2 Dt
structure Pk8 (P : Program) (w : World) (K : PySem.W.Frag) (mg : Str → Option Value) (base : Heap) : Prop where
  d__law_draw : Has P w K mg base CX0 1 "_law_draw" ["_law_pen_here", "_law_many"] (spDraw K)
theorem pow3_nonneg {n : Int} (h : 0 ≤ n) : 0 ≤ n ^ 3 := Int.pow_nonneg h
section
variable {P : Program} {w : World} {K : PySem.W.Frag} {mg : Str → Option Value} {base : Heap} {A : Cls} {f : Addr} {fd : FuncData}
theorem ok__law_pen (F : FnAt K mg "_law_pen" s__law_pen f fd) (T : Txt K mg A) : Has P w K mg base CX0 1 "_law_pen" ["_law_script"] (spPen K) := by
  refine ⟨f, fd, F.fn.ok sc__law_pen (fun vs H Q E h => ?_) (fun cdv A' outer s H vs Q E hr h => ?_), F.at_, F.fn.kp, F.fn.binds fun _ _ _ _ _ _ us hl => match us, hl with | [_], _ => rfl⟩
  · obtain ⟨a, ns, rfl, _⟩ := h
    rfl
  obtain ⟨a, ns, rfl, hs, hl, q⟩ := h
  refine ⟨_, (pss_one (ps_ret (pe_lst (pa_cons (pe_callTy call_list_of (by rfl) T.z_list (by decide +kernel) (pa_cons (pe_slice sl_list (pv 0) po_none (po_some pe_int)) pa_nil)) (pa_cons pe_int (pa_cons pe_int pa_nil)))))), ?_⟩
  refine ⟨_, rfl, _, rfl, a, _, rfl, hs, fun p1 h1 => ?_⟩
  refine ⟨p1, _, rfl, .inl (SqL.of upd_same), fun p2 h2 => ?_⟩
  refine ⟨by show 3 ≤ sizeLine; decide, fun p3 h3 => ?_⟩
  have e1 : cutV (ns.map V.int) none (some 63) = ns.map V.int := by
    unfold cutV
    rw [HT.sIx_none]
    have : HT.sIx (ns.map V.int).length (ns.map V.int).length (some 63) = min 63 (ns.map V.int).length := HT.sIx_nat _ _ 63
    rw [this, List.drop_zero, List.length_map]
    exact List.take_of_length_le (by rw [List.length_map]; omega)
  have n1 : p3 ≠ p1 := fresh_ne (by rw [upd_ne (ne_of_none upd_same h2)]; exact upd_same) h3
  have n2 : p3 ≠ p2 := fresh_ne upd_same h3
  have f1 : H p3 = none := by
    rw [upd_ne n2, upd_ne n1] at h3
    exact h3
  have f2 : H p2 = none := by
    rw [upd_ne (ne_of_none upd_same h2).symm] at h2
    exact h2
  refine q p3 p2 _ f1 ((same_new h1).trans ((same_new h2).trans (same_new h3))) ⟨⟨0, 0, upd_same, by decide, by decide, by decide⟩, ?_, n2.symm, hl⟩
  refine SqL.of ?_
  rw [upd_ne n2.symm, upd_same, e1]
theorem ok__law_draw (F : FnAt K mg "_law_draw" s__law_draw f fd) (T : Txt K mg A) : Has P w K mg base CX0 1 "_law_draw" ["_law_pen_here", "_law_many"] (spDraw K) := by
  refine ⟨f, fd, F.fn.ok sc__law_draw (fun vs H Q E h => ?_) (fun cdv A' outer s H vs Q E hr h => ?_), F.at_, F.fn.kp, F.fn.binds fun _ _ _ _ _ _ us hl => match us, hl with | [_, _], _ => rfl⟩
  · obtain ⟨p, b, ns, c, many, rfl, _⟩ := h
    rfl
  obtain ⟨p, b, ns, c, many, rfl, hp, hc, hm, hmm, q⟩ := h
  refine ⟨_, (pss_cons (ps_if (pt_cmpR op_gt (pe_ix ix_list (pv 0) pe_int (fun _ _ => rfl)) pe_int (nomark _)) (pss_cons (ps_set (i := 5) sc__law_draw.nd rfl (Or.inl rfl) (pe_op op_mod (pe_ix ix_list (pv 0) pe_int (fun _ _ => rfl)) (pv 1))) (pss_cons (ps_asg (pe_op op_fdiv (pe_ix ix_list (pv 0) pe_int (fun _ _ => rfl)) (pv 1)) (pg_sub (pv 0) pe_int set_list)) (pss_one (ps_ret (pv 5))))) pss_nil) (pss_cons (ps_set (i := 2) sc__law_draw.nd rfl (Or.inl rfl) (pe_ix ix_list (pv 0) pe_int (fun _ _ => rfl))) (pss_cons (ps_asg (pe_op op_add (pv 2) pe_int) (pg_sub (pv 0) pe_int set_list)) (pss_cons (ps_set (i := 3) sc__law_draw.nd rfl (Or.inl rfl) pe_int) (pss_cons (ps_if (pt_cmpR op_gt (pe_callB call_len_seq (by rfl) T.z_len (by decide +kernel) (pa_cons (pe_ix ix_list (pv 0) pe_int (fun _ _ => rfl)) pa_nil)) pe_int (nomark _)) (pss_one (ps_set (i := 3) sc__law_draw.nd rfl (Or.inl rfl) (pe_ix ix_list (pe_ix ix_list (pv 0) pe_int (fun _ _ => rfl)) (pe_op op_mod (pv 2) (pe_callB call_len_seq (by rfl) T.z_len (by decide +kernel) (pa_cons (pe_ix ix_list (pv 0) pe_int (fun _ _ => rfl)) pa_nil))) (fun _ _ => rfl)))) pss_nil) (pss_cons (ps_if (PW.pt (pw_and (pt_cmpR op_lt (pv 2) (pe_callB call_len_seq (by rfl) T.z_len (by decide +kernel) (pa_cons (pe_ix ix_list (pv 0) pe_int (fun _ _ => rfl)) pa_nil)) (nomark _)) (pw_and1 (pt_cmpR op_ge (pv 3) (pe_op op_pow pe_int pe_int) (nomark _))))) (pss_cons (ps_asg (pe_op op_fdiv (pv 3) (pv 1)) (pg_sub (pv 0) pe_int set_list)) (pss_one (ps_ret (pe_op op_mod (pv 3) (pv 1))))) pss_nil) (pss_cons (ps_set (i := 4) sc__law_draw.nd rfl (Or.inl rfl) (pe_op op_mod (pe_op op_mul (pe_op op_add (pe_op op_mod (pv 3) pe_int) pe_int) (pe_op op_add (pe_op op_add (pe_op op_mul (pv 2) (pv 2)) (pe_op op_mul pe_int (pv 2))) pe_int)) pe_int)) (pss_cons (ps_set (i := 4) sc__law_draw.nd rfl (Or.inl rfl) (pe_op op_mod (pe_op op_mul (pe_op op_mod (pe_op op_add (pe_op op_pow (pv 4) pe_int) (pe_op op_mul pe_int (pv 2))) pe_int) pe_int) pe_int)) (pss_cons (ps_if (pt_cmpR op_gt (pv 1) (pe_op op_pow pe_int pe_int) (nomark _)) (pss_one (ps_set (i := 4) sc__law_draw.nd rfl (Or.inl rfl) (pe_op op_add (pe_op op_mul (pv 4) pe_int) (pe_op op_mod (pe_op op_mul (pe_op op_mod (pv 4) pe_int) pe_int) pe_int)))) pss_nil) (pss_one (ps_ret (pe_op op_mod (pe_op op_fdiv (pv 4) pe_int) (pv 1))))))))))))), ?_⟩
  obtain ⟨⟨a, r, h1, ha0, hac, hr0⟩, h2, nb, hl⟩ := id hp
  have hm0 : (0 : Int) < many := by omega
  have fin : ∀ (v : Int) (a' r' : Int), 0 ≤ v → v < many → 0 ≤ a' → a' ≤ c + 1 → 0 ≤ r' → ∀ H', Keep p H H' → H' p = some (.lst [.ref b, .int a', .int r']) → Q (.int v) H' := fun v a' r' hv1 hv2 h3 h4 h5 H' k e =>
    q v H' hv1 hv2 k ⟨⟨a', r', e, h3, by omega, h5⟩, seqL_keep k h2 nb, nb, hl⟩
  refine ⟨_, rfl, p, _, 2, _, rfl, rfl, SqL.of h1, rfl, _, _, rfl, rfl, _, rfl, ?_⟩
  by_cases hrp : 0 < r
  · rw [decide_eq_true hrp]
    refine iteT ?_
    refine ⟨_, rfl, p, _, 2, _, rfl, rfl, SqL.of h1, rfl, _, rfl, _, _, rfl, rfl, hm0, ?_⟩
    refine ⟨_, rfl, p, _, 2, _, rfl, rfl, SqL.of h1, rfl, _, rfl, _, _, rfl, rfl, ⟨hm0, hmm⟩, _, rfl, p, _, 2, 2, rfl, rfl, h1, rfl, ?_⟩
    refine ⟨_, rfl, fin (r % many) a (r / many) (Int.emod_nonneg _ (by omega)) (Int.emod_lt_of_pos _ hm0) ha0 (by omega) (Int.ediv_nonneg hr0 (by omega)) _ Keep.pen upd_same⟩
  · rw [decide_eq_false hrp]
    refine iteF ?_
    refine ⟨_, rfl, p, _, 1, _, rfl, rfl, SqL.of h1, rfl, ?_⟩
    refine ⟨_, rfl, _, _, rfl, rfl, _, rfl, p, _, 1, 1, rfl, rfl, h1, rfl, ?_⟩
    obtain ⟨H1, hH1⟩ : ∃ H1, H1 = upd H p (.lst ([V.ref b, V.int a, V.int r].set 1 (V.int (a + 1)))) := ⟨_, rfl⟩
    rw [← hH1]
    have k1 : Keep p H H1 := by rw [hH1]; exact Keep.pen
    have e1 : H1 p = some (.lst [.ref b, .int (a + 1), .int r]) := by rw [hH1, upd_same]; rfl
    have hb1 : SqL K H1 b (ns.map V.int) := seqL_keep k1 h2 nb
    try dsimp only
    refine w_setc ?_
    try dsimp only
    refine seq_cut (fun σ' H' => H1 = H' ∧ ∃ cell : Int, σ' = [some (.ref p), some (.int many), some (.int a), some (.int cell), none, none]) (fun nx hnx => ?_) ?_
    · refine ⟨_, rfl, p, _, 0, _, rfl, rfl, SqL.of e1, rfl, b, _, rfl, .inl hb1, _, _, rfl, rfl, _, rfl, ?_⟩
      by_cases hl0 : (0 : Int) < ((ns.map V.int).length : Int)
      · rw [decide_eq_true hl0]
        rw [List.length_map] at hl0
        have hn : (a % (ns.length : Int)).toNat < ns.length := by
          have := Int.emod_lt_of_pos a hl0
          have := Int.emod_nonneg a (show (ns.length : Int) ≠ 0 by omega)
          omega
        have hz : a % ((ns.map V.int).length : Int) = ((a % (ns.length : Int)).toNat : Int) := by
          rw [List.length_map]
          exact (Int.toNat_of_nonneg (Int.emod_nonneg a (by omega))).symm
        refine iteT ?_
        refine ⟨_, rfl, p, _, 0, _, rfl, rfl, SqL.of e1, rfl, _, rfl, _, rfl, p, _, 0, _, rfl, rfl, SqL.of e1, rfl, b, _, rfl, .inl hb1, _, _, rfl, rfl, (by show (0 : Int) < _; rw [List.length_map]; exact hl0), ?_⟩
        refine ⟨b, _, _, .int (ns[(a % (ns.length : Int)).toNat]), rfl, rfl, hb1, ?_, hnx _ _ ⟨rfl, _, rfl⟩⟩
        rw [hz]
        refine atI_nat ?_
        rw [List.getElem?_map, List.getElem?_eq_getElem hn]
        rfl
      · rw [decide_eq_false hl0]
        exact iteF (hnx _ _ ⟨rfl, _, rfl⟩)
    rintro σ' H' ⟨rfl, cell, rfl⟩
    try dsimp only
    refine seq_cut (fun σ' H' => H1 = H' ∧ σ' = [some (.ref p), some (.int many), some (.int a), some (.int cell), none, none]) (fun nx hnx => ?_) ?_
    · refine ⟨_, rfl, _, rfl, p, _, 0, _, rfl, rfl, SqL.of e1, rfl, b, _, rfl, .inl hb1, _, _, rfl, rfl, _, rfl, ?_⟩
      refine ite2 (fun _ => ?_) (fun _ => iteF (hnx _ _ ⟨rfl, rfl⟩))
      refine ⟨_, rfl, _, _, rfl, rfl, ⟨by decide, by decide, by decide⟩, _, _, rfl, rfl, _, rfl, ?_⟩
      refine ite2 (fun hbig => ?_) (fun _ => hnx _ _ ⟨rfl, rfl⟩)
      have hcell : (10 : Int) ^ 18 ≤ cell := of_decide_eq_true hbig
      refine ⟨_, rfl, _, rfl, _, _, rfl, rfl, ⟨hm0, hmm⟩, _, rfl, p, _, 2, 2, rfl, rfl, e1, rfl, ?_⟩
      refine ⟨_, rfl, _, rfl, _, _, rfl, rfl, hm0, ?_⟩
      have h0 : 0 ≤ cell := Int.le_trans (by decide) hcell
      exact fin (cell % many) (a + 1) (cell / many) (Int.emod_nonneg _ (by omega)) (Int.emod_lt_of_pos _ hm0) (by omega) (by omega) (Int.ediv_nonneg h0 (by omega)) _ (k1.trans Keep.pen) upd_same
    rintro σ' H' ⟨rfl, rfl⟩
    have big : ∀ v : Int, 0 ≤ v → v < 2147483647 * 2147483647 → -(2 ^ 64 : Int) < v ∧ v < 2 ^ 64 := fun v z1 z2 => ⟨by omega, by omega⟩
    have hac2 : a ≤ 1000000 := by omega
    have c0 : 0 ≤ cell % 2147483629 := Int.emod_nonneg _ (by decide)
    have c1 : cell % 2147483629 < 2147483629 := Int.emod_lt_of_pos _ (by decide)
    refine ⟨_, rfl, _, _, rfl, rfl, (by show (0 : Int) < 2147483629; decide), _, _, rfl, rfl, _, rfl, _, rfl, _, _, rfl, rfl, .inl ⟨by omega, by omega⟩, _, rfl, _, _, rfl, rfl, .inl ⟨by decide, by decide⟩, _, _, rfl, rfl, _, _, rfl, rfl, _, _, rfl, rfl, .inl ⟨by omega, by omega⟩, _, _, rfl, rfl, (by show (0 : Int) < 2147483647; decide), ?_⟩
    obtain ⟨n1, hn1⟩ : ∃ n1, n1 = (cell % 2147483629 + 11) * (a * a + 5 * a + 3) % 2147483647 := ⟨_, rfl⟩
    try dsimp only
    rw [← hn1]
    have n10 : 0 ≤ n1 := by rw [hn1]; exact Int.emod_nonneg _ (by decide)
    have n11 : n1 < 2147483647 := by rw [hn1]; exact Int.emod_lt_of_pos _ (by decide)
    refine ⟨_, rfl, _, _, rfl, rfl, ⟨by decide, by decide, by omega⟩, _, rfl, _, _, rfl, rfl, .inl ⟨by decide, by decide⟩, _, _, rfl, rfl, _, _, rfl, rfl, (by show (0 : Int) < 2147483587; decide), ?_⟩
    obtain ⟨n2, hn2⟩ : ∃ n2, n2 = (n1 ^ (3 : Int).toNat + 69621 * a) % 2147483587 := ⟨_, rfl⟩
    try dsimp only
    rw [← hn2]
    have n20 : 0 ≤ n2 := by rw [hn2]; exact Int.emod_nonneg _ (by decide)
    have n21 : n2 < 2147483587 := by rw [hn2]; exact Int.emod_lt_of_pos _ (by decide)
    refine ⟨_, _, rfl, rfl, .inl ⟨by omega, by omega⟩, _, _, rfl, rfl, (by show (0 : Int) < 2147483399; decide), ?_⟩
    obtain ⟨n3, hn3⟩ : ∃ n3, n3 = n2 * 40692 % 2147483399 := ⟨_, rfl⟩
    try dsimp only
    rw [← hn3]
    have n30 : 0 ≤ n3 := by rw [hn3]; exact Int.emod_nonneg _ (by decide)
    have n31 : n3 < 2147483399 := by rw [hn3]; exact Int.emod_lt_of_pos _ (by decide)
    try dsimp only
    refine seq_cut (fun σ' H'' => H1 = H'' ∧ ∃ n : Int, 0 ≤ n ∧ σ' = [some (.ref p), some (.int many), some (.int a), some (.int cell), some (.int n), none]) (fun nx hnx => ?_) ?_
    · refine ⟨_, rfl, _, _, rfl, rfl, ⟨by decide, by decide, by decide⟩, _, _, rfl, rfl, _, rfl, ?_⟩
      refine ite2 (fun _ => ?_) (fun _ => hnx _ _ ⟨rfl, n3, n30, rfl⟩)
      refine ⟨_, rfl, _, _, rfl, rfl, .inl ⟨by omega, by omega⟩, _, rfl, _, _, rfl, rfl, (by show (0 : Int) < 1000003; decide), ?_⟩
      obtain ⟨n4, hn4⟩ : ∃ n4, n4 = n3 % 1000003 := ⟨_, rfl⟩
      try dsimp only
      rw [← hn4]
      have n40 : 0 ≤ n4 := by rw [hn4]; exact Int.emod_nonneg _ (by decide)
      have n41 : n4 < 1000003 := by rw [hn4]; exact Int.emod_lt_of_pos _ (by decide)
      refine ⟨_, _, rfl, rfl, .inl ⟨by omega, by omega⟩, _, _, rfl, rfl, (by show (0 : Int) < 2147483587; decide), _, _, rfl, rfl, hnx _ _ ⟨rfl, _, ?_, rfl⟩⟩
      have n50 : 0 ≤ n4 * 48271 % 2147483587 := Int.emod_nonneg _ (by decide)
      omega
    rintro σ' H'' ⟨rfl, n, hn0, rfl⟩
    refine ⟨_, rfl, _, _, rfl, rfl, ⟨by decide, by decide⟩, _, rfl, _, _, rfl, rfl, hm0, ?_⟩
    exact fin (n / 64 % many) (a + 1) r (Int.emod_nonneg _ (by omega)) (Int.emod_lt_of_pos _ hm0) (by omega) (by omega) hr0 _ k1 e1
theorem ok__law_pick (F : FnAt K mg "_law_pick" s__law_pick f fd) (T : Txt K mg A) (D : Pk8 P w K mg base) : Has P w K mg base CX0 2 "_law_pick" ["_law_pen_here", "_law_some"] (spPick K) := by
  refine ⟨f, fd, F.fn.ok sc__law_pick (fun vs H Q E h => ?_) (fun cdv A' outer s H vs Q E hr h => ?_), F.at_, F.fn.kp, F.fn.binds fun _ _ _ _ _ _ us hl => match us, hl with | [_, _], _ => rfl⟩
  · obtain ⟨p, b, l, ns, c, xs, rfl, _⟩ := h
    rfl
  obtain ⟨p, b, l, ns, c, xs, rfl, hp, hc, hs, nl, h1, h2, q⟩ := h
  refine ⟨_, (pss_one (ps_ret (pe_ix ix_list (pv 1) (pe_has D.d__law_draw (hr.mono (by decide)) (by rfl) pass0 (pa_cons (pv 0) (pa_cons (pe_callB call_len_seq (by rfl) T.z_len (by decide +kernel) (pa_cons (pv 1) pa_nil)) pa_nil))) (fun _ _ => rfl)))), ?_⟩
  refine ⟨_, rfl, _, rfl, _, rfl, l, xs, rfl, .inl hs, p, b, ns, c, (xs.length : Int), rfl, hp, hc, by omega, by omega, fun v H' v0 v1 k hp' => ?_⟩
  obtain ⟨n, rfl⟩ : ∃ n : Nat, v = (n : Int) := ⟨v.toNat, by omega⟩
  have hn : n < xs.length := by omega
  refine ⟨l, xs, _, xs[n], rfl, rfl, seqL_keep k hs nl, atI_nat (List.getElem?_eq_getElem hn), q n _ H' (List.getElem?_eq_getElem hn) k hp'⟩
end
end Ka
set_option Elab.async false
set_option linter.all false
set_option maxRecDepth 100000
set_option maxHeartbeats 4000000
namespace Ka
open PySem PySem.Spec PyProof.Rows L2 Dt
def spSpan (K : PySem.W.Frag) : Sp := fun vs H Q _ => ∃ (p b : Addr) (ns : List Int) (c : Nat), vs = [.ref p] ∧ Pen K p b ns c H ∧ c ≤ 900000 ∧
  ∀ (v : V) (x : Str) (m : Int) H', (x = "days" ∨ x = "work") → 1 ≤ m → m ≤ 30 → Dp K (core p H') v (.tuple [.str x, .int m]) → Keep p H H' → Pen K p b ns (c + 3) H' → Q v H'
structure Pk9 (P : Program) (w : World) (K : PySem.W.Frag) (mg : Str → Option Value) (base : Heap) : Prop extends Pk8 P w K mg base where
  d__law_pick : Has P w K mg base CX0 2 "_law_pick" ["_law_pen_here", "_law_some"] (spPick K)
section
variable {P : Program} {w : World} {K : PySem.W.Frag} {mg : Str → Option Value} {base : Heap} {A : Cls} {f : Addr} {fd : FuncData}
theorem ok__law_any_span (F : FnAt K mg "_law_any_span" s__law_any_span f fd) (T : Txt K mg A) (D : Pk9 P w K mg base) : Has P w K mg base CX0 3 "_law_any_span" ["_law_pen_here"] (spSpan K) := by
  refine ⟨f, fd, F.fn.ok sc__law_any_span (fun vs H Q E h => ?_) (fun cdv A outer s H vs Q E hr h => ?_), F.at_, F.fn.kp, F.fn.binds fun _ _ _ _ _ _ us hl => match us, hl with | [_], _ => rfl⟩
  · obtain ⟨p, b, ns, c, rfl, _⟩ := h
    rfl
  obtain ⟨p, b, ns, c, rfl, hp, hc, q⟩ := h
  refine ⟨_, (pss_one (ps_ret (pe_tup (pa_cons (pe_has D.d__law_pick (hr.mono (by decide)) (by rfl) pass0 (pa_cons (pv 0) (pa_cons (pe_lst (pa_cons pe_str (pa_cons pe_str pa_nil))) pa_nil))) (pa_cons (pe_has D.d__law_pick (hr.mono (by decide)) (by rfl) pass0 (pa_cons (pv 0) (pa_cons (pe_lst (pa_cons pe_int (pa_cons pe_int (pa_cons pe_int (pa_cons (pe_op op_add pe_int (pe_has D.d__law_draw (hr.mono (by decide)) (by rfl) pass0 (pa_cons (pv 0) (pa_cons pe_int pa_nil)))) pa_nil))))) pa_nil))) pa_nil))))), ?_⟩
  refine ⟨_, rfl, by show 2 ≤ sizeLine; decide, fun l1 h1 => ?_⟩
  have p1 := hp.new (o := .lst [.str "days", .str "work"]) h1
  refine ⟨p, b, l1, ns, c, [.str "days", .str "work"], rfl, p1, by omega, SqL.of upd_same, hp.off h1, by decide, by decide, fun i v H2 hv k2 p2 => ?_⟩
  obtain ⟨x, rfl, hx⟩ : ∃ x : Str, v = .str x ∧ (x = "days" ∨ x = "work") := by
    match i, hv with
    | 0, hv => exact ⟨_, (Option.some.inj hv).symm, .inl rfl⟩
    | 1, hv => exact ⟨_, (Option.some.inj hv).symm, .inr rfl⟩
    | i + 2, hv => simp at hv
  refine ⟨_, rfl, _, rfl, p, b, ns, c + 1, 30, rfl, p2, by omega, by decide, by decide, fun n H3 n0 n1 k3 p3 => ?_⟩
  refine ⟨_, _, rfl, rfl, by show 4 ≤ sizeLine; decide, fun l4 h4 => ?_⟩
  have p4 := p3.new (o := .lst [.int 1, .int 2, .int 30, .int (1 + n)]) h4
  refine ⟨p, b, l4, ns, c + 2, [.int 1, .int 2, .int 30, .int (1 + n)], rfl, p4, by omega, SqL.of upd_same, p3.off h4, (by show 1 ≤ 4; decide), (by show 4 ≤ 1000000; decide), fun i2 v2 H5 hv2 k5 p5 => ?_⟩
  obtain ⟨m, rfl, hm1, hm2⟩ : ∃ m : Int, v2 = .int m ∧ 1 ≤ m ∧ m ≤ 30 := by
    match i2, hv2 with
    | 0, hv => exact ⟨_, (Option.some.inj hv).symm, by decide, by decide⟩
    | 1, hv => exact ⟨_, (Option.some.inj hv).symm, by decide, by decide⟩
    | 2, hv => exact ⟨_, (Option.some.inj hv).symm, by decide, by decide⟩
    | 3, hv => exact ⟨_, (Option.some.inj hv).symm, by omega, by omega⟩
    | i + 4, hv => simp at hv
  refine ⟨by show 2 ≤ sizeLine; decide, fun t ht => ?_⟩
  have kt : Keep p H (upd H5 t (.tup [.str x, .int m])) := (Keep.new h1).trans (k2.trans (k3.trans ((Keep.new h4).trans (k5.trans (Keep.new ht)))))
  refine q _ x m _ hx hm1 hm2 (.tup (SqT.of (core_of upd_same (p5.off ht) (fun ps z => nomatch z))) (.cons (.str _) (.cons (.int _) .nil))) kt (p5.new ht)
end
end Ka
set_option Elab.async false
set_option linter.all false
set_option maxRecDepth 100000
set_option maxHeartbeats 4000000
namespace Ka
open PySem PySem.Spec PyProof.Rows L2 Dt
/-- the numbers of a drawn rest -/
structure RestN (wd hd : List Int) : Prop where
  w1 : wd.Pairwise (· < ·)
  w2 : ∀ x ∈ wd, 0 ≤ x ∧ x ≤ 6
  w3 : wd.length ≤ 4
  h1 : hd.Pairwise (· < ·)
  h2 : ∀ x ∈ hd, 0 ≤ x ∧ x ≤ 3000
  h3 : hd.length ≤ 20
def spLRest (K : PySem.W.Frag) : Sp := fun vs H Q _ => ∃ (p b : Addr) (ns : List Int) (c : Nat), vs = [.ref p] ∧ Pen K p b ns c H ∧ c ≤ 900000 ∧
  ∀ (v : V) (wd hd : List Int) H', RestN wd hd → Dp K (core p H') v (restOf wd hd) → Keep p H H' → Pen K p b ns (c + 40) H' → Q v H'
theorem dpAll_of_ints {K : PySem.W.Frag} {H : Hp} {p : Addr} {ns : List Int} (h : SqT K H p (ns.map V.int)) : Dp K H (.ref p) (intsD ns) := .tup h (dpAll_ints ns)
section
variable {P : Program} {w : World} {K : PySem.W.Frag} {mg : Str → Option Value} {base : Heap} {A : Cls} {f : Addr} {fd : FuncData}
theorem ok__law_rest (F : FnAt K mg "_law_rest" s__law_rest f fd) (T : Txt K mg A) (D : Pk9 P w K mg base) : Has P w K mg base CX0 3 "_law_rest" ["_law_pen_here"] (spLRest K) := by
  refine ⟨f, fd, F.fn.ok sc__law_rest (fun vs H Q E h => ?_) (fun cdv A outer s H vs Q E hr h => ?_), F.at_, F.fn.kp, F.fn.binds fun _ _ _ _ _ _ us hl => match us, hl with | [_], _ => rfl⟩
  · obtain ⟨p, b, ns, c, rfl, _⟩ := h
    rfl
  obtain ⟨p, b, ns, c, rfl, hp, hc, q⟩ := h
  refine ⟨_, (pss_cons (ps_set (i := 1) sc__law_rest.nd rfl (Or.inl rfl) (pe_callB (cr_sortedSet rfl) (by rfl) T.z_sorted (by decide +kernel) (pa_cons (pe_callTy (call_setL rfl) (by rfl) T.z_set (by decide +kernel) (pa_cons (pe_lc (own := [("_law_k", 2)]) (g := gName 2) (tt := tYes) (by rfl) sc__law_rest.nd (pi_range1 (by rfl) T.z_range (pa_cons (pe_has D.d__law_draw (hr.mono (by decide)) (by rfl) pass0 (pa_cons (pv 0) (pa_cons pe_int pa_nil))) pa_nil)) (blkOk_by (own := [("_law_k", 2)]) (N := ["_law_pen_here", "_law_weekdays", "_law_k", "_law_first", "_law_holidays"]) (sc := defScope s__law_rest) (by decide +kernel)) (fun _ _ _ _ _ => (pg_name (i := 2) sc__law_rest.nd rfl (Or.inl rfl))) (fun _ _ _ _ _ => pts_nil) (fun _ _ _ _ _ => (pe_has D.d__law_draw (hr.mono (by decide)) (by rfl) pass0 (pa_cons (pv 0) (pa_cons pe_int pa_nil))))) pa_nil)) pa_nil))) (pss_cons (ps_par (i := 3) (j := 4) (by rfl) sc__law_rest.nd rfl rfl (by decide) rfl rfl (pa_cons (pe_has D.d__law_pick (hr.mono (by decide)) (by rfl) pass0 (pa_cons (pv 0) (pa_cons (pe_lst (pa_cons pe_int (pa_cons pe_int (pa_cons (pe_has D.d__law_draw (hr.mono (by decide)) (by rfl) pass0 (pa_cons (pv 0) (pa_cons pe_int pa_nil))) (pa_cons (pe_has D.d__law_draw (hr.mono (by decide)) (by rfl) pass0 (pa_cons (pv 0) (pa_cons pe_int pa_nil))) (pa_cons pe_int pa_nil)))))) pa_nil))) (pa_cons (pe_lst pa_nil) pa_nil)) (by rfl)) (pss_cons (ps_for PassesOwn.never rfl (pi_range1 (by rfl) T.z_range (pa_cons (pe_has D.d__law_pick (hr.mono (by decide)) (by rfl) pass0 (pa_cons (pv 0) (pa_cons (pe_lst (pa_cons pe_int (pa_cons pe_int (pa_cons pe_int (pa_cons pe_int pa_nil))))) pa_nil))) pa_nil)) (pg_name (i := 2) sc__law_rest.nd rfl (Or.inl rfl)) (pss_cons (ps_expr (pe_bm PySem.F.plainAttrs_list PySem.F.slot_list_append PySem.F.type_list_append mt_append (pv 4) (pa_cons (pe_callB (call_min2 rfl) (by rfl) T.z_min (by decide +kernel) (pa_cons pe_int (pa_cons (pv 3) pa_nil))) pa_nil))) (pss_one (ps_set (i := 3) sc__law_rest.nd rfl (Or.inl rfl) (pe_op op_add (pe_op op_add (pv 3) pe_int) (pe_has D.d__law_draw (hr.mono (by decide)) (by rfl) pass0 (pa_cons (pv 0) (pa_cons pe_int pa_nil)))))))) (pss_one (ps_ret (pe_tup (pa_cons (pe_callTy call_tuple_of (by rfl) T.z_tuple (by decide +kernel) (pa_cons (pv 1) pa_nil)) (pa_cons (pe_callTy call_tuple_of (by rfl) T.z_tuple (by decide +kernel) (pa_cons (pe_callB (cr_sortedSet rfl) (by rfl) T.z_sorted (by decide +kernel) (pa_cons (pe_callTy (call_setL rfl) (by rfl) T.z_set (by decide +kernel) (pa_cons (pv 4) pa_nil)) pa_nil)) pa_nil)) pa_nil)))))))), ?_⟩
  refine ⟨_, rfl, p, b, ns, c, 5, rfl, hp, by omega, by decide, by decide, fun n H1 n0 n1 k1 p1 => ?_⟩
  refine ⟨n, rfl, by omega, by omega, fun L hL => ?_⟩
  have nL : L ≠ p := p1.off hL
  refine lc_range (lo := 0) (n := n.toNat) (fun i H' => ∃ l : List Int, H' L = some (.lst (l.map V.int)) ∧ l.length = i ∧ (∀ x ∈ l, 0 ≤ x ∧ x ≤ 6) ∧ Keep p H1 H' ∧ Pen K p b ns (c + 1 + i) H') ⟨[], upd_same, rfl, (fun _ h => by cases h), Keep.new hL, p1.new hL⟩ ?_ ?_
  · rintro i H2 hi ⟨l, e1, e2, e3, k2, p2⟩
    refine ⟨rfl, ?_⟩
    refine w_yes ?_
    refine ⟨_, rfl, p, b, ns, c + 1 + i, 7, rfl, p2, by omega, by decide, by decide, fun v H3 v0 v1 k3 p3 => ?_⟩
    refine ⟨_, k3 _ _ nL e1, by rw [List.length_map]; exact small1000 (by omega), l ++ [v], by rw [upd_same, List.map_append]; rfl, by rw [List.length_append, e2]; rfl, fun x hx => ?_, (k2.trans k3).mut hL, ?_⟩
    · rcases List.mem_append.mp hx with z | z
      · exact e3 x z
      · rw [List.mem_singleton.mp z]
        exact ⟨v0, by omega⟩
    · exact p3.mut p1 (k2.trans k3) hL
  · rintro H2 ⟨l, e1, e2, e3, k2, p2⟩
    refine ⟨L, l, rfl, SqL.of e1, by omega, fun S m hS hm => ?_⟩
    have pS := p2.new (o := SetO w S (fun j => decide (j ∈ l)) m) hS
    refine ⟨S, _, m, rfl, upd_same, by omega, fun wd W hw1 hw2 hw3 hW => ?_⟩
    have pW := pS.new (o := .lst (wd.map V.int)) hW
    have kW : Keep p H (upd (upd H2 S (SetO w S (fun j => decide (j ∈ l)) m)) W (.lst (wd.map V.int))) := k1.trans (k2.trans ((Keep.new hS).trans (Keep.new hW)))
    have nW : W ≠ p := pS.off hW
    have wd2 : ∀ x ∈ wd, 0 ≤ x ∧ x ≤ 6 := fun x hx => e3 x (of_decide_eq_true ((hw2 x).mp hx))
    have eW : (upd (upd H2 S (SetO w S (fun j => decide (j ∈ l)) m)) W (.lst (wd.map V.int))) W = some (.lst (wd.map V.int)) := upd_same
    refine ⟨_, rfl, _, rfl, p, b, ns, c + 1 + n.toNat, 60, rfl, pW, by omega, by decide, by decide, fun v3 H3 v30 v31 k3 p3 => ?_⟩
    refine ⟨_, rfl, p, b, ns, c + 1 + n.toNat + 1, 3001, rfl, p3, by omega, by decide, by decide, fun v4 H4 v40 v41 k4 p4 => ?_⟩
    refine ⟨by show 5 ≤ sizeLine; decide, fun l5 h5 => ?_⟩
    have p5 := p4.new (o := .lst [.int 0, .int 1, .int v3, .int v4, .int 2970]) h5
    refine ⟨p, b, l5, ns, _, [.int 0, .int 1, .int v3, .int v4, .int 2970], rfl, p5, by omega, SqL.of upd_same, p4.off h5, (by show 1 ≤ 5; decide), (by show 5 ≤ 1000000; decide), fun i6 v6 H6 hv6 k6 p6 => ?_⟩
    obtain ⟨first, rfl, hf0⟩ : ∃ m : Int, v6 = .int m ∧ 0 ≤ m := by
      match i6, hv6 with
      | 0, hv => exact ⟨_, (Option.some.inj hv).symm, by decide⟩
      | 1, hv => exact ⟨_, (Option.some.inj hv).symm, by decide⟩
      | 2, hv => exact ⟨_, (Option.some.inj hv).symm, v30⟩
      | 3, hv => exact ⟨_, (Option.some.inj hv).symm, v40⟩
      | 4, hv => exact ⟨_, (Option.some.inj hv).symm, by decide⟩
      | i + 5, hv => simp at hv
    refine ⟨Nat.zero_le _, fun G hG => ?_⟩
    refine ⟨_, _, rfl, ?_⟩
    have k06 := k3.trans (k4.trans ((Keep.new h5).trans k6))
    have nG : G ≠ p := p6.off hG
    have p7 := p6.new (o := .lst []) hG
    refine ⟨_, rfl, by show 4 ≤ sizeLine; decide, fun l8 h8 => ?_⟩
    have p8 := p7.new (o := .lst [.int 0, .int 1, .int 3, .int 20]) h8
    have hG8 : l8 ≠ G := fresh_ne upd_same h8
    refine ⟨p, b, l8, ns, _, [.int 0, .int 1, .int 3, .int 20], rfl, p8, by omega, SqL.of upd_same, p7.off h8, (by show 1 ≤ 4; decide), (by show 4 ≤ 1000000; decide), fun i9 v9 H9 hv9 k9 p9 => ?_⟩
    obtain ⟨many, rfl, hm0, hm1⟩ : ∃ m : Int, v9 = .int m ∧ 0 ≤ m ∧ m ≤ 20 := by
      match i9, hv9 with
      | 0, hv => exact ⟨_, (Option.some.inj hv).symm, by decide, by decide⟩
      | 1, hv => exact ⟨_, (Option.some.inj hv).symm, by decide, by decide⟩
      | 2, hv => exact ⟨_, (Option.some.inj hv).symm, by decide, by decide⟩
      | 3, hv => exact ⟨_, (Option.some.inj hv).symm, by decide, by decide⟩
      | i + 4, hv => simp at hv
    have eG9 : H9 G = some (.lst []) := k9 _ _ nG (by rw [upd_ne hG8.symm]; exact upd_same)
    have k69 : Keep p H6 H9 := ((Keep.new hG).trans (Keep.new h8)).trans k9
    refine ⟨many, rfl, by omega, by omega, ?_⟩
    refine for_range (lo := 0) (n := many.toNat) (fun i σ H' => ∃ (g : Int) (l : List Int) (kv : Option V), σ = [some (.ref p), some (.ref W), kv, some (.int g), some (.ref G)] ∧ 0 ≤ g ∧ H' G = some (.lst (l.map V.int)) ∧ l.length = i ∧ (∀ x ∈ l, 0 ≤ x ∧ x ≤ 3000) ∧ Keep p H6 H' ∧ Pen K p b ns (c + 1 + n.toNat + 4 + i) H')
      ⟨first, [], _, rfl, hf0, eG9, rfl, (fun _ h => by cases h), k69, p9⟩ ?_ ?_
    · rintro i σ H10 hi ⟨g, l, kv, rfl, hg, e10, el, hl, k10, p10⟩
      refine ⟨_, rfl, .inl ⟨rfl, _, SqL.of e10⟩, _, rfl, 3000, g, rfl, G, _, _, rfl, rfl, e10, ?_, ?_⟩
      · rw [List.length_map]
        exact small1000 (by omega)
      have k11 : Keep p H6 (upd H10 G (.lst (l.map V.int ++ [.int (if g < 3000 then g else 3000)]))) := k10.mut hG
      have p11 := p10.mut (o := .lst (l.map V.int ++ [.int (if g < 3000 then g else 3000)])) p6 k10 hG
      refine ⟨_, rfl, _, _, rfl, rfl, _, rfl, p, b, ns, _, 3, rfl, p11, by omega, by decide, by decide, fun v12 H12 v120 v121 k12 p12 => ?_⟩
      refine ⟨_, _, rfl, rfl, g + 1 + v12, l ++ [if g < 3000 then g else 3000], _, rfl, by omega, ?_, by rw [List.length_append, el]; rfl, fun x hx => ?_, k11.trans k12, p12⟩
      · rw [k12 _ _ nG upd_same, List.map_append]
        rfl
      · rcases List.mem_append.mp hx with z | z
        · exact hl x z
        · rw [List.mem_singleton.mp z]
          split <;> omega
    · rintro σ H10 ⟨g, l, kv, rfl, hg, e10, el, hl, k10, p10⟩
      have eW10 : H10 W = some (.lst (wd.map V.int)) := (k06.trans k10) _ _ nW eW
      refine ⟨_, rfl, W, _, rfl, .inl ⟨SqL.of eW10, fun t1 ht1 => ?_⟩⟩
      have nGt : G ≠ t1 := ne_of_none e10 ht1
      refine ⟨_, rfl, G, l, rfl, SqL.of (by rw [upd_ne nGt]; exact e10), by omega, fun S2 m2 hS2 hm2 => ?_⟩
      refine ⟨S2, _, m2, rfl, upd_same, by omega, fun hdn W2 hh1 hh2 hh3 hW2 => ?_⟩
      refine ⟨W2, _, rfl, .inl ⟨SqL.of upd_same, fun t2 ht2 => ?_⟩⟩
      refine ⟨by show 2 ≤ sizeLine; decide, fun t3 ht3 => ?_⟩
      have p13 := (((((p10.new (o := .tup (wd.map V.int)) ht1).new (o := SetO w S2 (fun j => decide (j ∈ l)) m2) hS2).new (o := .lst (hdn.map V.int)) hW2).new (o := .tup (hdn.map V.int)) ht2).new (o := .tup [.ref t1, .ref t2]) ht3)
      have k13 := ((((Keep.new (p := p) (o := .tup (wd.map V.int)) ht1).trans (Keep.new (o := SetO w S2 (fun j => decide (j ∈ l)) m2) hS2)).trans (Keep.new (o := .lst (hdn.map V.int)) hW2)).trans (Keep.new (o := .tup (hdn.map V.int)) ht2)).trans (Keep.new (o := .tup [.ref t1, .ref t2]) ht3)
      have hd2 : ∀ x ∈ hdn, 0 ≤ x ∧ x ≤ 3000 := fun x hx => hl x (of_decide_eq_true ((hh2 x).mp hx))
      refine q _ wd hdn _ ⟨hw1, wd2, by omega, hh1, hd2, by omega⟩ ?_ (kW.trans (k06.trans (k10.trans k13))) (p13.mono (by omega))
      have nt1 : t1 ≠ p := p10.off ht1
      have nt2 : t2 ≠ p := (((p10.new (o := .tup (wd.map V.int)) ht1).new (o := SetO w S2 (fun j => decide (j ∈ l)) m2) hS2).new (o := .lst (hdn.map V.int)) hW2).off ht2
      have nt3 : t3 ≠ p := ((((p10.new (o := .tup (wd.map V.int)) ht1).new (o := SetO w S2 (fun j => decide (j ∈ l)) m2) hS2).new (o := .lst (hdn.map V.int)) hW2).new (o := .tup (hdn.map V.int)) ht2).off ht3
      have e1' : core p (upd (upd (upd (upd (upd H10 t1 (.tup (wd.map V.int))) S2 (SetO w S2 (fun j => decide (j ∈ l)) m2)) W2 (.lst (hdn.map V.int))) t2 (.tup (hdn.map V.int))) t3 (.tup [.ref t1, .ref t2])) t1 = some (.tup (wd.map V.int)) :=
        core_of ((same_new ht3) _ _ ((same_new ht2) _ _ ((same_new hW2) _ _ ((same_new hS2) _ _ upd_same)))) nt1 (fun ps z => nomatch z)
      have e2' : core p (upd (upd (upd (upd (upd H10 t1 (.tup (wd.map V.int))) S2 (SetO w S2 (fun j => decide (j ∈ l)) m2)) W2 (.lst (hdn.map V.int))) t2 (.tup (hdn.map V.int))) t3 (.tup [.ref t1, .ref t2])) t2 = some (.tup (hdn.map V.int)) :=
        core_of ((same_new ht3) _ _ upd_same) nt2 (fun ps z => nomatch z)
      exact .tup (SqT.of (core_of upd_same nt3 (fun ps z => nomatch z))) (.cons (dpAll_of_ints (SqT.of e1')) (.cons (dpAll_of_ints (SqT.of e2')) .nil))
end
end Ka
set_option Elab.async false
set_option linter.all false
set_option maxRecDepth 100000
set_option maxHeartbeats 4000000
namespace Ka
open PySem PySem.Spec PyProof.Rows L2 Dt
/-- an error of the class C, the j-th of them, as the law looks at it -/
structure ErrW (K : PySem.W.Frag) (A : Cls) (C : Addr) (j : Nat) (bD bV bK bI bL bR bT : Bool) : Prop where
  ex : ExcC K C
  k_NoSpan : PySem.W.kitOne K (.ref C) (.ref A.NoSpan) = some (decide (0 = j))
  k_NoRest : PySem.W.kitOne K (.ref C) (.ref A.NoRest) = some (decide (1 = j))
  k_NoAgreement : PySem.W.kitOne K (.ref C) (.ref A.NoAgreement) = some (decide (2 = j))
  k_NoText : PySem.W.kitOne K (.ref C) (.ref A.NoText) = some (decide (3 = j))
  k_NoLetters : PySem.W.kitOne K (.ref C) (.ref A.NoLetters) = some (decide (4 = j))
  k_NoLetter : PySem.W.kitOne K (.ref C) (.ref A.NoLetter) = some (decide (5 = j))
  k_NoCondition : PySem.W.kitOne K (.ref C) (.ref A.NoCondition) = some (decide (6 = j))
  k_NoHappening : PySem.W.kitOne K (.ref C) (.ref A.NoHappening) = some (decide (7 = j))
  k_NoVersions : PySem.W.kitOne K (.ref C) (.ref A.NoVersions) = some (decide (8 = j))
  k_NoOpen : PySem.W.kitOne K (.ref C) (.ref A.NoOpen) = some (decide (9 = j))
  k_Open : PySem.W.kitOne K (.ref C) (.ref A.Open) = some (decide (10 = j))
  k_Withdrawn : PySem.W.kitOne K (.ref C) (.ref A.Withdrawn) = some (decide (11 = j))
  k_NoDeed : PySem.W.kitOne K (.ref C) (.ref A.NoDeed) = some (decide (12 = j))
  k_HasCoins : PySem.W.kitOne K (.ref C) (.ref A.HasCoins) = some (decide (13 = j))
  k_OtherParties : PySem.W.kitOne K (.ref C) (.ref A.OtherParties) = some (decide (14 = j))
  k_TooWide : PySem.W.kitOne K (.ref C) (.ref A.TooWide) = some (decide (15 = j))
  k_NoLetterThere : PySem.W.kitOne K (.ref C) (.ref A.NoLetterThere) = some (decide (16 = j))
  k_NoClause : PySem.W.kitOne K (.ref C) (.ref A.NoClause) = some (decide (17 = j))
  k_NoDay : PySem.W.kitOne K (.ref C) (.ref A.NoDay) = some (decide (18 = j))
  k_NothingDone : PySem.W.kitOne K (.ref C) (.ref A.NothingDone) = some (decide (19 = j))
  k_Twice : PySem.W.kitOne K (.ref C) (.ref A.Twice) = some (decide (20 = j))
  kbD : PySem.W.kitOne K (.ref C) (.ref A.DealError) = some bD
  kbV : PySem.W.kitOne K (.ref C) (.type "ValueError") = some bV
  kbK : PySem.W.kitOne K (.ref C) (.type "KeyError") = some bK
  kbI : PySem.W.kitOne K (.ref C) (.type "IndexError") = some bI
  kbL : PySem.W.kitOne K (.ref C) (.type "LookupError") = some bL
  kbR : PySem.W.kitOne K (.ref C) (.type "RuntimeError") = some bR
  kbT : PySem.W.kitAny K (.ref C) [.type "KeyError", .type "IndexError"] = some bT
/-- the names of the classes -/
structure TxtW (K : PySem.W.Frag) (mg : Str → Option Value) (A : Cls) : Prop extends Txt K mg A where
  c_NoSpan : mg "NoSpan" = some (.ref A.NoSpan)
  c_NoRest : mg "NoRest" = some (.ref A.NoRest)
  c_NoAgreement : mg "NoAgreement" = some (.ref A.NoAgreement)
  c_NoText : mg "NoText" = some (.ref A.NoText)
  c_NoLetters : mg "NoLetters" = some (.ref A.NoLetters)
  c_NoLetter : mg "NoLetter" = some (.ref A.NoLetter)
  c_NoCondition : mg "NoCondition" = some (.ref A.NoCondition)
  c_NoHappening : mg "NoHappening" = some (.ref A.NoHappening)
  c_NoVersions : mg "NoVersions" = some (.ref A.NoVersions)
  c_NoOpen : mg "NoOpen" = some (.ref A.NoOpen)
  c_Open : mg "Open" = some (.ref A.Open)
  c_Withdrawn : mg "Withdrawn" = some (.ref A.Withdrawn)
  c_NoDeed : mg "NoDeed" = some (.ref A.NoDeed)
  c_HasCoins : mg "HasCoins" = some (.ref A.HasCoins)
  c_OtherParties : mg "OtherParties" = some (.ref A.OtherParties)
  c_TooWide : mg "TooWide" = some (.ref A.TooWide)
  c_NoLetterThere : mg "NoLetterThere" = some (.ref A.NoLetterThere)
  c_NoClause : mg "NoClause" = some (.ref A.NoClause)
  c_NoDay : mg "NoDay" = some (.ref A.NoDay)
  c_NothingDone : mg "NothingDone" = some (.ref A.NothingDone)
  c_Twice : mg "Twice" = some (.ref A.Twice)
  c_DealError : mg "DealError" = some (.ref A.DealError)
def WordOk (K : PySem.W.Frag) (A : Cls) (C : Addr) (x : Str) : Prop := (x = "day" ∧ ErrW K A C 18 false false false true true false true) ∨ (x = "span" ∧ ErrW K A C 0 true true false false false false false) ∨ (x = "rest" ∧ ErrW K A C 1 true true false false false false false)
def spWord (K : PySem.W.Frag) (A : Cls) : Sp := fun vs H Q _ => ∃ (a C : Addr) (x : Str), vs = [.ref a] ∧ H a = some (ErrO C a) ∧ WordOk K A C x ∧ ∀ H', Same H H' → Q (.str x) H'
theorem idx_first {ys : List V} {y : V} {j : Nat} (h : (ys.take j).all (fun z => !eqV z y) = true) : ∀ (m : Nat) (z : V), m < j → ys[m]? = some z → eqV z y = false := fun m z hm hz => by
  have q := List.all_eq_true.mp h z (List.mem_of_getElem? (by rw [List.getElem?_take_of_lt hm]; exact hz))
  simpa using q
section
variable {P : Program} {w : World} {K : PySem.W.Frag} {mg : Str → Option Value} {base : Heap} {A : Cls} {f : Addr} {fd : FuncData}
theorem ok__law_word (F : FnAt K mg "_law_word" s__law_word f fd) (T : TxtW K mg A) : Has P w K mg base CX0 1 "_law_word" ["_law_e"] (spWord K A) := by
  refine ⟨f, fd, F.fn.ok sc__law_word (fun vs H Q E h => ?_) (fun cdv A' outer s H vs Q E hr h => ?_), F.at_, F.fn.kp, F.fn.binds fun _ _ _ _ _ _ us hl => match us, hl with | [_], _ => rfl⟩
  · obtain ⟨a, C, x, rfl, _⟩ := h
    rfl
  obtain ⟨a, C, x, rfl, ha, hw, q⟩ := h
  refine ⟨_, (pss_cons (ps_set (i := 1) sc__law_word.nd rfl (Or.inl rfl) (pe_lst (pa_cons pe_str (pa_cons pe_str (pa_cons pe_str (pa_cons pe_str (pa_cons pe_str (pa_cons pe_str (pa_cons pe_str (pa_cons pe_str (pa_cons pe_str (pa_cons pe_str pa_nil)))))))))))) (pss_cons (ps_set (i := 1) sc__law_word.nd rfl (Or.inl rfl) (pe_op op_cat (pv 1) (pe_lst (pa_cons pe_str (pa_cons pe_str (pa_cons pe_str (pa_cons pe_str (pa_cons pe_str (pa_cons pe_str (pa_cons pe_str (pa_cons pe_str (pa_cons pe_str (pa_cons pe_str pa_nil))))))))))))) (pss_cons (ps_expr (pe_bm PySem.F.plainAttrs_list PySem.F.slot_list_append PySem.F.type_list_append mt_append (pv 1) (pa_cons pe_str pa_nil))) (pss_cons (ps_set (i := 2) sc__law_word.nd rfl (Or.inl rfl) (pe_lst (pa_cons (pe_callB call_isK (by rfl) T.z_isinstance (by decide +kernel) (pa_cons (pv 0) (pa_cons (pe_glob (v := .ref A.NoSpan) rfl T.c_NoSpan rfl) pa_nil))) (pa_cons (pe_callB call_isK (by rfl) T.z_isinstance (by decide +kernel) (pa_cons (pv 0) (pa_cons (pe_glob (v := .ref A.NoRest) rfl T.c_NoRest rfl) pa_nil))) (pa_cons (pe_callB call_isK (by rfl) T.z_isinstance (by decide +kernel) (pa_cons (pv 0) (pa_cons (pe_glob (v := .ref A.NoAgreement) rfl T.c_NoAgreement rfl) pa_nil))) (pa_cons (pe_callB call_isK (by rfl) T.z_isinstance (by decide +kernel) (pa_cons (pv 0) (pa_cons (pe_glob (v := .ref A.NoText) rfl T.c_NoText rfl) pa_nil))) pa_nil)))))) (pss_cons (ps_set (i := 2) sc__law_word.nd rfl (Or.inl rfl) (pe_op op_cat (pv 2) (pe_lst (pa_cons (pe_callB call_isK (by rfl) T.z_isinstance (by decide +kernel) (pa_cons (pv 0) (pa_cons (pe_glob (v := .ref A.NoLetters) rfl T.c_NoLetters rfl) pa_nil))) (pa_cons (pe_callB call_isK (by rfl) T.z_isinstance (by decide +kernel) (pa_cons (pv 0) (pa_cons (pe_glob (v := .ref A.NoLetter) rfl T.c_NoLetter rfl) pa_nil))) (pa_cons (pe_callB call_isK (by rfl) T.z_isinstance (by decide +kernel) (pa_cons (pv 0) (pa_cons (pe_glob (v := .ref A.NoCondition) rfl T.c_NoCondition rfl) pa_nil))) pa_nil)))))) (pss_cons (ps_set (i := 2) sc__law_word.nd rfl (Or.inl rfl) (pe_op op_cat (pv 2) (pe_lst (pa_cons (pe_callB call_isK (by rfl) T.z_isinstance (by decide +kernel) (pa_cons (pv 0) (pa_cons (pe_glob (v := .ref A.NoHappening) rfl T.c_NoHappening rfl) pa_nil))) (pa_cons (pe_callB call_isK (by rfl) T.z_isinstance (by decide +kernel) (pa_cons (pv 0) (pa_cons (pe_glob (v := .ref A.NoVersions) rfl T.c_NoVersions rfl) pa_nil))) (pa_cons (pe_callB call_isK (by rfl) T.z_isinstance (by decide +kernel) (pa_cons (pv 0) (pa_cons (pe_glob (v := .ref A.NoOpen) rfl T.c_NoOpen rfl) pa_nil))) (pa_cons (pe_callB call_isK (by rfl) T.z_isinstance (by decide +kernel) (pa_cons (pv 0) (pa_cons (pe_glob (v := .ref A.Open) rfl T.c_Open rfl) pa_nil))) pa_nil))))))) (pss_cons (ps_set (i := 2) sc__law_word.nd rfl (Or.inl rfl) (pe_op op_cat (pv 2) (pe_lst (pa_cons (pe_callB call_isK (by rfl) T.z_isinstance (by decide +kernel) (pa_cons (pv 0) (pa_cons (pe_glob (v := .ref A.Withdrawn) rfl T.c_Withdrawn rfl) pa_nil))) (pa_cons (pe_callB call_isK (by rfl) T.z_isinstance (by decide +kernel) (pa_cons (pv 0) (pa_cons (pe_glob (v := .ref A.NoDeed) rfl T.c_NoDeed rfl) pa_nil))) (pa_cons (pe_callB call_isK (by rfl) T.z_isinstance (by decide +kernel) (pa_cons (pv 0) (pa_cons (pe_glob (v := .ref A.HasCoins) rfl T.c_HasCoins rfl) pa_nil))) pa_nil)))))) (pss_cons (ps_set (i := 2) sc__law_word.nd rfl (Or.inl rfl) (pe_op op_cat (pv 2) (pe_lst (pa_cons (pe_callB call_isK (by rfl) T.z_isinstance (by decide +kernel) (pa_cons (pv 0) (pa_cons (pe_glob (v := .ref A.OtherParties) rfl T.c_OtherParties rfl) pa_nil))) (pa_cons (pe_callB call_isK (by rfl) T.z_isinstance (by decide +kernel) (pa_cons (pv 0) (pa_cons (pe_glob (v := .ref A.TooWide) rfl T.c_TooWide rfl) pa_nil))) (pa_cons (pe_callB call_isK (by rfl) T.z_isinstance (by decide +kernel) (pa_cons (pv 0) (pa_cons (pe_glob (v := .ref A.NoLetterThere) rfl T.c_NoLetterThere rfl) pa_nil))) pa_nil)))))) (pss_cons (ps_set (i := 2) sc__law_word.nd rfl (Or.inl rfl) (pe_op op_cat (pv 2) (pe_lst (pa_cons (pe_callB call_isK (by rfl) T.z_isinstance (by decide +kernel) (pa_cons (pv 0) (pa_cons (pe_glob (v := .ref A.NoClause) rfl T.c_NoClause rfl) pa_nil))) (pa_cons (pe_callB call_isK (by rfl) T.z_isinstance (by decide +kernel) (pa_cons (pv 0) (pa_cons (pe_glob (v := .ref A.NoDay) rfl T.c_NoDay rfl) pa_nil))) (pa_cons (pe_callB call_isK (by rfl) T.z_isinstance (by decide +kernel) (pa_cons (pv 0) (pa_cons (pe_glob (v := .ref A.NothingDone) rfl T.c_NothingDone rfl) pa_nil))) (pa_cons (pe_callB call_isK (by rfl) T.z_isinstance (by decide +kernel) (pa_cons (pv 0) (pa_cons (pe_glob (v := .ref A.Twice) rfl T.c_Twice rfl) pa_nil))) pa_nil))))))) (pss_cons (ps_if (pt_cmpR op_ne (pe_bm PySem.F.plainAttrs_list PySem.F.slot_list_count PySem.F.type_list_count mt_countF (pv 2) (pa_cons pe_bl pa_nil)) pe_int (nomark _)) (pss_one (ps_ret pe_str)) pss_nil) (pss_cons (ps_set (i := 3) sc__law_word.nd rfl (Or.inl rfl) (pe_bm PySem.F.plainAttrs_list PySem.F.slot_list_index PySem.F.type_list_index mt_index (pv 2) (pa_cons pe_bl pa_nil))) (pss_cons (ps_if (pt_cmpR op_lt (pv 3) pe_int (nomark _)) (pss_one (ps_ret (pe_ifExp (PW.pt (pw_and (pt_val (pe_callB call_isK (by rfl) T.z_isinstance (by decide +kernel) (pa_cons (pv 0) (pa_cons (pe_glob (v := .ref A.DealError) rfl T.c_DealError rfl) pa_nil)))) (pw_and1 (pt_val (pe_callB call_isK (by rfl) T.z_isinstance (by decide +kernel) (pa_cons (pv 0) (pa_cons (pe_bltn (v := .ty "ValueError") rfl T.z_ValueError (by decide +kernel) rfl) pa_nil))))))) (pe_ix ix_list (pv 1) (pv 3) (fun _ _ => rfl)) pe_str))) pss_nil) (pss_cons (ps_set (i := 4) sc__law_word.nd rfl (Or.inl rfl) (pe_lst (pa_cons (pe_callB call_isK (by rfl) T.z_isinstance (by decide +kernel) (pa_cons (pv 0) (pa_cons (pe_bltn (v := .ty "KeyError") rfl T.z_KeyError (by decide +kernel) rfl) pa_nil))) (pa_cons (pe_callB call_isK (by rfl) T.z_isinstance (by decide +kernel) (pa_cons (pv 0) (pa_cons (pe_bltn (v := .ty "KeyError") rfl T.z_KeyError (by decide +kernel) rfl) pa_nil))) (pa_cons (pe_callB call_isK (by rfl) T.z_isinstance (by decide +kernel) (pa_cons (pv 0) (pa_cons (pe_bltn (v := .ty "IndexError") rfl T.z_IndexError (by decide +kernel) rfl) pa_nil))) pa_nil))))) (pss_cons (ps_expr (pe_bm PySem.F.plainAttrs_list PySem.F.slot_list_append PySem.F.type_list_append mt_append (pv 4) (pa_cons (pe_and (pe_callB call_isK (by rfl) T.z_isinstance (by decide +kernel) (pa_cons (pv 0) (pa_cons (pe_bltn (v := .ty "LookupError") rfl T.z_LookupError (by decide +kernel) rfl) pa_nil))) (pe_one (pe_not (pe_callB call_isKT (by rfl) T.z_isinstance (by decide +kernel) (pa_cons (pv 0) (pa_cons (pe_tup (pa_cons (pe_bltn (v := .ty "KeyError") rfl T.z_KeyError (by decide +kernel) rfl) (pa_cons (pe_bltn (v := .ty "IndexError") rfl T.z_IndexError (by decide +kernel) rfl) pa_nil))) pa_nil)))))) pa_nil))) (pss_cons (ps_expr (pe_bm PySem.F.plainAttrs_list PySem.F.slot_list_append PySem.F.type_list_append mt_append (pv 4) (pa_cons (pe_callB call_isK (by rfl) T.z_isinstance (by decide +kernel) (pa_cons (pv 0) (pa_cons (pe_bltn (v := .ty "RuntimeError") rfl T.z_RuntimeError (by decide +kernel) rfl) pa_nil))) pa_nil))) (pss_one (ps_ret (pe_ifExp (PW.pt (pw_and (pt_val (pe_ix ix_list (pv 4) (pe_op op_sub (pv 3) pe_int) (fun _ _ => rfl))) (pw_and1 (pt_not (pt_val (pe_callB call_isK (by rfl) T.z_isinstance (by decide +kernel) (pa_cons (pv 0) (pa_cons (pe_glob (v := .ref A.DealError) rfl T.c_DealError rfl) pa_nil)))))))) (pe_ix ix_list (pv 1) (pv 3) (fun _ _ => rfl)) pe_str)))))))))))))))))), ?_⟩
  obtain ⟨j, bD, bV, bK, bI, bL, bR, bT, W, hj⟩ : ∃ j bD bV bK bI bL bR bT, ErrW K A C j bD bV bK bI bL bR bT ∧ ((x = "day" ∧ j = 18 ∧ bD = false ∧ bV = false ∧ bK = false ∧ bI = true ∧ bL = true ∧ bR = false ∧ bT = true) ∨ (x = "span" ∧ j = 0 ∧ bD = true ∧ bV = true) ∨ (x = "rest" ∧ j = 1 ∧ bD = true ∧ bV = true)) := by
    rcases hw with ⟨e, h⟩ | ⟨e, h⟩ | ⟨e, h⟩
    · exact ⟨_, _, _, _, _, _, _, _, h, .inl ⟨e, rfl, rfl, rfl, rfl, rfl, rfl, rfl, rfl⟩⟩
    · exact ⟨_, _, _, _, _, _, _, _, h, .inr (.inl ⟨e, rfl, rfl, rfl⟩)⟩
    · exact ⟨_, _, _, _, _, _, _, _, h, .inr (.inr ⟨e, rfl, rfl, rfl⟩)⟩
  refine ⟨by show 10 ≤ sizeLine; decide, fun l1 h1 => ?_⟩
  refine ⟨_, rfl, by show 10 ≤ sizeLine; decide, fun l2 h2 => ?_⟩
  refine ⟨_, _, _, _, rfl, rfl, same_new h2 _ _ upd_same, upd_same, by show 20 ≤ sizeLine; decide, fun l3 h3 => ?_⟩
  refine ⟨_, rfl, .inl ⟨rfl, _, SqL.of upd_same⟩, l3, _, _, rfl, rfl, upd_same, by show 20 < sizeLine; decide, ?_⟩
  have n1 := ne_of_none ha h1
  have n2 := ne_of_none (same_new h1 _ _ ha) h2
  have n3 := ne_of_none (same_new h2 _ _ (same_new h1 _ _ ha)) h3
  have m3 : ∀ {o1 o2 o3 o4 : HO} {b : Addr} {o : HO}, H b = some o → (upd (upd (upd (upd H l1 o1) l2 o2) l3 o3) l3 o4) b = some o := fun {o1 o2 o3 o4 b o} e => by
    rw [upd_ne (ne_of_none (same_new h2 _ _ (same_new h1 _ _ e)) h3), upd_ne (ne_of_none (same_new h2 _ _ (same_new h1 _ _ e)) h3), upd_ne (ne_of_none (same_new h1 _ _ e) h2), upd_ne (ne_of_none e h1)]
    exact e
  have a3 : ∀ {o1 o2 o3 o4 : HO}, (upd (upd (upd (upd H l1 o1) l2 o2) l3 o3) l3 o4) a = some (ErrO C a) := m3 ha
  refine ⟨_, rfl, a, C, _, _, _, rfl, a3, W.ex, .own _, W.k_NoSpan, _, rfl, a, C, _, _, _, rfl, a3, W.ex, .own _, W.k_NoRest, _, rfl, a, C, _, _, _, rfl, a3, W.ex, .own _, W.k_NoAgreement, _, rfl, a, C, _, _, _, rfl, a3, W.ex, .own _, W.k_NoText, by show 4 ≤ sizeLine; decide, fun l4 h4 => ?_⟩
  refine ⟨_, rfl, _, rfl, a, C, _, _, _, rfl, (same_new h4 _ _ a3), W.ex, .own _, W.k_NoLetters, _, rfl, a, C, _, _, _, rfl, (same_new h4 _ _ a3), W.ex, .own _, W.k_NoLetter, _, rfl, a, C, _, _, _, rfl, (same_new h4 _ _ a3), W.ex, .own _, W.k_NoCondition, by show 3 ≤ sizeLine; decide, fun l5 h5 => ?_⟩
  refine ⟨_, _, _, _, rfl, rfl, same_new h5 _ _ upd_same, upd_same, by show 7 ≤ sizeLine; decide, fun l6 h6 => ?_⟩
  refine ⟨_, rfl, _, rfl, a, C, _, _, _, rfl, (same_new h6 _ _ (same_new h5 _ _ (same_new h4 _ _ a3))), W.ex, .own _, W.k_NoHappening, _, rfl, a, C, _, _, _, rfl, (same_new h6 _ _ (same_new h5 _ _ (same_new h4 _ _ a3))), W.ex, .own _, W.k_NoVersions, _, rfl, a, C, _, _, _, rfl, (same_new h6 _ _ (same_new h5 _ _ (same_new h4 _ _ a3))), W.ex, .own _, W.k_NoOpen, _, rfl, a, C, _, _, _, rfl, (same_new h6 _ _ (same_new h5 _ _ (same_new h4 _ _ a3))), W.ex, .own _, W.k_Open, by show 4 ≤ sizeLine; decide, fun l7 h7 => ?_⟩
  refine ⟨_, _, _, _, rfl, rfl, same_new h7 _ _ upd_same, upd_same, by show 11 ≤ sizeLine; decide, fun l8 h8 => ?_⟩
  refine ⟨_, rfl, _, rfl, a, C, _, _, _, rfl, (same_new h8 _ _ (same_new h7 _ _ (same_new h6 _ _ (same_new h5 _ _ (same_new h4 _ _ a3))))), W.ex, .own _, W.k_Withdrawn, _, rfl, a, C, _, _, _, rfl, (same_new h8 _ _ (same_new h7 _ _ (same_new h6 _ _ (same_new h5 _ _ (same_new h4 _ _ a3))))), W.ex, .own _, W.k_NoDeed, _, rfl, a, C, _, _, _, rfl, (same_new h8 _ _ (same_new h7 _ _ (same_new h6 _ _ (same_new h5 _ _ (same_new h4 _ _ a3))))), W.ex, .own _, W.k_HasCoins, by show 3 ≤ sizeLine; decide, fun l9 h9 => ?_⟩
  refine ⟨_, _, _, _, rfl, rfl, same_new h9 _ _ upd_same, upd_same, by show 14 ≤ sizeLine; decide, fun l10 h10 => ?_⟩
  refine ⟨_, rfl, _, rfl, a, C, _, _, _, rfl, (same_new h10 _ _ (same_new h9 _ _ (same_new h8 _ _ (same_new h7 _ _ (same_new h6 _ _ (same_new h5 _ _ (same_new h4 _ _ a3))))))), W.ex, .own _, W.k_OtherParties, _, rfl, a, C, _, _, _, rfl, (same_new h10 _ _ (same_new h9 _ _ (same_new h8 _ _ (same_new h7 _ _ (same_new h6 _ _ (same_new h5 _ _ (same_new h4 _ _ a3))))))), W.ex, .own _, W.k_TooWide, _, rfl, a, C, _, _, _, rfl, (same_new h10 _ _ (same_new h9 _ _ (same_new h8 _ _ (same_new h7 _ _ (same_new h6 _ _ (same_new h5 _ _ (same_new h4 _ _ a3))))))), W.ex, .own _, W.k_NoLetterThere, by show 3 ≤ sizeLine; decide, fun l11 h11 => ?_⟩
  refine ⟨_, _, _, _, rfl, rfl, same_new h11 _ _ upd_same, upd_same, by show 17 ≤ sizeLine; decide, fun l12 h12 => ?_⟩
  refine ⟨_, rfl, _, rfl, a, C, _, _, _, rfl, (same_new h12 _ _ (same_new h11 _ _ (same_new h10 _ _ (same_new h9 _ _ (same_new h8 _ _ (same_new h7 _ _ (same_new h6 _ _ (same_new h5 _ _ (same_new h4 _ _ a3))))))))), W.ex, .own _, W.k_NoClause, _, rfl, a, C, _, _, _, rfl, (same_new h12 _ _ (same_new h11 _ _ (same_new h10 _ _ (same_new h9 _ _ (same_new h8 _ _ (same_new h7 _ _ (same_new h6 _ _ (same_new h5 _ _ (same_new h4 _ _ a3))))))))), W.ex, .own _, W.k_NoDay, _, rfl, a, C, _, _, _, rfl, (same_new h12 _ _ (same_new h11 _ _ (same_new h10 _ _ (same_new h9 _ _ (same_new h8 _ _ (same_new h7 _ _ (same_new h6 _ _ (same_new h5 _ _ (same_new h4 _ _ a3))))))))), W.ex, .own _, W.k_NothingDone, _, rfl, a, C, _, _, _, rfl, (same_new h12 _ _ (same_new h11 _ _ (same_new h10 _ _ (same_new h9 _ _ (same_new h8 _ _ (same_new h7 _ _ (same_new h6 _ _ (same_new h5 _ _ (same_new h4 _ _ a3))))))))), W.ex, .own _, W.k_Twice, by show 4 ≤ sizeLine; decide, fun l13 h13 => ?_⟩
  refine ⟨_, _, _, _, rfl, rfl, same_new h13 _ _ upd_same, upd_same, by show 21 ≤ sizeLine; decide, fun l14 h14 => ?_⟩
  refine ⟨_, rfl, .inl ⟨rfl, _, SqL.of upd_same⟩, l14, _, _, rfl, rfl, SqL.of upd_same, rfl, rfl, ?_⟩
  rcases hj with ⟨rfl, rfl, rfl, rfl, rfl, rfl, rfl, rfl, rfl⟩ | ⟨rfl, rfl, rfl, rfl⟩ | ⟨rfl, rfl, rfl, rfl⟩
  · refine ⟨rfl, _, rfl, iteF ?_⟩
    refine ⟨_, rfl, .inl ⟨rfl, _, SqL.of upd_same⟩, l14, _, _, 18, _, rfl, rfl, SqL.of upd_same, rfl, rfl, rfl, rfl, idx_first rfl, ?_⟩
    refine ⟨_, rfl, _, _, rfl, rfl, _, rfl, iteF ?_⟩
    refine ⟨_, rfl, a, C, _, _, _, rfl, (same_new h14 _ _ (same_new h13 _ _ (same_new h12 _ _ (same_new h11 _ _ (same_new h10 _ _ (same_new h9 _ _ (same_new h8 _ _ (same_new h7 _ _ (same_new h6 _ _ (same_new h5 _ _ (same_new h4 _ _ a3))))))))))), W.ex, .ty _, W.kbK, _, rfl, a, C, _, _, _, rfl, (same_new h14 _ _ (same_new h13 _ _ (same_new h12 _ _ (same_new h11 _ _ (same_new h10 _ _ (same_new h9 _ _ (same_new h8 _ _ (same_new h7 _ _ (same_new h6 _ _ (same_new h5 _ _ (same_new h4 _ _ a3))))))))))), W.ex, .ty _, W.kbK, _, rfl, a, C, _, _, _, rfl, (same_new h14 _ _ (same_new h13 _ _ (same_new h12 _ _ (same_new h11 _ _ (same_new h10 _ _ (same_new h9 _ _ (same_new h8 _ _ (same_new h7 _ _ (same_new h6 _ _ (same_new h5 _ _ (same_new h4 _ _ a3))))))))))), W.ex, .ty _, W.kbI, by show 3 ≤ sizeLine; decide, fun l15 h15 => ?_⟩
    have n15 : a ≠ l15 := ne_of_none (same_new h14 _ _ (same_new h13 _ _ (same_new h12 _ _ (same_new h11 _ _ (same_new h10 _ _ (same_new h9 _ _ (same_new h8 _ _ (same_new h7 _ _ (same_new h6 _ _ (same_new h5 _ _ (same_new h4 _ _ a3))))))))))) h15
    refine ⟨_, rfl, .inl ⟨rfl, _, SqL.of upd_same⟩, _, rfl, a, C, _, _, _, rfl, (same_new h15 _ _ (same_new h14 _ _ (same_new h13 _ _ (same_new h12 _ _ (same_new h11 _ _ (same_new h10 _ _ (same_new h9 _ _ (same_new h8 _ _ (same_new h7 _ _ (same_new h6 _ _ (same_new h5 _ _ (same_new h4 _ _ a3)))))))))))), W.ex, .ty _, W.kbL, _, rfl, iteT ?_⟩
    refine ⟨_, rfl, by show 2 ≤ sizeLine; decide, fun l16 h16 => ?_⟩
    refine ⟨a, C, l16, _, _, _, rfl, same_new h16 _ _ (same_new h15 _ _ (same_new h14 _ _ (same_new h13 _ _ (same_new h12 _ _ (same_new h11 _ _ (same_new h10 _ _ (same_new h9 _ _ (same_new h8 _ _ (same_new h7 _ _ (same_new h6 _ _ (same_new h5 _ _ (same_new h4 _ _ a3)))))))))))), W.ex, upd_same, .cons (.ty _) (.cons (.ty _) .nil), W.kbT, _, rfl, ?_⟩
    refine ⟨l15, _, _, rfl, rfl, same_new h16 _ _ upd_same, by show 3 < sizeLine; decide, ?_⟩
    refine ⟨_, rfl, .inl ⟨rfl, _, SqL.of upd_same⟩, _, rfl, a, C, _, _, _, rfl, ((upd_ne n15).trans (same_new h16 _ _ (same_new h15 _ _ (same_new h14 _ _ (same_new h13 _ _ (same_new h12 _ _ (same_new h11 _ _ (same_new h10 _ _ (same_new h9 _ _ (same_new h8 _ _ (same_new h7 _ _ (same_new h6 _ _ (same_new h5 _ _ (same_new h4 _ _ a3)))))))))))))), W.ex, .ty _, W.kbR, l15, _, _, rfl, rfl, upd_same, by show 4 < sizeLine; decide, ?_⟩
    refine ⟨_, rfl, _, rfl, _, _, rfl, rfl, l15, _, _, _, rfl, rfl, SqL.of upd_same, rfl, _, rfl, iteT ?_⟩
    refine ⟨_, rfl, a, C, _, _, _, rfl, ((upd_ne n15).trans ((upd_ne n15).trans (same_new h16 _ _ (same_new h15 _ _ (same_new h14 _ _ (same_new h13 _ _ (same_new h12 _ _ (same_new h11 _ _ (same_new h10 _ _ (same_new h9 _ _ (same_new h8 _ _ (same_new h7 _ _ (same_new h6 _ _ (same_new h5 _ _ (same_new h4 _ _ a3))))))))))))))), W.ex, .own _, W.kbD, _, rfl, iteT ?_⟩
    have n3 : l3 ≠ l15 := ne_of_none (same_new h14 _ _ (same_new h13 _ _ (same_new h12 _ _ (same_new h11 _ _ (same_new h10 _ _ (same_new h9 _ _ (same_new h8 _ _ (same_new h7 _ _ (same_new h6 _ _ (same_new h5 _ _ (same_new h4 _ _ upd_same))))))))))) h15
    exact ⟨_, rfl, _, rfl, l3, _, _, _, rfl, rfl, SqL.of ((upd_ne n3).trans ((upd_ne n3).trans (same_new h16 _ _ (same_new h15 _ _ (same_new h14 _ _ (same_new h13 _ _ (same_new h12 _ _ (same_new h11 _ _ (same_new h10 _ _ (same_new h9 _ _ (same_new h8 _ _ (same_new h7 _ _ (same_new h6 _ _ (same_new h5 _ _ (same_new h4 _ _ upd_same))))))))))))))), rfl, q _ fun b o e => ((upd_ne (ne_of_none (same_new h14 _ _ (same_new h13 _ _ (same_new h12 _ _ (same_new h11 _ _ (same_new h10 _ _ (same_new h9 _ _ (same_new h8 _ _ (same_new h7 _ _ (same_new h6 _ _ (same_new h5 _ _ (same_new h4 _ _ (m3 e)))))))))))) h15)).trans ((upd_ne (ne_of_none (same_new h14 _ _ (same_new h13 _ _ (same_new h12 _ _ (same_new h11 _ _ (same_new h10 _ _ (same_new h9 _ _ (same_new h8 _ _ (same_new h7 _ _ (same_new h6 _ _ (same_new h5 _ _ (same_new h4 _ _ (m3 e)))))))))))) h15)).trans (same_new h16 _ _ (same_new h15 _ _ (same_new h14 _ _ (same_new h13 _ _ (same_new h12 _ _ (same_new h11 _ _ (same_new h10 _ _ (same_new h9 _ _ (same_new h8 _ _ (same_new h7 _ _ (same_new h6 _ _ (same_new h5 _ _ (same_new h4 _ _ (m3 e))))))))))))))))⟩
  · refine ⟨rfl, _, rfl, iteF ?_⟩
    refine ⟨_, rfl, .inl ⟨rfl, _, SqL.of upd_same⟩, l14, _, _, 0, _, rfl, rfl, SqL.of upd_same, rfl, rfl, rfl, rfl, idx_first rfl, ?_⟩
    refine ⟨_, rfl, _, _, rfl, rfl, _, rfl, iteT ?_⟩
    refine ⟨_, rfl, a, C, _, _, _, rfl, (same_new h14 _ _ (same_new h13 _ _ (same_new h12 _ _ (same_new h11 _ _ (same_new h10 _ _ (same_new h9 _ _ (same_new h8 _ _ (same_new h7 _ _ (same_new h6 _ _ (same_new h5 _ _ (same_new h4 _ _ a3))))))))))), W.ex, .own _, W.kbD, _, rfl, iteT ?_⟩
    refine ⟨_, rfl, a, C, _, _, _, rfl, (same_new h14 _ _ (same_new h13 _ _ (same_new h12 _ _ (same_new h11 _ _ (same_new h10 _ _ (same_new h9 _ _ (same_new h8 _ _ (same_new h7 _ _ (same_new h6 _ _ (same_new h5 _ _ (same_new h4 _ _ a3))))))))))), W.ex, .ty _, W.kbV, _, rfl, iteT ?_⟩
    exact ⟨_, rfl, _, rfl, l3, _, _, _, rfl, rfl, SqL.of (same_new h14 _ _ (same_new h13 _ _ (same_new h12 _ _ (same_new h11 _ _ (same_new h10 _ _ (same_new h9 _ _ (same_new h8 _ _ (same_new h7 _ _ (same_new h6 _ _ (same_new h5 _ _ (same_new h4 _ _ upd_same))))))))))), rfl, q _ fun b o e => (same_new h14 _ _ (same_new h13 _ _ (same_new h12 _ _ (same_new h11 _ _ (same_new h10 _ _ (same_new h9 _ _ (same_new h8 _ _ (same_new h7 _ _ (same_new h6 _ _ (same_new h5 _ _ (same_new h4 _ _ (m3 e))))))))))))⟩
  · refine ⟨rfl, _, rfl, iteF ?_⟩
    refine ⟨_, rfl, .inl ⟨rfl, _, SqL.of upd_same⟩, l14, _, _, 1, _, rfl, rfl, SqL.of upd_same, rfl, rfl, rfl, rfl, idx_first rfl, ?_⟩
    refine ⟨_, rfl, _, _, rfl, rfl, _, rfl, iteT ?_⟩
    refine ⟨_, rfl, a, C, _, _, _, rfl, (same_new h14 _ _ (same_new h13 _ _ (same_new h12 _ _ (same_new h11 _ _ (same_new h10 _ _ (same_new h9 _ _ (same_new h8 _ _ (same_new h7 _ _ (same_new h6 _ _ (same_new h5 _ _ (same_new h4 _ _ a3))))))))))), W.ex, .own _, W.kbD, _, rfl, iteT ?_⟩
    refine ⟨_, rfl, a, C, _, _, _, rfl, (same_new h14 _ _ (same_new h13 _ _ (same_new h12 _ _ (same_new h11 _ _ (same_new h10 _ _ (same_new h9 _ _ (same_new h8 _ _ (same_new h7 _ _ (same_new h6 _ _ (same_new h5 _ _ (same_new h4 _ _ a3))))))))))), W.ex, .ty _, W.kbV, _, rfl, iteT ?_⟩
    exact ⟨_, rfl, _, rfl, l3, _, _, _, rfl, rfl, SqL.of (same_new h14 _ _ (same_new h13 _ _ (same_new h12 _ _ (same_new h11 _ _ (same_new h10 _ _ (same_new h9 _ _ (same_new h8 _ _ (same_new h7 _ _ (same_new h6 _ _ (same_new h5 _ _ (same_new h4 _ _ upd_same))))))))))), rfl, q _ fun b o e => (same_new h14 _ _ (same_new h13 _ _ (same_new h12 _ _ (same_new h11 _ _ (same_new h10 _ _ (same_new h9 _ _ (same_new h8 _ _ (same_new h7 _ _ (same_new h6 _ _ (same_new h5 _ _ (same_new h4 _ _ (m3 e))))))))))))⟩
end
end Ka
set_option Elab.async false
set_option linter.all false
set_option maxRecDepth 100000
set_option maxHeartbeats 4000000
namespace Ka
open PySem PySem.Spec PyProof.Rows L2 Dt LamX
/-- the classes that are caught -/
def catches (A : Cls) : List Value := [.ref A.DealError, .ref A.NoDay, .ref A.NoClause, .ref A.NoLetterThere, .ref A.NothingDone, .ref A.Twice]
/-- an error that is told of so: what is behind it -/
def TellE (K : PySem.W.Frag) (A : Cls) (Q : VK) : XK := fun cls d H' => PySem.W.exmAny K cls (catches A) = some true ∧ d = none ∧ ∃ C x, cls = .ref C ∧ WordOk K A C x ∧ ∀ p H'', Same H' H'' → H'' p = none → Q (.ref p) (upd H'' p (.tup [.str x, .non]))
/-- what tell makes of the reading of what it got -/
def TTtell (K : PySem.W.Frag) (A : Cls) : (XK → Hp → VK → Prop) → Hp → VK → Prop := fun tl H Q => ∀ H0, Same H H0 → ∀ (E : XK) (Q' : VK),
  (∀ v H', (∀ p, H' p = none → Q (.ref p) (upd H' p (.tup [.str "told", v]))) → Q' v H') → (∀ cls d H', TellE K A Q cls d H' → E cls d H') → tl E H0 Q'
structure PkW (P : Program) (w : World) (K : PySem.W.Frag) (mg : Str → Option Value) (base : Heap) (A : Cls) : Prop where
  d__law_word : Has P w K mg base CX0 1 "_law_word" ["_law_e"] (spWord K A)
/-- the statements of a try -/
def tryBody (s : Stmt) : List Stmt := match s with
  | .Try b _ _ _ _ => b
  | _ => []
section
variable {X : Cx} {A : Cls}
theorem tell_gives {g : Addr} {cdg : Value} {q : Str} (T : TxtW X.K X.mg A) (D : PkW X.prog X.w X.K X.mg X.base A) (hR : Room 2 X.A) :
    GivesTo X n__law_tell "_law_tell" (defScope s__law_tell) g cdg (defBody s__law_tell) "_law_call" q (TTtell X.K A) := by
  intro fl c' s H Q tl act hc h
  have hr := hR.deeper (envOfC "_law_tell" (defScope s__law_tell) s.heap.objs.size g cdg)
  have hb6 : ∀ (W : WX) (pn : List (Addr × Obj)) (xe : Value → Shared → Prop),
      Takes ((cxOf C8.CX0 X.prog X.w X.K X.mg X.base n__law_tell "_law_tell" (defScope s__law_tell) g cdg X.A X.stack s H C8.E0).nox.tr pn xe) W →
      PSs ((cxOf C8.CX0 X.prog X.w X.K X.mg X.base n__law_tell "_law_tell" (defScope s__law_tell) g cdg X.A X.stack s H C8.E0).nox.tr pn xe) ((defBody s__law_tell).getD 1 (.Pass ⟨0, 0, 0, 0⟩) |> tryBody) fun D σ H =>
          ∃ Ech : XK, (∀ (cls : Value) (d : Option Addr) (σ' : L2.St) (H' : Hp), Ech cls d H' → W cls d σ' H') ∧ σ[0]? = some (some (V.ref fl)) ∧ H c' = some (CodeO c' q) ∧ tl Ech H fun v H' => D.nx (List.set σ 3 (some v)) H' := fun W pn xe tk => by
    refine ⟨fun pins s' σ H' D I h' => ?_⟩
    obtain ⟨Ech, hW, h1, h2, h3⟩ := h'
    have hq : PSs ((cxOf C8.CX0 X.prog X.w X.K X.mg X.base n__law_tell "_law_tell" (defScope s__law_tell) g cdg X.A X.stack s H C8.E0).nox.tr pn xe) ((defBody s__law_tell).getD 1 (.Pass ⟨0, 0, 0, 0⟩) |> tryBody) _ := pss_one (ps_set (i := 3) sc__law_tell.nd rfl (Or.inl rfl) (act W pn xe Ech _ _ tk hW))
    exact hq.run pins s' σ H' D I ⟨h1, h2, h3⟩
  refine ⟨_, (pss_cons (ps_asg (pe_tup (pa_cons pe_non (pa_cons pe_non pa_nil))) (pg_tup (by rfl) (pgs_cons (pg_name (i := 2) sc__law_tell.nd rfl (Or.inl rfl)) (pgs_cons (pg_name (i := 3) sc__law_tell.nd rfl (Or.inl rfl)) pgs_nil)))) (pss_cons (ps_try_six (i := 1) (tb := fun W D σ H => ∃ Ech : XK, (∀ cls d σ' H', Ech cls d H' → W cls d σ' H') ∧ σ[0]? = some (some (V.ref fl)) ∧ H c' = some (CodeO c' q) ∧ tl Ech H fun v H' => D.nx (σ.set 3 (some v)) H') (ts := fun a C => tAsg (tVar 1) (gName 2)) rfl rfl rfl sc__law_tell.nd rfl rfl rfl rfl rfl rfl rfl rfl T.c_DealError T.c_NoDay T.c_NoClause T.c_NoLetterThere T.c_NothingDone T.c_Twice (by decide) (by decide) (by decide) (by decide) (by decide) (by decide) (fun W pn xe tk _ => hb6 W pn xe tk) (fun a C oe pn _ _ => pss_one (ps_set (i := 2) sc__law_tell.nd rfl (Or.inl rfl) (pv 1)))) (pss_one (ps_ret (pe_ifExp (pt_cmpR op_isN (pv 2) pe_non (nomark _)) (pe_tup (pa_cons pe_str (pa_cons (pv 3) pa_nil))) (pe_tup (pa_cons (pe_has D.d__law_word (hr.mono (by decide)) (by rfl) pass0 (pa_cons (pv 2) pa_nil)) (pa_cons pe_non pa_nil)))))))), ?_⟩
  refine ⟨by show 2 ≤ sizeLine; decide, fun l1 h1 => ?_⟩
  refine ⟨l1, _, rfl, SqT.of upd_same, rfl, ?_⟩
  refine ⟨_, _, rfl, _, _, rfl, rfl, ?_⟩
  refine ⟨TellE X.K A Q, fun cls d σ' H' he => ?_, rfl, same_new h1 _ _ hc, h _ (same_new h1) _ _ (fun v H' hv => ?_) fun _ _ _ e => e⟩
  · obtain ⟨e1, e2, C, x, e3, hx, hq⟩ := he
    refine ⟨e1, e2, C, e3, fun a ha hl => ?_⟩
    match σ', hl with
    | [x0, x1, x2, x3], _ =>
    refine ⟨_, rfl, rfl, ?_⟩
    refine ⟨_, rfl, rfl, _, rfl, iteF ?_⟩
    refine ⟨_, rfl, a, C, x, rfl, upd_same, hx, fun H2 s2 => ?_⟩
    exact ⟨by show 2 ≤ sizeLine; decide, fun p hp => hq p H2 ((same_new ha).trans s2) hp⟩
  · refine ⟨_, rfl, rfl, _, rfl, iteT ?_⟩
    refine ⟨_, rfl, by show 2 ≤ sizeLine; decide, fun p hp => hv p hp⟩
end
end Ka
set_option Elab.async false
set_option linter.all false
set_option maxRecDepth 100000
set_option maxHeartbeats 4000000
namespace Ka
open PySem PySem.Spec PyProof.Rows L2 Dt
def spOdd (K : PySem.W.Frag) : Sp := fun vs H Q _ => ∃ (p b : Addr) (ns : List Int) (c : Nat), vs = [.ref p] ∧ Pen K p b ns c H ∧ c ≤ 900000 ∧
  ∀ (v : V) (d : PyData) H', Dq K (core p H') v d → Small (10 ^ 12) 2 d → d.bulk ≤ 8 → Keep p H H' → Pen K p b ns (c + 1) H' → Q v H'
structure PkO (P : Program) (w : World) (K : PySem.W.Frag) (mg : Str → Option Value) (base : Heap) : Prop where
  d__law_pick : Has P w K mg base CX0 2 "_law_pick" ["_law_pen_here", "_law_some"] (spPick K)
theorem sm1 {m : Int} {k : Nat} {a : PyData} (h : Small m k a) : Small m (k + 1) (.tuple [a]) := .tuple fun d hd => by
  rw [List.mem_singleton.mp hd]
  exact h
theorem sml1 {m : Int} {k : Nat} {a : PyData} (h : Small m k a) : Small m (k + 1) (.list [a]) := .list fun d hd => by
  rw [List.mem_singleton.mp hd]
  exact h
theorem sm2 {m : Int} {k : Nat} {a b : PyData} (h : Small m k a) (h2 : Small m k b) : Small m (k + 1) (.tuple [a, b]) := .tuple fun d hd => by
  rcases List.mem_cons.mp hd with rfl | hd
  · exact h
  · rw [List.mem_singleton.mp hd]
    exact h2
section
variable {P : Program} {w : World} {K : PySem.W.Frag} {mg : Str → Option Value} {base : Heap} {A : Cls} {f : Addr} {fd : FuncData}
theorem ok__law_odd (F : FnAt K mg "_law_odd" s__law_odd f fd) (T : Txt K mg A) (D : PkO P w K mg base) : Has P w K mg base CX0 3 "_law_odd" ["_law_pen_here"] (spOdd K) := by
  refine ⟨f, fd, F.fn.ok sc__law_odd (fun vs H Q E h => ?_) (fun cdv A outer s H vs Q E hr h => ?_), F.at_, F.fn.kp, F.fn.binds fun _ _ _ _ _ _ us hl => match us, hl with | [_], _ => rfl⟩
  · obtain ⟨p, b, ns, c, rfl, _⟩ := h
    rfl
  obtain ⟨p, b, ns, c, rfl, hp, hc, q⟩ := h
  refine ⟨_, (pss_cons (ps_set (i := 1) sc__law_odd.nd rfl (Or.inl rfl) (pe_lst (pa_cons pe_non (pa_cons pe_bl (pa_cons pe_bl (pa_cons pe_int (pa_cons pe_int (pa_cons (pe_un un_neg pe_int) (pa_cons pe_int (pa_cons pe_int (pa_cons (pe_op op_pow pe_int pe_int) (pa_cons pe_str (pa_cons pe_str (pa_cons pe_str (pa_cons pe_str (pa_cons pe_str (pa_cons (pe_tup pa_nil) (pa_cons (pe_lst pa_nil) (pa_cons pe_dnewK (pa_cons (pe_tup (pa_cons pe_int pa_nil)) (pa_cons (pe_lst (pa_cons pe_str pa_nil)) pa_nil))))))))))))))))))))) (pss_cons (ps_set (i := 1) sc__law_odd.nd rfl (Or.inl rfl) (pe_op op_cat (pv 1) (pe_lst (pa_cons (pe_tup (pa_cons pe_str (pa_cons pe_int pa_nil))) (pa_cons (pe_tup (pa_cons pe_str (pa_cons pe_int pa_nil))) (pa_cons (pe_disp (pps_cons pe_str pe_int pps_nil) rfl rfl (fun h => nomatch h) (by decide)) (pa_cons (pe_tup (pa_cons pe_non (pa_cons pe_non pa_nil))) (pa_cons (pe_tup (pa_cons pe_str (pa_cons pe_str pa_nil))) (pa_cons (pe_lst (pa_cons (pe_lst pa_nil) pa_nil)) (pa_cons (pe_tup (pa_cons pe_str pa_nil)) (pa_cons pe_int (pa_cons pe_int (pa_cons (pe_tup (pa_cons (pe_tup pa_nil) pa_nil)) pa_nil))))))))))))) (pss_one (ps_ret (pe_has D.d__law_pick (hr.mono (by decide)) (by rfl) pass0 (pa_cons (pv 0) (pa_cons (pv 1) pa_nil))))))), ?_⟩
  refine ⟨_, rfl, _, _, rfl, rfl, ⟨by decide, by decide, by decide⟩, ?_⟩
  refine ⟨by show 0 ≤ sizeLine; decide, fun t1 ht1 => ?_⟩
  have nt1 := hp.off ht1
  have pt1 := hp.new (o := .tup []) ht1
  refine ⟨by show 0 ≤ sizeLine; decide, fun l2 hl2 => ?_⟩
  have nl2 := pt1.off hl2
  have pl2 := pt1.new (o := .lst []) hl2
  refine fun d3 hd3 => ?_
  have nd3 := pl2.off hd3
  have pd3 := pl2.new (o := .dK []) hd3
  refine ⟨by show 1 ≤ sizeLine; decide, fun t4 ht4 => ?_⟩
  have nt4 := pd3.off ht4
  have pt4 := pd3.new (o := .tup [.int 1]) ht4
  refine ⟨by show 1 ≤ sizeLine; decide, fun l5 hl5 => ?_⟩
  have nl5 := pt4.off hl5
  have pl5 := pt4.new (o := .lst [.str "a"]) hl5
  refine ⟨by show 19 ≤ sizeLine; decide, fun l6 hl6 => ?_⟩
  have nl6 := pl5.off hl6
  have pl6 := pl5.new (o := .lst [.non, .bl true, .bl false, .int 0, .int 1, .int (-1), .int 7, .int 3001, .int (10 ^ (12 : Int).toNat), .str "", .str "a", .str "rest", .str "A", .str "x y", .ref t1, .ref l2, .ref d3, .ref t4, .ref l5]) hl6
  refine ⟨_, rfl, by show 2 ≤ sizeLine; decide, fun t7 ht7 => ?_⟩
  have nt7 := pl6.off ht7
  have pt7 := pl6.new (o := .tup [.str "days", .int 3]) ht7
  refine ⟨by show 2 ≤ sizeLine; decide, fun t8 ht8 => ?_⟩
  have nt8 := pt7.off ht8
  have pt8 := pt7.new (o := .tup [.str "day", .int 0]) ht8
  refine fun d9 hd9 => ⟨upd_same, [(.inr "a", .int 1)], rfl, by decide, ?_⟩
  rw [upd_upd]
  have nd9 := pt8.off hd9
  have pd9 := pt8.new (o := .dK [(.inr "a", .int 1)]) hd9
  refine ⟨by show 2 ≤ sizeLine; decide, fun t10 ht10 => ?_⟩
  have nt10 := pd9.off ht10
  have pt10 := pd9.new (o := .tup [.non, .non]) ht10
  refine ⟨by show 2 ≤ sizeLine; decide, fun t11 ht11 => ?_⟩
  have nt11 := pt10.off ht11
  have pt11 := pt10.new (o := .tup [.str "a", .str "b"]) ht11
  refine ⟨by show 0 ≤ sizeLine; decide, fun l12 hl12 => ?_⟩
  have nl12 := pt11.off hl12
  have pl12 := pt11.new (o := .lst []) hl12
  refine ⟨by show 1 ≤ sizeLine; decide, fun l13 hl13 => ?_⟩
  have nl13 := pl12.off hl13
  have pl13 := pl12.new (o := .lst [.ref l12]) hl13
  refine ⟨by show 1 ≤ sizeLine; decide, fun t14 ht14 => ?_⟩
  have nt14 := pl13.off ht14
  have pt14 := pl13.new (o := .tup [.str "ended"]) ht14
  refine ⟨by show 0 ≤ sizeLine; decide, fun t15 ht15 => ?_⟩
  have nt15 := pt14.off ht15
  have pt15 := pt14.new (o := .tup []) ht15
  refine ⟨by show 1 ≤ sizeLine; decide, fun t16 ht16 => ?_⟩
  have nt16 := pt15.off ht16
  have pt16 := pt15.new (o := .tup [.ref t15]) ht16
  refine ⟨by show 10 ≤ sizeLine; decide, fun l17 hl17 => ?_⟩
  have nl17 := pt16.off hl17
  have pl17 := pt16.new (o := .lst [.ref t7, .ref t8, .ref d9, .ref t10, .ref t11, .ref l13, .ref t14, .int 60, .int 61, .ref t16]) hl17
  refine ⟨_, _, _, _, rfl, rfl, (same_new hl17 _ _ (same_new ht16 _ _ (same_new ht15 _ _ (same_new ht14 _ _ (same_new hl13 _ _ (same_new hl12 _ _ (same_new ht11 _ _ (same_new ht10 _ _ (same_new hd9 _ _ (same_new ht8 _ _ (same_new ht7 _ _ upd_same))))))))))), upd_same, by show 19 + 10 ≤ sizeLine; decide, fun l18 h18 => ?_⟩
  have p18 := pl17.new (o := .lst ([.non, .bl true, .bl false, .int 0, .int 1, .int (-1), .int 7, .int 3001, .int (10 ^ (12 : Int).toNat), .str "", .str "a", .str "rest", .str "A", .str "x y", .ref t1, .ref l2, .ref d3, .ref t4, .ref l5] ++ [.ref t7, .ref t8, .ref d9, .ref t10, .ref t11, .ref l13, .ref t14, .int 60, .int 61, .ref t16])) h18
  refine ⟨_, rfl, _, rfl, p, b, l18, ns, c, _, rfl, p18, by omega, SqL.of upd_same, pl17.off h18, (by show 1 ≤ 29; decide), (by show 29 ≤ 1000000; decide), fun i v H19 hv k19 p19 => ?_⟩
  have kk : Keep p H H19 := ((Keep.new ht1).trans ((Keep.new hl2).trans ((Keep.new hd3).trans ((Keep.new ht4).trans ((Keep.new hl5).trans ((Keep.new hl6).trans ((Keep.new ht7).trans ((Keep.new ht8).trans ((Keep.new hd9).trans ((Keep.new ht10).trans ((Keep.new ht11).trans ((Keep.new hl12).trans ((Keep.new hl13).trans ((Keep.new ht14).trans ((Keep.new ht15).trans ((Keep.new ht16).trans ((Keep.new hl17).trans (Keep.new h18)))))))))))))))))).trans k19
  have ft1 := core_of (p := p) (k19 _ _ nt1 (same_new h18 _ _ (same_new hl17 _ _ (same_new ht16 _ _ (same_new ht15 _ _ (same_new ht14 _ _ (same_new hl13 _ _ (same_new hl12 _ _ (same_new ht11 _ _ (same_new ht10 _ _ (same_new hd9 _ _ (same_new ht8 _ _ (same_new ht7 _ _ (same_new hl6 _ _ (same_new hl5 _ _ (same_new ht4 _ _ (same_new hd3 _ _ (same_new hl2 _ _ upd_same)))))))))))))))))) nt1 (fun ps z => nomatch z)
  have fl2 := core_of (p := p) (k19 _ _ nl2 (same_new h18 _ _ (same_new hl17 _ _ (same_new ht16 _ _ (same_new ht15 _ _ (same_new ht14 _ _ (same_new hl13 _ _ (same_new hl12 _ _ (same_new ht11 _ _ (same_new ht10 _ _ (same_new hd9 _ _ (same_new ht8 _ _ (same_new ht7 _ _ (same_new hl6 _ _ (same_new hl5 _ _ (same_new ht4 _ _ (same_new hd3 _ _ upd_same))))))))))))))))) nl2 (fun ps z => nomatch z)
  have fd3 := core_of (p := p) (k19 _ _ nd3 (same_new h18 _ _ (same_new hl17 _ _ (same_new ht16 _ _ (same_new ht15 _ _ (same_new ht14 _ _ (same_new hl13 _ _ (same_new hl12 _ _ (same_new ht11 _ _ (same_new ht10 _ _ (same_new hd9 _ _ (same_new ht8 _ _ (same_new ht7 _ _ (same_new hl6 _ _ (same_new hl5 _ _ (same_new ht4 _ _ upd_same)))))))))))))))) nd3 (fun ps z => nomatch z)
  have ft4 := core_of (p := p) (k19 _ _ nt4 (same_new h18 _ _ (same_new hl17 _ _ (same_new ht16 _ _ (same_new ht15 _ _ (same_new ht14 _ _ (same_new hl13 _ _ (same_new hl12 _ _ (same_new ht11 _ _ (same_new ht10 _ _ (same_new hd9 _ _ (same_new ht8 _ _ (same_new ht7 _ _ (same_new hl6 _ _ (same_new hl5 _ _ upd_same))))))))))))))) nt4 (fun ps z => nomatch z)
  have fl5 := core_of (p := p) (k19 _ _ nl5 (same_new h18 _ _ (same_new hl17 _ _ (same_new ht16 _ _ (same_new ht15 _ _ (same_new ht14 _ _ (same_new hl13 _ _ (same_new hl12 _ _ (same_new ht11 _ _ (same_new ht10 _ _ (same_new hd9 _ _ (same_new ht8 _ _ (same_new ht7 _ _ (same_new hl6 _ _ upd_same)))))))))))))) nl5 (fun ps z => nomatch z)
  have ft7 := core_of (p := p) (k19 _ _ nt7 (same_new h18 _ _ (same_new hl17 _ _ (same_new ht16 _ _ (same_new ht15 _ _ (same_new ht14 _ _ (same_new hl13 _ _ (same_new hl12 _ _ (same_new ht11 _ _ (same_new ht10 _ _ (same_new hd9 _ _ (same_new ht8 _ _ upd_same)))))))))))) nt7 (fun ps z => nomatch z)
  have ft8 := core_of (p := p) (k19 _ _ nt8 (same_new h18 _ _ (same_new hl17 _ _ (same_new ht16 _ _ (same_new ht15 _ _ (same_new ht14 _ _ (same_new hl13 _ _ (same_new hl12 _ _ (same_new ht11 _ _ (same_new ht10 _ _ (same_new hd9 _ _ upd_same))))))))))) nt8 (fun ps z => nomatch z)
  have fd9 := core_of (p := p) (k19 _ _ nd9 (same_new h18 _ _ (same_new hl17 _ _ (same_new ht16 _ _ (same_new ht15 _ _ (same_new ht14 _ _ (same_new hl13 _ _ (same_new hl12 _ _ (same_new ht11 _ _ (same_new ht10 _ _ upd_same)))))))))) nd9 (fun ps z => nomatch z)
  have ft10 := core_of (p := p) (k19 _ _ nt10 (same_new h18 _ _ (same_new hl17 _ _ (same_new ht16 _ _ (same_new ht15 _ _ (same_new ht14 _ _ (same_new hl13 _ _ (same_new hl12 _ _ (same_new ht11 _ _ upd_same))))))))) nt10 (fun ps z => nomatch z)
  have ft11 := core_of (p := p) (k19 _ _ nt11 (same_new h18 _ _ (same_new hl17 _ _ (same_new ht16 _ _ (same_new ht15 _ _ (same_new ht14 _ _ (same_new hl13 _ _ (same_new hl12 _ _ upd_same)))))))) nt11 (fun ps z => nomatch z)
  have fl12 := core_of (p := p) (k19 _ _ nl12 (same_new h18 _ _ (same_new hl17 _ _ (same_new ht16 _ _ (same_new ht15 _ _ (same_new ht14 _ _ (same_new hl13 _ _ upd_same))))))) nl12 (fun ps z => nomatch z)
  have fl13 := core_of (p := p) (k19 _ _ nl13 (same_new h18 _ _ (same_new hl17 _ _ (same_new ht16 _ _ (same_new ht15 _ _ (same_new ht14 _ _ upd_same)))))) nl13 (fun ps z => nomatch z)
  have ft14 := core_of (p := p) (k19 _ _ nt14 (same_new h18 _ _ (same_new hl17 _ _ (same_new ht16 _ _ (same_new ht15 _ _ upd_same))))) nt14 (fun ps z => nomatch z)
  have ft15 := core_of (p := p) (k19 _ _ nt15 (same_new h18 _ _ (same_new hl17 _ _ (same_new ht16 _ _ upd_same)))) nt15 (fun ps z => nomatch z)
  have ft16 := core_of (p := p) (k19 _ _ nt16 (same_new h18 _ _ (same_new hl17 _ _ upd_same))) nt16 (fun ps z => nomatch z)
  obtain ⟨d, hd, hs, hb⟩ : ∃ d, Dq K (core p H19) v d ∧ Small (10 ^ 12) 2 d ∧ d.bulk ≤ 8 := by
    match i, hv with
    | 0, hv =>
      obtain rfl : V.non = v := Option.some.inj hv
      exact ⟨_, .non, .none _, by simp only [PyData.bulk, PyData.bulkAll, PyData.bulkKv]; decide⟩
    | 1, hv =>
      obtain rfl : V.bl true = v := Option.some.inj hv
      exact ⟨_, .bl _, .bool _ _, by simp only [PyData.bulk, PyData.bulkAll, PyData.bulkKv]; decide⟩
    | 2, hv =>
      obtain rfl : V.bl false = v := Option.some.inj hv
      exact ⟨_, .bl _, .bool _ _, by simp only [PyData.bulk, PyData.bulkAll, PyData.bulkKv]; decide⟩
    | 3, hv =>
      obtain rfl : V.int 0 = v := Option.some.inj hv
      exact ⟨_, .int _, .int _ (by decide) (by decide), by simp only [PyData.bulk, PyData.bulkAll, PyData.bulkKv]; decide⟩
    | 4, hv =>
      obtain rfl : V.int 1 = v := Option.some.inj hv
      exact ⟨_, .int _, .int _ (by decide) (by decide), by simp only [PyData.bulk, PyData.bulkAll, PyData.bulkKv]; decide⟩
    | 5, hv =>
      obtain rfl : V.int (-1) = v := Option.some.inj hv
      exact ⟨_, .int _, .int _ (by decide) (by decide), by simp only [PyData.bulk, PyData.bulkAll, PyData.bulkKv]; decide⟩
    | 6, hv =>
      obtain rfl : V.int 7 = v := Option.some.inj hv
      exact ⟨_, .int _, .int _ (by decide) (by decide), by simp only [PyData.bulk, PyData.bulkAll, PyData.bulkKv]; decide⟩
    | 7, hv =>
      obtain rfl : V.int 3001 = v := Option.some.inj hv
      exact ⟨_, .int _, .int _ (by decide) (by decide), by simp only [PyData.bulk, PyData.bulkAll, PyData.bulkKv]; decide⟩
    | 8, hv =>
      obtain rfl : V.int (10 ^ (12 : Int).toNat) = v := Option.some.inj hv
      exact ⟨_, .int _, .int _ (by decide) (by decide), by simp only [PyData.bulk, PyData.bulkAll, PyData.bulkKv]; decide⟩
    | 9, hv =>
      obtain rfl : V.str "" = v := Option.some.inj hv
      exact ⟨_, .str _, .str _ (by decide +kernel), by simp only [PyData.bulk, PyData.bulkAll, PyData.bulkKv]; decide⟩
    | 10, hv =>
      obtain rfl : V.str "a" = v := Option.some.inj hv
      exact ⟨_, .str _, .str _ (by decide +kernel), by simp only [PyData.bulk, PyData.bulkAll, PyData.bulkKv]; decide⟩
    | 11, hv =>
      obtain rfl : V.str "rest" = v := Option.some.inj hv
      exact ⟨_, .str _, .str _ (by decide +kernel), by simp only [PyData.bulk, PyData.bulkAll, PyData.bulkKv]; decide⟩
    | 12, hv =>
      obtain rfl : V.str "A" = v := Option.some.inj hv
      exact ⟨_, .str _, .str _ (by decide +kernel), by simp only [PyData.bulk, PyData.bulkAll, PyData.bulkKv]; decide⟩
    | 13, hv =>
      obtain rfl : V.str "x y" = v := Option.some.inj hv
      exact ⟨_, .str _, .str _ (by decide +kernel), by simp only [PyData.bulk, PyData.bulkAll, PyData.bulkKv]; decide⟩
    | 14, hv =>
      obtain rfl : V.ref t1 = v := Option.some.inj hv
      exact ⟨_, .tup (SqT.of ft1) .nil, .tuple (fun d h => by cases h), by simp only [PyData.bulk, PyData.bulkAll, PyData.bulkKv]; decide⟩
    | 15, hv =>
      obtain rfl : V.ref l2 = v := Option.some.inj hv
      exact ⟨_, .lst (SqL.of fl2) .nil, .list (fun d h => by cases h), by simp only [PyData.bulk, PyData.bulkAll, PyData.bulkKv]; decide⟩
    | 16, hv =>
      obtain rfl : V.ref d3 = v := Option.some.inj hv
      exact ⟨_, .dct fd3, .dct _, by simp only [PyData.bulk, PyData.bulkAll, PyData.bulkKv]; decide⟩
    | 17, hv =>
      obtain rfl : V.ref t4 = v := Option.some.inj hv
      exact ⟨_, .tup (SqT.of ft4) (.cons (.int _) .nil), sm1 (.int _ (by decide) (by decide)), by simp only [PyData.bulk, PyData.bulkAll, PyData.bulkKv]; decide⟩
    | 18, hv =>
      obtain rfl : V.ref l5 = v := Option.some.inj hv
      exact ⟨_, .lst (SqL.of fl5) (.cons (.str _) .nil), sml1 (.str _ (by decide +kernel)), by simp only [PyData.bulk, PyData.bulkAll, PyData.bulkKv]; decide⟩
    | 19, hv =>
      obtain rfl : V.ref t7 = v := Option.some.inj hv
      exact ⟨_, .tup (SqT.of ft7) (.cons (.str _) (.cons (.int _) .nil)), sm2 (.str _ (by decide +kernel)) (.int _ (by decide) (by decide)), by simp only [PyData.bulk, PyData.bulkAll, PyData.bulkKv]; decide⟩
    | 20, hv =>
      obtain rfl : V.ref t8 = v := Option.some.inj hv
      exact ⟨_, .tup (SqT.of ft8) (.cons (.str _) (.cons (.int _) .nil)), sm2 (.str _ (by decide +kernel)) (.int _ (by decide) (by decide)), by simp only [PyData.bulk, PyData.bulkAll, PyData.bulkKv]; decide⟩
    | 21, hv =>
      obtain rfl : V.ref d9 = v := Option.some.inj hv
      exact ⟨_, .dct1 fd9, .dct1 _ (by decide +kernel) (by decide) (by decide), by simp only [PyData.bulk, PyData.bulkAll, PyData.bulkKv]; decide⟩
    | 22, hv =>
      obtain rfl : V.ref t10 = v := Option.some.inj hv
      exact ⟨_, .tup (SqT.of ft10) (.cons .non (.cons .non .nil)), sm2 (.none _) (.none _), by simp only [PyData.bulk, PyData.bulkAll, PyData.bulkKv]; decide⟩
    | 23, hv =>
      obtain rfl : V.ref t11 = v := Option.some.inj hv
      exact ⟨_, .tup (SqT.of ft11) (.cons (.str _) (.cons (.str _) .nil)), sm2 (.str _ (by decide +kernel)) (.str _ (by decide +kernel)), by simp only [PyData.bulk, PyData.bulkAll, PyData.bulkKv]; decide⟩
    | 24, hv =>
      obtain rfl : V.ref l13 = v := Option.some.inj hv
      exact ⟨_, .lst (SqL.of fl13) (.cons (.lst (SqL.of fl12) .nil) .nil), sml1 (.list (fun d h => by cases h)), by simp only [PyData.bulk, PyData.bulkAll, PyData.bulkKv]; decide⟩
    | 25, hv =>
      obtain rfl : V.ref t14 = v := Option.some.inj hv
      exact ⟨_, .tup (SqT.of ft14) (.cons (.str _) .nil), sm1 (.str _ (by decide +kernel)), by simp only [PyData.bulk, PyData.bulkAll, PyData.bulkKv]; decide⟩
    | 26, hv =>
      obtain rfl : V.int 60 = v := Option.some.inj hv
      exact ⟨_, .int _, .int _ (by decide) (by decide), by simp only [PyData.bulk, PyData.bulkAll, PyData.bulkKv]; decide⟩
    | 27, hv =>
      obtain rfl : V.int 61 = v := Option.some.inj hv
      exact ⟨_, .int _, .int _ (by decide) (by decide), by simp only [PyData.bulk, PyData.bulkAll, PyData.bulkKv]; decide⟩
    | 28, hv =>
      obtain rfl : V.ref t16 = v := Option.some.inj hv
      exact ⟨_, .tup (SqT.of ft16) (.cons (.tup (SqT.of ft15) .nil) .nil), sm1 (.tuple (fun d h => by cases h)), by simp only [PyData.bulk, PyData.bulkAll, PyData.bulkKv]; decide⟩
    | i + 29, hv => simp at hv
  exact q v d H19 hd hs hb kk p19
end
end Ka
set_option Elab.async false
set_option linter.all false
set_option maxRecDepth 100000
set_option maxHeartbeats 4000000
namespace Ka
open PySem PySem.Spec PyProof.Rows L2 Dt
theorem iffT {c : Bool} {A B : Prop} (h : c = true) (a : A) : if c = true then A else B := by
  rw [h]
  exact a
theorem iffF {c : Bool} {A B : Prop} (h : c = false) (b : B) : if c = true then A else B := by
  rw [h]
  exact b
theorem kitAny_tl {K : PySem.W.Frag} (d : PyData) : PySem.W.kitAny K (.type (tyName d)) [.type "tuple", .type "list"] = some (isSeqB d) := by
  have h1 := kitD_tuple (K := K) d
  have h2 := kitD_list (K := K) d
  unfold PySem.W.kitAny PySem.W.kitAny PySem.W.kitAny
  rw [h1, h2]
  cases d <;> rfl
def spBent (K : PySem.W.Frag) (k : Nat) : Sp := fun vs H Q _ => ∃ (p b : Addr) (ns : List Int) (c : Nat) (v : V) (d : PyData) (m : Int) (n : Nat), vs = [.ref p, v] ∧ Pen K p b ns c H ∧ c + 8 * (k + 1) ≤ 900000 ∧ Dq K (core p H) v d ∧ Small m k d ∧ 10 ^ 12 ≤ m ∧ d.bulk ≤ n ∧ n ≤ 1000 ∧
  ∀ (v' : V) (d' : PyData) H', Dq K (core p H') v' d' → Small (m + 10 ^ 9) (k + 2) d' → d'.bulk ≤ 2 * n + 10 → Keep p H H' → Pen K p b ns (c + 8 * (k + 1)) H' → Q v' H'
structure PkB (P : Program) (w : World) (K : PySem.W.Frag) (mg : Str → Option Value) (base : Heap) (k : Nat) (spR : Sp) : Prop where
  d__law_pick : Has P w K mg base CX0 2 "_law_pick" ["_law_pen_here", "_law_some"] (spPick K)
  d__law_draw : Has P w K mg base CX0 1 "_law_draw" ["_law_pen_here", "_law_many"] (spDraw K)
  d__law_odd : Has P w K mg base CX0 3 "_law_odd" ["_law_pen_here"] (spOdd K)
  d__law_bent : Has P w K mg base CX0 (3 + k) "_law_bent" ["_law_pen_here", "_law_thing"] spR
section
variable {P : Program} {w : World} {K : PySem.W.Frag} {mg : Str → Option Value} {base : Heap} {A : Cls} {f : Addr} {fd : FuncData}
theorem bent_step {k : Nat} {spR : Sp} (hR : ∀ k', k = k' + 1 → spR = spBent K k') (F : FnAt K mg "_law_bent" s__law_bent f fd) (T : Txt K mg A) (D : PkB P w K mg base k spR) : Has P w K mg base CX0 (3 + k + 1) "_law_bent" ["_law_pen_here", "_law_thing"] (spBent K k) := by
  refine ⟨f, fd, F.fn.ok sc__law_bent (fun vs H Q E h => ?_) (fun cdv A outer s H vs Q E hr h => ?_), F.at_, F.fn.kp, F.fn.binds fun _ _ _ _ _ _ us hl => match us, hl with | [_, _], _ => rfl⟩
  · obtain ⟨p, b, ns, c, v, d, m, n, rfl, _⟩ := h
    rfl
  obtain ⟨p, b, ns, c, v, d, m, n, rfl, hp, hc, hd, hs, hm, hb, hn, q⟩ := h
  refine ⟨_, (pss_cons (ps_if (PW.pt (pw_or (pt_not (pt_val (pe_callB call_isiT (by rfl) T.z_isinstance (by decide +kernel) (pa_cons (pv 1) (pa_cons (pe_tup (pa_cons (pe_bltn (v := .ty "tuple") rfl T.z_tuple (by decide +kernel) rfl) (pa_cons (pe_bltn (v := .ty "list") rfl T.z_list (by decide +kernel) rfl) pa_nil))) pa_nil))))) (pw_or1 (pt_cmpR op_eq (pe_has D.d__law_draw (hr.mono (by omega)) (by rfl) pass0 (pa_cons (pv 0) (pa_cons pe_int pa_nil))) pe_int (nomark _))))) (pss_cons (ps_if (PW.pt (pw_and (pt_val (pe_callB call_isi (by rfl) T.z_isinstance (by decide +kernel) (pa_cons (pv 1) (pa_cons (pe_bltn (v := .ty "int") rfl T.z_int (by decide +kernel) rfl) pa_nil)))) (pw_and1 (pt_cmpR op_gt (pe_has D.d__law_draw (hr.mono (by omega)) (by rfl) pass0 (pa_cons (pv 0) (pa_cons pe_int pa_nil))) pe_int (nomark _))))) (pss_one (ps_ret (pe_op op_addB (pv 1) (pe_has D.d__law_pick (hr.mono (by omega)) (by rfl) pass0 (pa_cons (pv 0) (pa_cons (pe_lst (pa_cons pe_int (pa_cons (pe_un un_neg pe_int) (pa_cons pe_int (pa_cons pe_int (pa_cons pe_int (pa_cons pe_int (pa_cons (pe_op op_pow pe_int pe_int) pa_nil)))))))) pa_nil)))))) pss_nil) (pss_one (ps_ret (pe_has D.d__law_odd (hr.mono (by omega)) (by rfl) pass0 (pa_cons (pv 0) pa_nil))))) pss_nil) (pss_cons (ps_par (i := 3) (j := 4) (by rfl) sc__law_bent.nd rfl rfl (by decide) rfl rfl (pa_cons (pe_has D.d__law_draw (hr.mono (by omega)) (by rfl) pass0 (pa_cons (pv 0) (pa_cons (pe_op op_add (pe_callB call_len_seq (by rfl) T.z_len (by decide +kernel) (pa_cons (pv 1) pa_nil)) pe_int) pa_nil))) (pa_cons (pe_has D.d__law_draw (hr.mono (by omega)) (by rfl) pass0 (pa_cons (pv 0) (pa_cons pe_int pa_nil))) pa_nil)) (by rfl)) (pss_cons (ps_if (pt_cmpR op_lt (pv 4) pe_int (nomark _)) (pss_cons (ps_set (i := 5) sc__law_bent.nd rfl (Or.inl rfl) (pe_lst (pa_cons (pe_op op_catB (pe_slice sl_B (pv 1) po_none (po_some (pv 3))) (pe_slice sl_B (pv 1) (po_some (pe_op op_add (pv 3) pe_int)) po_none)) (pa_cons (pe_op op_catB (pe_op op_catB (pe_slice sl_B (pv 1) po_none (po_some (pv 3))) (pe_slice sl_B (pv 1) (po_some (pv 3)) (po_some (pe_op op_add (pv 3) pe_int)))) (pe_slice sl_B (pv 1) (po_some (pv 3)) po_none)) pa_nil)))) (pss_one (ps_ret (pe_ix ix_list (pe_op op_cat (pv 5) (pe_lst (pa_cons (pe_op op_catB (pe_slice sl_B (pv 1) po_none (po_some (pv 3))) (pe_revB (pe_slice sl_B (pv 1) (po_some (pv 3)) po_none))) pa_nil))) (pv 4) (fun _ _ => rfl))))) pss_nil) (pss_cons (ps_if (pt_cmpR op_eq (pv 4) pe_int (nomark _)) (pss_one (ps_ret (pe_ix ix_list (pe_lst (pa_cons (pe_callTy call_list_of (by rfl) T.z_list (by decide +kernel) (pa_cons (pv 1) pa_nil)) (pa_cons (pe_callTy call_tuple_of (by rfl) T.z_tuple (by decide +kernel) (pa_cons (pv 1) pa_nil)) pa_nil))) (pe_has D.d__law_draw (hr.mono (by omega)) (by rfl) pass0 (pa_cons (pv 0) (pa_cons pe_int pa_nil))) (fun _ _ => rfl)))) pss_nil) (pss_cons (ps_if (pt_cmpR op_eq (pv 3) (pe_callB call_len_seq (by rfl) T.z_len (by decide +kernel) (pa_cons (pv 1) pa_nil)) (nomark _)) (pss_one (ps_ret (pv 1))) pss_nil) (pss_cons (ps_set (i := 2) sc__law_bent.nd rfl (Or.inl rfl) (pe_has D.d__law_bent (hr.mono (by omega)) (by rfl) pass0 (pa_cons (pv 0) (pa_cons (pe_ix ix_B (pv 1) (pv 3) (fun _ _ => rfl)) pa_nil)))) (pss_cons (ps_if (pt_val (pe_callB call_isi (by rfl) T.z_isinstance (by decide +kernel) (pa_cons (pv 1) (pa_cons (pe_bltn (v := .ty "list") rfl T.z_list (by decide +kernel) rfl) pa_nil)))) (pss_one (ps_ret (pe_op op_catB (pe_op op_catB (pe_slice sl_B (pv 1) po_none (po_some (pv 3))) (pe_lst (pa_cons (pv 2) pa_nil))) (pe_slice sl_B (pv 1) (po_some (pe_op op_add (pv 3) pe_int)) po_none)))) pss_nil) (pss_one (ps_ret (pe_op op_catB (pe_op op_catB (pe_slice sl_B (pv 1) po_none (po_some (pv 3))) (pe_tup (pa_cons (pv 2) pa_nil))) (pe_slice sl_B (pv 1) (po_some (pe_op op_add (pv 3) pe_int)) po_none))))))))))), ?_⟩
  refine ⟨_, rfl, by show 2 ≤ sizeLine; decide, fun tt htt => ?_⟩
  have p1 := hp.new (o := .tup [.ty "tuple", .ty "list"]) htt
  have k1 := Keep.new (p := p) (o := .tup [.ty "tuple", .ty "list"]) htt
  have hd1 := dq_mono k1.stay _ _ hd
  refine ⟨v, tt, _, _, _, _, rfl, upd_same, .cons (.ty _) (.cons (.ty _) .nil), dq_ty (dq_mono core_le _ _ hd1), kitAny_tl d, _, rfl, ?_⟩
  cases hsq : isSeqB d with
  | false =>
    refine iteT (iteT ?_)
    refine ⟨_, rfl, _, _, _, _, _, rfl, .ty "int", dq_ty (dq_mono core_le _ _ hd1), kitD_int d, _, rfl, ?_⟩
    cases hi : isIntB d with
    | false =>
      refine iteF (iteF ?_)
      exact ⟨_, rfl, p, b, ns, _, rfl, p1, by omega, fun v' d' H' hd' hs' hb' k' p' => q v' d' H' hd' (hs'.mono (by omega) (by omega)) (by omega) (k1.trans k') (p'.mono (by omega))⟩
    | true =>
      refine iteT ⟨_, rfl, p, b, ns, _, 3, rfl, p1, by omega, by decide, by decide, fun v2 H2 v20 v21 k2 p2 => ⟨_, _, rfl, rfl, _, rfl, ?_⟩⟩
      have k12 := k1.trans k2
      by_cases hv : 0 < v2
      · refine iffT (decide_eq_true hv) ?_
        refine ⟨_, rfl, _, rfl, _, rfl, _, _, rfl, rfl, ⟨by decide, by decide, by decide⟩, by show 7 ≤ sizeLine; decide, fun l3 h3 => ?_⟩
        have p3 := p2.new (o := .lst [.int 1, .int (-1), .int 2, .int 7, .int 60, .int 3000, .int (10 ^ (9 : Int).toNat)]) h3
        refine ⟨p, b, l3, ns, _, _, rfl, p3, by omega, SqL.of upd_same, p2.off h3, (by show 1 ≤ 7; decide), (by show 7 ≤ 1000000; decide), fun i4 v4 H4 hv4 k4 p4 => ?_⟩
        obtain ⟨j, rfl, j0, j1⟩ : ∃ j : Int, v4 = .int j ∧ -(10 ^ 9) ≤ j ∧ j ≤ 10 ^ 9 := by
          match i4, hv4 with
          | 0, hv => exact ⟨_, (Option.some.inj hv).symm, by decide, by decide⟩
          | 1, hv => exact ⟨_, (Option.some.inj hv).symm, by decide, by decide⟩
          | 2, hv => exact ⟨_, (Option.some.inj hv).symm, by decide, by decide⟩
          | 3, hv => exact ⟨_, (Option.some.inj hv).symm, by decide, by decide⟩
          | 4, hv => exact ⟨_, (Option.some.inj hv).symm, by decide, by decide⟩
          | 5, hv => exact ⟨_, (Option.some.inj hv).symm, by decide, by decide⟩
          | 6, hv => exact ⟨_, (Option.some.inj hv).symm, by decide, by decide⟩
          | i + 7, hv => simp at hv
        have k14 := k12.trans ((Keep.new h3).trans k4)
        obtain ⟨i, hx, i0, i1⟩ : ∃ i : Int, (v = .int i ∨ ∃ b, v = .bl b ∧ i = (if b = true then 1 else 0)) ∧ -m ≤ i ∧ i ≤ m := by
          cases hs with
          | none k => cases hi
          | bool k b =>
            cases hd
            refine ⟨_, .inr ⟨b, rfl, rfl⟩, ?_⟩
            split <;> omega
          | int k h1 h2 =>
            cases hd
            exact ⟨_, .inl rfl, h1, h2⟩
          | str k h => cases hi
          | dct k => cases hi
          | dct1 k h h1 h2 => cases hi
          | list h => cases hi
          | tuple h => cases hi
        refine ⟨i, j, hx, rfl, ?_⟩
        exact q _ (.int (i + j)) H4 (.int _) (.int _ (by omega) (by omega)) (by simp only [PyData.bulk]; omega) k14 (p4.mono (by omega))
      · refine iffF (decide_eq_false hv) ?_
        exact ⟨_, rfl, p, b, ns, _, rfl, p2, by omega, fun v' d' H' hd' hs' hb' k' p' => q v' d' H' hd' (hs'.mono (by omega) (by omega)) (by omega) (k12.trans k') (p'.mono (by omega))⟩
  | true =>
    refine iteF ⟨_, rfl, p, b, ns, _, 7, rfl, p1, by omega, by decide, by decide, fun v2 H2 v20 v21 k2 p2 => ⟨rfl, _, rfl, ?_⟩⟩
    have k12 := k1.trans k2
    have hd2 := dq_mono k12.stay _ _ hd
    by_cases hv : v2 = 0
    · refine iffT (by rw [hv]; exact decide_eq_true rfl) ?_
      refine ⟨_, rfl, _, _, _, _, _, rfl, .ty "int", dq_ty (dq_mono core_le _ _ hd2), kitD_int d, _, rfl, ?_⟩
      have hi : isIntB d = false := by cases d <;> first | rfl | cases hsq
      refine iffF hi (iffF rfl ?_)
      exact ⟨_, rfl, p, b, ns, _, rfl, p2, by omega, fun v' d' H' hd' hs' hb' k' p' => q v' d' H' hd' (hs'.mono (by omega) (by omega)) (by omega) (k12.trans k') (p'.mono (by omega))⟩
    refine iffF (decide_eq_false (fun z => hv (by injection z))) ?_
    obtain ⟨L, ds, a, xs, k', rfl, hS, ha, rfl, hsm, hk, hbk⟩ : ∃ (L : Bool) (ds : List PyData) (a : Addr) (xs : List V) (k' : Nat), v = .ref a ∧ SqC K L (core p H) a xs ∧ DqAll K (core p H) xs ds ∧ d = mkD L ds ∧ (∀ x ∈ ds, Small m k' x) ∧ k = k' + 1 ∧ PyData.bulkAll ds ≤ n := by
      cases hs with
      | none k => cases hsq
      | bool k b => cases hsq
      | int k h1 h2 => cases hsq
      | str k h => cases hsq
      | dct k => cases hsq
      | dct1 k h h1 h2 => cases hsq
      | @list k' ds h =>
        cases hd with
        | lst g ga => exact ⟨true, ds, _, _, k', rfl, g, ga, rfl, h, rfl, by simpa only [PyData.bulk] using hb⟩
      | @tuple k' ds h =>
        cases hd with
        | tup g ga => exact ⟨false, ds, _, _, k', rfl, g, ga, rfl, h, rfl, by simpa only [PyData.bulk] using hb⟩
    have el := dqAll_len ha
    have lds := bulkAll_len ds
    have hS2 := hS.mono k12.stay
    have either : ∀ {H' : Hp}, Keep p H H' → SqL K H' a xs ∨ SqT K H' a xs := fun {H'} kk => by
      have g := (hS.mono kk.stay).mono core_le
      cases L with
      | true => exact .inl g
      | false => exact .inr g
    refine ⟨_, rfl, _, rfl, a, xs, rfl, either k12, _, _, rfl, rfl, p, b, ns, _, _, rfl, p2, by omega, by omega, by omega, fun at3 H3 v30 v31 k3 p3 => ?_⟩
    refine ⟨_, rfl, p, b, ns, _, 10, rfl, p3, by omega, by decide, by decide, fun ch H4 v40 v41 k4 p4 => ?_⟩
    refine ⟨_, _, rfl, ?_⟩
    have k14 := k12.trans (k3.trans k4)
    obtain ⟨i, rfl⟩ : ∃ i : Nat, at3 = (i : Int) := ⟨at3.toNat, by omega⟩
    have hi : i ≤ ds.length := by omega
    have hS4 := hS.mono k14.stay
    have ha4 := dqAll_mono k14.stay _ _ ha
    refine ⟨_, rfl, _, _, rfl, rfl, _, rfl, ?_⟩
    by_cases hc3 : ch < 3
    · refine iffT (decide_eq_true hc3) ?_
      have lx : xs.length ≤ 1000 := by omega
      have big : ∀ {x y : Nat}, x ≤ 5000 → y ≤ 5000 → x + y ≤ sizeLine := fun {x y} h1 h2 => by
        show x + y ≤ 2 ^ 24
        omega
      refine ⟨_, rfl, _, rfl, _, rfl, ?_⟩
      refine w_slC p4 hS4 fun a5 H5 s5 n5 => ?_
      rw [cut_to] at n5
      have p5 := p4.same s5
      have hS5 := hS4.mono (same_stay s5)
      refine ⟨_, rfl, _, rfl, _, _, rfl, rfl, _, rfl, ?_⟩
      refine w_slC p5 hS5 fun a6 H6 s6 n6 => ?_
      rw [cut_from1] at n6
      have p6 := p5.same s6
      have hS6 := hS5.mono (same_stay s6)
      refine w_catC p6 (n5.mono (same_stay s6)) n6 (big (by rw [List.length_take]; omega) (by rw [List.length_drop]; omega)) fun a7 H7 s7 n7 => ?_
      have p7 := p6.same s7
      have hS7 := hS6.mono (same_stay s7)
      refine ⟨_, rfl, _, rfl, _, rfl, ?_⟩
      refine w_slC p7 hS7 fun a8 H8 s8 n8 => ?_
      rw [cut_to] at n8
      have p8 := p7.same s8
      have hS8 := hS7.mono (same_stay s8)
      refine ⟨_, rfl, _, rfl, _, rfl, _, rfl, _, _, rfl, rfl, _, rfl, ?_⟩
      refine w_slC p8 hS8 fun a9 H9 s9 n9 => ?_
      rw [cut_one] at n9
      have p9 := p8.same s9
      have hS9 := hS8.mono (same_stay s9)
      refine w_catC p9 (n8.mono (same_stay s9)) n9 (big (by rw [List.length_take]; omega) (by rw [List.length_take, List.length_drop]; omega)) fun a10 H10 s10 n10 => ?_
      have p10 := p9.same s10
      have hS10 := hS9.mono (same_stay s10)
      refine ⟨_, rfl, _, rfl, _, rfl, ?_⟩
      refine w_slC p10 hS10 fun a11 H11 s11 n11 => ?_
      rw [cut_from] at n11
      have p11 := p10.same s11
      have hS11 := hS10.mono (same_stay s11)
      refine w_catC p11 (n10.mono (same_stay s11)) n11 (big (by rw [List.length_append, List.length_take, List.length_take, List.length_drop]; omega) (by rw [List.length_drop]; omega)) fun a12 H12 s12 n12 => ?_
      have p12 := p11.same s12
      have hS12 := hS11.mono (same_stay s12)
      refine ⟨by show 2 ≤ sizeLine; decide, fun l13 h13 => ?_⟩
      have p13 := p12.new (o := .lst [.ref a7, .ref a12]) h13
      have s13 := same_new (o := .lst [.ref a7, .ref a12]) h13
      have hS13 := hS12.mono (same_stay s13)
      refine ⟨_, rfl, _, rfl, _, rfl, _, rfl, ?_⟩
      refine w_slC p13 hS13 fun a14 H14 s14 n14 => ?_
      rw [cut_to] at n14
      have p14 := p13.same s14
      have hS14 := hS13.mono (same_stay s14)
      refine ⟨_, rfl, _, rfl, _, rfl, ?_⟩
      refine w_slC p14 hS14 fun a15 H15 s15 n15 => ?_
      rw [cut_from] at n15
      have p15 := p14.same s15
      refine w_revC p15 n15.sq fun a16 H16 s16 n16 => ?_
      have p16 := p15.same s16
      refine w_catC p16 (n14.mono (same_stay (s15.trans s16))) n16 (big (by rw [List.length_take]; omega) (by rw [List.length_reverse, List.length_drop]; omega)) fun a17 H17 s17 n17 => ?_
      have p17 := p16.same s17
      refine ⟨by show 1 ≤ sizeLine; decide, fun l18 h18 => ?_⟩
      have p18 := p17.new (o := .lst [.ref a17]) h18
      have e13 : (upd H17 l18 (.lst [.ref a17])) l13 = some (.lst [.ref a7, .ref a12]) := same_new h18 _ _ (s17 _ _ (s16 _ _ (s15 _ _ (s14 _ _ upd_same))))
      refine ⟨_, _, _, _, rfl, rfl, e13, upd_same, by show 2 + 1 ≤ sizeLine; decide, fun l19 h19 => ?_⟩
      have p19 := p18.new (o := .lst ([.ref a7, .ref a12] ++ [.ref a17])) h19
      have s1819 := (same_new (o := .lst [.ref a17]) h18).trans (same_new (o := .lst ([.ref a7, .ref a12] ++ [.ref a17])) h19)
      have s1219 := s13.trans (s14.trans (s15.trans (s16.trans (s17.trans s1819))))
      have s719 := s8.trans (s9.trans (s10.trans (s11.trans (s12.trans s1219))))
      have s419 := s5.trans (s6.trans (s7.trans s719))
      have ha19 := dqAll_mono (same_stay (p := p) s419) _ _ ha4
      have k19 := k14.trans (Keep.of (p := p) s419)
      have fin : ∀ (a' : Addr) (ys : List V) (es : List PyData), SqC K L (core p (upd (upd H17 l18 (.lst [.ref a17])) l19 (.lst ([.ref a7, .ref a12] ++ [.ref a17])))) a' ys → DqAll K (core p (upd (upd H17 l18 (.lst [.ref a17])) l19 (.lst ([.ref a7, .ref a12] ++ [.ref a17])))) ys es →
          (∀ x ∈ es, Small m k' x) → PyData.bulkAll es ≤ 2 * n + 10 → Q (.ref a') (upd (upd H17 l18 (.lst [.ref a17])) l19 (.lst ([.ref a7, .ref a12] ++ [.ref a17]))) := fun a' ys es g1 g2 g3 g4 =>
        q _ (mkD L es) _ (g1.dq g2) ((small_mk g3).mono (by omega) (by omega)) (by rw [bulk_mk]; exact g4) k19 (p19.mono (by omega))
      have sp := bulkAll_split ds i
      have sp1 := bulkAll_split (ds.drop i) 1
      have ed : (ds.drop i).drop 1 = ds.drop (i + 1) := by rw [List.drop_drop]
      rw [ed] at sp1
      have hch : ch = 0 ∨ ch = 1 ∨ ch = 2 := by omega
      rcases hch with rfl | rfl | rfl
      · refine ⟨_, rfl, l19, _, 0, .ref a7, rfl, rfl, SqL.of upd_same, rfl, ?_⟩
        refine fin a7 _ (ds.take i ++ ds.drop (i + 1)) (n7.sq.mono (same_stay s719)) (dqAll_app (dqAll_take ha19 i) (dqAll_drop ha19 (i + 1))) (fun x hx => ?_) ?_
        · rcases List.mem_append.mp hx with g | g
          · exact hsm x (List.mem_of_mem_take g)
          · exact hsm x (List.mem_of_mem_drop g)
        · rw [bulkAll_app]
          omega
      · refine ⟨_, rfl, l19, _, 1, .ref a12, rfl, rfl, SqL.of upd_same, rfl, ?_⟩
        refine fin a12 _ ((ds.take i ++ (ds.drop i).take 1) ++ ds.drop i) (n12.sq.mono (same_stay s1219)) (dqAll_app (dqAll_app (dqAll_take ha19 i) (dqAll_take (dqAll_drop ha19 i) 1)) (dqAll_drop ha19 i)) (fun x hx => ?_) ?_
        · rcases List.mem_append.mp hx with g | g
          · rcases List.mem_append.mp g with g | g
            · exact hsm x (List.mem_of_mem_take g)
            · exact hsm x (List.mem_of_mem_drop (List.mem_of_mem_take g))
          · exact hsm x (List.mem_of_mem_drop g)
        · rw [bulkAll_app, bulkAll_app]
          omega
      · refine ⟨_, rfl, l19, _, 2, .ref a17, rfl, rfl, SqL.of upd_same, rfl, ?_⟩
        refine fin a17 _ (ds.take i ++ (ds.drop i).reverse) (n17.sq.mono (same_stay s1819)) (dqAll_app (dqAll_take ha19 i) (dqAll_rev (dqAll_drop ha19 i))) (fun x hx => ?_) ?_
        · rcases List.mem_append.mp hx with g | g
          · exact hsm x (List.mem_of_mem_take g)
          · exact hsm x (List.mem_of_mem_drop (List.mem_reverse.mp g))
        · rw [bulkAll_app, bulkAll_rev]
          omega
    refine iffF (decide_eq_false hc3) ?_
    refine ⟨_, rfl, rfl, _, rfl, ?_⟩
    by_cases hc4 : ch = 3
    · refine iffT (by rw [hc4]; exact decide_eq_true rfl) ?_
      refine ⟨_, rfl, a, xs, rfl, either k14, fun l5 h5 => ?_⟩
      have p5 := p4.new (o := .lst xs) h5
      have s5 := same_new (o := .lst xs) h5
      have hS5 := hS4.mono (same_stay s5)
      refine ⟨_, rfl, a, xs, rfl, ?_⟩
      cases L with
      | true =>
        refine .inl ⟨seqL_mono core_le hS5, fun a6 h6 => ?_⟩
        have s6 := same_new (o := .tup xs) h6
        have n6 : SqT K (core p (upd (upd H4 l5 (.lst xs)) a6 (.tup xs))) a6 xs := SqT.of (core_of upd_same (p5.off h6) (fun ps z => nomatch z))
        have p6 := p5.same s6
        refine ⟨by show 2 ≤ sizeLine; decide, fun l7 h7 => ?_⟩
        have p7 := p6.new (o := .lst [.ref l5, .ref a6]) h7
        have s7 := same_new (o := .lst [.ref l5, .ref a6]) h7
        refine ⟨_, rfl, p, b, ns, _, 2, rfl, p7, by omega, by decide, by decide, fun v8 H8 v80 v81 k8 p8 => ?_⟩
        have e7 := k8 _ _ (p6.off h7) upd_same
        have k48 : Keep p H4 H8 := (Keep.of (s5.trans (s6.trans s7))).trans k8
        have ha8 := dqAll_mono k48.stay _ _ ha4
        have hv8 : v8 = 0 ∨ v8 = 1 := by omega
        rcases hv8 with rfl | rfl
        · refine ⟨l7, _, 0, .ref l5, rfl, rfl, SqL.of e7, rfl, ?_⟩
          have n5 := p4.off h5
          exact q _ (.list ds) H8 (.lst (SqL.of (core_of (k8 _ _ n5 (s7 _ _ (s6 _ _ upd_same))) n5 (fun ps z => nomatch z))) ha8) ((Small.list hsm).mono (by omega) (by omega)) (by simp only [PyData.bulk]; omega) (k14.trans k48) (p8.mono (by omega))
        · refine ⟨l7, _, 1, .ref a6, rfl, rfl, SqL.of e7, rfl, ?_⟩
          exact q _ (.tuple ds) H8 (.tup (seqT_mono ((same_stay s7).trans k8.stay) n6) ha8) ((Small.tuple hsm).mono (by omega) (by omega)) (by simp only [PyData.bulk]; omega) (k14.trans k48) (p8.mono (by omega))
      | false =>
        refine .inr ⟨seqT_mono core_le hS5, ?_⟩
        have s6 := Same.refl (upd H4 l5 (.lst xs))
        have n6 : SqT K (core p (upd H4 l5 (.lst xs))) a xs := hS5
        have p6 := p5.same s6
        refine ⟨by show 2 ≤ sizeLine; decide, fun l7 h7 => ?_⟩
        have p7 := p6.new (o := .lst [.ref l5, .ref a]) h7
        have s7 := same_new (o := .lst [.ref l5, .ref a]) h7
        refine ⟨_, rfl, p, b, ns, _, 2, rfl, p7, by omega, by decide, by decide, fun v8 H8 v80 v81 k8 p8 => ?_⟩
        have e7 := k8 _ _ (p6.off h7) upd_same
        have k48 : Keep p H4 H8 := (Keep.of (s5.trans (s6.trans s7))).trans k8
        have ha8 := dqAll_mono k48.stay _ _ ha4
        have hv8 : v8 = 0 ∨ v8 = 1 := by omega
        rcases hv8 with rfl | rfl
        · refine ⟨l7, _, 0, .ref l5, rfl, rfl, SqL.of e7, rfl, ?_⟩
          have n5 := p4.off h5
          exact q _ (.list ds) H8 (.lst (SqL.of (core_of (k8 _ _ n5 (s7 _ _ (s6 _ _ upd_same))) n5 (fun ps z => nomatch z))) ha8) ((Small.list hsm).mono (by omega) (by omega)) (by simp only [PyData.bulk]; omega) (k14.trans k48) (p8.mono (by omega))
        · refine ⟨l7, _, 1, .ref a, rfl, rfl, SqL.of e7, rfl, ?_⟩
          exact q _ (.tuple ds) H8 (.tup (seqT_mono ((same_stay s7).trans k8.stay) n6) ha8) ((Small.tuple hsm).mono (by omega) (by omega)) (by simp only [PyData.bulk]; omega) (k14.trans k48) (p8.mono (by omega))
    refine iffF (decide_eq_false (fun z => hc4 (by injection z))) ?_
    refine ⟨_, rfl, _, rfl, a, xs, rfl, either k14, rfl, _, rfl, ?_⟩
    by_cases hie : i = xs.length
    · refine iffT (by rw [hie]; exact decide_eq_true rfl) ?_
      exact ⟨_, rfl, q _ (mkD L ds) H4 (hS4.dq ha4) ((small_mk hsm).mono (by omega) (by omega)) (by rw [bulk_mk]; omega) k14 (p4.mono (by omega))⟩
    refine iffF (decide_eq_false (fun z => hie (by injection z with z; omega))) ?_
    have hlt : i < xs.length := by omega
    obtain ⟨x, hx⟩ : ∃ x, xs[i]? = some x := ⟨_, List.getElem?_eq_getElem hlt⟩
    obtain ⟨dx, hdx, hqx⟩ := dqAll_get ha4 hx
    have sp := bulkAll_split ds i
    have dcons : ds.drop i = dx :: ds.drop (i + 1) := by
      have hl : i < ds.length := by omega
      rw [List.drop_eq_getElem_cons hl]
      have := List.getElem?_eq_getElem hl
      rw [this] at hdx
      cases hdx
      rfl
    rw [dcons] at sp
    simp only [PyData.bulkAll] at sp
    have er := hR k' hk
    subst er
    refine ⟨_, rfl, _, rfl, _, rfl, ?_⟩
    refine w_ixC hS4 (L2.atI_nat hx) ?_
    refine ⟨p, b, ns, _, x, dx, m, dx.bulk, rfl, p4, by omega, hqx, hsm dx (List.mem_of_getElem? hdx), hm, Nat.le_refl _, by omega, fun v5 d5 H5 hd5 hs5 hb5 k5 p5 => ?_⟩
    have hS5 := hS4.mono k5.stay
    have ha5 := dqAll_mono k5.stay _ _ ha4
    have lx : xs.length ≤ 1000 := by omega
    have big : ∀ {x y : Nat}, x ≤ 5000 → y ≤ 5000 → x + y ≤ sizeLine := fun {x y} h1 h2 => by
      show x + y ≤ 2 ^ 24
      omega
    have k15 := k14.trans k5
    have fin : ∀ (a' : Addr) (H' : Hp), Same H5 H' → NewC K L (core p H') a' ((xs.take i ++ [v5]) ++ xs.drop (i + 1)) → Q (.ref a') H' := fun a' H' s g => by
      have ha' := dqAll_mono (same_stay (p := p) s) _ _ ha5
      have hd' := dq_mono (same_stay (p := p) s) _ _ hd5
      refine q _ (mkD L ((ds.take i ++ [d5]) ++ ds.drop (i + 1))) H' (g.sq.dq (dqAll_app (dqAll_app (dqAll_take ha' i) (.cons hd' .nil)) (dqAll_drop ha' (i + 1)))) ((small_mk (k := k' + 2) (m := m + 10 ^ 9) fun y hy => ?_).mono (by omega) (by omega)) ?_ (k15.trans (Keep.of s)) ((p5.same s).mono (by omega))
      · rcases List.mem_append.mp hy with g | g
        · rcases List.mem_append.mp g with g | g
          · exact (hsm y (List.mem_of_mem_take g)).mono (by omega) (by omega)
          · rw [List.mem_singleton.mp g]
            exact hs5
        · exact (hsm y (List.mem_of_mem_drop g)).mono (by omega) (by omega)
      · rw [bulk_mk, bulkAll_app, bulkAll_app]
        simp only [PyData.bulkAll]
        omega
    refine ⟨_, rfl, _, _, _, _, _, rfl, .ty "list", dq_ty ((hS5.mono core_le).dq (dqAll_mono core_le _ _ ha5)), kitD_list _, _, rfl, ?_⟩
    cases L with
    | true =>
      refine iteT ?_
      refine ⟨_, rfl, _, rfl, _, rfl, ?_⟩
      refine w_slC p5 hS5 fun a6 H6 s6 n6 => ?_
      rw [cut_to] at n6
      have p6 := p5.same s6
      refine ⟨_, rfl, by show 1 ≤ sizeLine; decide, fun l7 h7 => ?_⟩
      have p7 := p6.new (o := .lst [v5]) h7
      have s7 := same_new (o := .lst [v5]) h7
      refine w_catC (L := true) p7 (n6.mono (same_stay s7)) (core_of upd_same (p6.off h7) (fun ps z => nomatch z)) (big (by rw [List.length_take]; omega) (by show 1 ≤ 5000; decide)) fun a8 H8 s8 n8 => ?_
      have p8 := p7.same s8
      have s58 := s6.trans (s7.trans s8)
      refine ⟨_, rfl, _, rfl, _, _, rfl, rfl, _, rfl, ?_⟩
      refine w_slC p8 (hS5.mono (same_stay s58)) fun a9 H9 s9 n9 => ?_
      rw [cut_from1] at n9
      refine w_catC (p8.same s9) (n8.mono (same_stay s9)) n9 (big (by rw [List.length_append, List.length_take]; show _ + 1 ≤ 5000; omega) (by rw [List.length_drop]; omega)) fun a10 H10 s10 n10 => ?_
      exact fin a10 H10 (s58.trans (s9.trans s10)) n10
    | false =>
      refine iteF ?_
      refine ⟨_, rfl, _, rfl, _, rfl, ?_⟩
      refine w_slC p5 hS5 fun a6 H6 s6 n6 => ?_
      rw [cut_to] at n6
      have p6 := p5.same s6
      refine ⟨_, rfl, by show 1 ≤ sizeLine; decide, fun l7 h7 => ?_⟩
      have p7 := p6.new (o := .tup [v5]) h7
      have s7 := same_new (o := .tup [v5]) h7
      refine w_catC (L := false) p7 (n6.mono (same_stay s7)) (SqT.of (core_of upd_same (p6.off h7) (fun ps z => nomatch z))) (big (by rw [List.length_take]; omega) (by show 1 ≤ 5000; decide)) fun a8 H8 s8 n8 => ?_
      have p8 := p7.same s8
      have s58 := s6.trans (s7.trans s8)
      refine ⟨_, rfl, _, rfl, _, _, rfl, rfl, _, rfl, ?_⟩
      refine w_slC p8 (hS5.mono (same_stay s58)) fun a9 H9 s9 n9 => ?_
      rw [cut_from1] at n9
      refine w_catC (p8.same s9) (n8.mono (same_stay s9)) n9 (big (by rw [List.length_append, List.length_take]; show _ + 1 ≤ 5000; omega) (by rw [List.length_drop]; omega)) fun a10 H10 s10 n10 => ?_
      exact fin a10 H10 (s58.trans (s9.trans s10)) n10
end
end Ka
set_option Elab.async false
set_option linter.all false
set_option maxRecDepth 100000
set_option maxHeartbeats 4000000
namespace Ka
open PySem PySem.Spec PyProof.Rows L2 Dt
theorem bent_all {P : Program} {w : World} {K : PySem.W.Frag} {mg : Str → Option Value} {base : Heap} {A : Cls} {f : Addr} {fd : FuncData} (F : FnAt K mg "_law_bent" s__law_bent f fd) (T : Txt K mg A)
    (d1 : Has P w K mg base CX0 2 "_law_pick" ["_law_pen_here", "_law_some"] (spPick K)) (d2 : Has P w K mg base CX0 1 "_law_draw" ["_law_pen_here", "_law_many"] (spDraw K)) (d3 : Has P w K mg base CX0 3 "_law_odd" ["_law_pen_here"] (spOdd K)) :
    ∀ k : Nat, Has P w K mg base CX0 (3 + k + 1) "_law_bent" ["_law_pen_here", "_law_thing"] (spBent K k)
  | 0 => by
    refine bent_step (k := 0) (spR := fun _ _ _ _ => False) (fun k' e => (Nat.succ_ne_zero k' e.symm).elim) F T ⟨d1, d2, d3, f, fd, ?_, F.at_, F.fn.kp, F.fn.binds fun _ _ _ _ _ _ us hl => match us, hl with | [_, _], _ => rfl⟩
    exact F.fn.ok (k := 2) sc__law_bent (fun vs H Q E h => h.elim) (fun cdv A outer s H vs Q E hr h => h.elim)
  | k + 1 => bent_step (spR := spBent K k) (fun k' e => by have : k = k' := by omega
                                                           rw [this]) F T ⟨d1, d2, d3, bent_all F T d1 d2 d3 k⟩
structure PkI (P : Program) (w : World) (K : PySem.W.Frag) (mg : Str → Option Value) (base : Heap) : Prop where
  d__law_is_whole : Has P w K mg base CX0 1 "_law_is_whole" ["_law_thing", "_law_least", "_law_greatest"] (spThreeQ K numIn)
structure PkJ (P : Program) (w : World) (K : PySem.W.Frag) (mg : Str → Option Value) (base : Heap) : Prop extends PkI P w K mg base where
  d__law_is_rising : Has P w K mg base CX0 2 "_law_is_rising" ["_law_thing", "_law_many", "_law_greatest"] (spRiseQ K)
section
variable {P : Program} {w : World} {K : PySem.W.Frag} {mg : Str → Option Value} {base : Heap} {A : Cls} {f : Addr} {fd : FuncData}
theorem ok__law_is_whole (F : FnAt K mg "_law_is_whole" s__law_is_whole f fd) (T : Txt K mg A) : Has P w K mg base CX0 1 "_law_is_whole" ["_law_thing", "_law_least", "_law_greatest"] (spThreeQ K numIn) := by
  refine ⟨f, fd, F.fn.ok sc__law_is_whole len_spThreeQ (fun cdv A outer s H vs Q E hr h => ?_), F.at_, F.fn.kp, F.fn.binds fun _ _ _ _ _ _ us hl => match us, hl with | [_, _, _], _ => rfl⟩
  obtain ⟨v, d, i, j, rfl, hd, sd, q⟩ := h
  have q1 := q H (Same.refl H)
  refine ⟨_, (pss_one (ps_ret (pe_and (pe_callB call_isi (by rfl) T.z_isinstance (by decide +kernel) (pa_cons (pv 0) (pa_cons (pe_bltn (v := .ty "int") rfl T.z_int (by decide +kernel) rfl) pa_nil))) (pe_and (pe_not (pe_callB call_isi (by rfl) T.z_isinstance (by decide +kernel) (pa_cons (pv 0) (pa_cons (pe_bltn (v := .ty "bool") rfl T.z_bool (by decide +kernel) rfl) pa_nil)))) (pe_one (pe_chain op_le op_le (pv 1) (pv 0) (pv 2))))))), ?_⟩
  refine ⟨_, rfl, _, _, _, _, _, rfl, .ty "int", dq_ty hd, kitD_int d, _, rfl, ?_⟩
  cases d with
  | int k =>
    cases hd
    refine iteT ⟨_, rfl, _, _, _, _, _, rfl, .ty "bool", dq_ty (.int k), kitD_bool _, _, rfl, _, rfl, ?_⟩
    refine iteT ⟨_, rfl, _, rfl, _, _, rfl, rfl, _, rfl, ?_⟩
    by_cases h1 : i ≤ k
    · rw [decide_eq_true h1]
      refine iteT ⟨_, rfl, _, _, rfl, rfl, ?_⟩
      rw [show numIn (.int k) i j = decide (k ≤ j) by simp [numIn, h1]] at q1
      exact q1
    · rw [decide_eq_false h1]
      rw [show numIn (.int k) i j = false by simp [numIn, h1]] at q1
      exact iteF q1
  | bool b => exact iteT ⟨_, rfl, _, _, _, _, _, rfl, .ty "bool", dq_ty hd, kitD_bool _, _, rfl, _, rfl, iteF q1⟩
  | none => exact iteF q1
  | str x => exact iteF q1
  | list x => exact iteF q1
  | tuple x => exact iteF q1
  | dict x => exact iteF q1
theorem ok__law_is_rising (F : FnAt K mg "_law_is_rising" s__law_is_rising f fd) (T : Txt K mg A) (D : PkI P w K mg base) : Has P w K mg base CX0 2 "_law_is_rising" ["_law_thing", "_law_many", "_law_greatest"] (spRiseQ K) := by
  refine ⟨f, fd, F.fn.ok sc__law_is_rising len_spRiseQ (fun cdv A outer s H vs Q E hr h => ?_), F.at_, F.fn.kp, F.fn.binds fun _ _ _ _ _ _ us hl => match us, hl with | [_, _, _], _ => rfl⟩
  obtain ⟨v, d, i, j, rfl, hd, sd, hi, q⟩ := h
  have huc : (cxOf CX0 P w K mg base n__law_is_rising "_law_is_rising" (defScope s__law_is_rising) f cdv A outer s H E).nox.A.units < cLine := Nat.lt_of_le_of_lt (Nat.le_add_right _ _) hr.units
  refine ⟨_, (pss_cons (ps_if (PW.pt (pw_or (pt_not (pt_val (pe_callB call_isi (by rfl) T.z_isinstance (by decide +kernel) (pa_cons (pv 0) (pa_cons (pe_bltn (v := .ty "tuple") rfl T.z_tuple (by decide +kernel) rfl) pa_nil))))) (pw_or1 (pt_cmpR op_gt (pe_callB call_len_seq (by rfl) T.z_len (by decide +kernel) (pa_cons (pv 0) pa_nil)) (pv 1) (nomark _))))) (pss_one (ps_ret pe_bl)) pss_nil) (pss_cons (ps_if (pt_cmpR (op_neNil huc) (pe_lc (own := [("_law_one", 3)]) (g := gName 3) (by rfl) sc__law_is_rising.nd (pi_tup (pv 0)) (blkOk_by (own := [("_law_one", 3)]) (N := ["_law_thing", "_law_many", "_law_greatest", "_law_one", "_law_k"]) (sc := defScope s__law_is_rising) (by decide +kernel)) (fun _ _ _ _ _ => (pg_name (i := 3) sc__law_is_rising.nd rfl (Or.inl rfl))) (fun _ _ _ _ _ => (pts_one (pt_not (pt_val (pe_has D.d__law_is_whole (hr.mono (by decide)) (by rfl) pass0 (pa_cons (pv 3) (pa_cons pe_int (pa_cons (pv 2) pa_nil)))))))) (fun _ _ _ _ _ => (pv 3))) (pe_lst pa_nil) (nomark _)) (pss_one (ps_ret pe_bl)) pss_nil) (pss_one (ps_ret (pe_cmpR (op_eqNil huc) (pe_lc (own := [("_law_k", 4)]) (g := gName 4) (by rfl) sc__law_is_rising.nd (pi_range2 (by rfl) T.z_range (pa_cons pe_int (pa_cons (pe_callB call_len_seq (by rfl) T.z_len (by decide +kernel) (pa_cons (pv 0) pa_nil)) pa_nil))) (blkOk_by (own := [("_law_k", 4)]) (N := ["_law_thing", "_law_many", "_law_greatest", "_law_one", "_law_k"]) (sc := defScope s__law_is_rising) (by decide +kernel)) (fun _ _ _ _ _ => (pg_name (i := 4) sc__law_is_rising.nd rfl (Or.inl rfl))) (fun _ _ _ _ _ => (pts_one (pt_cmpR op_ge (pe_ix (show IxR _ (rIxT K) from ix_tup) (pv 0) (pe_op op_sub (pv 4) pe_int) (fun _ _ => rfl)) (pe_ix (show IxR _ (rIxT K) from ix_tup) (pv 0) (pv 4) (fun _ _ => rfl)) (nomark _)))) (fun _ _ _ _ _ => (pv 4))) (pe_lst pa_nil) (nomark _)))))), ?_⟩
  refine ⟨_, rfl, _, _, _, _, _, rfl, .ty "tuple", dq_ty hd, kitD_tuple d, _, rfl, ?_⟩
  cases d with
  | tuple ds =>
    cases hd with
    | @tup p xs _ hs ha =>
    have el : xs.length = ds.length := dqAll_len ha
    refine iteF ?_
    refine ⟨_, rfl, p, xs, rfl, .inr hs, _, rfl, _, _, rfl, rfl, _, rfl, ?_⟩
    by_cases h1 : (ds.length : Int) ≤ i
    · have er : risingD (.tuple ds) i j = (ds.all (fun x => numIn x 0 j) && risingL ds) := by
        show (decide ((ds.length : Int) ≤ i) && _) = _
        rw [decide_eq_true h1, Bool.true_and]
      refine iffF (decide_eq_false (by omega)) ?_
      refine ⟨_, rfl, p, rfl, ⟨xs, hs⟩, fun L hL => ?_⟩
      refine lc_tup (K := K) (a := p) (xs := xs) (fun n H' => Same H H' ∧ ∃ l : List V, H' L = some (.lst l) ∧ l.length ≤ n ∧ l.isEmpty = (ds.take n).all (fun x => numIn x 0 j)) ⟨same_new hL, [], upd_same, Nat.le_refl 0, rfl⟩ (fun n H' _ R => seqT_mono R.1 hs) ?_ ?_
      · rintro n x H' hx ⟨s2, l, e2, l2, i2⟩
        obtain ⟨dx, hdx, hdp⟩ := dqAll_get ha hx
        have hn : n < xs.length := (List.getElem?_eq_some_iff.mp hx).1
        have tk : (ds.take (n + 1)).all (fun x => numIn x 0 j) = (l.isEmpty && numIn dx 0 j) := by
          rw [List.take_add_one, hdx, List.all_append, ← i2]
          simp
        refine ⟨rfl, ?_⟩
        refine ⟨_, rfl, _, rfl, x, dx, 0, j, rfl, dq_mono s2 _ _ hdp, rfl, fun H2 s3 => ⟨_, rfl, ?_⟩⟩
        cases e : numIn dx 0 j with
        | false =>
          refine iteT ⟨_, rfl, l, s3 _ _ e2, ?_, same_mut (s2.trans s3) hL, l ++ [x], upd_same, ?_, ?_⟩
          · exact small1000 (by omega)
          · rw [List.length_append]
            show l.length + 1 ≤ n + 1
            omega
          · rw [tk, e, Bool.and_false]
            simp
        | true =>
          refine iteF ⟨s2.trans s3, l, s3 _ _ e2, by omega, ?_⟩
          rw [tk, e, Bool.and_true]
      rintro H2 ⟨s2, l, e2, l2, i2⟩
      rw [el, List.take_length] at i2
      refine ⟨by show 0 ≤ sizeLine; decide, fun b2 hb2 => ?_⟩
      have s3 := same_new (o := .lst []) hb2
      refine ⟨L, b2, l, rfl, rfl, SqL.of (s3 _ _ e2), SqL.of upd_same, _, rfl, ?_⟩
      have s23 := s2.trans s3
      cases eall : ds.all (fun x => numIn x 0 j) with
      | false =>
        rw [i2, eall]
        refine iteT ?_
        have := q _ s23
        rw [er, eall, Bool.false_and] at this
        exact this
      | true =>
      rw [i2, eall]
      refine iteF ?_
      rw [eall, Bool.true_and] at er
      have num : ∀ (n : Nat) (x : V), xs[n]? = some x → ∃ k, x = .int k ∧ ds[n]? = some (.int k) := by
        intro n x hx
        obtain ⟨dx, hdx, hdp⟩ := dqAll_get ha hx
        have hn := List.all_eq_true.mp eall dx (List.mem_of_getElem? hdx)
        cases hdp with
        | int k => exact ⟨k, rfl, hdx⟩
        | non => cases hn
        | bl _ => cases hn
        | str _ => cases hn
        | lst _ _ => cases hn
        | tup _ _ => cases hn
        | dct _ => cases hn
        | dct1 _ => cases hn
      have hs3 := seqT_mono s23 hs
      refine ⟨_, rfl, p, xs, rfl, .inr hs3, 1, (xs.length : Nat), rfl, ⟨by omega, by omega, by omega, by omega⟩, fun L3 hL3 => ?_⟩
      generalize hH3 : upd H2 b2 (.lst []) = H3 at s23 hs3 hL3 ⊢
      refine lc_range (lo := 1) (n := ((xs.length : Int) - 1).toNat) (fun n H' => Same H3 H' ∧ ∃ l : List V, H' L3 = some (.lst l) ∧ l.length ≤ n ∧ l.isEmpty = ((List.range n).map fun k => ltD (ds.getD k .none) (ds.getD (k + 1) .none)).all id) ⟨same_new hL3, [], upd_same, Nat.le_refl 0, rfl⟩ ?_ ?_
      · rintro n H' hn ⟨s4, l, e4, l4, i4⟩
        obtain ⟨x1, hx1⟩ : ∃ x, xs[n]? = some x := ⟨_, List.getElem?_eq_getElem (by omega)⟩
        obtain ⟨x2, hx2⟩ : ∃ x, xs[n + 1]? = some x := ⟨_, List.getElem?_eq_getElem (by omega)⟩
        obtain ⟨k1, rfl, hk1⟩ := num n x1 hx1
        obtain ⟨k2, rfl, hk2⟩ := num (n + 1) x2 hx2
        have hs4 := seqT_mono s4 hs3
        have g1 : ds.getD n .none = .int k1 := by rw [List.getD_eq_getElem?_getD, hk1]; rfl
        have g2 : ds.getD (n + 1) .none = .int k2 := by rw [List.getD_eq_getElem?_getD, hk2]; rfl
        have tk : ((List.range (n + 1)).map fun k => ltD (ds.getD k .none) (ds.getD (k + 1) .none)).all id = (l.isEmpty && decide (k1 < k2)) := by
          rw [List.range_succ, List.map_append, List.all_append, ← i4]
          simp only [List.map_cons, List.map_nil, List.all_cons, List.all_nil, g1, g2, ltD, id, Bool.and_true]
        refine ⟨rfl, ?_⟩
        refine ⟨_, rfl, _, rfl, _, _, rfl, rfl, p, xs, _, .int k1, rfl, rfl, hs4, ?_, _, rfl, _, rfl, p, xs, _, .int k2, rfl, rfl, hs4, ?_, _, _, rfl, rfl, _, rfl, ?_⟩
        · rw [show (1 : Int) + (n : Int) - 1 = (n : Int) by omega]
          exact L2.atI_nat hx1
        · rw [show (1 : Int) + (n : Int) = ((n + 1 : Nat) : Int) by omega]
          exact L2.atI_nat hx2
        by_cases h2 : k2 ≤ k1
        · refine iffT (decide_eq_true h2) ?_
          refine ⟨_, rfl, l, e4, ?_, same_mut s4 hL3, l ++ [_], upd_same, ?_, ?_⟩
          · exact small1000 (by omega)
          · rw [List.length_append]
            show l.length + 1 ≤ n + 1
            omega
          · rw [tk, decide_eq_false (by omega), Bool.and_false]
            simp
        · refine iffF (decide_eq_false h2) ⟨s4, l, e4, by omega, ?_⟩
          rw [tk, decide_eq_true (by omega), Bool.and_true]
      rintro H4 ⟨s4, l3, e4, l4, i4⟩
      refine ⟨by show 0 ≤ sizeLine; decide, fun b5 hb5 => ?_⟩
      have s5 := same_new (o := .lst []) hb5
      refine ⟨L3, b5, l3, rfl, rfl, SqL.of (s5 _ _ e4), SqL.of upd_same, ?_⟩
      have := q _ (s23.trans (s4.trans s5))
      rw [er, risingL_iff] at this
      rw [i4, show ((xs.length : Int) - 1).toNat = ds.length - 1 by omega]
      exact this
    · refine iffT (decide_eq_true (by omega)) ?_
      have := q H (Same.refl H)
      rw [show risingD (.tuple ds) i j = false by
        show (decide ((ds.length : Int) ≤ i) && _) = false
        rw [decide_eq_false h1, Bool.false_and]] at this
      exact this
  | bool b => exact iteT (iteT (q H (Same.refl H)))
  | int b => exact iteT (iteT (q H (Same.refl H)))
  | none => exact iteT (iteT (q H (Same.refl H)))
  | str x => exact iteT (iteT (q H (Same.refl H)))
  | list x => exact iteT (iteT (q H (Same.refl H)))
  | dict x => exact iteT (iteT (q H (Same.refl H)))
end
end Ka
set_option Elab.async false
set_option linter.all false
set_option maxRecDepth 100000
set_option maxHeartbeats 4000000
namespace Ka
open PySem PySem.Spec PyProof.Rows L2 Dt
theorem two_of {K : PySem.W.Frag} {H : Hp} {xs : List V} {ds : List PyData} (h : DqAll K H xs ds) (e : xs.length = 2) : ∃ x y a b, xs = [x, y] ∧ ds = [a, b] ∧ Dq K H x a ∧ Dq K H y b := by
  cases h with
  | nil => cases e
  | cons h1 h2 =>
    cases h2 with
    | nil => cases e
    | cons h3 h4 =>
      cases h4 with
      | nil => exact ⟨_, _, _, _, rfl, rfl, h1, h3⟩
      | cons h5 h6 => simp at e
theorem rest_not2 {ds : List PyData} (h : ds.length ≠ 2) : restD (.tuple ds) = false := by
  match ds, h with
  | [], _ => rfl
  | [_], _ => rfl
  | [_, _], h => exact absurd rfl h
  | _ :: _ :: _ :: _, _ => rfl
theorem span_not2 {ds : List PyData} (h : ds.length ≠ 2) : spanD (.tuple ds) = false := by
  match ds, h with
  | [], _ => rfl
  | [_], _ => rfl
  | [_, _], h => exact absurd rfl h
  | _ :: _ :: _ :: _, _ => rfl
theorem ne_two {n : Nat} (h : n ≠ 2) : (!decide (V.int (n : Int) = V.int 2)) = true := by
  have : ¬ (V.int (n : Int) = V.int 2) := fun z => h (by injection z with z; omega)
  simp [this]
section
variable {P : Program} {w : World} {K : PySem.W.Frag} {mg : Str → Option Value} {base : Heap} {A : Cls} {f : Addr} {fd : FuncData}
theorem ok__law_is_a_rest (F : FnAt K mg "_law_is_a_rest" s__law_is_a_rest f fd) (T : Txt K mg A) (D : PkJ P w K mg base) : Has P w K mg base CX0 3 "_law_is_a_rest" ["_law_thing"] (spOneQ K restD) := by
  refine ⟨f, fd, F.fn.ok sc__law_is_a_rest len_spOneQ (fun cdv A outer s H vs Q E hr h => ?_), F.at_, F.fn.kp, F.fn.binds fun _ _ _ _ _ _ us hl => match us, hl with | [_], _ => rfl⟩
  obtain ⟨v, d, rfl, hd, sd, q⟩ := h
  refine ⟨_, (pss_cons (ps_if (PW.pt (pw_or (pt_not (pt_val (pe_callB call_isi (by rfl) T.z_isinstance (by decide +kernel) (pa_cons (pv 0) (pa_cons (pe_bltn (v := .ty "tuple") rfl T.z_tuple (by decide +kernel) rfl) pa_nil))))) (pw_or1 (pt_cmpR op_ne (pe_callB call_len_seq (by rfl) T.z_len (by decide +kernel) (pa_cons (pv 0) pa_nil)) pe_int (nomark _))))) (pss_one (ps_ret pe_bl)) pss_nil) (pss_one (ps_ret (pe_and (pe_has D.d__law_is_rising (hr.mono (by decide)) (by rfl) pass0 (pa_cons (pe_ix ix_tup (pv 0) pe_int (fun _ _ => rfl)) (pa_cons pe_int (pa_cons pe_int pa_nil)))) (pe_one (pe_has D.d__law_is_rising (hr.mono (by decide)) (by rfl) pass0 (pa_cons (pe_ix ix_tup (pv 0) pe_int (fun _ _ => rfl)) (pa_cons pe_int (pa_cons pe_int pa_nil))))))))), ?_⟩
  refine ⟨_, rfl, _, _, _, _, _, rfl, .ty "tuple", dq_ty hd, kitD_tuple d, _, rfl, ?_⟩
  cases d with
  | tuple ds =>
    cases hd with
    | @tup p xs _ hs ha =>
    have el : xs.length = ds.length := dqAll_len ha
    refine iteF ?_
    refine ⟨_, rfl, p, xs, rfl, .inr hs, rfl, _, rfl, ?_⟩
    by_cases h2 : xs.length = 2
    · obtain ⟨x, y, a, b, rfl, rfl, hx, hy⟩ := two_of ha h2
      refine iffF rfl ?_
      refine ⟨_, rfl, p, _, 0, x, rfl, rfl, hs, rfl, x, a, 4, 6, rfl, hx, rfl, by decide, fun H2 s2 => ⟨_, rfl, ?_⟩⟩
      have eq : restD (.tuple [a, b]) = (risingD a 4 6 && risingD b 20 3000) := rfl
      cases e : risingD a 4 6 with
      | false =>
        have := q H2 s2
        rw [eq, e, Bool.false_and] at this
        exact iteF this
      | true =>
        refine iteT ⟨_, rfl, p, _, 1, y, rfl, rfl, seqT_mono s2 hs, rfl, y, b, 20, 3000, rfl, dq_mono s2 _ _ hy, rfl, by decide, fun H3 s3 => ?_⟩
        have := q H3 (s2.trans s3)
        rw [eq, e, Bool.true_and] at this
        exact this
    · refine iffT (ne_two h2) ?_
      have := q H (Same.refl H)
      rw [rest_not2 (by omega)] at this
      exact this
  | bool b => exact iteT (iteT (q H (Same.refl H)))
  | int b => exact iteT (iteT (q H (Same.refl H)))
  | none => exact iteT (iteT (q H (Same.refl H)))
  | str x => exact iteT (iteT (q H (Same.refl H)))
  | list x => exact iteT (iteT (q H (Same.refl H)))
  | dict x => exact iteT (iteT (q H (Same.refl H)))
theorem ok__law_is_a_span (F : FnAt K mg "_law_is_a_span" s__law_is_a_span f fd) (T : Txt K mg A) (D : PkI P w K mg base) : Has P w K mg base CX0 3 "_law_is_a_span" ["_law_thing"] (spOneQ K spanD) := by
  refine ⟨f, fd, F.fn.ok sc__law_is_a_span len_spOneQ (fun cdv A outer s H vs Q E hr h => ?_), F.at_, F.fn.kp, F.fn.binds fun _ _ _ _ _ _ us hl => match us, hl with | [_], _ => rfl⟩
  obtain ⟨v, d, rfl, hd, sd, q⟩ := h
  refine ⟨_, (pss_cons (ps_if (PW.pt (pw_or (pt_not (pt_val (pe_callB call_isi (by rfl) T.z_isinstance (by decide +kernel) (pa_cons (pv 0) (pa_cons (pe_bltn (v := .ty "tuple") rfl T.z_tuple (by decide +kernel) rfl) pa_nil))))) (pw_or (pt_cmpR op_ne (pe_callB call_len_seq (by rfl) T.z_len (by decide +kernel) (pa_cons (pv 0) pa_nil)) pe_int (nomark _)) (pw_or1 (pt_not (pt_val (pe_callB call_isi (by rfl) T.z_isinstance (by decide +kernel) (pa_cons (pe_ix ix_tup (pv 0) pe_int (fun _ _ => rfl)) (pa_cons (pe_bltn (v := .ty "str") rfl T.z_str (by decide +kernel) rfl) pa_nil))))))))) (pss_one (ps_ret pe_bl)) pss_nil) (pss_one (ps_ret (pe_and (pe_cmpR (op_inTQ (room65 hr)) (pe_ix ix_tup (pv 0) pe_int (fun _ _ => rfl)) (pe_tup (pa_cons pe_str (pa_cons pe_str pa_nil))) (by rfl)) (pe_one (pe_has D.d__law_is_whole (hr.mono (by decide)) (by rfl) pass0 (pa_cons (pe_ix ix_tup (pv 0) pe_int (fun _ _ => rfl)) (pa_cons pe_int (pa_cons pe_int pa_nil))))))))), ?_⟩
  refine ⟨_, rfl, _, _, _, _, _, rfl, .ty "tuple", dq_ty hd, kitD_tuple d, _, rfl, ?_⟩
  cases d with
  | tuple ds =>
    cases hd with
    | @tup p xs _ hs ha =>
    have el : xs.length = ds.length := dqAll_len ha
    refine iteF ?_
    refine ⟨_, rfl, p, xs, rfl, .inr hs, rfl, _, rfl, ?_⟩
    by_cases h2 : xs.length = 2
    · obtain ⟨x, y, a, b, rfl, rfl, hx, hy⟩ := two_of ha h2
      refine iffF rfl ?_
      have eq : spanD (.tuple [a, b]) = (spanWord a && numIn b 1 30) := rfl
      refine ⟨_, rfl, p, _, 0, x, rfl, rfl, hs, rfl, _, _, _, _, _, rfl, .ty "str", dq_ty hx, kitD_str a, _, rfl, ?_⟩
      cases est : isStr a with
      | false =>
        have ew : spanWord a = false := by
          cases e : spanWord a with
          | false => rfl
          | true =>
            rcases spanWord_of e with rfl | rfl <;> cases est
        refine iteT ?_
        have := q H (Same.refl H)
        rw [eq, ew, Bool.false_and] at this
        exact this
      | true =>
        refine iteF ?_
        refine ⟨_, rfl, p, _, 0, x, rfl, rfl, hs, rfl, by show 2 ≤ sizeLine; decide, fun p2 hp2 => ?_⟩
        have s2 := same_new (o := .tup [.str "days", .str "work"]) hp2
        refine ⟨a, p2, ["days", "work"], dq_mono s2 _ _ hx, rfl, SqT.of upd_same, _, rfl, ?_⟩
        have ew : ((["days", "work"] : List Str).any fun z => PyData.eqv (.str z) a) = spanWord a := by
          show (PyData.eqv (.str "days") a || (PyData.eqv (.str "work") a || false)) = spanWord a
          rw [Bool.or_false]
          rfl
        rw [ew]
        cases e : spanWord a with
        | false =>
          have := q _ s2
          rw [eq, e, Bool.false_and] at this
          exact iteF this
        | true =>
          refine iteT ⟨_, rfl, p, _, 1, y, rfl, rfl, seqT_mono s2 hs, rfl, y, b, 1, 30, rfl, dq_mono s2 _ _ hy, rfl, fun H3 s3 => ?_⟩
          have := q H3 (s2.trans s3)
          rw [eq, e, Bool.true_and] at this
          exact this
    · refine iffT (ne_two h2) ?_
      have := q H (Same.refl H)
      rw [span_not2 (by omega)] at this
      exact this
  | bool b => exact iteT (iteT (q H (Same.refl H)))
  | int b => exact iteT (iteT (q H (Same.refl H)))
  | none => exact iteT (iteT (q H (Same.refl H)))
  | str x => exact iteT (iteT (q H (Same.refl H)))
  | list x => exact iteT (iteT (q H (Same.refl H)))
  | dict x => exact iteT (iteT (q H (Same.refl H)))
end
end Ka
set_option Elab.async false
set_option linter.all false
set_option maxRecDepth 100000
set_option maxHeartbeats 2000000
namespace Ka
open PySem PySem.Spec PyProof.Rows L2 Dt LamX
theorem dqAll_ints {K : PySem.W.Frag} {H : Hp} : ∀ ns : List Int, DqAll K H (ns.map V.int) (ns.map PyData.int)
  | [] => .nil
  | x :: ns => .cons (.int x) (dqAll_ints ns)
theorem dq_rest {K : PySem.W.Frag} {H : Hp} {a b c : Addr} {wd hd : List Int} (h : SqT K H a [.ref b, .ref c]) (h1 : SqT K H b (wd.map V.int)) (h2 : SqT K H c (hd.map V.int)) : Dq K H (.ref a) (restOf wd hd) :=
  .tup h (.cons (.tup h1 (dqAll_ints wd)) (.cons (.tup h2 (dqAll_ints hd)) .nil))
theorem small_ints {m : Int} {k : Nat} {ns : List Int} (h : ∀ x ∈ ns, -m ≤ x ∧ x ≤ m) : Small m (k + 1) (intsD ns) := .tuple fun d hd => by
  obtain ⟨x, hx, rfl⟩ := List.mem_map.mp hd
  exact .int _ (h x hx).1 (h x hx).2
theorem small_restOf {m : Int} {k : Nat} {wd hd : List Int} (h1 : ∀ x ∈ wd, -m ≤ x ∧ x ≤ m) (h2 : ∀ x ∈ hd, -m ≤ x ∧ x ≤ m) : Small m (k + 2) (restOf wd hd) := .tuple fun d hd => by
  rcases List.mem_cons.mp hd with rfl | hd
  · exact small_ints h1
  · rw [List.mem_singleton.mp hd]
    exact small_ints h2
theorem bulk_restOf (wd hd : List Int) : (restOf wd hd).bulk = wd.length + hd.length + 2 := by
  simp only [restOf, intsD, PyData.bulk, PyData.bulkAll, bulk_ints]
  omega
theorem small_rest {wd hd : List Int} (R : RestN wd hd) : Small (10 ^ 12) 2 (restOf wd hd) := small_restOf (k := 0) (fun x hx => by
  have := R.w2 x hx
  omega) (fun x hx => by
  have := R.h2 x hx
  omega)
theorem bulk_rest {wd hd : List Int} (R : RestN wd hd) : (restOf wd hd).bulk ≤ 30 := by
  have h1 := R.w3
  have h2 := R.h3
  rw [bulk_restOf]
  omega
theorem small_span {x : Str} {m : Int} (hx : x = "days" ∨ x = "work") (m0 : 1 ≤ m) (m1 : m ≤ 30) : Small (10 ^ 12) 1 (.tuple [.str x, .int m]) :=
  sm2 (.str _ (by rcases hx with rfl | rfl <;> decide +kernel)) (.int _ (by omega) (by omega))
theorem bulk_span {x : Str} {m : Int} (hx : x = "days" ∨ x = "work") : (PyData.tuple [.str x, .int m]).bulk ≤ 30 := by
  have hb : x.cps.size = 4 := by
    rcases hx with rfl | rfl <;> rfl
  simp only [PyData.bulk, PyData.bulkAll]
  omega
theorem four_ok {a b c d : PyData} (h1 : Small (10 ^ 12 + 2 * 10 ^ 9) 6 a) (h2 : Small (10 ^ 12 + 2 * 10 ^ 9) 6 b) (h3 : Small (10 ^ 12 + 2 * 10 ^ 9) 6 c) (h4 : Small (10 ^ 12 + 2 * 10 ^ 9) 6 d)
    (b1 : a.bulk ≤ 150) (b2 : b.bulk ≤ 150) (b3 : c.bulk ≤ 150) (b4 : d.bulk ≤ 150) : (PyData.tuple [a, b, c, d]).showable = true ∧ (PyData.tuple [a, b, c, d]).depth ≤ 60 ∧ (PyData.tuple [a, b, c, d]).shown.length ≤ sizeLine := by
  have hs : Small (10 ^ 12 + 2 * 10 ^ 9) 7 (.tuple [a, b, c, d]) := .tuple fun x hx => by
    rcases List.mem_cons.mp hx with rfl | hx
    · exact h1
    rcases List.mem_cons.mp hx with rfl | hx
    · exact h2
    rcases List.mem_cons.mp hx with rfl | hx
    · exact h3
    rw [List.mem_singleton.mp hx]
    exact h4
  obtain ⟨f1, f2, f3⟩ := hs.facts (by decide)
  refine ⟨f2, by omega, ?_⟩
  have := PyData.shown_le_bulk 14 (by decide) _ f1
  have hb : (PyData.tuple [a, b, c, d]).bulk ≤ 604 := by
    simp only [PyData.bulk, PyData.bulkAll]
    omega
  show _ ≤ 2 ^ 24
  omega
theorem two_ok (a b : Bool) : (PyData.tuple [.bool a, .bool b]).showable = true ∧ (PyData.tuple [.bool a, .bool b]).depth ≤ 60 ∧ (PyData.tuple [.bool a, .bool b]).shown.length ≤ sizeLine := by
  have hs : Small 1 1 (.tuple [.bool a, .bool b]) := sm2 (.bool _ _) (.bool _ _)
  obtain ⟨f1, f2, f3⟩ := hs.facts (by decide)
  refine ⟨f2, by omega, ?_⟩
  have := PyData.shown_le_bulk 14 (by decide) _ f1
  have hb : (PyData.tuple [.bool a, .bool b]).bulk ≤ 4 := by
    simp only [PyData.bulk, PyData.bulkAll]
    omega
  show _ ≤ 2 ^ 24
  omega
structure Errs (K : PySem.W.Frag) (A : Cls) : Prop where
  wd : WordOk K A A.NoDay "day"
  ws : WordOk K A A.NoSpan "span"
  wr : WordOk K A A.NoRest "rest"
  xd : PySem.W.exmAny K (.ref A.NoDay) (catches A) = some true
  xs : PySem.W.exmAny K (.ref A.NoSpan) (catches A) = some true
  xr : PySem.W.exmAny K (.ref A.NoRest) (catches A) = some true
theorem ne_self {v : V} : (!decide (v = v)) = false := by simp
theorem w_afterQ {K : PySem.W.Frag} {A : Cls} {us : List V} {v2 v3 : V} {d2 d3 : PyData} {H : Hp} {Q : VK} {E : XK} (eu : us = [.int 3, v2, v3]) (p2 : Dq K H v2 d2) (p3 : Dq K H v3 d3)
    (qs : spanD d2 = false → ∀ H', Same H H' → E (.ref A.NoSpan) none H') (qr : spanD d2 = true → restD d3 = false → ∀ H', Same H H' → E (.ref A.NoRest) none H') (qv : spanD d2 = true → restD d3 = true → ∀ r H', Same H H' → Q (.int r) H') : spAfter K A us H Q E :=
  ⟨_, _, _, .int 3, d2, d3, eu, .int 3, p2, p3, rfl, rfl, rfl, fun h => (by cases h), fun _ => qs, fun _ => qr, fun _ a b r _ => qv a b r⟩
structure PkL (P : Program) (w : World) (K : PySem.W.Frag) (mg : Str → Option Value) (base : Heap) (A : Cls) : Prop where
  d_after : Has P w K mg base (L2.CX P w) 6 "after" ["day", "span", "rest"] (spAfter K A)
  d_is_rest : Has P w K mg base CX0 4 "is_rest" ["thing"] (spOneQ K restD)
  d_is_span : Has P w K mg base CX0 4 "is_span" ["thing"] (spOneQ K spanD)
  d__law_is_a_rest : Has P w K mg base CX0 3 "_law_is_a_rest" ["_law_thing"] (spOneQ K restD)
  d__law_is_a_span : Has P w K mg base CX0 3 "_law_is_a_span" ["_law_thing"] (spOneQ K spanD)
  d__law_pen : Has P w K mg base CX0 1 "_law_pen" ["_law_script"] (spPen K)
  d__law_draw : Has P w K mg base CX0 1 "_law_draw" ["_law_pen_here", "_law_many"] (spDraw K)
  d__law_pick : Has P w K mg base CX0 2 "_law_pick" ["_law_pen_here", "_law_some"] (spPick K)
  d__law_rest : Has P w K mg base CX0 3 "_law_rest" ["_law_pen_here"] (spLRest K)
  d__law_any_span : Has P w K mg base CX0 3 "_law_any_span" ["_law_pen_here"] (spSpan K)
  d__law_word : Has P w K mg base CX0 1 "_law_word" ["_law_e"] (spWord K A)
  d_bent1 : Has P w K mg base CX0 5 "_law_bent" ["_law_pen_here", "_law_thing"] (spBent K 1)
  d_bent2 : Has P w K mg base CX0 6 "_law_bent" ["_law_pen_here", "_law_thing"] (spBent K 2)
  d_bent3 : Has P w K mg base CX0 7 "_law_bent" ["_law_pen_here", "_law_thing"] (spBent K 3)
  d_bent4 : Has P w K mg base CX0 8 "_law_bent" ["_law_pen_here", "_law_thing"] (spBent K 4)
section
variable {P : Program} {w : World} {K : PySem.W.Frag} {mg : Str → Option Value} {base : Heap} {A : Cls} {f ft c tb : Addr} {fdT : FuncData}
abbrev qLam : Str := "law.<locals>.<lambda>"
theorem law_body (T : TxtW K mg A) (W : Errs K A) (D : PkL P w K mg base A) (FT : FnAt K mg "_law_tell" s__law_tell ft fdT) (TB : TabB base mg c tb) {s : Shared} {H : Hp} {scr : Addr} {ns : List Int} {Q : VK} {E : XK}
    (hr : Room 8 (callerA.deeper (envOfC "law" (defScope s_law) s.heap.objs.size f (.ref c)))) (hS : SqL K H scr (ns.map V.int)) (hl : ns.length ≤ 63) (hT : H tb = some (.tbl #[])) (q : ∀ H', Q (.bl true) H') :
    ∃ t, PSs (cxOf CX0 P w K mg base n_law "law" (defScope s_law) f (.ref c) callerA [] s H E).nox (defBody s_law) t ∧ t { nx := fun _ H' => Q .non H', rt := Q } (L2.start n_law [.ref scr]) H := by
  have hbT := FT.fn.binds (ps := ["_law_call"]) fun _ _ _ _ _ _ us hl => match us, hl with | [_], _ => rfl
  obtain ⟨ocT, odT, kVT, docT, pmT, anT, cdvT, ctT, oslT, rfl, lkT, hcT⟩ := FT.fn.ex
  obtain ⟨T0, hT0⟩ : ∃ T0 : List (Addr × Str), T0 = [(tb, qLam)] := ⟨_, rfl⟩
  have hmT : (tb, qLam) ∈ T0 := by rw [hT0]; exact List.mem_singleton.mpr rfl
  have huT : ∀ p ∈ T0, p.1 = tb → p.2 = qLam := fun p hp _ => by rw [hT0] at hp; rw [List.mem_singleton.mp hp]
  have hu64 : (cxOf CX0 P w K mg base n_law "law" (defScope s_law) f (.ref c) callerA [] s H E).nox.A.units + 64 < cLine := hr.units
  refine ⟨_, (pss_cons (ps_set (i := 1) sc_law.nd rfl (Or.inl rfl) (pe_has D.d__law_pen (hr.mono (by decide)) (by rfl) pass0 (pa_cons (pv 0) pa_nil))) (pss_cons (ps_for PassesOwn.never rfl (pi_range1 (by rfl) T.z_range (pa_cons pe_int pa_nil)) (pg_name (i := 2) sc_law.nd rfl (Or.inl rfl)) (pss_cons (ps_par (i := 6) (j := 7) (by rfl) sc_law.nd rfl rfl (by decide) rfl rfl (pa_cons (pe_has D.d__law_rest (hr.mono (by decide)) (by rfl) pass0 (pa_cons (pv 1) pa_nil)) (pa_cons (pe_has D.d__law_any_span (hr.mono (by decide)) (by rfl) pass0 (pa_cons (pv 1) pa_nil)) pa_nil)) (by rfl)) (pss_cons (ps_if (pt_cmpR op_eq (pe_op op_modN (pv 2) pe_int) pe_int (nomark _)) (pss_one (ps_set (i := 6) sc_law.nd rfl (Or.inl rfl) (pe_has D.d__law_pick (hr.mono (by decide)) (by rfl) pass0 (pa_cons (pv 1) (pa_cons (pe_lst (pa_cons (pe_tup (pa_cons (pe_tup (pa_cons pe_int (pa_cons pe_int (pa_cons pe_int (pa_cons pe_int (pa_cons pe_int pa_nil)))))) (pa_cons (pe_tup pa_nil) pa_nil))) (pa_cons (pe_tup (pa_cons (pe_tup (pa_cons pe_int pa_nil)) (pa_cons (pe_tupRg rfl (by rfl) T.z_tuple (prg_2 (by rfl) T.z_range pe_int pe_int)) pa_nil))) (pa_cons (pe_tup (pa_cons (pe_tup pa_nil) (pa_cons (pe_tupRg rfl (by rfl) T.z_tuple (prg_2 (by rfl) T.z_range pe_int pe_int)) pa_nil))) pa_nil)))) pa_nil))))) pss_nil) (pss_cons (ps_asg (pe_tup (pa_cons (pe_has D.d_bent2 (hr.mono (by decide)) (by rfl) pass0 (pa_cons (pv 1) (pa_cons (pv 6) pa_nil))) (pa_cons (pe_has D.d_bent1 (hr.mono (by decide)) (by rfl) pass0 (pa_cons (pv 1) (pa_cons (pv 7) pa_nil))) pa_nil))) (pg_tup (by rfl) (pgs_cons (pg_name (i := 8) sc_law.nd rfl (Or.inr rfl)) (pgs_cons (pg_name (i := 9) sc_law.nd rfl (Or.inr rfl)) pgs_nil)))) (pss_cons (ps_if (pt_cmpR op_eq (pe_has D.d__law_draw (hr.mono (by decide)) (by rfl) pass0 (pa_cons (pv 1) (pa_cons pe_int pa_nil))) pe_int (nomark _)) (pss_one (ps_asg (pe_tup (pa_cons (pe_has D.d_bent4 (hr.mono (by decide)) (by rfl) pass0 (pa_cons (pv 1) (pa_cons (pv 8) pa_nil))) (pa_cons (pe_has D.d_bent3 (hr.mono (by decide)) (by rfl) pass0 (pa_cons (pv 1) (pa_cons (pv 9) pa_nil))) pa_nil))) (pg_tup (by rfl) (pgs_cons (pg_name (i := 8) sc_law.nd rfl (Or.inr rfl)) (pgs_cons (pg_name (i := 9) sc_law.nd rfl (Or.inr rfl)) pgs_nil))))) pss_nil) (pss_cons (ps_set (i := 3) sc_law.nd rfl (Or.inl rfl) (pe_callB (call_reprQ rfl hu64) (by rfl) T.z_repr (by decide +kernel) (pa_cons (pe_tup (pa_cons (pv 6) (pa_cons (pv 7) (pa_cons (pv 8) (pa_cons (pv 9) pa_nil))))) pa_nil))) (pss_cons (ps_for PassesOwn.never rfl (pi_tup (pe_tup (pa_cons (pv 6) (pa_cons (pv 8) (pa_cons (pv 7) (pa_cons (pv 9) pa_nil)))))) (pg_name (i := 4) sc_law.nd rfl (Or.inl rfl)) (pss_one (ps_if (pt_cmpR op_ne (pe_callB (call_reprQ rfl hu64) (by rfl) T.z_repr (by decide +kernel) (pa_cons (pe_tup (pa_cons (pe_has D.d_is_rest (hr.mono (by decide)) (by rfl) pass0 (pa_cons (pv 4) pa_nil)) (pa_cons (pe_has D.d_is_span (hr.mono (by decide)) (by rfl) pass0 (pa_cons (pv 4) pa_nil)) pa_nil))) pa_nil)) (pe_callB (call_reprQ rfl hu64) (by rfl) T.z_repr (by decide +kernel) (pa_cons (pe_tup (pa_cons (pe_has D.d__law_is_a_rest (hr.mono (by decide)) (by rfl) pass0 (pa_cons (pv 4) pa_nil)) (pa_cons (pe_has D.d__law_is_a_span (hr.mono (by decide)) (by rfl) pass0 (pa_cons (pv 4) pa_nil)) pa_nil))) pa_nil)) (nomark _)) (pss_one (ps_ret pe_bl)) pss_nil))) (pss_cons (ps_set (i := 5) sc_law.nd rfl (Or.inl rfl) pe_str) (pss_cons (ps_if (pt_not (pt_val (pe_has D.d__law_is_a_rest (hr.mono (by decide)) (by rfl) pass0 (pa_cons (pv 8) pa_nil)))) (pss_one (ps_set (i := 5) sc_law.nd rfl (Or.inl rfl) pe_str)) pss_nil) (pss_cons (ps_if (pt_not (pt_val (pe_has D.d__law_is_a_span (hr.mono (by decide)) (by rfl) pass0 (pa_cons (pv 9) pa_nil)))) (pss_one (ps_set (i := 5) sc_law.nd rfl (Or.inl rfl) pe_str)) pss_nil) (pss_one (ps_if (PW.pt (pw_or (pt_cmpR op_ne (pe_ix ix_tup (pe_lamcall (T := T0) (TT := TTtell K A) (t := fun E => tCall (spAfter K A) [] E (tCons (tC (.int 3)) (tCons (tVar 9) (tCons (tVar 8) tNil)))) (by rfl) FT.at_ FT.fn.kp lkT hcT hbT sc__law_tell rfl (Or.inl rfl) (tell_gives T ⟨D.d__law_word⟩ (hr.mono (by decide))) TB rfl hmT huT hr (show LamS (defScope s_law) _ from lamS_by (by decide +kernel)) rfl (fun _ _ _ _ _ => rfl) (fun A' outer s' H' E' f' c' hr' => (pe_has D.d_after hr' (by rfl) (passes_call (takes_of rfl rfl rfl rfl) fun _ _ _ _ h => h) (pa_cons pe_int (pa_cons (pv 9) (pa_cons (pv 8) pa_nil)))))) pe_int (fun _ _ => rfl)) (pv 5) (nomark _)) (pw_or1 (pt_cmpR op_ne (pe_callB (call_reprQ rfl hu64) (by rfl) T.z_repr (by decide +kernel) (pa_cons (pe_tup (pa_cons (pv 6) (pa_cons (pv 7) (pa_cons (pv 8) (pa_cons (pv 9) pa_nil))))) pa_nil)) (pv 3) (nomark _))))) (pss_one (ps_ret pe_bl)) pss_nil)))))))))))) (pss_one (ps_ret pe_bl)))), ?_⟩
  refine ⟨_, rfl, scr, ns, rfl, hS, hl, fun p b H1 hp0 s1 pen1 => ?_⟩
  have am1 : Amb K p b ns T0 0 H1 := ⟨pen1, (show Tabs T0 H from fun x hx => by rw [hT0] at hx; rw [List.mem_singleton.mp hx]; exact TabS.nil hT).ext s1⟩
  refine ⟨30, rfl, by decide, by decide, ?_⟩
  refine for_range (lo := 0) (n := 30) (fun i σ H' => ∃ x2 x3 x4 x5 x6 x7 x8 x9 : Option V, σ = [some (.ref scr), some (.ref p), x2, x3, x4, x5, x6, x7, x8, x9] ∧ Amb K p b ns T0 (200 * i) H')
    ⟨_, _, _, _, _, _, _, _, rfl, am1⟩ ?_ ?_
  · rintro i σ H2 hi ⟨x2, x3, x4, x5, x6, x7, x8, x9, rfl, a2⟩
    refine ⟨_, rfl, p, b, ns, 200 * i, rfl, a2.pen, by omega, fun vr wd hd H3 rn dr k3 p3 => ?_⟩
    refine ⟨_, rfl, p, b, ns, _, rfl, p3, by omega, fun vs x m H4 hx hm0 hm1 ds k4 p4 => ?_⟩
    refine ⟨_, _, rfl, ?_⟩
    have am4 := (a2.keep k3 p3).keep k4 p4
    have qr4 := dq_of _ _ (dp_keep k4 dr)
    have qs4 := dq_of _ _ ds
    have sr4 : Small (10 ^ 12) 2 (restOf wd hd) := small_rest rn
    have br4 : (restOf wd hd).bulk ≤ 30 := bulk_rest rn
    dsimp only
    refine seq_cut (fun σ' H' => ∃ (v6 : V) (d6 : PyData), σ' = [some (.ref scr), some (.ref p), some (.int (0 + (i : Int))), x3, x4, x5, some v6, some vs, x8, x9] ∧ Dq K (core p H') v6 d6 ∧ Small (10 ^ 12) 2 d6 ∧ d6.bulk ≤ 30 ∧ Keep p H4 H' ∧ Amb K p b ns T0 (200 * i + 44) H') (fun nx hnx => ?_) ?_
    · refine ⟨_, rfl, _, _, rfl, rfl, (by show (10 : Int) ≠ 0; decide), rfl, _, rfl, ?_⟩
      by_cases h10 : V.int ((0 + (i : Int)).fmod 10) = V.int 0
      · refine iffT (decide_eq_true h10) ?_
        refine ⟨_, rfl, by show 5 ≤ sizeLine; decide, fun t1 ht1 => ?_⟩
        have nt1 := am4.off ht1
        have at1 := am4.new (o := .tup [.int 0, .int 2, .int 4, .int 5, .int 6]) ht1
        refine ⟨by show 0 ≤ sizeLine; decide, fun t2 ht2 => ?_⟩
        have nt2 := at1.off ht2
        have at2 := at1.new (o := .tup []) ht2
        refine ⟨by show 2 ≤ sizeLine; decide, fun t3 ht3 => ?_⟩
        have nt3 := at2.off ht3
        have at3 := at2.new (o := .tup [.ref t1, .ref t2]) ht3
        refine ⟨by show 1 ≤ sizeLine; decide, fun t4 ht4 => ?_⟩
        have nt4 := at3.off ht4
        have at4 := at3.new (o := .tup [.int 1]) ht4
        refine ⟨5, 26, rfl, rfl, .of_le (by decide) (by decide) (by decide) (by decide), fun t5 ht5 => ?_⟩
        have nt5 := at4.off ht5
        have at5 := at4.new (o := .tup (rgV 5 26)) ht5
        refine ⟨by show 2 ≤ sizeLine; decide, fun t6 ht6 => ?_⟩
        have nt6 := at5.off ht6
        have at6 := at5.new (o := .tup [.ref t4, .ref t5]) ht6
        refine ⟨by show 0 ≤ sizeLine; decide, fun t7 ht7 => ?_⟩
        have nt7 := at6.off ht7
        have at7 := at6.new (o := .tup []) ht7
        refine ⟨2980, 3001, rfl, rfl, .of_le (by decide) (by decide) (by decide) (by decide), fun t8 ht8 => ?_⟩
        have nt8 := at7.off ht8
        have at8 := at7.new (o := .tup (rgV 2980 3001)) ht8
        refine ⟨by show 2 ≤ sizeLine; decide, fun t9 ht9 => ?_⟩
        have nt9 := at8.off ht9
        have at9 := at8.new (o := .tup [.ref t7, .ref t8]) ht9
        refine ⟨by show 3 ≤ sizeLine; decide, fun l10 hl10 => ?_⟩
        have nl10 := at9.off hl10
        have al10 := at9.new (o := .lst [.ref t3, .ref t6, .ref t9]) hl10
        refine ⟨p, b, l10, ns, _, _, rfl, al10.pen, by omega, SqL.of upd_same, at9.off hl10, (by show 1 ≤ 3; decide), (by show 3 ≤ 1000000; decide), fun j v5 H5 hv5 k5 p5 => ?_⟩
        have ft1 := core_of (p := p) (k5 _ _ nt1 (same_new hl10 _ _ (same_new ht9 _ _ (same_new ht8 _ _ (same_new ht7 _ _ (same_new ht6 _ _ (same_new ht5 _ _ (same_new ht4 _ _ (same_new ht3 _ _ (same_new ht2 _ _ upd_same)))))))))) nt1 (fun ps z => nomatch z)
        have ft2 := core_of (p := p) (k5 _ _ nt2 (same_new hl10 _ _ (same_new ht9 _ _ (same_new ht8 _ _ (same_new ht7 _ _ (same_new ht6 _ _ (same_new ht5 _ _ (same_new ht4 _ _ (same_new ht3 _ _ upd_same))))))))) nt2 (fun ps z => nomatch z)
        have ft3 := core_of (p := p) (k5 _ _ nt3 (same_new hl10 _ _ (same_new ht9 _ _ (same_new ht8 _ _ (same_new ht7 _ _ (same_new ht6 _ _ (same_new ht5 _ _ (same_new ht4 _ _ upd_same)))))))) nt3 (fun ps z => nomatch z)
        have ft4 := core_of (p := p) (k5 _ _ nt4 (same_new hl10 _ _ (same_new ht9 _ _ (same_new ht8 _ _ (same_new ht7 _ _ (same_new ht6 _ _ (same_new ht5 _ _ upd_same))))))) nt4 (fun ps z => nomatch z)
        have ft5 := core_of (p := p) (k5 _ _ nt5 (same_new hl10 _ _ (same_new ht9 _ _ (same_new ht8 _ _ (same_new ht7 _ _ (same_new ht6 _ _ upd_same)))))) nt5 (fun ps z => nomatch z)
        have ft6 := core_of (p := p) (k5 _ _ nt6 (same_new hl10 _ _ (same_new ht9 _ _ (same_new ht8 _ _ (same_new ht7 _ _ upd_same))))) nt6 (fun ps z => nomatch z)
        have ft7 := core_of (p := p) (k5 _ _ nt7 (same_new hl10 _ _ (same_new ht9 _ _ (same_new ht8 _ _ upd_same)))) nt7 (fun ps z => nomatch z)
        have ft8 := core_of (p := p) (k5 _ _ nt8 (same_new hl10 _ _ (same_new ht9 _ _ upd_same))) nt8 (fun ps z => nomatch z)
        have ft9 := core_of (p := p) (k5 _ _ nt9 (same_new hl10 _ _ upd_same)) nt9 (fun ps z => nomatch z)
        have kk : Keep p H4 H5 := (Keep.new ht1).trans ((Keep.new ht2).trans ((Keep.new ht3).trans ((Keep.new ht4).trans ((Keep.new ht5).trans ((Keep.new ht6).trans ((Keep.new ht7).trans ((Keep.new ht8).trans ((Keep.new ht9).trans ((Keep.new hl10).trans (k5))))))))))
        obtain ⟨wd', hd', g1, g2, g3, g4⟩ : ∃ wd' hd' : List Int, Dq K (core p H5) v5 (restOf wd' hd') ∧ (∀ x ∈ wd', -(10 ^ 12) ≤ x ∧ x ≤ 10 ^ 12) ∧ (∀ x ∈ hd', -(10 ^ 12) ≤ x ∧ x ≤ 10 ^ 12) ∧ wd'.length + hd'.length ≤ 28 := by
          match j, hv5 with
          | 0, hv =>
            obtain rfl : V.ref t3 = v5 := Option.some.inj hv
            exact ⟨([0, 2, 4, 5, 6] : List Int), ([] : List Int), dq_rest (SqT.of ft3) (SqT.of ft1) (SqT.of ft2), by decide, by decide, by decide⟩
          | 1, hv =>
            obtain rfl : V.ref t6 = v5 := Option.some.inj hv
            exact ⟨([1] : List Int), ([5, 6, 7, 8, 9, 10, 11, 12, 13, 14, 15, 16, 17, 18, 19, 20, 21, 22, 23, 24, 25] : List Int), dq_rest (SqT.of ft6) (SqT.of ft4) (SqT.of ft5), by decide, by decide, by decide⟩
          | 2, hv =>
            obtain rfl : V.ref t9 = v5 := Option.some.inj hv
            exact ⟨([] : List Int), ([2980, 2981, 2982, 2983, 2984, 2985, 2986, 2987, 2988, 2989, 2990, 2991, 2992, 2993, 2994, 2995, 2996, 2997, 2998, 2999, 3000] : List Int), dq_rest (SqT.of ft9) (SqT.of ft7) (SqT.of ft8), by decide, by decide, by decide⟩
          | j + 3, hv => simp at hv
        exact hnx _ _ ⟨v5, _, rfl, g1, small_restOf (k := 0) g2 g3, by rw [bulk_restOf]; omega, kk, (al10.keep k5 p5).mono (by omega)⟩
      · refine iffF (decide_eq_false h10) ?_
        exact hnx _ _ ⟨vr, _, rfl, qr4, sr4, br4, Keep.refl, am4.mono (by omega)⟩
    rintro σ5 H5 ⟨v6, d6, rfl, q6, s6, b6, k45, am5⟩
    have qs5 := dq_mono k45.stay _ _ qs4
    have hsp : Small (10 ^ 12) 1 (.tuple [.str x, .int m]) := small_span hx hm0 hm1
    have hbs : (PyData.tuple [.str x, .int m]).bulk ≤ 30 := bulk_span hx
    generalize PyData.tuple [.str x, .int m] = dsp at qs5 hsp hbs
    refine ⟨_, rfl, _, rfl, p, b, ns, _, v6, d6, 10 ^ 12, 30, rfl, am5.pen, by omega, q6, s6, Int.le_refl _, b6, by decide, fun vb db H6 qb6 sb6 bb6 k6 p6 => ?_⟩
    have am6 := am5.keep k6 p6
    have qs6 := dq_mono k6.stay _ _ qs5
    refine ⟨_, rfl, _, rfl, p, b, ns, _, vs, dsp, 10 ^ 12, 30, rfl, p6, by omega, qs6, hsp, Int.le_refl _, hbs, by decide, fun vo dO H7 qo7 so7 bo7 k7 p7 => ?_⟩
    have am7 := am6.keep k7 p7
    refine ⟨by show 2 ≤ sizeLine; decide, fun t8 h8 => ?_⟩
    have am8 := am7.new (o := .tup [vb, vo]) h8
    have e8 := same_stay (p := p) (same_new (o := .tup [vb, vo]) h8)
    have q68 := dq_mono (stay_trans k6.stay (stay_trans k7.stay e8)) _ _ q6
    have qs8 := dq_mono (stay_trans k7.stay e8) _ _ qs6
    have qb8 := dq_mono (stay_trans k7.stay e8) _ _ qb6
    have qo8 := dq_mono e8 _ _ qo7
    refine ⟨t8, _, rfl, SqT.of upd_same, rfl, _, _, rfl, _, _, rfl, rfl, ?_⟩
    generalize hH8 : upd H7 t8 (.tup [vb, vo]) = H8 at am8 e8 q68 qs8 qb8 qo8 ⊢
    dsimp only
    refine seq_cut (fun σ' H' => ∃ (v8 v9 : V) (d8 d9 : PyData), σ' = [some (.ref scr), some (.ref p), some (.int (0 + (i : Int))), x3, x4, x5, some v6, some vs, some v8, some v9] ∧ Dq K (core p H') v8 d8 ∧ Dq K (core p H') v9 d9 ∧ Small (10 ^ 12 + 2 * 10 ^ 9) 6 d8 ∧ Small (10 ^ 12 + 2 * 10 ^ 9) 6 d9 ∧ d8.bulk ≤ 150 ∧ d9.bulk ≤ 150 ∧ Keep p H8 H' ∧ Amb K p b ns T0 (200 * i + 180) H') (fun nx hnx => ?_) ?_
    · refine ⟨_, rfl, p, b, ns, _, 3, rfl, am8.pen, by omega, by decide, by decide, fun v9 H9 v90 v91 k9 p9 => ⟨rfl, _, rfl, ?_⟩⟩
      have am9 := am8.keep k9 p9
      have qb9 := dq_mono k9.stay _ _ qb8
      have qo9 := dq_mono k9.stay _ _ qo8
      by_cases hz : V.int v9 = V.int 0
      · refine iffT (decide_eq_true hz) ?_
        refine ⟨_, rfl, _, rfl, p, b, ns, _, vb, db, 10 ^ 12 + 10 ^ 9, 70, rfl, p9, by omega, qb9, sb6, by decide, by omega, by decide, fun vb2 db2 H10 qb10 sb10 bb10 k10 p10 => ?_⟩
        refine ⟨_, rfl, _, rfl, p, b, ns, _, vo, dO, 10 ^ 12 + 10 ^ 9, 70, rfl, p10, by omega, dq_mono k10.stay _ _ qo9, so7, by decide, by omega, by decide, fun vo2 dO2 H11 qo11 so11 bo11 k11 p11 => ?_⟩
        refine ⟨by show 2 ≤ sizeLine; decide, fun t12 h12 => ?_⟩
        have e12 := same_stay (p := p) (same_new (o := .tup [vb2, vo2]) h12)
        refine ⟨t12, _, rfl, SqT.of upd_same, rfl, _, _, rfl, _, _, rfl, rfl, ?_⟩
        exact hnx _ _ ⟨vb2, vo2, db2, dO2, rfl, dq_mono (stay_trans k11.stay e12) _ _ qb10, dq_mono e12 _ _ qo11, sb10.mono (by decide) (by decide), so11.mono (by decide) (by decide), by omega, by omega, k9.trans (k10.trans (k11.trans (Keep.new h12))), ((((am9.keep k10 p10).keep k11 p11).new h12).mono (by omega))⟩
      · refine iffF (decide_eq_false hz) ?_
        exact hnx _ _ ⟨vb, vo, db, dO, rfl, qb9, qo9, sb6.mono (by decide) (by decide), so7.mono (by decide) (by decide), by omega, by omega, k9, am9.mono (by omega)⟩
    rintro σ13 H13 ⟨v8, v9, d8, d9, rfl, q8, q9, s8, s9, b8, b9, k813, am13⟩
    have q613 := dq_mono k813.stay _ _ q68
    have qs13 := dq_mono k813.stay _ _ qs8
    obtain ⟨ok1, ok2, ok3⟩ := four_ok (s6.mono (by decide) (by decide)) (hsp.mono (by decide) (by decide)) s8 s9 (by omega) (by omega) b8 b9
    refine ⟨_, rfl, _, rfl, _, rfl, _, rfl, by show 4 ≤ sizeLine; decide, fun t14 h14 => ?_⟩
    have am14 := am13.new (o := .tup [v6, vs, v8, v9]) h14
    have e14 := same_stay (p := p) (same_new (o := .tup [v6, vs, v8, v9]) h14)
    have a14 := dq_mono e14 _ _ q613
    have b14 := dq_mono e14 _ _ qs13
    have c14 := dq_mono e14 _ _ q8
    have d14 := dq_mono e14 _ _ q9
    refine ⟨t14, _, rfl, .tup (SqT.of upd_same) (.cons (dq_mono core_le _ _ a14) (.cons (dq_mono core_le _ _ b14) (.cons (dq_mono core_le _ _ c14) (.cons (dq_mono core_le _ _ d14) .nil)))), ok1, ok2, ok3, ?_⟩
    generalize hH14 : upd H13 t14 (.tup [v6, vs, v8, v9]) = H14 at am14 e14 a14 b14 c14 d14 ⊢
    refine ⟨_, rfl, _, rfl, _, rfl, _, rfl, by show 4 ≤ sizeLine; decide, fun t15 h15 => ?_⟩
    have am15 := am14.new (o := .tup [v6, v8, vs, v9]) h15
    have e15 := same_stay (p := p) (same_new (o := .tup [v6, v8, vs, v9]) h15)
    have a15 := dq_mono e15 _ _ a14
    have b15 := dq_mono e15 _ _ b14
    have c15 := dq_mono e15 _ _ c14
    have d15 := dq_mono e15 _ _ d14
    have f15 : SqT K (upd H14 t15 (.tup [v6, v8, vs, v9])) t15 [v6, v8, vs, v9] := SqT.of upd_same
    generalize hH15 : upd H14 t15 (.tup [v6, v8, vs, v9]) = H15 at am15 e15 a15 b15 c15 d15 f15 ⊢
    refine ⟨t15, rfl, ⟨_, f15⟩, ?_⟩
    refine for_tup (K := K) (a := t15) (xs := [v6, v8, vs, v9]) (fun j σ H' => ∃ (y4 y5 : Option V), σ = [some (.ref scr), some (.ref p), some (.int (0 + (i : Int))), some (.str (PyData.tuple [d6, dsp, d8, d9]).shown), y4, y5, some v6, some vs, some v8, some v9] ∧ Same H15 H')
      ⟨_, _, rfl, Same.refl _⟩ (fun j σ H' _ R => by obtain ⟨_, _, _, s⟩ := R; exact seqT_mono s f15) ?_ ?_
    · rintro j y σ H16 hy ⟨y4, y5, rfl, s16⟩
      obtain ⟨dy, qy⟩ : ∃ dy, Dq K H15 y dy := by
        rcases List.mem_cons.mp (List.mem_of_getElem? hy) with rfl | g
        · exact ⟨_, dq_mono core_le _ _ a15⟩
        rcases List.mem_cons.mp g with rfl | g
        · exact ⟨_, dq_mono core_le _ _ c15⟩
        rcases List.mem_cons.mp g with rfl | g
        · exact ⟨_, dq_mono core_le _ _ b15⟩
        rw [List.mem_singleton.mp g]
        exact ⟨_, dq_mono core_le _ _ d15⟩
      obtain ⟨z1, z2, z3⟩ := two_ok (restD dy) (spanD dy)
      refine ⟨_, rfl, y, dy, rfl, dq_mono s16 _ _ qy, rfl, fun Ha sa => ?_⟩
      refine ⟨_, rfl, y, dy, rfl, dq_mono (s16.trans sa) _ _ qy, rfl, fun Hb sb => ?_⟩
      refine ⟨by show 2 ≤ sizeLine; decide, fun ta hta => ?_⟩
      refine ⟨ta, [.bool (restD dy), .bool (spanD dy)], rfl, .tup (SqT.of upd_same) (.cons (.bl _) (.cons (.bl _) .nil)), z1, z2, z3, ?_⟩
      have sab := s16.trans (sa.trans (sb.trans (same_new (o := .tup [.bl (restD dy), .bl (spanD dy)]) hta)))
      refine ⟨_, rfl, y, dy, rfl, dq_mono sab _ _ qy, rfl, fun Hc sc => ?_⟩
      refine ⟨_, rfl, y, dy, rfl, dq_mono (sab.trans sc) _ _ qy, rfl, fun Hd sd => ?_⟩
      refine ⟨by show 2 ≤ sizeLine; decide, fun tb2 htb => ?_⟩
      refine ⟨tb2, [.bool (restD dy), .bool (spanD dy)], rfl, .tup (SqT.of upd_same) (.cons (.bl _) (.cons (.bl _) .nil)), z1, z2, z3, ?_⟩
      refine ⟨rfl, _, rfl, iffF ne_self ?_⟩
      exact ⟨_, _, rfl, sab.trans (sc.trans (sd.trans (same_new htb)))⟩
    rintro σ16 H16 ⟨y4, y5, rfl, s16⟩
    have am16 := am15.same s16
    have e16 := same_stay (p := p) s16
    have c16 := dq_mono e16 _ _ c15
    have d16 := dq_mono e16 _ _ d15
    dsimp only
    refine seq_cut (fun σ' H' => σ' = [some (.ref scr), some (.ref p), some (.int (0 + (i : Int))), some (.str (PyData.tuple [d6, dsp, d8, d9]).shown), y4, some (.str "told"), some v6, some vs, some v8, some v9] ∧ H' = H16) (fun nx hnx => ?_) ?_
    · exact hnx _ _ ⟨rfl, rfl⟩
    rintro σ17 H17 ⟨rfl, rfl⟩
    refine seq_cut (fun σ' H' => ∃ wd1 : Str, σ' = [some (.ref scr), some (.ref p), some (.int (0 + (i : Int))), some (.str (PyData.tuple [d6, dsp, d8, d9]).shown), y4, some (.str wd1), some v6, some vs, some v8, some v9] ∧ Same H17 H' ∧ wd1 = (if restD d8 = true then "told" else "rest")) (fun nx hnx => ?_) ?_
    · refine ⟨_, rfl, v8, d8, rfl, dq_mono core_le _ _ c16, rfl, fun Ha sa => ⟨_, rfl, ?_⟩⟩
      cases er : restD d8 with
      | false => exact iteT (hnx _ _ ⟨"rest", rfl, sa, by rw [er]; rfl⟩)
      | true => exact iteF (hnx _ _ ⟨"told", rfl, sa, by rw [er]; rfl⟩)
    rintro σ18 H18 ⟨wd1, rfl, s18, hw1⟩
    have am18 := am16.same s18
    have e18 := same_stay (p := p) s18
    have c18 := dq_mono e18 _ _ c16
    have d18 := dq_mono e18 _ _ d16
    refine seq_cut (fun σ' H' => ∃ wd2 : Str, σ' = [some (.ref scr), some (.ref p), some (.int (0 + (i : Int))), some (.str (PyData.tuple [d6, dsp, d8, d9]).shown), y4, some (.str wd2), some v6, some vs, some v8, some v9] ∧ Same H18 H' ∧ wd2 = (if spanD d9 = true then wd1 else "span")) (fun nx hnx => ?_) ?_
    · refine ⟨_, rfl, v9, d9, rfl, dq_mono core_le _ _ d18, rfl, fun Ha sa => ⟨_, rfl, ?_⟩⟩
      cases es : spanD d9 with
      | false => exact iteT (hnx _ _ ⟨"span", rfl, sa, by rw [es]; rfl⟩)
      | true => exact iteF (hnx _ _ ⟨wd1, rfl, sa, by rw [es]; rfl⟩)
    rintro σ19 H19 ⟨wd2, rfl, s19, hw2⟩
    have am19 := am18.same s19
    have e19 := same_stay (p := p) s19
    have c19 := dq_mono e19 _ _ c18
    have d19 := dq_mono e19 _ _ d18
    have e1319 := stay_trans e14 (stay_trans e15 (stay_trans e16 (stay_trans e18 e19)))
    have a19 := dq_mono e1319 _ _ q613
    have b19 := dq_mono e1319 _ _ qs13
    refine ⟨am19.tabs, fun Ha xa Ta Hb sb Eb Qb hQ hE => ?_⟩
    have sg := stay_trans (ExtN.stay (p := p) xa) (same_stay sb)
    have amb := (am19.ext xa Ta).same sb
    refine ⟨_, rfl, _, rfl, ?_⟩
    dsimp only [tNil]
    refine w_afterQ rfl (dq_mono core_le _ _ (dq_mono sg _ _ d19)) (dq_mono core_le _ _ (dq_mono sg _ _ c19)) (fun es Hc sc => ?_) (fun es er Hc sc => ?_) (fun es er r Hc sc => ?_)
    · refine hE _ _ _ ⟨W.xs, rfl, A.NoSpan, "span", rfl, W.ws, fun pt Hd sd ht => ?_⟩
      have stp := (sc.trans sd).trans (same_new (o := .tup [.str "span", .non]) ht)
      have ew : wd2 = "span" := by rw [hw2, es]; rfl
      have amf := amb.same stp
      have ef := stay_trans sg (same_stay (p := p) stp)
      have a20 := dq_mono ef _ _ a19
      have b20 := dq_mono ef _ _ b19
      have c20 := dq_mono ef _ _ c19
      have d20 := dq_mono ef _ _ d19
      refine ⟨pt, _, 0, .str "span", rfl, rfl, SqT.of upd_same, rfl, _, rfl, rfl, _, rfl, iffF (by rw [ew]; exact ne_self) ?_⟩
      refine ⟨_, rfl, _, rfl, _, rfl, _, rfl, by show 4 ≤ sizeLine; decide, fun t21 h21 => ?_⟩
      have am21 := amf.new (o := .tup [v6, vs, v8, v9]) h21
      have e21 := same_stay (p := p) (same_new (o := .tup [v6, vs, v8, v9]) h21)
      refine ⟨t21, _, rfl, .tup (SqT.of upd_same) (.cons (dq_mono core_le _ _ (dq_mono e21 _ _ a20)) (.cons (dq_mono core_le _ _ (dq_mono e21 _ _ b20)) (.cons (dq_mono core_le _ _ (dq_mono e21 _ _ c20)) (.cons (dq_mono core_le _ _ (dq_mono e21 _ _ d20)) .nil)))), ok1, ok2, ok3, ?_⟩
      refine ⟨_, rfl, rfl, _, rfl, iffF ne_self ?_⟩
      exact ⟨_, _, _, _, _, _, _, _, rfl, am21.mono (by omega)⟩
    · refine hE _ _ _ ⟨W.xr, rfl, A.NoRest, "rest", rfl, W.wr, fun pt Hd sd ht => ?_⟩
      have stp := (sc.trans sd).trans (same_new (o := .tup [.str "rest", .non]) ht)
      have ew : wd2 = "rest" := by rw [hw2, es, hw1, er]; rfl
      have amf := amb.same stp
      have ef := stay_trans sg (same_stay (p := p) stp)
      have a20 := dq_mono ef _ _ a19
      have b20 := dq_mono ef _ _ b19
      have c20 := dq_mono ef _ _ c19
      have d20 := dq_mono ef _ _ d19
      refine ⟨pt, _, 0, .str "rest", rfl, rfl, SqT.of upd_same, rfl, _, rfl, rfl, _, rfl, iffF (by rw [ew]; exact ne_self) ?_⟩
      refine ⟨_, rfl, _, rfl, _, rfl, _, rfl, by show 4 ≤ sizeLine; decide, fun t21 h21 => ?_⟩
      have am21 := amf.new (o := .tup [v6, vs, v8, v9]) h21
      have e21 := same_stay (p := p) (same_new (o := .tup [v6, vs, v8, v9]) h21)
      refine ⟨t21, _, rfl, .tup (SqT.of upd_same) (.cons (dq_mono core_le _ _ (dq_mono e21 _ _ a20)) (.cons (dq_mono core_le _ _ (dq_mono e21 _ _ b20)) (.cons (dq_mono core_le _ _ (dq_mono e21 _ _ c20)) (.cons (dq_mono core_le _ _ (dq_mono e21 _ _ d20)) .nil)))), ok1, ok2, ok3, ?_⟩
      refine ⟨_, rfl, rfl, _, rfl, iffF ne_self ?_⟩
      exact ⟨_, _, _, _, _, _, _, _, rfl, am21.mono (by omega)⟩
    · refine hQ _ _ fun pt ht => ?_
      have stp := sc.trans (same_new (o := .tup [.str "told", .int r]) ht)
      have ew : wd2 = "told" := by rw [hw2, es, hw1, er]; rfl
      have amf := amb.same stp
      have ef := stay_trans sg (same_stay (p := p) stp)
      have a20 := dq_mono ef _ _ a19
      have b20 := dq_mono ef _ _ b19
      have c20 := dq_mono ef _ _ c19
      have d20 := dq_mono ef _ _ d19
      refine ⟨pt, _, 0, .str "told", rfl, rfl, SqT.of upd_same, rfl, _, rfl, rfl, _, rfl, iffF (by rw [ew]; exact ne_self) ?_⟩
      refine ⟨_, rfl, _, rfl, _, rfl, _, rfl, by show 4 ≤ sizeLine; decide, fun t21 h21 => ?_⟩
      have am21 := amf.new (o := .tup [v6, vs, v8, v9]) h21
      have e21 := same_stay (p := p) (same_new (o := .tup [v6, vs, v8, v9]) h21)
      refine ⟨t21, _, rfl, .tup (SqT.of upd_same) (.cons (dq_mono core_le _ _ (dq_mono e21 _ _ a20)) (.cons (dq_mono core_le _ _ (dq_mono e21 _ _ b20)) (.cons (dq_mono core_le _ _ (dq_mono e21 _ _ c20)) (.cons (dq_mono core_le _ _ (dq_mono e21 _ _ d20)) .nil)))), ok1, ok2, ok3, ?_⟩
      refine ⟨_, rfl, rfl, _, rfl, iffF ne_self ?_⟩
      exact ⟨_, _, _, _, _, _, _, _, rfl, am21.mono (by omega)⟩
  · rintro σ H2 ⟨x2, x3, x4, x5, x6, x7, x8, x9, rfl, a2⟩
    exact q _
end
end Ka
set_option Elab.async false
set_option linter.all false
set_option maxRecDepth 100000
set_option maxHeartbeats 4000000
namespace Ka
open PySem PySem.Spec PyProof.Rows L2 Dt LamX
/-- what is asked of one of the three classes, all that is a truth -/
def classB (K : PySem.W.Frag) (A : Cls) (C : Addr) (bmB : List Value) (newId : String) (j : Nat) (bD bV bK bI bL bR bT : Bool) : Bool :=
  PySem.W.excIn K C bmB newId && (PySem.W.keepIn K (.ref C) && (decide (PySem.W.subIn K (.ref C) (.type "BaseException") = some true) && (PySem.W.hasDictIn K C && (decide (PySem.W.mroIn K C (.type "object") = some true) &&
  (decide (PySem.W.kitOne K (.ref C) (.ref A.NoSpan) = some (decide (0 = j))) &&
  (decide (PySem.W.kitOne K (.ref C) (.ref A.NoRest) = some (decide (1 = j))) &&
  (decide (PySem.W.kitOne K (.ref C) (.ref A.NoAgreement) = some (decide (2 = j))) &&
  (decide (PySem.W.kitOne K (.ref C) (.ref A.NoText) = some (decide (3 = j))) &&
  (decide (PySem.W.kitOne K (.ref C) (.ref A.NoLetters) = some (decide (4 = j))) &&
  (decide (PySem.W.kitOne K (.ref C) (.ref A.NoLetter) = some (decide (5 = j))) &&
  (decide (PySem.W.kitOne K (.ref C) (.ref A.NoCondition) = some (decide (6 = j))) &&
  (decide (PySem.W.kitOne K (.ref C) (.ref A.NoHappening) = some (decide (7 = j))) &&
  (decide (PySem.W.kitOne K (.ref C) (.ref A.NoVersions) = some (decide (8 = j))) &&
  (decide (PySem.W.kitOne K (.ref C) (.ref A.NoOpen) = some (decide (9 = j))) &&
  (decide (PySem.W.kitOne K (.ref C) (.ref A.Open) = some (decide (10 = j))) &&
  (decide (PySem.W.kitOne K (.ref C) (.ref A.Withdrawn) = some (decide (11 = j))) &&
  (decide (PySem.W.kitOne K (.ref C) (.ref A.NoDeed) = some (decide (12 = j))) &&
  (decide (PySem.W.kitOne K (.ref C) (.ref A.HasCoins) = some (decide (13 = j))) &&
  (decide (PySem.W.kitOne K (.ref C) (.ref A.OtherParties) = some (decide (14 = j))) &&
  (decide (PySem.W.kitOne K (.ref C) (.ref A.TooWide) = some (decide (15 = j))) &&
  (decide (PySem.W.kitOne K (.ref C) (.ref A.NoLetterThere) = some (decide (16 = j))) &&
  (decide (PySem.W.kitOne K (.ref C) (.ref A.NoClause) = some (decide (17 = j))) &&
  (decide (PySem.W.kitOne K (.ref C) (.ref A.NoDay) = some (decide (18 = j))) &&
  (decide (PySem.W.kitOne K (.ref C) (.ref A.NothingDone) = some (decide (19 = j))) &&
  (decide (PySem.W.kitOne K (.ref C) (.ref A.Twice) = some (decide (20 = j))) &&
  (decide (PySem.W.kitOne K (.ref C) (.ref A.DealError) = some bD) &&
  (decide (PySem.W.kitOne K (.ref C) (.type "ValueError") = some bV) &&
  (decide (PySem.W.kitOne K (.ref C) (.type "KeyError") = some bK) &&
  (decide (PySem.W.kitOne K (.ref C) (.type "IndexError") = some bI) &&
  (decide (PySem.W.kitOne K (.ref C) (.type "LookupError") = some bL) &&
  (decide (PySem.W.kitOne K (.ref C) (.type "RuntimeError") = some bR) &&
  (decide (PySem.W.kitAny K (.ref C) [.type "KeyError", .type "IndexError"] = some bT) && decide (PySem.W.exmAny K (.ref C) (catches A) = some true)))))))))))))))))))))))))))))))))
theorem classB_of {K : PySem.W.Frag} {A : Cls} {C : Addr} {bmB : List Value} {newId : String} {j : Nat} {bD bV bK bI bL bR bT : Bool} (h : classB K A C bmB newId j bD bV bK bI bL bR bT = true)
    (g1 : PySem.W.findIn K (.ref C) "__getattribute__" = some (some (.builtin "BaseException.__getattribute__"))) (g2 : PySem.W.findIn K (.ref C) "__getattr__" = some none) (g3 : PySem.W.findIn K (.ref C) "__class__" = some (some (.builtin "object.__class__")))
    (g4 : PySem.W.specialIn K (.builtin "object.__class__") "__get__" = some (some (.builtin "getset_descriptor.__get__"))) (g5 : PySem.W.takesIn K (.builtin "object.__class__") = some true) :
    (PySem.W.excIn K C bmB newId = true ∧ PySem.W.keepIn K (.ref C) = true ∧ PySem.W.subIn K (.ref C) (.type "BaseException") = some true) ∧ ErrW K A C j bD bV bK bI bL bR bT ∧ PySem.W.exmAny K (.ref C) (catches A) = some true := by
  unfold classB at h
  simp only [Bool.and_eq_true, decide_eq_true_eq] at h
  obtain ⟨q1, q2, q3, q4, q5, r0, r1, r2, r3, r4, r5, r6, r7, r8, r9, r10, r11, r12, r13, r14, r15, r16, r17, r18, r19, r20, t0, t1, t2, t3, t4, t5, u1, u2⟩ := h
  exact ⟨⟨q1, q2, q3⟩, ⟨⟨g1, g2, q3, q4, g3, g4, g5, q5⟩, r0, r1, r2, r3, r4, r5, r6, r7, r8, r9, r10, r11, r12, r13, r14, r15, r16, r17, r18, r19, r20, t0, t1, t2, t3, t4, t5, u1⟩, u2⟩
/-- the law's own table -/
theorem tab_mk {K : PySem.W.Frag} {x : Str} {f c P : Addr} {oc : Value} {od : Option Addr} {fd : FuncData} {sl : Array (Option Value)} {e : Value} {dd : Option Addr} {vs : Array Value} {sl2 : Array (Option Value)} (a : PySem.W.nsIn K mainGlobals x = some (some (.ref f)))
    (l : K.lookup f = some ⟨oc, od, .func fd, sl⟩) (hc : fd.code = .ref c) (lc : K.lookup c = some ⟨e, dd, .fields vs, sl2⟩) (hP : vs[11]? = some (.ref P)) : PySem.W.tabIn K x = some (c, P) := by
  unfold PySem.W.tabIn
  rw [a]
  simp only [l, hc, lc, hP]
theorem all_mk {P : Program} {w : World} {K : PySem.W.Frag} {h : Heap} {mg : Str → Option Value} {fa : Addr} (X : K.In h) (G : h.Ns mainGlobals mg) (hfa : mg "law" = some (.ref fa))
    {k_DealError k_NoSpan k_NoRest k_NoAgreement k_NoText k_NoLetters k_NoLetter k_NoCondition k_NoHappening k_NoVersions k_NoOpen k_Open k_Withdrawn k_NoDeed k_HasCoins k_OtherParties k_TooWide k_NoLetterThere k_NoClause k_NoDay k_NothingDone k_Twice f0 f1 f2 f3 f4 f5 f6 f7 f8 f9 f10 f11 f12 f13 f14 f15 f16 f17 f18 f19 f20 f21 f22 f23 f24 f25 fl c tb : Addr}
    {oc0 kV0 dc0 pm0 ct0 cd0 : Value} {od0 an0 : Option Addr} {sl0 : Array (Option Value)}
    {oc1 kV1 dc1 pm1 ct1 cd1 : Value} {od1 an1 : Option Addr} {sl1 : Array (Option Value)}
    {oc2 kV2 dc2 pm2 ct2 cd2 : Value} {od2 an2 : Option Addr} {sl2 : Array (Option Value)}
    {oc3 kV3 dc3 pm3 ct3 cd3 : Value} {od3 an3 : Option Addr} {sl3 : Array (Option Value)}
    {oc4 kV4 dc4 pm4 ct4 cd4 : Value} {od4 an4 : Option Addr} {sl4 : Array (Option Value)}
    {oc5 kV5 dc5 pm5 ct5 cd5 : Value} {od5 an5 : Option Addr} {sl5 : Array (Option Value)}
    {oc6 kV6 dc6 pm6 ct6 cd6 : Value} {od6 an6 : Option Addr} {sl6 : Array (Option Value)}
    {oc7 kV7 dc7 pm7 ct7 cd7 : Value} {od7 an7 : Option Addr} {sl7 : Array (Option Value)}
    {oc8 kV8 dc8 pm8 ct8 cd8 : Value} {od8 an8 : Option Addr} {sl8 : Array (Option Value)}
    {oc9 kV9 dc9 pm9 ct9 cd9 : Value} {od9 an9 : Option Addr} {sl9 : Array (Option Value)}
    {oc10 kV10 dc10 pm10 ct10 cd10 : Value} {od10 an10 : Option Addr} {sl10 : Array (Option Value)}
    {oc11 kV11 dc11 pm11 ct11 cd11 : Value} {od11 an11 : Option Addr} {sl11 : Array (Option Value)}
    {oc12 kV12 dc12 pm12 ct12 cd12 : Value} {od12 an12 : Option Addr} {sl12 : Array (Option Value)}
    {oc13 kV13 dc13 pm13 ct13 cd13 : Value} {od13 an13 : Option Addr} {sl13 : Array (Option Value)}
    {oc14 kV14 dc14 pm14 ct14 cd14 : Value} {od14 an14 : Option Addr} {sl14 : Array (Option Value)}
    {oc15 kV15 dc15 pm15 ct15 cd15 : Value} {od15 an15 : Option Addr} {sl15 : Array (Option Value)}
    {oc16 kV16 dc16 pm16 ct16 cd16 : Value} {od16 an16 : Option Addr} {sl16 : Array (Option Value)}
    {oc17 kV17 dc17 pm17 ct17 cd17 : Value} {od17 an17 : Option Addr} {sl17 : Array (Option Value)}
    {oc18 kV18 dc18 pm18 ct18 cd18 : Value} {od18 an18 : Option Addr} {sl18 : Array (Option Value)}
    {oc19 kV19 dc19 pm19 ct19 cd19 : Value} {od19 an19 : Option Addr} {sl19 : Array (Option Value)}
    {oc20 kV20 dc20 pm20 ct20 cd20 : Value} {od20 an20 : Option Addr} {sl20 : Array (Option Value)}
    {oc21 kV21 dc21 pm21 ct21 cd21 : Value} {od21 an21 : Option Addr} {sl21 : Array (Option Value)}
    {oc22 kV22 dc22 pm22 ct22 cd22 : Value} {od22 an22 : Option Addr} {sl22 : Array (Option Value)}
    {oc23 kV23 dc23 pm23 ct23 cd23 : Value} {od23 an23 : Option Addr} {sl23 : Array (Option Value)}
    {oc24 kV24 dc24 pm24 ct24 cd24 : Value} {od24 an24 : Option Addr} {sl24 : Array (Option Value)}
    {oc25 kV25 dc25 pm25 ct25 cd25 : Value} {od25 an25 : Option Addr} {sl25 : Array (Option Value)}
    {oc26 kV26 dc26 pm26 ct26 : Value} {od26 an26 : Option Addr} {sl26 : Array (Option Value)}
    {eC : Value} {ddC : Option Addr} {vsC : Array Value} {slC : Array (Option Value)} {t_LAST_DAY t_WEEK t_MOST_WEEKDAYS t_MOST_HOLIDAYS t_LONGEST_SPAN : Tok}
    (b_DealError : PySem.W.nsIn K mainGlobals "DealError" = some (some (.ref k_DealError)))
    (b_NoSpan : PySem.W.nsIn K mainGlobals "NoSpan" = some (some (.ref k_NoSpan)))
    (b_NoRest : PySem.W.nsIn K mainGlobals "NoRest" = some (some (.ref k_NoRest)))
    (b_NoAgreement : PySem.W.nsIn K mainGlobals "NoAgreement" = some (some (.ref k_NoAgreement)))
    (b_NoText : PySem.W.nsIn K mainGlobals "NoText" = some (some (.ref k_NoText)))
    (b_NoLetters : PySem.W.nsIn K mainGlobals "NoLetters" = some (some (.ref k_NoLetters)))
    (b_NoLetter : PySem.W.nsIn K mainGlobals "NoLetter" = some (some (.ref k_NoLetter)))
    (b_NoCondition : PySem.W.nsIn K mainGlobals "NoCondition" = some (some (.ref k_NoCondition)))
    (b_NoHappening : PySem.W.nsIn K mainGlobals "NoHappening" = some (some (.ref k_NoHappening)))
    (b_NoVersions : PySem.W.nsIn K mainGlobals "NoVersions" = some (some (.ref k_NoVersions)))
    (b_NoOpen : PySem.W.nsIn K mainGlobals "NoOpen" = some (some (.ref k_NoOpen)))
    (b_Open : PySem.W.nsIn K mainGlobals "Open" = some (some (.ref k_Open)))
    (b_Withdrawn : PySem.W.nsIn K mainGlobals "Withdrawn" = some (some (.ref k_Withdrawn)))
    (b_NoDeed : PySem.W.nsIn K mainGlobals "NoDeed" = some (some (.ref k_NoDeed)))
    (b_HasCoins : PySem.W.nsIn K mainGlobals "HasCoins" = some (some (.ref k_HasCoins)))
    (b_OtherParties : PySem.W.nsIn K mainGlobals "OtherParties" = some (some (.ref k_OtherParties)))
    (b_TooWide : PySem.W.nsIn K mainGlobals "TooWide" = some (some (.ref k_TooWide)))
    (b_NoLetterThere : PySem.W.nsIn K mainGlobals "NoLetterThere" = some (some (.ref k_NoLetterThere)))
    (b_NoClause : PySem.W.nsIn K mainGlobals "NoClause" = some (some (.ref k_NoClause)))
    (b_NoDay : PySem.W.nsIn K mainGlobals "NoDay" = some (some (.ref k_NoDay)))
    (b_NothingDone : PySem.W.nsIn K mainGlobals "NothingDone" = some (some (.ref k_NothingDone)))
    (b_Twice : PySem.W.nsIn K mainGlobals "Twice" = some (some (.ref k_Twice)))
    (a0 : PySem.W.nsIn K mainGlobals "is_number" = some (some (.ref f0)))
    (l0 : K.lookup f0 = some ⟨oc0, od0, .func (PySem.W.fnOf "is_number" "is_number" (defArgs s_is_number) (defBody s_is_number) (defScope s_is_number) .none kV0 dc0 pm0 an0 cd0 ct0), sl0⟩)
    (c0 : PySem.W.codeIn K cd0 "is_number" = true)
    (k0 : PySem.W.keepIn K (.ref f0) = true)
    (a1 : PySem.W.nsIn K mainGlobals "is_number_within" = some (some (.ref f1)))
    (l1 : K.lookup f1 = some ⟨oc1, od1, .func (PySem.W.fnOf "is_number_within" "is_number_within" (defArgs s_is_number_within) (defBody s_is_number_within) (defScope s_is_number_within) .none kV1 dc1 pm1 an1 cd1 ct1), sl1⟩)
    (c1 : PySem.W.codeIn K cd1 "is_number_within" = true)
    (k1 : PySem.W.keepIn K (.ref f1) = true)
    (a2 : PySem.W.nsIn K mainGlobals "is_day" = some (some (.ref f2)))
    (l2 : K.lookup f2 = some ⟨oc2, od2, .func (PySem.W.fnOf "is_day" "is_day" (defArgs s_is_day) (defBody s_is_day) (defScope s_is_day) .none kV2 dc2 pm2 an2 cd2 ct2), sl2⟩)
    (c2 : PySem.W.codeIn K cd2 "is_day" = true)
    (k2 : PySem.W.keepIn K (.ref f2) = true)
    (a3 : PySem.W.nsIn K mainGlobals "is_tuple_of" = some (some (.ref f3)))
    (l3 : K.lookup f3 = some ⟨oc3, od3, .func (PySem.W.fnOf "is_tuple_of" "is_tuple_of" (defArgs s_is_tuple_of) (defBody s_is_tuple_of) (defScope s_is_tuple_of) .none kV3 dc3 pm3 an3 cd3 ct3), sl3⟩)
    (c3 : PySem.W.codeIn K cd3 "is_tuple_of" = true)
    (k3 : PySem.W.keepIn K (.ref f3) = true)
    (a4 : PySem.W.nsIn K mainGlobals "are_rising_numbers" = some (some (.ref f4)))
    (l4 : K.lookup f4 = some ⟨oc4, od4, .func (PySem.W.fnOf "are_rising_numbers" "are_rising_numbers" (defArgs s_are_rising_numbers) (defBody s_are_rising_numbers) (defScope s_are_rising_numbers) .none kV4 dc4 pm4 an4 cd4 ct4), sl4⟩)
    (c4 : PySem.W.codeIn K cd4 "are_rising_numbers" = true)
    (k4 : PySem.W.keepIn K (.ref f4) = true)
    (a5 : PySem.W.nsIn K mainGlobals "is_rest" = some (some (.ref f5)))
    (l5 : K.lookup f5 = some ⟨oc5, od5, .func (PySem.W.fnOf "is_rest" "is_rest" (defArgs s_is_rest) (defBody s_is_rest) (defScope s_is_rest) .none kV5 dc5 pm5 an5 cd5 ct5), sl5⟩)
    (c5 : PySem.W.codeIn K cd5 "is_rest" = true)
    (k5 : PySem.W.keepIn K (.ref f5) = true)
    (a6 : PySem.W.nsIn K mainGlobals "is_span" = some (some (.ref f6)))
    (l6 : K.lookup f6 = some ⟨oc6, od6, .func (PySem.W.fnOf "is_span" "is_span" (defArgs s_is_span) (defBody s_is_span) (defScope s_is_span) .none kV6 dc6 pm6 an6 cd6 ct6), sl6⟩)
    (c6 : PySem.W.codeIn K cd6 "is_span" = true)
    (k6 : PySem.W.keepIn K (.ref f6) = true)
    (a7 : PySem.W.nsIn K mainGlobals "after" = some (some (.ref f7)))
    (l7 : K.lookup f7 = some ⟨oc7, od7, .func (PySem.W.fnOf "after" "after" (defArgs s_after) (defBody s_after) (defScope s_after) .none kV7 dc7 pm7 an7 cd7 ct7), sl7⟩)
    (c7 : PySem.W.codeIn K cd7 "after" = true)
    (k7 : PySem.W.keepIn K (.ref f7) = true)
    (a8 : PySem.W.nsIn K mainGlobals "refuse_no_day" = some (some (.ref f8)))
    (l8 : K.lookup f8 = some ⟨oc8, od8, .func (PySem.W.fnOf "refuse_no_day" "refuse_no_day" (defArgs s_refuse_no_day) (defBody s_refuse_no_day) (defScope s_refuse_no_day) .none kV8 dc8 pm8 an8 cd8 ct8), sl8⟩)
    (c8 : PySem.W.codeIn K cd8 "refuse_no_day" = true)
    (k8 : PySem.W.keepIn K (.ref f8) = true)
    (a9 : PySem.W.nsIn K mainGlobals "refuse_no_rest" = some (some (.ref f9)))
    (l9 : K.lookup f9 = some ⟨oc9, od9, .func (PySem.W.fnOf "refuse_no_rest" "refuse_no_rest" (defArgs s_refuse_no_rest) (defBody s_refuse_no_rest) (defScope s_refuse_no_rest) .none kV9 dc9 pm9 an9 cd9 ct9), sl9⟩)
    (c9 : PySem.W.codeIn K cd9 "refuse_no_rest" = true)
    (k9 : PySem.W.keepIn K (.ref f9) = true)
    (a10 : PySem.W.nsIn K mainGlobals "works" = some (some (.ref f10)))
    (l10 : K.lookup f10 = some ⟨oc10, od10, .func (PySem.W.fnOf "works" "works" (defArgs s_works) (defBody s_works) (defScope s_works) .none kV10 dc10 pm10 an10 cd10 ct10), sl10⟩)
    (c10 : PySem.W.codeIn K cd10 "works" = true)
    (k10 : PySem.W.keepIn K (.ref f10) = true)
    (a11 : PySem.W.nsIn K mainGlobals "day_led_to" = some (some (.ref f11)))
    (l11 : K.lookup f11 = some ⟨oc11, od11, .func (PySem.W.fnOf "day_led_to" "day_led_to" (defArgs s_day_led_to) (defBody s_day_led_to) (defScope s_day_led_to) .none kV11 dc11 pm11 an11 cd11 ct11), sl11⟩)
    (c11 : PySem.W.codeIn K cd11 "day_led_to" = true)
    (k11 : PySem.W.keepIn K (.ref f11) = true)
    (a12 : PySem.W.nsIn K mainGlobals "nth_work_day" = some (some (.ref f12)))
    (l12 : K.lookup f12 = some ⟨oc12, od12, .func (PySem.W.fnOf "nth_work_day" "nth_work_day" (defArgs s_nth_work_day) (defBody s_nth_work_day) (defScope s_nth_work_day) .none kV12 dc12 pm12 an12 cd12 ct12), sl12⟩)
    (c12 : PySem.W.codeIn K cd12 "nth_work_day" = true)
    (k12 : PySem.W.keepIn K (.ref f12) = true)
    (a13 : PySem.W.nsIn K mainGlobals "_law_pen" = some (some (.ref f13)))
    (l13 : K.lookup f13 = some ⟨oc13, od13, .func (PySem.W.fnOf "_law_pen" "_law_pen" (defArgs s__law_pen) (defBody s__law_pen) (defScope s__law_pen) .none kV13 dc13 pm13 an13 cd13 ct13), sl13⟩)
    (c13 : PySem.W.codeIn K cd13 "_law_pen" = true)
    (k13 : PySem.W.keepIn K (.ref f13) = true)
    (a14 : PySem.W.nsIn K mainGlobals "_law_draw" = some (some (.ref f14)))
    (l14 : K.lookup f14 = some ⟨oc14, od14, .func (PySem.W.fnOf "_law_draw" "_law_draw" (defArgs s__law_draw) (defBody s__law_draw) (defScope s__law_draw) .none kV14 dc14 pm14 an14 cd14 ct14), sl14⟩)
    (c14 : PySem.W.codeIn K cd14 "_law_draw" = true)
    (k14 : PySem.W.keepIn K (.ref f14) = true)
    (a15 : PySem.W.nsIn K mainGlobals "_law_word" = some (some (.ref f15)))
    (l15 : K.lookup f15 = some ⟨oc15, od15, .func (PySem.W.fnOf "_law_word" "_law_word" (defArgs s__law_word) (defBody s__law_word) (defScope s__law_word) .none kV15 dc15 pm15 an15 cd15 ct15), sl15⟩)
    (c15 : PySem.W.codeIn K cd15 "_law_word" = true)
    (k15 : PySem.W.keepIn K (.ref f15) = true)
    (a16 : PySem.W.nsIn K mainGlobals "_law_pick" = some (some (.ref f16)))
    (l16 : K.lookup f16 = some ⟨oc16, od16, .func (PySem.W.fnOf "_law_pick" "_law_pick" (defArgs s__law_pick) (defBody s__law_pick) (defScope s__law_pick) .none kV16 dc16 pm16 an16 cd16 ct16), sl16⟩)
    (c16 : PySem.W.codeIn K cd16 "_law_pick" = true)
    (k16 : PySem.W.keepIn K (.ref f16) = true)
    (a17 : PySem.W.nsIn K mainGlobals "_law_odd" = some (some (.ref f17)))
    (l17 : K.lookup f17 = some ⟨oc17, od17, .func (PySem.W.fnOf "_law_odd" "_law_odd" (defArgs s__law_odd) (defBody s__law_odd) (defScope s__law_odd) .none kV17 dc17 pm17 an17 cd17 ct17), sl17⟩)
    (c17 : PySem.W.codeIn K cd17 "_law_odd" = true)
    (k17 : PySem.W.keepIn K (.ref f17) = true)
    (a18 : PySem.W.nsIn K mainGlobals "_law_bent" = some (some (.ref f18)))
    (l18 : K.lookup f18 = some ⟨oc18, od18, .func (PySem.W.fnOf "_law_bent" "_law_bent" (defArgs s__law_bent) (defBody s__law_bent) (defScope s__law_bent) .none kV18 dc18 pm18 an18 cd18 ct18), sl18⟩)
    (c18 : PySem.W.codeIn K cd18 "_law_bent" = true)
    (k18 : PySem.W.keepIn K (.ref f18) = true)
    (a19 : PySem.W.nsIn K mainGlobals "_law_rest" = some (some (.ref f19)))
    (l19 : K.lookup f19 = some ⟨oc19, od19, .func (PySem.W.fnOf "_law_rest" "_law_rest" (defArgs s__law_rest) (defBody s__law_rest) (defScope s__law_rest) .none kV19 dc19 pm19 an19 cd19 ct19), sl19⟩)
    (c19 : PySem.W.codeIn K cd19 "_law_rest" = true)
    (k19 : PySem.W.keepIn K (.ref f19) = true)
    (a20 : PySem.W.nsIn K mainGlobals "_law_any_span" = some (some (.ref f20)))
    (l20 : K.lookup f20 = some ⟨oc20, od20, .func (PySem.W.fnOf "_law_any_span" "_law_any_span" (defArgs s__law_any_span) (defBody s__law_any_span) (defScope s__law_any_span) .none kV20 dc20 pm20 an20 cd20 ct20), sl20⟩)
    (c20 : PySem.W.codeIn K cd20 "_law_any_span" = true)
    (k20 : PySem.W.keepIn K (.ref f20) = true)
    (a21 : PySem.W.nsIn K mainGlobals "_law_tell" = some (some (.ref f21)))
    (l21 : K.lookup f21 = some ⟨oc21, od21, .func (PySem.W.fnOf "_law_tell" "_law_tell" (defArgs s__law_tell) (defBody s__law_tell) (defScope s__law_tell) .none kV21 dc21 pm21 an21 cd21 ct21), sl21⟩)
    (c21 : PySem.W.codeIn K cd21 "_law_tell" = true)
    (k21 : PySem.W.keepIn K (.ref f21) = true)
    (a22 : PySem.W.nsIn K mainGlobals "_law_is_whole" = some (some (.ref f22)))
    (l22 : K.lookup f22 = some ⟨oc22, od22, .func (PySem.W.fnOf "_law_is_whole" "_law_is_whole" (defArgs s__law_is_whole) (defBody s__law_is_whole) (defScope s__law_is_whole) .none kV22 dc22 pm22 an22 cd22 ct22), sl22⟩)
    (c22 : PySem.W.codeIn K cd22 "_law_is_whole" = true)
    (k22 : PySem.W.keepIn K (.ref f22) = true)
    (a23 : PySem.W.nsIn K mainGlobals "_law_is_rising" = some (some (.ref f23)))
    (l23 : K.lookup f23 = some ⟨oc23, od23, .func (PySem.W.fnOf "_law_is_rising" "_law_is_rising" (defArgs s__law_is_rising) (defBody s__law_is_rising) (defScope s__law_is_rising) .none kV23 dc23 pm23 an23 cd23 ct23), sl23⟩)
    (c23 : PySem.W.codeIn K cd23 "_law_is_rising" = true)
    (k23 : PySem.W.keepIn K (.ref f23) = true)
    (a24 : PySem.W.nsIn K mainGlobals "_law_is_a_rest" = some (some (.ref f24)))
    (l24 : K.lookup f24 = some ⟨oc24, od24, .func (PySem.W.fnOf "_law_is_a_rest" "_law_is_a_rest" (defArgs s__law_is_a_rest) (defBody s__law_is_a_rest) (defScope s__law_is_a_rest) .none kV24 dc24 pm24 an24 cd24 ct24), sl24⟩)
    (c24 : PySem.W.codeIn K cd24 "_law_is_a_rest" = true)
    (k24 : PySem.W.keepIn K (.ref f24) = true)
    (a25 : PySem.W.nsIn K mainGlobals "_law_is_a_span" = some (some (.ref f25)))
    (l25 : K.lookup f25 = some ⟨oc25, od25, .func (PySem.W.fnOf "_law_is_a_span" "_law_is_a_span" (defArgs s__law_is_a_span) (defBody s__law_is_a_span) (defScope s__law_is_a_span) .none kV25 dc25 pm25 an25 cd25 ct25), sl25⟩)
    (c25 : PySem.W.codeIn K cd25 "_law_is_a_span" = true)
    (k25 : PySem.W.keepIn K (.ref f25) = true)
    (aL : PySem.W.nsIn K mainGlobals "law" = some (some (.ref fl)))
    (lL : K.lookup fl = some ⟨oc26, od26, .func (PySem.W.fnOf "law" "law" (defArgs s_law) (defBody s_law) (defScope s_law) .none kV26 dc26 pm26 an26 (.ref c) ct26), sl26⟩)
    (cL : PySem.W.codeIn K (.ref c) "law" = true)
    (lC : K.lookup c = some ⟨eC, ddC, .fields vsC, slC⟩)
    (hP : vsC[11]? = some (.ref tb))
    (nP : K.lookup tb = none)
    (z_isinstance : PySem.W.nsIn K mainGlobals "isinstance" = some none)
    (z_int : PySem.W.nsIn K mainGlobals "int" = some none)
    (z_bool : PySem.W.nsIn K mainGlobals "bool" = some none)
    (z_tuple : PySem.W.nsIn K mainGlobals "tuple" = some none)
    (z_list : PySem.W.nsIn K mainGlobals "list" = some none)
    (z_str : PySem.W.nsIn K mainGlobals "str" = some none)
    (z_len : PySem.W.nsIn K mainGlobals "len" = some none)
    (z_all : PySem.W.nsIn K mainGlobals "all" = some none)
    (z_zip : PySem.W.nsIn K mainGlobals "zip" = some none)
    (z_sorted : PySem.W.nsIn K mainGlobals "sorted" = some none)
    (z_set : PySem.W.nsIn K mainGlobals "set" = some none)
    (z_range : PySem.W.nsIn K mainGlobals "range" = some none)
    (z_min : PySem.W.nsIn K mainGlobals "min" = some none)
    (z_max : PySem.W.nsIn K mainGlobals "max" = some none)
    (z_repr : PySem.W.nsIn K mainGlobals "repr" = some none)
    (z_KeyError : PySem.W.nsIn K mainGlobals "KeyError" = some none)
    (z_IndexError : PySem.W.nsIn K mainGlobals "IndexError" = some none)
    (z_LookupError : PySem.W.nsIn K mainGlobals "LookupError" = some none)
    (z_RuntimeError : PySem.W.nsIn K mainGlobals "RuntimeError" = some none)
    (z_ValueError : PySem.W.nsIn K mainGlobals "ValueError" = some none)
    (v_LAST_DAY : PySem.W.nsIn K mainGlobals "LAST_DAY" = some (some (.int 3000 t_LAST_DAY)))
    (v_WEEK : PySem.W.nsIn K mainGlobals "WEEK" = some (some (.int 7 t_WEEK)))
    (v_MOST_WEEKDAYS : PySem.W.nsIn K mainGlobals "MOST_WEEKDAYS" = some (some (.int 4 t_MOST_WEEKDAYS)))
    (v_MOST_HOLIDAYS : PySem.W.nsIn K mainGlobals "MOST_HOLIDAYS" = some (some (.int 20 t_MOST_HOLIDAYS)))
    (v_LONGEST_SPAN : PySem.W.nsIn K mainGlobals "LONGEST_SPAN" = some (some (.int 30 t_LONGEST_SPAN)))
    (g4 : PySem.W.specialIn K (.builtin "object.__class__") "__get__" = some (some (.builtin "getset_descriptor.__get__")))
    (g5 : PySem.W.takesIn K (.builtin "object.__class__") = some true)
    (ty_NoDay : PySem.W.typeIn K (.ref k_NoDay) = some (.type "type"))
    (g1_NoDay : PySem.W.findIn K (.ref k_NoDay) "__getattribute__" = some (some (.builtin "BaseException.__getattribute__")))
    (g2_NoDay : PySem.W.findIn K (.ref k_NoDay) "__getattr__" = some none)
    (g3_NoDay : PySem.W.findIn K (.ref k_NoDay) "__class__" = some (some (.builtin "object.__class__")))
    (B_NoDay : classB K (Cls.mk k_DealError k_NoSpan k_NoRest k_NoAgreement k_NoText k_NoLetters k_NoLetter k_NoCondition k_NoHappening k_NoVersions k_NoOpen k_Open k_Withdrawn k_NoDeed k_HasCoins k_OtherParties k_TooWide k_NoLetterThere k_NoClause k_NoDay k_NothingDone k_Twice) k_NoDay [.type "IndexError", .type "LookupError", .type "Exception", .type "BaseException", .type "object"] "IndexError.__new__" 18 false false false true true false true = true)
    (ty_NoSpan : PySem.W.typeIn K (.ref k_NoSpan) = some (.type "type"))
    (g1_NoSpan : PySem.W.findIn K (.ref k_NoSpan) "__getattribute__" = some (some (.builtin "BaseException.__getattribute__")))
    (g2_NoSpan : PySem.W.findIn K (.ref k_NoSpan) "__getattr__" = some none)
    (g3_NoSpan : PySem.W.findIn K (.ref k_NoSpan) "__class__" = some (some (.builtin "object.__class__")))
    (B_NoSpan : classB K (Cls.mk k_DealError k_NoSpan k_NoRest k_NoAgreement k_NoText k_NoLetters k_NoLetter k_NoCondition k_NoHappening k_NoVersions k_NoOpen k_Open k_Withdrawn k_NoDeed k_HasCoins k_OtherParties k_TooWide k_NoLetterThere k_NoClause k_NoDay k_NothingDone k_Twice) k_NoSpan [.type "ValueError", .type "Exception", .type "BaseException", .type "object"] "ValueError.__new__" 0 true true false false false false false = true)
    (ty_NoRest : PySem.W.typeIn K (.ref k_NoRest) = some (.type "type"))
    (g1_NoRest : PySem.W.findIn K (.ref k_NoRest) "__getattribute__" = some (some (.builtin "BaseException.__getattribute__")))
    (g2_NoRest : PySem.W.findIn K (.ref k_NoRest) "__getattr__" = some none)
    (g3_NoRest : PySem.W.findIn K (.ref k_NoRest) "__class__" = some (some (.builtin "object.__class__")))
    (B_NoRest : classB K (Cls.mk k_DealError k_NoSpan k_NoRest k_NoAgreement k_NoText k_NoLetters k_NoLetter k_NoCondition k_NoHappening k_NoVersions k_NoOpen k_Open k_Withdrawn k_NoDeed k_HasCoins k_OtherParties k_TooWide k_NoLetterThere k_NoClause k_NoDay k_NothingDone k_Twice) k_NoRest [.type "ValueError", .type "Exception", .type "BaseException", .type "object"] "ValueError.__new__" 1 true true false false false false false = true)
    : ∃ c P' : Addr, PySem.W.tabIn K "law" = some (c, P') ∧ K.lookup P' = none ∧ OuterOk P w K mg CX0 fa 63 [(c, P')] := by
  have e := hfa.symm.trans (PySem.W.mg_of X G aL)
  cases e
  have mgo := fun {x : Str} {v : Value} (q : PySem.W.nsIn K mainGlobals x = some (some v)) => PySem.W.mg_of X G q
  have mgn := fun {x : Str} (q : PySem.W.nsIn K mainGlobals x = some none) => PySem.W.mg_none_of X G q
  obtain ⟨⟨x1_NoDay, x2_NoDay, x3_NoDay⟩, ew_NoDay, xm_NoDay⟩ := classB_of B_NoDay g1_NoDay g2_NoDay g3_NoDay g4 g5
  obtain ⟨⟨x1_NoSpan, x2_NoSpan, x3_NoSpan⟩, ew_NoSpan, xm_NoSpan⟩ := classB_of B_NoSpan g1_NoSpan g2_NoSpan g3_NoSpan g4 g5
  obtain ⟨⟨x1_NoRest, x2_NoRest, x3_NoRest⟩, ew_NoRest, xm_NoRest⟩ := classB_of B_NoRest g1_NoRest g2_NoRest g3_NoRest g4 g5
  have T : TxtW K mg (Cls.mk k_DealError k_NoSpan k_NoRest k_NoAgreement k_NoText k_NoLetters k_NoLetter k_NoCondition k_NoHappening k_NoVersions k_NoOpen k_Open k_Withdrawn k_NoDeed k_HasCoins k_OtherParties k_TooWide k_NoLetterThere k_NoClause k_NoDay k_NothingDone k_Twice) := ⟨⟨mgn z_isinstance, mgn z_int, mgn z_bool, mgn z_tuple, mgn z_list, mgn z_str, mgn z_len, mgn z_all, mgn z_zip, mgn z_sorted, mgn z_set, mgn z_range, mgn z_min, mgn z_max, mgn z_repr, mgn z_KeyError, mgn z_IndexError, mgn z_LookupError, mgn z_RuntimeError, mgn z_ValueError, ⟨_, mgo v_LAST_DAY⟩, ⟨_, mgo v_WEEK⟩, ⟨_, mgo v_MOST_WEEKDAYS⟩, ⟨_, mgo v_MOST_HOLIDAYS⟩, ⟨_, mgo v_LONGEST_SPAN⟩, ⟨PySem.F.excBase_IndexError, x1_NoDay, mgo b_NoDay, x2_NoDay, x3_NoDay, ty_NoDay⟩, ⟨PySem.F.excBase_ValueError, x1_NoSpan, mgo b_NoSpan, x2_NoSpan, x3_NoSpan, ty_NoSpan⟩, ⟨PySem.F.excBase_ValueError, x1_NoRest, mgo b_NoRest, x2_NoRest, x3_NoRest, ty_NoRest⟩⟩, mgo b_NoSpan, mgo b_NoRest, mgo b_NoAgreement, mgo b_NoText, mgo b_NoLetters, mgo b_NoLetter, mgo b_NoCondition, mgo b_NoHappening, mgo b_NoVersions, mgo b_NoOpen, mgo b_Open, mgo b_Withdrawn, mgo b_NoDeed, mgo b_HasCoins, mgo b_OtherParties, mgo b_TooWide, mgo b_NoLetterThere, mgo b_NoClause, mgo b_NoDay, mgo b_NothingDone, mgo b_Twice, mgo b_DealError⟩
  have W : Errs K (Cls.mk k_DealError k_NoSpan k_NoRest k_NoAgreement k_NoText k_NoLetters k_NoLetter k_NoCondition k_NoHappening k_NoVersions k_NoOpen k_Open k_Withdrawn k_NoDeed k_HasCoins k_OtherParties k_TooWide k_NoLetterThere k_NoClause k_NoDay k_NothingDone k_Twice) := ⟨.inl ⟨rfl, ew_NoDay⟩, .inr (.inl ⟨rfl, ew_NoSpan⟩), .inr (.inr ⟨rfl, ew_NoRest⟩), xm_NoDay, xm_NoSpan, xm_NoRest⟩
  have F0 : FnAt K mg "is_number" s_is_number f0 _ := ⟨fun_mk (st := s_is_number) l0 c0 k0, mgo a0⟩
  have F1 : FnAt K mg "is_number_within" s_is_number_within f1 _ := ⟨fun_mk (st := s_is_number_within) l1 c1 k1, mgo a1⟩
  have F2 : FnAt K mg "is_day" s_is_day f2 _ := ⟨fun_mk (st := s_is_day) l2 c2 k2, mgo a2⟩
  have F3 : FnAt K mg "is_tuple_of" s_is_tuple_of f3 _ := ⟨fun_mk (st := s_is_tuple_of) l3 c3 k3, mgo a3⟩
  have F4 : FnAt K mg "are_rising_numbers" s_are_rising_numbers f4 _ := ⟨fun_mk (st := s_are_rising_numbers) l4 c4 k4, mgo a4⟩
  have F5 : FnAt K mg "is_rest" s_is_rest f5 _ := ⟨fun_mk (st := s_is_rest) l5 c5 k5, mgo a5⟩
  have F6 : FnAt K mg "is_span" s_is_span f6 _ := ⟨fun_mk (st := s_is_span) l6 c6 k6, mgo a6⟩
  have F7 : FnAt K mg "after" s_after f7 _ := ⟨fun_mk (st := s_after) l7 c7 k7, mgo a7⟩
  have F8 : FnAt K mg "refuse_no_day" s_refuse_no_day f8 _ := ⟨fun_mk (st := s_refuse_no_day) l8 c8 k8, mgo a8⟩
  have F9 : FnAt K mg "refuse_no_rest" s_refuse_no_rest f9 _ := ⟨fun_mk (st := s_refuse_no_rest) l9 c9 k9, mgo a9⟩
  have F10 : FnAt K mg "works" s_works f10 _ := ⟨fun_mk (st := s_works) l10 c10 k10, mgo a10⟩
  have F11 : FnAt K mg "day_led_to" s_day_led_to f11 _ := ⟨fun_mk (st := s_day_led_to) l11 c11 k11, mgo a11⟩
  have F12 : FnAt K mg "nth_work_day" s_nth_work_day f12 _ := ⟨fun_mk (st := s_nth_work_day) l12 c12 k12, mgo a12⟩
  have F13 : FnAt K mg "_law_pen" s__law_pen f13 _ := ⟨fun_mk (st := s__law_pen) l13 c13 k13, mgo a13⟩
  have F14 : FnAt K mg "_law_draw" s__law_draw f14 _ := ⟨fun_mk (st := s__law_draw) l14 c14 k14, mgo a14⟩
  have F15 : FnAt K mg "_law_word" s__law_word f15 _ := ⟨fun_mk (st := s__law_word) l15 c15 k15, mgo a15⟩
  have F16 : FnAt K mg "_law_pick" s__law_pick f16 _ := ⟨fun_mk (st := s__law_pick) l16 c16 k16, mgo a16⟩
  have F17 : FnAt K mg "_law_odd" s__law_odd f17 _ := ⟨fun_mk (st := s__law_odd) l17 c17 k17, mgo a17⟩
  have F18 : FnAt K mg "_law_bent" s__law_bent f18 _ := ⟨fun_mk (st := s__law_bent) l18 c18 k18, mgo a18⟩
  have F19 : FnAt K mg "_law_rest" s__law_rest f19 _ := ⟨fun_mk (st := s__law_rest) l19 c19 k19, mgo a19⟩
  have F20 : FnAt K mg "_law_any_span" s__law_any_span f20 _ := ⟨fun_mk (st := s__law_any_span) l20 c20 k20, mgo a20⟩
  have F21 : FnAt K mg "_law_tell" s__law_tell f21 _ := ⟨fun_mk (st := s__law_tell) l21 c21 k21, mgo a21⟩
  have F22 : FnAt K mg "_law_is_whole" s__law_is_whole f22 _ := ⟨fun_mk (st := s__law_is_whole) l22 c22 k22, mgo a22⟩
  have F23 : FnAt K mg "_law_is_rising" s__law_is_rising f23 _ := ⟨fun_mk (st := s__law_is_rising) l23 c23 k23, mgo a23⟩
  have F24 : FnAt K mg "_law_is_a_rest" s__law_is_a_rest f24 _ := ⟨fun_mk (st := s__law_is_a_rest) l24 c24 k24, mgo a24⟩
  have F25 : FnAt K mg "_law_is_a_span" s__law_is_a_span f25 _ := ⟨fun_mk (st := s__law_is_a_span) l25 c25 k25, mgo a25⟩
  refine ⟨c, tb, tab_mk aL lL rfl lC hP, nP, ?_⟩
  intro base s H a ns KB hG TB e0 hT hS hl hbits
  have d1 := ok_is_number (P := P) (w := w) (base := base) F0 T.toTxt
  have d2 := ok_is_number_within (P := P) (w := w) (base := base) F1 T.toTxt ⟨d1⟩
  have d3 := ok_is_day (P := P) (w := w) (base := base) F2 T.toTxt ⟨d2⟩
  have d4 := ok_is_tuple_of (P := P) (w := w) (base := base) F3 T.toTxt
  have d5 := ok_are_rising_numbers (P := P) (w := w) (base := base) F4 T.toTxt ⟨⟨d2⟩, d4⟩
  have d6 := ok_is_rest (P := P) (w := w) (base := base) F5 T.toTxt ⟨⟨⟨d2⟩, d4⟩, d5⟩
  have d7 := ok_is_span (P := P) (w := w) (base := base) F6 T.toTxt ⟨⟨⟨d2⟩, d4⟩, d5⟩
  have d8 := ok_works (P := P) (w := w) (base := base) F10 T.toTxt
  have d9 := ok_nth_work_day (P := P) (w := w) (base := base) F12 T.toTxt ⟨d8⟩
  have d9b := ok_day_led_to (P := P) (w := w) (base := base) F11 T.toTxt ⟨d9⟩
  have d10 := ok_refuse_no_day (P := P) (w := w) (base := base) F8 T.toTxt ⟨d3, d6, d7, d9b⟩
  have d11 := ok_refuse_no_rest (P := P) (w := w) (base := base) F9 T.toTxt ⟨d3, d6, d7, d9b⟩
  have d12 := ok_after (P := P) (w := w) (base := base) F7 T.toTxt ⟨⟨d3, d6, d7, d9b⟩, d10, d11⟩
  have e1 := ok__law_pen (P := P) (w := w) (base := base) F13 T.toTxt
  have e2 := ok__law_draw (P := P) (w := w) (base := base) F14 T.toTxt
  have e3 := ok__law_pick (P := P) (w := w) (base := base) F16 T.toTxt ⟨e2⟩
  have e6 := ok__law_any_span (P := P) (w := w) (base := base) F20 T.toTxt ⟨⟨e2⟩, e3⟩
  have e7 := ok__law_rest (P := P) (w := w) (base := base) F19 T.toTxt ⟨⟨e2⟩, e3⟩
  have e8 := ok__law_word (P := P) (w := w) (base := base) F15 T
  have g1 := ok__law_odd (P := P) (w := w) (base := base) F17 T.toTxt ⟨e3⟩
  have g2 := bent_all (P := P) (w := w) (base := base) F18 T.toTxt e3 e2 g1
  have g3 := ok__law_is_whole (P := P) (w := w) (base := base) F22 T.toTxt
  have g4 := ok__law_is_rising (P := P) (w := w) (base := base) F23 T.toTxt ⟨g3⟩
  have g5 := ok__law_is_a_rest (P := P) (w := w) (base := base) F24 T.toTxt ⟨⟨g3⟩, g4⟩
  have g6 := ok__law_is_a_span (P := P) (w := w) (base := base) F25 T.toTxt ⟨g3⟩
  refine run_ofS (N := n_law) (ps := ["_law_script"]) (us := [.ref a]) (vs := [.ref a]) (k := 8) lL cL sc_law ⟨rfl, by decide, by decide⟩ e0 (.of_eq rfl) (.cons rfl .nil) rfl fun hr => ?_
  obtain ⟨t, h1, h2⟩ := law_body (Q := fun v _ => v = V.bl true) T W ⟨d12, d6, d7, g5, g6, e1, e2, e3, e7, e6, e8, g2 1, g2 2, g2 3, g2 4⟩ F21 (TB _ (List.mem_singleton.mpr rfl)) hr hS hl (hT _ (List.mem_singleton.mpr rfl)) (fun H' => rfl)
  exact ⟨t, h1.nox, h2⟩
end Ka
set_option Elab.async false
open PySem PySem.W PyProof.Rows in
set_option maxRecDepth 100000 in
set_option maxHeartbeats 0 in
theorem PySem.Challenge.cw_dealtongue_k03_what_is_a_rest_or_a_span_holds : PySem.Challenge.rw_dealtongue_k03_what_is_a_rest_or_a_span.Holds := by
  w_on; o_law; k_head; (case hw => w_witness2)
  k_fill
  refine Dt.walk_own (l := PySem.Challenge.rw_dealtongue_k03_what_is_a_rest_or_a_span) (n := 63) (CX := fun _ => L2.CX0) rfl (by decide) rfl (by decide +kernel) (fun w h Y => by first | exact PySem.W.km_in_of Y | exact PySem.W.kIn_of Y) ?F (fun _ _ _ _ _ z => z)
  case F =>
    intro w mg fa h KX G hmg
    refine' Ka.all_mk KX G hmg ?b_DealError ?b_NoSpan ?b_NoRest ?b_NoAgreement ?b_NoText ?b_NoLetters ?b_NoLetter ?b_NoCondition ?b_NoHappening ?b_NoVersions ?b_NoOpen ?b_Open ?b_Withdrawn ?b_NoDeed ?b_HasCoins ?b_OtherParties ?b_TooWide ?b_NoLetterThere ?b_NoClause ?b_NoDay ?b_NothingDone ?b_Twice ?a0 ?l0 ?c0 ?k0 ?a1 ?l1 ?c1 ?k1 ?a2 ?l2 ?c2 ?k2 ?a3 ?l3 ?c3 ?k3 ?a4 ?l4 ?c4 ?k4 ?a5 ?l5 ?c5 ?k5 ?a6 ?l6 ?c6 ?k6 ?a7 ?l7 ?c7 ?k7 ?a8 ?l8 ?c8 ?k8 ?a9 ?l9 ?c9 ?k9 ?a10 ?l10 ?c10 ?k10 ?a11 ?l11 ?c11 ?k11 ?a12 ?l12 ?c12 ?k12 ?a13 ?l13 ?c13 ?k13 ?a14 ?l14 ?c14 ?k14 ?a15 ?l15 ?c15 ?k15 ?a16 ?l16 ?c16 ?k16 ?a17 ?l17 ?c17 ?k17 ?a18 ?l18 ?c18 ?k18 ?a19 ?l19 ?c19 ?k19 ?a20 ?l20 ?c20 ?k20 ?a21 ?l21 ?c21 ?k21 ?a22 ?l22 ?c22 ?k22 ?a23 ?l23 ?c23 ?k23 ?a24 ?l24 ?c24 ?k24 ?a25 ?l25 ?c25 ?k25 ?aL ?lL ?cL ?lC ?hP ?nP ?z_isinstance ?z_int ?z_bool ?z_tuple ?z_list ?z_str ?z_len ?z_all ?z_zip ?z_sorted ?z_set ?z_range ?z_min ?z_max ?z_repr ?z_KeyError ?z_IndexError ?z_LookupError ?z_RuntimeError ?z_ValueError ?v_LAST_DAY ?v_WEEK ?v_MOST_WEEKDAYS ?v_MOST_HOLIDAYS ?v_LONGEST_SPAN ?g4 ?g5 ?ty_NoDay ?g1_NoDay ?g2_NoDay ?g3_NoDay ?B_NoDay ?ty_NoSpan ?g1_NoSpan ?g2_NoSpan ?g3_NoSpan ?B_NoSpan ?ty_NoRest ?g1_NoRest ?g2_NoRest ?g3_NoRest ?B_NoRest
    (case b_DealError => k_is)
    (case b_NoSpan => k_is)
    (case b_NoRest => k_is)
    (case b_NoAgreement => k_is)
    (case b_NoText => k_is)
    (case b_NoLetters => k_is)
    (case b_NoLetter => k_is)
    (case b_NoCondition => k_is)
    (case b_NoHappening => k_is)
    (case b_NoVersions => k_is)
    (case b_NoOpen => k_is)
    (case b_Open => k_is)
    (case b_Withdrawn => k_is)
    (case b_NoDeed => k_is)
    (case b_HasCoins => k_is)
    (case b_OtherParties => k_is)
    (case b_TooWide => k_is)
    (case b_NoLetterThere => k_is)
    (case b_NoClause => k_is)
    (case b_NoDay => k_is)
    (case b_NothingDone => k_is)
    (case b_Twice => k_is)
    (case a0 => k_is)
    (case l0 => k_is)
    (case c0 => k_is)
    (case k0 => k_is)
    (case a1 => k_is)
    (case l1 => k_is)
    (case c1 => k_is)
    (case k1 => k_is)
    (case a2 => k_is)
    (case l2 => k_is)
    (case c2 => k_is)
    (case k2 => k_is)
    (case a3 => k_is)
    (case l3 => k_is)
    (case c3 => k_is)
    (case k3 => k_is)
    (case a4 => k_is)
    (case l4 => k_is)
    (case c4 => k_is)
    (case k4 => k_is)
    (case a5 => k_is)
    (case l5 => k_is)
    (case c5 => k_is)
    (case k5 => k_is)
    (case a6 => k_is)
    (case l6 => k_is)
    (case c6 => k_is)
    (case k6 => k_is)
    (case a7 => k_is)
    (case l7 => k_is)
    (case c7 => k_is)
    (case k7 => k_is)
    (case a8 => k_is)
    (case l8 => k_is)
    (case c8 => k_is)
    (case k8 => k_is)
    (case a9 => k_is)
    (case l9 => k_is)
    (case c9 => k_is)
    (case k9 => k_is)
    (case a10 => k_is)
    (case l10 => k_is)
    (case c10 => k_is)
    (case k10 => k_is)
    (case a11 => k_is)
    (case l11 => k_is)
    (case c11 => k_is)
    (case k11 => k_is)
    (case a12 => k_is)
    (case l12 => k_is)
    (case c12 => k_is)
    (case k12 => k_is)
    (case a13 => k_is)
    (case l13 => k_is)
    (case c13 => k_is)
    (case k13 => k_is)
    (case a14 => k_is)
    (case l14 => k_is)
    (case c14 => k_is)
    (case k14 => k_is)
    (case a15 => k_is)
    (case l15 => k_is)
    (case c15 => k_is)
    (case k15 => k_is)
    (case a16 => k_is)
    (case l16 => k_is)
    (case c16 => k_is)
    (case k16 => k_is)
    (case a17 => k_is)
    (case l17 => k_is)
    (case c17 => k_is)
    (case k17 => k_is)
    (case a18 => k_is)
    (case l18 => k_is)
    (case c18 => k_is)
    (case k18 => k_is)
    (case a19 => k_is)
    (case l19 => k_is)
    (case c19 => k_is)
    (case k19 => k_is)
    (case a20 => k_is)
    (case l20 => k_is)
    (case c20 => k_is)
    (case k20 => k_is)
    (case a21 => k_is)
    (case l21 => k_is)
    (case c21 => k_is)
    (case k21 => k_is)
    (case a22 => k_is)
    (case l22 => k_is)
    (case c22 => k_is)
    (case k22 => k_is)
    (case a23 => k_is)
    (case l23 => k_is)
    (case c23 => k_is)
    (case k23 => k_is)
    (case a24 => k_is)
    (case l24 => k_is)
    (case c24 => k_is)
    (case k24 => k_is)
    (case a25 => k_is)
    (case l25 => k_is)
    (case c25 => k_is)
    (case k25 => k_is)
    (case aL => k_is)
    (case lL => k_is)
    (case cL => k_is)
    (case lC => k_is)
    (case hP => first | rfl | kernel_rfl | decide +kernel)
    (case nP => first | rfl | kernel_rfl | decide +kernel)
    (case z_isinstance => k_is)
    (case z_int => k_is)
    (case z_bool => k_is)
    (case z_tuple => k_is)
    (case z_list => k_is)
    (case z_str => k_is)
    (case z_len => k_is)
    (case z_all => k_is)
    (case z_zip => k_is)
    (case z_sorted => k_is)
    (case z_set => k_is)
    (case z_range => k_is)
    (case z_min => k_is)
    (case z_max => k_is)
    (case z_repr => k_is)
    (case z_KeyError => k_is)
    (case z_IndexError => k_is)
    (case z_LookupError => k_is)
    (case z_RuntimeError => k_is)
    (case z_ValueError => k_is)
    (case v_LAST_DAY => k_is)
    (case v_WEEK => k_is)
    (case v_MOST_WEEKDAYS => k_is)
    (case v_MOST_HOLIDAYS => k_is)
    (case v_LONGEST_SPAN => k_is)
    (case g4 => k_is)
    (case g5 => k_is)
    (case ty_NoDay => k_is)
    (case g1_NoDay => k_is)
    (case g2_NoDay => k_is)
    (case g3_NoDay => k_is)
    (case B_NoDay => first | rfl | kernel_rfl | decide +kernel)
    (case ty_NoSpan => k_is)
    (case g1_NoSpan => k_is)
    (case g2_NoSpan => k_is)
    (case g3_NoSpan => k_is)
    (case B_NoSpan => first | rfl | kernel_rfl | decide +kernel)
    (case ty_NoRest => k_is)
    (case g1_NoRest => k_is)
    (case g2_NoRest => k_is)
    (case g3_NoRest => k_is)
    (case B_NoRest => first | rfl | kernel_rfl | decide +kernel)
