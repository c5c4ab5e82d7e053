import PyProof.Rows.All
import Wide.All
import OpenK.AllK
import Wide.FinOn
import HandS.ForMost
import HandS.ForExc
import HandS.ExcField
import HandS.ExcInit
import HandS.DictComp
import HandS.Lambda
import HandS.IsInst
import HandS.MakeKwOnly
import HandS.EndTab
import HandS.EndOwn
import HandS.More
import PyProof.NeKinds
import HandS.ExcIs
import HandS.ExcOwn
import HandS.ExcValue
import KE.KExcStr
import KE.KExcIs
import KE.KDictOf
import PyProof.DictUpdate
import PyProof.Tail
import HandS.NoneIn
import HandS.SortInts
import HandS.SetFor
import HandS.Strs
import KE.KDictCopyH
import HandS.DictEq
import HandS.Walk
import HandS.Conv
import HandS.DictTup
import HandS.SetKeys
import HandS.TupAny
import PySem.Challenge.RW_pageclass_k01_systems_and_processes
set_option Elab.async false
set_option linter.all false
set_option maxRecDepth 100000
set_option maxHeartbeats 4000000
namespace L2
open PySem PySem.Spec PyProof.Rows
section
variable {X : Cx}
theorem pts_nev {es : List Expr} : PTs X es (fun _ _ _ => False) := ⟨fun _ _ _ _ _ _ z => z.elim⟩
end
/-- the ends of a suite whose name is in slot i: behind it the slot is empty -/
def clr (i : Nat) (D : Ends) : Ends where
  nx := fun σ' H' => D.nx (σ'.set i none) H'
  rt := D.rt
  bk := fun σ' H' => D.bk (σ'.set i none) H'
  ct := fun σ' H' => D.ct (σ'.set i none) H'
/-- a clause: its class, the slot of its name, its suite -/
abbrev Cls1 := Value × Option Nat × (Addr → Value → Option Addr → TS)
def suiteT (c : Cls1) (a : Addr) (cls : Value) (d : Option Addr) : TS := fun D σ H => match c.2.1 with
  | none => c.2.2 a cls d D σ H
  | some i => c.2.2 a cls d (clr i D) (σ.set i (some (.ref a))) H
def wCls (K : PySem.W.Frag) (Wo : WX) (D : Ends) : List Cls1 → WX
  | [] => Wo
  | c :: r => fun cls d σ H => ∃ b, PySem.W.exmOne K cls c.1 = some b ∧
      (b = true → ∀ a, H a = none → suiteT c a cls d D σ H) ∧ (b = false → wCls K Wo D r cls d σ H)
inductive ClsOk (X : Cx) : List ExceptHandler → List Cls1 → Prop
  | nil : ClsOk X [] []
  | bare {x : Str} {c : Value} {ts : Addr → Value → Option Addr → TS} {b0 : Stmt} {su : List Stmt} {p1 p2 : Pos} {hs : List ExceptHandler} {l : List Cls1}
      (hc : Names X x c)
      (hsu : ∀ (a : Addr) (oe : Obj) (cls : Value) (d : Option Addr) (pn : List (Addr × Obj)), Zc cls d oe →
        (∃ vs, oe.data = .fields vs) → PSs (X.suite a ((a, oe) :: pn)) (b0 :: su) (ts a cls d)) (r : ClsOk X hs l) :
      ClsOk X (.ExceptHandler (some (.Name x p1)) none (b0 :: su) p2 :: hs) ((c, none, ts) :: l)
  | named {x n : Str} {i : Nat} {c : Value} {ts : Addr → Value → Option Addr → TS} {b0 : Stmt} {su : List Stmt} {p1 p2 : Pos} {hs : List ExceptHandler} {l : List Cls1}
      (hc : Names X x c) (hi : X.N[i]? = some n) (hl : X.env.kindOf n = some .local)
      (hsu : ∀ (a : Addr) (oe : Obj) (cls : Value) (d : Option Addr) (pn : List (Addr × Obj)), Zc cls d oe →
        (∃ vs, oe.data = .fields vs) → PSs (X.suite a ((a, oe) :: pn)) (b0 :: su) (ts a cls d)) (r : ClsOk X hs l) :
      ClsOk X (.ExceptHandler (some (.Name x p1)) (some n) (b0 :: su) p2 :: hs) ((c, some i, ts) :: l)
section
variable {X : Cx} {body : List Stmt} {h0 : ExceptHandler} {hds : List ExceptHandler} {l : List Cls1} {pos : Pos} {tb : WX → TS} {Wo : WX}
theorem ps_try_cls (hs : X.stack = X.env :: X.outer) (hf : X.env.frame = some X.env.locals) (hN : X.N.Nodup) (tk : Takes X Wo)
    (hb : ∀ (W : WX) (pn : List (Addr × Obj)) (xe : Value → Shared → Prop), Takes (X.tr pn xe) W →
      PassesOwn (model X.prog X.w) X.A X.env xe → PSs (X.tr pn xe) body (tb W))
    (hh : ClsOk X (h0 :: hds) l) :
    PS X (.Try body (h0 :: hds) [] [] pos) (fun D σ H => tb (wCls X.K Wo D l) D σ H) := by
  refine ⟨fun pins s σ H D I h => ?_⟩
  have okX := I.ok
  have fr : X.A.frames = some (X.env :: X.outer) := by rw [okX.frames, hs]
  refine wpAny_Try_except ?_
  refine wpAny_mono ((hb (wCls X.K Wo D l) (X.pn ++ pins)
    (fun e s1 => wpAny (model X.prog X.w) X.A (noteFrame e X.env)
      (fun _ s2 => wpAny (model X.prog X.w) X.A (setFlight e none)
        (fun _ s3 => wpAny (model X.prog X.w) X.A (handleBy e X.env (h0 :: hds)) (SP X pins D) X.xe s3) X.xe s2) X.xe s1)
    (fun u s' air => ?c1) PassesOwn.looking).run [] s σ H D (I.toTry _) h) (fun f s1 hsp => ?c2) (fun _ _ z => z)
  case c1 =>
    obtain ⟨a, B, sI, pq, σ', H', cls, d, rfl, Jt, nb, up, sky, na, os, ag, w⟩ := air
    have J : Inv X pins σ' H' sI := Jt.ofTry okX
    have sk : Sky B (X.env :: X.outer) a (Zc cls d) X.env.locals s'.heap := by
      rw [← hs]
      exact sky
    show wpAny (model X.prog X.w) X.A (noteFrame (.ref a) X.env) _ _ _
    refine Sky.land Zc.steady fr hf sk fun hA flA upA => ?_
    have JA : Inv X pins σ' H' { s' with heap := hA } := J.landed nb flA.1 (up.trans upA) os ag
    obtain ⟨oA, vA, atA, zA, dA⟩ := flA.there
    have far : a ∉ frs (X.env :: X.outer) := fun hm => by
      obtain ⟨_, o', e', hnf⟩ := flA.2.2.1.mem hm
      rw [atA] at e'
      cases e'
      exact hnf _ dA
    have nL : a ≠ X.env.locals := fun z => far (List.mem_filterMap.mpr ⟨X.env, List.mem_cons_self, by rw [hf, z]⟩)
    have nF : a ∉ X.fs := fun hm => by
      obtain ⟨e, he, q⟩ := List.mem_filterMap.mp hm
      exact far (List.mem_filterMap.mpr ⟨e, List.mem_cons_of_mem _ he, q⟩)
    have SA := JA.suite atA dA na nL nF
    -- the test of a clause
    have test : ∀ {x : Str} {c : Value} {np : Pos} {Q E : Value → Shared → Prop}, Names X x c → Q c { s' with heap := hA } →
        wpAny (model X.prog X.w) (X.A.mark (some (.ref a))) (eval (.Name x np) X.env) Q E { s' with heap := hA } := fun hc q => by
      obtain ⟨hg, hdbg, hm | ⟨hm, hv, hnn⟩⟩ := hc
      · exact ld_glob (X := X.suite a ((a, oA) :: (X.pn ++ pins))) SA hg hm q hdbg
      · exact ld_blt (X := X.suite a ((a, oA) :: (X.pn ++ pins))) SA hg hm hv q hnn hdbg
    have look : PySem.W.Looks (model X.prog X.w) hA (typeOf (.ref a)) cls := fun A Q E s k q =>
      wpAny_typeOf_ref (k _ _ atA) (by rw [zA.1]; exact q)
    have go : ∀ {hs' : List ExceptHandler} {l' : List Cls1}, ClsOk X hs' l' → wCls X.K Wo D l' cls d σ' H' →
        wpAny (model X.prog X.w) X.A (handleBy (.ref a) X.env hs') (SP X pins D) X.xe { s' with heap := hA } := by
      intro hs' l' hk
      induction hk with
      | nil =>
        intro w
        refine wpAny_handleBy_nil ?_
        obtain ⟨_, _, _, oe, vs, T, oT, ts', he, hz, hd, h1, hr⟩ := id flA
        unfold PySem.passOn
        refine wpAny_bind (wpAny_field he hd h1 ?_)
        rw [if_neg (show ¬ ((Value.ref T == Value.none) = true) by simp)]
        have fin : wpAny (model X.prog X.w) X.A (setFlight (.ref a) X.env.frame)
            (fun _ s4 => wpAny (model X.prog X.w) X.A (throw (.ref a) : Sem Flow) (SP X pins D) X.xe s4) X.xe { s' with heap := hA } := by
          rw [hf]
          exact HandSPX.setFlight_upZ flA fun h4 hh4 up4 => wpAny_throw (tk _ _
            ⟨a, B, sI, pins, σ', H', cls, d, rfl, J, nb, (up.trans upA).trans up4, .inr (.inr (by rw [hs]; exact hh4)), na, os, ag, w⟩)
        first
          | exact wpAny_bind (wpAny_pure (wpAny_bind fin))
          | exact wpAny_bind fin
      | @bare x c ts b0 su p1 p2 hs2 l2 hc hsu r ih =>
        intro w
        obtain ⟨b, m, yes, no⟩ := w
        refine wpAny_handleBy_cons (codeAny_handlers_test ?_) (by intro q; cases q)
        have LM := PySem.W.exm_one (M := model X.prog X.w) JA.kIn look m
        refine test hc (LM.here ?_)
        cases b with
        | false => exact ih (no rfl)
        | true =>
          refine codeAny_handlers_suite (HandSPX.lands_againZ flA fun hB flB upB => ?_)
          have JB : Inv X pins σ' H' { s' with heap := hB } := J.landed nb flB.1 ((up.trans upA).trans upB) os ag
          obtain ⟨oB, vB, atB, zB, dB⟩ := flB.there
          have SB := JB.suite atB dB na nL nF
          refine wpAny_mono ((hsu a oB cls d (X.pn ++ pins) zB ⟨_, dB⟩).run [] _ _ H' _ SB (yes rfl a na)) (fun f s6 hsp => ?_) (fun _ _ z => z.elim)
          cases f with
          | ret u =>
            obtain ⟨v6, σ6, H6, S6, r6, q6⟩ := hsp
            exact ⟨_, _, _, S6.unsuite okX, r6, q6⟩
          | next =>
            obtain ⟨σ6, H6, S6, q6⟩ := hsp
            exact ⟨_, _, S6.unsuite okX, q6⟩
          | brk =>
            obtain ⟨σ6, H6, S6, q6⟩ := hsp
            exact ⟨_, _, S6.unsuite okX, q6⟩
          | cont =>
            obtain ⟨σ6, H6, S6, q6⟩ := hsp
            exact ⟨_, _, S6.unsuite okX, q6⟩
      | @named x n i c ts b0 su p1 p2 hs2 l2 hc hi hl hsu r ih =>
        intro w
        obtain ⟨b, m, yes, no⟩ := w
        refine wpAny_handleBy_cons (codeAny_handlers_test ?_) (by intro q; cases q)
        have LM := PySem.W.exm_one (M := model X.prog X.w) JA.kIn look m
        refine test hc (LM.here ?_)
        cases b with
        | false => exact ih (no rfl)
        | true =>
          refine codeAny_handlers_suite_as (HandSPX.lands_againZ flA fun hB flB upB => ?_)
          have JB : Inv X pins σ' H' { s' with heap := hB } := J.landed nb flB.1 ((up.trans upA).trans upB) os ag
          obtain ⟨oB, vB, atB, zB, dB⟩ := flB.there
          have SB := JB.suite atB dB na nL nF
          refine store_ok (X := X.suite a ((a, oB) :: (X.pn ++ pins))) (v := .ref a) SB hN hi (.inl hl) rfl (fun s5 S5 => ?_) (.inr hl)
          refine wpAny_mono ((hsu a oB cls d (X.pn ++ pins) zB ⟨_, dB⟩).run [] s5 _ H' _ S5 (yes rfl a na)) (fun f s6 hsp => ?_) (fun _ _ z => z.elim)
          have off : ∀ {σ6 : St} {H6 : Hp} {Q : Shared → Prop}, Inv (X.suite a ((a, oB) :: (X.pn ++ pins))) [] σ6 H6 s6 →
              (∀ s7, Inv X pins (σ6.set i none) H6 s7 → Q s7) →
              wpAny (model X.prog X.w) X.A (do bindName X.env n .none; unbindBehindTheSuite X.env n p2) (fun _ s7 => Q s7) X.xe s6 :=
            fun S6 hq => gone_ok (S6.unsuite okX) hN hi hl hq
          cases f with
          | ret u =>
            obtain ⟨v6, σ6, H6, S6, r6, q6⟩ := hsp
            exact off S6 fun s7 J7 => ⟨_, _, _, J7, r6, q6⟩
          | next =>
            obtain ⟨σ6, H6, S6, q6⟩ := hsp
            exact off S6 fun s7 J7 => ⟨_, _, J7, q6⟩
          | brk =>
            obtain ⟨σ6, H6, S6, q6⟩ := hsp
            exact off S6 fun s7 J7 => ⟨_, _, J7, q6⟩
          | cont =>
            obtain ⟨σ6, H6, S6, q6⟩ := hsp
            exact off S6 fun s7 J7 => ⟨_, _, J7, q6⟩
    exact go hh w
  case c2 =>
    cases f with
    | ret u =>
      obtain ⟨v, σ', H', J', r, q⟩ := hsp
      exact ⟨v, σ', H', J'.ofTry okX, r, q⟩
    | next =>
      obtain ⟨σ', H', J', q⟩ := hsp
      exact wpAny_execs_nil ⟨σ', H', J'.ofTry okX, q⟩
    | brk =>
      obtain ⟨σ', H', J', q⟩ := hsp
      exact ⟨σ', H', J'.ofTry okX, q⟩
    | cont =>
      obtain ⟨σ', H', J', q⟩ := hsp
      exact ⟨σ', H', J'.ofTry okX, q⟩
end
section
variable {X : Cx}
/-- a value of which == with itself is known: by value, or by the object -/
def selfEq : V → Bool
  | .ref _ => true
  | v => flatB v
theorem selfEq_at {A : Around} {s : Shared} {v : V} {u u' : Value} (r : RelV v u) (r' : RelV v u') (f : selfEq v = true) : SeqAt.EqAt A s u u' true := by
  cases v with
  | ref a =>
    cases (show u = Value.ref a from r)
    cases (show u' = Value.ref a from r')
    exact SeqAt.EqAt.same _
  | _ => exact eqAt_same r r' f
theorem selfEq_all {A : Around} {s : Shared} : ∀ {xs : List V} {us ws : List Value}, Vals xs us → Vals xs ws → xs.all selfEq = true →
    ∀ j (h1 : j < us.length) (h2 : j < ws.length), SeqAt.EqAt A s us[j] ws[j] true
  | _, _, _, .nil, .nil, _, j, h1, _ => absurd h1 (Nat.not_lt_zero j)
  | _, _, _, .cons a1 b1, .cons a2 b2, f, j, h1, h2 => by
    rw [List.all_cons, Bool.and_eq_true] at f
    cases j with
    | zero => exact selfEq_at a1 a2 f.1
    | succ j => exact selfEq_all b1 b2 f.2 j (Nat.lt_of_succ_lt_succ h1) (Nat.lt_of_succ_lt_succ h2)
def rTupS (K : PySem.W.Frag) (b : Bool) : R2 := fun x y H Q => ∃ p q xs, x = .ref p ∧ y = .ref q ∧ SqT K H p xs ∧ SqT K H q xs ∧ xs.all selfEq = true ∧ Q (.bl b) H
theorem op_neTupS (hu : X.A.units < cLine) : OpR X (compareOp .NotEq) (rTupS X.K false) := by
  intro pins s σ H x y v u Q I rx ry h
  obtain ⟨p, q, xs, rfl, rfl, h1, h2, f, z⟩ := h
  cases (show v = Value.ref p from rx)
  cases (show u = Value.ref q from ry)
  obtain ⟨us, r1, p1, _⟩ := I.tuple h1
  obtain ⟨ws, r2, p2, _⟩ := I.tuple h2
  have e := SeqAt.RcNeAt.tuples (A := X.A) (s := s) (e := fun _ => true) p1 p2 hu fun j a b => by
    have k := selfEq_all (A := X.A.in1) (s := s) r1 r2 f j (by simpa using a) (by simpa using b)
    simpa using k
  refine e X.prog X.w _ _ ?_
  have l : us.length = ws.length := r1.length.symm.trans r2.length
  have z' : (!((List.range (min us.toArray.size ws.toArray.size)).all (fun _ => true) && us.toArray.size == ws.toArray.size)) = false := by
    rw [show ((List.range (min us.toArray.size ws.toArray.size)).all fun _ => true) = true from List.all_eq_true.mpr fun _ _ => rfl]
    simp [l]
  rw [z']
  exact ⟨.bl false, H, I, rfl, z⟩
theorem op_eqTupS (hu : X.A.units < cLine) : OpR X (compareOp .Eq) (rTupS X.K true) := by
  intro pins s σ H x y v u Q I rx ry h
  obtain ⟨p, q, xs, rfl, rfl, h1, h2, f, z⟩ := h
  cases (show v = Value.ref p from rx)
  cases (show u = Value.ref q from ry)
  obtain ⟨us, r1, p1, _⟩ := I.tuple h1
  obtain ⟨ws, r2, p2, _⟩ := I.tuple h2
  have e := SeqAt.RcAt.tuples (A := X.A) (s := s) (e := fun _ => true) p1 p2 hu fun j a b => by
    have k := selfEq_all (A := X.A.in1) (s := s) r1 r2 f j (by simpa using a) (by simpa using b)
    simpa using k
  refine e X.prog X.w _ _ ?_
  have l : us.length = ws.length := r1.length.symm.trans r2.length
  have z' : ((List.range (min us.toArray.size ws.toArray.size)).all (fun _ => true) && us.toArray.size == ws.toArray.size) = true := by
    rw [show ((List.range (min us.toArray.size ws.toArray.size)).all fun _ => true) = true from List.all_eq_true.mpr fun _ _ => rfl]
    simp [l]
  rw [z']
  exact ⟨.bl true, H, I, rfl, z⟩
end
structure FunC (K : PySem.W.Frag) (x qual : Str) (st : Stmt) (f : Addr) (fd : FuncData) (co : Addr) : Prop where
  ex : ∃ (oc : Value) (od : Option Addr) (kV doc pm : Value) (an : Option Addr) (ct : Value) (osl : Array (Option Value)),
    fd = PySem.W.fnOf x qual (defArgs st) (defBody st) (defScope st) .none kV doc pm an (.ref co) ct ∧
      K.lookup f = some ⟨oc, od, .func fd, osl⟩ ∧ PySem.W.codeIn K (.ref co) qual = true
theorem FunC.ok {P : Program} {w : World} {K : PySem.W.Frag} {mg : Str → Option Value} {base : Heap} {x qual : Str} {st : Stmt} {f co : Addr} {fd : FuncData} {N ps : List Str} {k : Nat} {sp : Sp}
    (F : FunC K x qual st f fd co) (S : FnScope N ps (defScope st)) (len : ∀ vs H Q E, sp vs H Q E → vs.length = ps.length)
    (hbody : ∀ (A : Around) (outer : List Env) (s : Shared) (H : Hp) (vs : List V) (Q : VK) (E : XK),
      Room k (A.deeper (envOfC qual (defScope st) s.heap.objs.size f (.ref co))) → sp vs H Q E →
      ∃ t, PSs (cxOf CX0 P w K mg base N qual (defScope st) f (.ref co) A outer s H E).nox (defBody st) t ∧
        t { nx := fun _ H' => Q .non H', rt := Q } (L2.start N vs) H) : FnOk P w K mg base CX0 (k + 1) f fd ps sp := by
  obtain ⟨oc, od, kV, doc, pm, an, ct, osl, rfl, lk, hcd⟩ := F.ex
  refine fn_of lk hcd S len fun A outer s H vs Q E hr hsp => ?_
  obtain ⟨t, h, q⟩ := hbody A outer s H vs Q E hr hsp
  exact ⟨t, h.nox, q⟩
open LamX in
theorem Tabs.keep {T : List (Addr × Str)} {H H' : Hp} (t : Tabs T H) (h : ∀ b o, H b = some o → (∀ u, o = .ext u → H' b = some o) ∧ (∀ ps, o = .tbl ps → H' b = some o)) : Tabs T H' := fun p hp => by
  obtain ⟨ps, h1, h2, h3⟩ := t p hp
  refine ⟨ps, (h _ _ h1).2 _ rfl, h2, fun pos cv hc => ?_⟩
  obtain ⟨c, e1, e2⟩ := h3 pos cv hc
  exact ⟨c, e1, (h _ _ e2).1 _ rfl⟩
end L2
set_option Elab.async false
set_option linter.all false
set_option maxRecDepth 100000
set_option maxHeartbeats 4000000
namespace L2
open PySem PySem.Spec PyProof.Rows
end L2
set_option Elab.async false
set_option linter.all false
set_option maxRecDepth 100000
set_option maxHeartbeats 4000000
namespace L2
open PySem PySem.Spec PyProof.Rows
end L2
set_option Elab.async false
set_option linter.all false
set_option maxRecDepth 100000
set_option maxHeartbeats 4000000
namespace My
open PySem L2
theorem iteD {p : Prop} [Decidable p] {A B : Prop} (h1 : p → A) (h2 : ¬ p → B) : if decide p = true then A else B := by
  by_cases h : p
  · rw [decide_eq_true h, if_pos rfl]
    exact h1 h
  · rw [decide_eq_false h, if_neg Bool.false_ne_true]
    exact h2 h
theorem iteT {A B : Prop} (h : A) : if true = true then A else B := h
theorem iteF {A B : Prop} (h : B) : if false = true then A else B := h
theorem iteB {b : Bool} {A B : Prop} (h1 : b = true → A) (h2 : b = false → B) : if b = true then A else B := by
  cases b with
  | true => exact h1 rfl
  | false => exact h2 rfl
theorem upd_none {H : Hp} {a p : Addr} {o : HO} (h : upd H a o p = none) : p ≠ a ∧ H p = none := by
  by_cases e : p = a
  · subst e; rw [upd_same] at h; cases h
  · rw [upd_ne e] at h; exact ⟨e, h⟩
def But (a : Addr) (H H' : Hp) : Prop := ∀ b o, b ≠ a → H b = some o → H' b = some o
theorem Same.new {H : Hp} {p : Addr} {o : HO} (h : H p = none) : Same H (upd H p o) := fun b u e => by rw [upd_ne (ne_of_none e h)]; exact e
theorem But.of {a : Addr} {H H' : Hp} (h : Same H H') : But a H H' := fun b o _ e => h b o e
theorem But.up {a : Addr} {H : Hp} {o : HO} : But a H (upd H a o) := fun b u n e => by rw [upd_ne n]; exact e
theorem But.trans {a : Addr} {H H1 H2 : Hp} (x : But a H H1) (y : But a H1 H2) : But a H H2 := fun b o n e => y b o n (x b o n e)
theorem Same.free {H H' : Hp} (s : Same H H') {b : Addr} (h : H' b = none) : H b = none := by
  cases e : H b with
  | none => rfl
  | some o => rw [s b o e] at h; cases h
structure DI (kvs : List (Key × V)) (f : Int → Option V) : Prop where
  isI : ∀ kv ∈ kvs, ∃ i : Int, kv.1 = Sum.inl i
  nod : (kvs.map (·.1)).Nodup
  val : ∀ i : Int, valV kvs (Sum.inl i) = f i
theorem mem_put {kvs : List (Key × V)} {k : Key} {v : V} {q : Key × V} (h : q ∈ putK kvs k v) : q ∈ kvs ∨ q = (k, v) := by
  unfold putK at h
  split at h
  · obtain ⟨z, hz, e⟩ := List.mem_map.mp h
    split at e
    · rename_i ek
      rw [← e, ek]
      exact .inr rfl
    · rw [← e]
      exact .inl hz
  · rcases List.mem_append.mp h with z | z
    · exact .inl z
    · exact .inr (List.mem_singleton.mp z)
theorem val_mem {kvs : List (Key × V)} {k : Key} {v : V} (h : valV kvs k = some v) : (k, v) ∈ kvs := by
  unfold valV at h
  cases e : kvs.find? (fun kv => decide (kv.1 = k)) with
  | none => rw [e] at h; cases h
  | some q =>
    rw [e] at h
    have h1 := List.find?_some e
    have h2 := List.mem_of_find?_eq_some e
    have e1 : q.1 = k := by simpa using h1
    have e2 : q.2 = v := Option.some.inj h
    rw [← e1, ← e2]
    exact h2
theorem mem_val {kvs : List (Key × V)} (nd : (kvs.map (·.1)).Nodup) {k : Key} {v : V} (h : (k, v) ∈ kvs) : valV kvs k = some v := by
  induction kvs with
  | nil => cases h
  | cons q r ih =>
    rw [List.map_cons, List.nodup_cons] at nd
    rcases List.mem_cons.mp h with e | h
    · subst e
      exact valV_pos rfl
    · rw [valV_neg (fun e => nd.1 (List.mem_map.mpr ⟨(k, v), h, e.symm⟩))]
      exact ih nd.2 h
theorem val_drop (k j : Key) : ∀ kvs : List (Key × V), valV (dropK kvs k) j = if j = k then none else valV kvs j
  | [] => by
    show valV ([] : List (Key × V)) j = _
    split <;> rfl
  | q :: r => by
    have ih := val_drop k j r
    unfold dropK at ih ⊢
    rw [List.filter_cons]
    by_cases e : q.1 = k
    · rw [if_neg (by simp [e]), ih]
      by_cases z : j = k
      · rw [if_pos z, if_pos z]
      · rw [if_neg z, if_neg z, valV_neg (fun y => z (y.symm.trans e))]
    · rw [if_pos (by simp [e])]
      by_cases z : q.1 = j
      · rw [valV_pos z, if_neg (fun y => e (z.trans y)), valV_pos z]
      · rw [valV_neg z, ih]
        by_cases y : j = k
        · rw [if_pos y, if_pos y]
        · rw [if_neg y, if_neg y, valV_neg z]
theorem keys_put (kvs : List (Key × V)) (k : Key) (v : V) : (putK kvs k v).map (·.1) = if (valV kvs k).isSome = true then kvs.map (·.1) else kvs.map (·.1) ++ [k] := by
  have e := valV_any k kvs
  unfold putK
  rw [← e]
  split
  · rw [List.map_map]
    refine List.map_congr_left fun q _ => ?_
    show (if q.1 = k then (q.1, v) else q).1 = q.1
    split <;> rfl
  · rw [List.map_append]
    rfl
section
variable {kvs : List (Key × V)} {f : Int → Option V}
theorem DI.nil : DI [] (fun _ => none) := ⟨fun _ h => (nomatch h), List.nodup_nil, fun _ => rfl⟩
theorem DI.put (h : DI kvs f) (i : Int) (v : V) : DI (putK kvs (Sum.inl i) v) (fun j => if j = i then some v else f j) := by
  refine ⟨fun kv hkv => ?_, ?_, fun j => ?_⟩
  · rcases mem_put hkv with z | z
    · exact h.isI kv z
    · rw [z]; exact ⟨i, rfl⟩
  · rw [keys_put]
    split
    · exact h.nod
    · rename_i hn
      refine List.nodup_append.mpr ⟨h.nod, by simp, fun a ha b hb => ?_⟩
      rw [List.mem_singleton.mp hb]
      intro e
      obtain ⟨q, hq, eq⟩ := List.mem_map.mp ha
      refine hn ?_
      have : valV kvs (Sum.inl i) = some q.2 := mem_val h.nod (by rw [← e, ← eq]; exact hq)
      rw [this]
      rfl
  · rw [valV_put]
    by_cases e : j = i
    · rw [if_pos (by rw [e]), if_pos e]
    · rw [if_neg (fun z => e (Sum.inl.inj z)), if_neg e]
      exact h.val j
theorem DI.drop (h : DI kvs f) (i : Int) : DI (dropK kvs (Sum.inl i)) (fun j => if j = i then none else f j) := by
  refine ⟨fun kv hkv => h.isI kv (List.mem_filter.mp hkv).1, ?_, fun j => ?_⟩
  · exact h.nod.sublist (List.Sublist.map _ List.filter_sublist)
  · rw [val_drop]
    by_cases e : j = i
    · rw [if_pos (by rw [e]), if_pos e]
    · rw [if_neg (fun z => e (Sum.inl.inj z)), if_neg e]
      exact h.val j
theorem DI.cong {g : Int → Option V} (h : DI kvs f) (e : ∀ i, f i = g i) : DI kvs g := ⟨h.isI, h.nod, fun i => (h.val i).trans (e i)⟩
theorem DI.mem (h : DI kvs f) {i : Int} {v : V} (hm : ((Sum.inl i : Key), v) ∈ kvs) : f i = some v := by rw [← h.val]; exact mem_val h.nod hm
theorem DI.of_mem (h : DI kvs f) {q : Key × V} (hm : q ∈ kvs) : ∃ i : Int, q.1 = Sum.inl i ∧ f i = some q.2 := by
  obtain ⟨i, e⟩ := h.isI q hm
  exact ⟨i, e, h.mem (by rw [← e]; exact hm)⟩
/-- its keys as ints -/
def intsOf (kvs : List (Key × V)) : List Int := kvs.map fun q => match q.1 with
  | .inl i => i
  | .inr _ => 0
theorem DI.keys (h : DI kvs f) : kvs.map (·.1) = (intsOf kvs).map Sum.inl := by
  unfold intsOf
  rw [List.map_map]
  refine List.map_congr_left fun q hq => ?_
  obtain ⟨i, e⟩ := h.isI q hq
  show q.1 = Sum.inl (match q.1 with | .inl i => i | .inr _ => 0)
  rw [e]
theorem DI.nodI (h : DI kvs f) : (intsOf kvs).Nodup := by
  have := h.nod
  rw [h.keys] at this
  exact List.Pairwise.imp (fun hne e => hne (by rw [e])) (List.pairwise_map.mp this)
theorem DI.memI (h : DI kvs f) (i : Int) : i ∈ intsOf kvs ↔ (f i).isSome = true := by
  constructor
  · intro hi
    obtain ⟨q, hq, e⟩ := List.mem_map.mp hi
    obtain ⟨j, e1, e2⟩ := h.of_mem hq
    rw [e1] at e
    simp only at e
    subst e
    rw [e2]
    rfl
  · intro hi
    obtain ⟨v, ev⟩ := Option.isSome_iff_exists.mp hi
    have hm := val_mem ((h.val i).trans ev)
    exact List.mem_map.mpr ⟨_, hm, rfl⟩
theorem intsOf_length : (intsOf kvs).length = kvs.length := by unfold intsOf; rw [List.length_map]
end
theorem le_lt {ys : List Int} (h : ys.Pairwise (· ≤ ·)) (nd : ys.Nodup) : ys.Pairwise (· < ·) := by
  have h2 : ys.Pairwise (fun a b => a ≤ b ∧ a ≠ b) := h.and nd
  exact h2.imp fun {a b} z => by omega
theorem nod_len : ∀ (n : Nat) (ys : List Int), ys.Nodup → (∀ y ∈ ys, 0 ≤ y ∧ y < n) → ys.length ≤ n
  | 0, [], _, _ => Nat.le_refl _
  | 0, y :: ys, _, h => by
    have := h y List.mem_cons_self
    omega
  | n + 1, ys, nd, h => by
    by_cases hm : (n : Int) ∈ ys
    · have ih := nod_len n (ys.erase (n : Int)) (nd.erase _) fun y hy => by
        have a := (nd.mem_erase_iff).mp hy
        have b := h y a.2
        have := a.1
        omega
      rw [List.length_erase_of_mem hm] at ih
      omega
    · have ih := nod_len n ys nd fun y hy => by
        have b := h y hy
        have : y ≠ n := fun e => hm (e ▸ hy)
        omega
      omega
theorem fm_congr {α β : Type} {f g : α → Option β} : ∀ {l : List α}, (∀ x ∈ l, f x = g x) → l.filterMap f = l.filterMap g
  | [], _ => rfl
  | x :: r, h => by
    rw [List.filterMap_cons, List.filterMap_cons, h x List.mem_cons_self, fm_congr fun y hy => h y (List.mem_cons_of_mem _ hy)]
theorem DI.len {kvs : List (Key × V)} {f : Int → Option V} (h : DI kvs f) {n : Nat} (hd : ∀ i, (f i).isSome = true → 0 ≤ i ∧ i < n) : kvs.length ≤ n := by
  have := nod_len n (intsOf kvs) h.nodI fun i hi => hd i ((h.memI i).mp hi)
  rw [intsOf_length] at this
  exact this
def sumN (n : Nat) (g : Int → Nat) : Nat := ((List.range n).map fun (j : Nat) => g (j : Int)).sum
theorem sumN_succ (n : Nat) (g : Int → Nat) : sumN (n + 1) g = sumN n g + g n := by
  unfold sumN
  rw [List.range_succ, List.map_append, List.sum_append]
  simp
theorem sumN_cong {n : Nat} {g h : Int → Nat} (e : ∀ j : Int, 0 ≤ j → j < n → g j = h j) : sumN n g = sumN n h := by
  induction n with
  | zero => rfl
  | succ n ih =>
    rw [sumN_succ, sumN_succ, ih (fun j a b => e j a (by omega)), e n (by omega) (by omega)]
theorem sumN_upd {n : Nat} {g h : Int → Nat} {i : Int} (h0 : 0 ≤ i) (h1 : i < n) (e : ∀ j : Int, j ≠ i → g j = h j) : sumN n h + g i = sumN n g + h i := by
  induction n with
  | zero => omega
  | succ n ih =>
    rw [sumN_succ, sumN_succ]
    by_cases z : i = n
    · rw [sumN_cong (g := g) (h := h) fun j a b => e j (by omega), z]
      omega
    · have := ih (by omega)
      rw [e n (Ne.symm z)]
      omega
theorem sumN_zero {n : Nat} {g : Int → Nat} : sumN n g = 0 ↔ ∀ j : Int, 0 ≤ j → j < n → g j = 0 := by
  induction n with
  | zero => exact ⟨fun _ j a b => by omega, fun _ => rfl⟩
  | succ n ih =>
    rw [sumN_succ]
    constructor
    · intro h j a b
      by_cases z : j = n
      · rw [z]; omega
      · exact ih.mp (by omega) j a (by omega)
    · intro h
      have a := ih.mpr fun j a b => h j a (by omega)
      have b := h n (by omega) (by omega)
      omega
theorem sumN_pos {n : Nat} {g : Int → Nat} : 0 < sumN n g ↔ ∃ j : Int, 0 ≤ j ∧ j < n ∧ 0 < g j := by
  constructor
  · intro h
    by_cases z : ∃ j : Int, 0 ≤ j ∧ j < n ∧ 0 < g j
    · exact z
    · have : sumN n g = 0 := sumN_zero.mpr fun j a b => by
        by_cases w : g j = 0
        · exact w
        · exact absurd ⟨j, a, b, by omega⟩ z
      omega
  · rintro ⟨j, a, b, c⟩
    by_cases z : sumN n g = 0
    · have := sumN_zero.mp z j a b
      omega
    · omega
inductive Src where
  | non | file (n : Str) | obj (k : Int)
  deriving DecidableEq
/-- merge, stay, wipe -/
structure Fl where
  m : Bool
  s : Bool
  w : Bool
  deriving DecidableEq
def flL (f : Fl) : List Str := (if f.m = true then ([("merge" : Str)] : List Str) else []) ++ ((if f.s = true then ([("stay" : Str)] : List Str) else []) ++ (if f.w = true then ([("wipe" : Str)] : List Str) else []))
structure Pg where
  r : Str
  sh : Bool
  src : Src
  ix : Option Int
  fl : Fl
  deriving DecidableEq
def isObj : Src → Bool
  | .obj _ => true
  | _ => false
structure WfP (g : Pg) : Prop where
  sh : g.sh = true → g.src ≠ .non
  ob : ∀ k, g.src = .obj k → g.sh = true
  ix : g.src ≠ .non → ∃ i, g.ix = some i ∧ 0 ≤ i ∧ i < 512
  no : g.src = .non → g.ix = none
  okR : PyData.strOk g.r = true
  okN : ∀ n, g.src = .file n → PyData.strOk n = true
abbrev Tb := Int → Option Pg
def srcR (H : Hp) (v : V) : Src → Prop
  | .non => v = .non
  | .file n => ∃ a, v = .ref a ∧ H a = some (.tup [.str "file", .str n])
  | .obj k => ∃ a, v = .ref a ∧ H a = some (.tup [.str "object", .int k])
def ixV : Option Int → V
  | none => .non
  | some i => .int i
def pageF (r s so i f h st : V) : List (Str × V) := [("rights", r), ("shared", s), ("source", so), ("index", i), ("flags", f), ("held", h), ("stamp", st)]
def PgR (CP : Addr) (H : Hp) (p : Addr) (g : Pg) : Prop := ∃ (dx : Addr × Int) (sv : V) (fa : Addr), H p = some (.ins CP dx.1 (pageF (.str g.r) (.bl g.sh) sv (ixV g.ix) (.ref fa) .non (.int dx.2))) ∧ srcR H sv g.src ∧ H fa = some (.tup ((flL g.fl).map V.str))
/-- whether a page shows the page i of the object k -/
def showsO (k i : Int) (g : Pg) : Bool := g.sh && decide (g.src = .obj k) && decide (g.ix = some i)
def cntO (k i : Int) : Option Pg → Nat
  | some g => if showsO k i g = true then 1 else 0
  | none => 0
@[irreducible] def cntT (P : Tb) (k i : Int) : Nat := sumN 512 fun n => cntO k i (P n)
def occ (L : List Pg) (k i : Int) : Nat := (L.map fun g => cntO k i (some g)).sum
theorem occ_cons (g : Pg) (L : List Pg) (k i : Int) : occ (g :: L) k i = cntO k i (some g) + occ L k i := by
  unfold occ
  rw [List.map_cons, List.sum_cons]
theorem occ_append (L M : List Pg) (k i : Int) : occ (L ++ M) k i = occ L k i + occ M k i := by
  unfold occ
  rw [List.map_append, List.sum_append]
def setT (P : Tb) (n : Int) (x : Option Pg) : Tb := fun j => if j = n then x else P j
theorem cntT_none (k i : Int) : cntT (fun _ => none) k i = 0 := by
  unfold cntT
  exact sumN_zero.mpr fun j _ _ => rfl
theorem cntT_set {P : Tb} {n : Int} {x : Option Pg} (h0 : 0 ≤ n) (h1 : n < 512) (k i : Int) : cntT (setT P n x) k i + cntO k i (P n) = cntT P k i + cntO k i x := by
  have := sumN_upd (n := 512) (g := fun j => cntO k i (P j)) (h := fun j => cntO k i (setT P n x j)) (i := n) h0 (by omega) (fun j hj => by simp only [setT, if_neg hj])
  simp only [setT, if_pos] at this
  unfold cntT
  exact this
/-- changes, one after the other -/
def appT (P : Tb) (ch : List (Int × Option Pg)) : Tb := ch.foldl (fun Q q => setT Q q.1 q.2) P
theorem appT_cons (P : Tb) (q : Int × Option Pg) (ch : List (Int × Option Pg)) : appT P (q :: ch) = appT (setT P q.1 q.2) ch := rfl
theorem appT_cnt : ∀ (ch : List (Int × Option Pg)) (P : Tb), (ch.map (·.1)).Nodup → (∀ q ∈ ch, 0 ≤ q.1 ∧ q.1 < 512) → ∀ k i, cntT (appT P ch) k i + occ (ch.filterMap fun q => P q.1) k i = cntT P k i + occ (ch.filterMap (·.2)) k i
  | [], P, _, _, k, i => rfl
  | q :: r, P, nd, hb, k, i => by
    rw [List.map_cons, List.nodup_cons] at nd
    have ih := appT_cnt r (setT P q.1 q.2) nd.2 (fun z hz => hb z (List.mem_cons_of_mem _ hz)) k i
    have e : r.filterMap (fun z => setT P q.1 q.2 z.1) = r.filterMap fun z => P z.1 := fm_congr fun z hz => by
      show (if z.1 = q.1 then q.2 else P z.1) = P z.1
      rw [if_neg fun e => nd.1 (List.mem_map.mpr ⟨z, hz, e⟩)]
    rw [e] at ih
    have c := cntT_set (P := P) (x := q.2) (hb q List.mem_cons_self).1 (hb q List.mem_cons_self).2 k i
    rw [appT_cons]
    have o1 : occ ((q :: r).filterMap fun z => P z.1) k i = cntO k i (P q.1) + occ (r.filterMap fun z => P z.1) k i := by
      rw [List.filterMap_cons]
      cases hq : P q.1 with
      | none => simp [cntO]
      | some g => simp only [occ_cons]
    have o2 : occ ((q :: r).filterMap (·.2)) k i = cntO k i q.2 + occ (r.filterMap (·.2)) k i := by
      rw [List.filterMap_cons]
      cases hq : q.2 with
      | none => simp [cntO]
      | some g => simp only [occ_cons]
    omega
theorem occ_old : ∀ (ch : List (Int × Option Pg)) (P : Tb), (ch.map (·.1)).Nodup → (∀ q ∈ ch, 0 ≤ q.1 ∧ q.1 < 512) → ∀ k i, occ (ch.filterMap fun q => P q.1) k i ≤ cntT P k i := fun ch P nd hb k i => by
  have h := appT_cnt (ch.map fun q => (q.1, none)) P (by rw [List.map_map]; exact nd) (fun q hq => by
    obtain ⟨z, hz, rfl⟩ := List.mem_map.mp hq
    exact hb z hz) k i
  have e1 : (ch.map fun q => (q.1, (none : Option Pg))).filterMap (fun q => P q.1) = ch.filterMap fun q => P q.1 := by
    rw [List.filterMap_map]
    rfl
  have e2 : (ch.map fun q => (q.1, (none : Option Pg))).filterMap (·.2) = [] := by
    rw [List.filterMap_map]
    exact List.filterMap_eq_nil_iff.mpr fun _ _ => rfl
  rw [e1, e2] at h
  have : occ [] k i = 0 := rfl
  omega
theorem appT_out {ch : List (Int × Option Pg)} {P : Tb} {n : Int} (h : ∀ q ∈ ch, q.1 ≠ n) : appT P ch n = P n := by
  induction ch generalizing P with
  | nil => rfl
  | cons q r ih =>
    rw [appT_cons, ih fun z hz => h z (List.mem_cons_of_mem _ hz)]
    show (if n = q.1 then q.2 else P n) = P n
    rw [if_neg fun e => h q List.mem_cons_self e.symm]
theorem appT_in {ch : List (Int × Option Pg)} {P : Tb} (nd : (ch.map (·.1)).Nodup) {n : Int} {x : Option Pg} (h : (n, x) ∈ ch) : appT P ch n = x := by
  induction ch generalizing P with
  | nil => cases h
  | cons q r ih =>
    rw [List.map_cons, List.nodup_cons] at nd
    rw [appT_cons]
    rcases List.mem_cons.mp h with e | h
    · subst e
      rw [appT_out fun z hz e => nd.1 (List.mem_map.mpr ⟨z, hz, e⟩)]
      show (if n = n then x else P n) = x
      rw [if_pos rfl]
    · exact ih nd.2 h
end My
set_option Elab.async false
set_option linter.all false
set_option maxRecDepth 100000
set_option maxHeartbeats 4000000
namespace L2
open PySem PySem.Spec PyProof.Rows
section
variable {X : Cx}
def rSortedDL : List V → Hp → VK → Prop := fun xs H Q => ∃ (a : Addr) (kvs : List (Key × V)) (ks : List Int), xs = [.ref a] ∧ Rd H a (.dK kvs) ∧ kvs.map (·.1) = ks.map Sum.inl ∧
  ∀ (ys : List Int) (p : Addr), ys.Perm ks → ys.Pairwise (· ≤ ·) → H p = none → Q (.ref p) (upd H p (.lst (ys.map V.int)))
theorem call_sortedDL (hcalm : X.calm = true) : CallR X (.builtin "sorted") rSortedDL := by
  intro pins s σ H xs us Q I r q
  obtain ⟨a, kvs, ks, ex, hd, hks, q⟩ := q
  subst ex
  obtain ⟨u, eu, rx⟩ := vals1 r
  subst eu
  cases rx
  obtain ⟨z, lo, vs, rel, dd⟩ := dk_rd I.hok hd
  obtain ⟨ep, hat⟩ := dd.dictAt
  have hkeys : vs.map (·.1) = ks.map Sum.inl := rel.keys.symm.trans hks
  have hl : vs.length = ks.length := by
    have e := congrArg List.length hkeys
    rw [List.length_map, List.length_map] at e
    exact e
  have h16 : vs.length ≤ sizeLine := by rw [← rel.length]; exact z
  refine Calls.call_function_entry PyProof.Rows.kind_sorted PyProof.Rows.plain_sorted PyProof.Rows.entry_sorted (PyProof.Rows.args_sorted1 _) ?_
  unfold Builtin.«sorted»
  refine wpAny_bind (m := checkCount "sorted" 1 1 _) (wpAny_pure ?_)
  refine wpAny_bind (PySem.W.kdu_collect (A := X.A.in1) (PySem.W.kdl_dict (knd := mixKind X.prog X.w) (kvs := vs) (ep := ep) lo) (I.ok.hd hcalm) hat h16 fun h' tk acc hk hacc => ?_)
  have hal : acc.toList.length = ks.length := by rw [Array.length_toList, hacc.1, hl]
  have hS : IntsAre acc.toList ks := ints_each hal fun j v e => by
    obtain ⟨k, x, e1, e2⟩ := hacc.2 j v (by rw [← Array.getElem?_toList]; exact e)
    have e3 : (vs.map (·.1))[j]? = some k := by rw [List.getElem?_map, e1]; rfl
    rw [hkeys, List.getElem?_map] at e3
    cases e4 : ks[j]? with
    | none => rw [e4] at e3; cases e3
    | some y =>
      rw [e4] at e3
      have e5 : Sum.inl y = k := Option.some.inj e3
      subst e5
      rcases keyIs_shape (show keyIs (Sum.inl y) v = true from e2) with ⟨i, t, ek, ev⟩ | ⟨z, t, ek, ev⟩
      · cases ek
        exact ⟨y, t, rfl, ev⟩
      · cases ek
  have I1 : Inv X pins σ H { s with heap := h', toks := tk } := I.kept hk
  have hz : acc.toList.length ≤ sizeLine := by rw [hal, ← hl]; exact h16
  refine wpAny_bind (wpAny_newList ?_ hz)
  have hoL : (h'.push (seqObj "list" acc.toList.toArray 0)).get? h'.objs.size = some (seqObj "list" acc.toList.toArray 0) := Heap.get?_push_size _ rfl
  show wpAny _ _ _ _ _ { s with heap := h'.push (seqObj "list" acc.toList.toArray 0), toks := tk }
  refine wpAny_bind (wpAny_holding (wpAny_call_entry PyProof.Rows.slot_list_sort ⟨_, hoL, rfl⟩ PyProof.Rows.entry_list_sort
    (SrtO.list_sort_ord (s := { s with heap := h'.push (seqObj "list" acc.toList.toArray 0), toks := tk }) SrtO.swo_int hoL hz (fun h2 => SrtO.ints_sortable hS h2) fun out g1 g2 => ⟨_, rfl, ?_⟩) (PyProof.Rows.args_list_sort _)))
  obtain ⟨k1, k2, k3⟩ := SrtO.ints_out hS g1 g2
  obtain ⟨e', he'⟩ := PyProof.Rows.sortedHeap_at (vs := acc.toList) (out := out.toArray) hoL
  have hlen : ((out.map SrtO.iv).map V.int).length ≤ sizeLine := by
    rw [List.length_map, k2.length_eq, ← hl]
    exact h16
  refine wpAny_pure ⟨_, rfl, .ref h'.objs.size, upd H h'.objs.size (.lst ((out.map SrtO.iv).map V.int)), I1.laid (t' := tk) (fun b u e => ?_) (Nat.le_refl _)
    (show ObjOk X.prog X.w _ _ _ (.lst ((out.map SrtO.iv).map V.int)) from ⟨hlen, out, e', vals_of_ints k1, he'⟩), rfl, q _ _ k2 k3 (I1.hok.fresh (Nat.le_refl _))⟩
  have hb : b < h'.objs.size := Heap.lt_size e
  rw [PyProof.Rows.sortedHeap_old (Nat.ne_of_lt hb) (by rw [size_push']; exact Nat.lt_succ_of_lt hb)]
  exact Heap.get?_push_of_some _ e
end
end L2
set_option Elab.async false
set_option linter.all false
set_option maxRecDepth 100000
set_option maxHeartbeats 4000000
namespace L2
open PySem PySem.Spec PyProof.Rows
end L2
set_option Elab.async false
set_option linter.all false
set_option maxRecDepth 100000
set_option maxHeartbeats 4000000
namespace L2
open PySem PySem.Spec PyProof.Rows
end L2
set_option Elab.async false
set_option linter.all false
set_option maxRecDepth 100000
set_option maxHeartbeats 4000000
namespace My
open PySem L2
theorem hu64 {A : Around} {k : Nat} (hr : Room k A) : A.units + 64 < cLine := by have := hr.un; omega
theorem hu0 {A : Around} {k : Nat} (hr : Room k A) : A.units < cLine := by have := hr.un; omega
def WellAt (H : Hp) (a : Addr) (B : Nat) : Prop := ∃ w0 w1 w2 : Int, H a = some (.lst [.int w0, .int w1, .int w2]) ∧ 0 ≤ w0 ∧ 0 ≤ w1 ∧ w1 < 2147483647 ∧ 0 ≤ w2 ∧ w2 ≤ B ∧ B ≤ 1000000000
theorem WellAt.same {H H' : Hp} {a : Addr} {B : Nat} (h : WellAt H a B) (e : H' a = H a) : WellAt H' a B := by
  obtain ⟨w0, w1, w2, h1, h2⟩ := h
  exact ⟨w0, w1, w2, e.trans h1, h2⟩
theorem WellAt.lst {H : Hp} {a : Addr} {B : Nat} (h : WellAt H a B) : ∃ xs, H a = some (.lst xs) := by
  obtain ⟨w0, w1, w2, h1, _⟩ := h
  exact ⟨_, h1⟩
theorem WellAt.mono {H : Hp} {a : Addr} {B B' : Nat} (h : WellAt H a B) (e : B ≤ B') (e2 : B' ≤ 1000000000) : WellAt H a B' := by
  obtain ⟨w0, w1, w2, h1, h2, h3, h4, h5, h6, h7⟩ := h
  exact ⟨w0, w1, w2, h1, h2, h3, h4, h5, by omega, e2⟩
theorem at7 {i : Int} (h0 : 0 ≤ i) (h1 : i < 7) : ∃ v : Int, atI [V.int 2147483647, V.int 2147483629, V.int 2147483587, V.int 2147483579, V.int 2147483563, V.int 2147483549, V.int 2147483543] i = some (V.int v) ∧ 2147483543 ≤ v ∧ v ≤ 2147483647 := by
  have h : i = 0 ∨ i = 1 ∨ i = 2 ∨ i = 3 ∨ i = 4 ∨ i = 5 ∨ i = 6 := by omega
  rcases h with h | h | h | h | h | h | h <;> subst h <;> exact ⟨_, rfl, by decide, by decide⟩
theorem fm {x m : Int} (h : 0 < m) : 0 ≤ x.fmod m ∧ x.fmod m < m := ⟨Int.fmod_nonneg_of_pos x h, Int.fmod_lt_of_pos x h⟩
theorem fdv {x m : Int} (h : 0 < m) (hx : 0 ≤ x) : 0 ≤ x.fdiv m ∧ x.fdiv m ≤ x := by
  rw [Int.fdiv_eq_ediv_of_nonneg _ (by omega)]
  exact ⟨Int.ediv_nonneg hx (by omega), Int.ediv_le_self _ hx⟩
theorem atI_in {xs : List V} {d : Int} (h0 : 0 ≤ d) (h1 : d < xs.length) : ∃ v, atI xs d = some v ∧ v ∈ xs := by
  refine ⟨xs[d.toNat]'(by omega), ?_, List.getElem_mem _⟩
  unfold atI ixN
  rw [if_pos h0, if_pos (by omega)]
  simp
inductive AnyV (H : Hp) : V → Prop where
  | non : AnyV H .non
  | bl (b : Bool) : AnyV H (.bl b)
  | int (i : Int) : AnyV H (.int i)
  | str (x : Str) : AnyV H (.str x)
  | lst {a : Addr} {xs : List V} (e : H a = some (.lst xs)) : AnyV H (.ref a)
  | tup {a : Addr} {xs : List V} (e : H a = some (.tup xs)) : AnyV H (.ref a)
  | dK {a : Addr} {kvs : List (Key × V)} (e : H a = some (.dK kvs)) : AnyV H (.ref a)
def isI : V → Bool
  | .int _ => true
  | .bl _ => true
  | _ => false
def isB : V → Bool
  | .bl _ => true
  | _ => false
def isS : V → Bool
  | .str _ => true
  | _ => false
def isTup (H : Hp) : V → Bool
  | .ref a => match H a with
    | some (.tup _) => true
    | _ => false
  | _ => false
theorem AnyV.ty {K : PySem.W.Frag} {H : Hp} {v : V} (h : AnyV H v) : ∃ t : String, TyX K H v (.type t) ∧ PySem.W.kitOne K (.type t) (.type "int") = some (isI v) ∧ PySem.W.kitOne K (.type t) (.type "bool") = some (isB v) ∧
    PySem.W.kitOne K (.type t) (.type "str") = some (isS v) ∧ PySem.W.kitOne K (.type t) (.type "tuple") = some (isTup H v) := by
  cases h with
  | non => exact ⟨_, .base .non, kit_ty (r := false) (by decide +kernel), kit_ty (r := false) (by decide +kernel), kit_ty (r := false) (by decide +kernel), kit_ty (r := false) (by decide +kernel)⟩
  | bl b => exact ⟨_, .base (.bl b), kit_ty (r := true) (by decide +kernel), kit_ty (r := true) (by decide +kernel), kit_ty (r := false) (by decide +kernel), kit_ty (r := false) (by decide +kernel)⟩
  | int i => exact ⟨_, .base (.int i), kit_ty (r := true) (by decide +kernel), kit_ty (r := false) (by decide +kernel), kit_ty (r := false) (by decide +kernel), kit_ty (r := false) (by decide +kernel)⟩
  | str x => exact ⟨_, .base (.str x), kit_ty (r := false) (by decide +kernel), kit_ty (r := false) (by decide +kernel), kit_ty (r := true) (by decide +kernel), kit_ty (r := false) (by decide +kernel)⟩
  | @lst a xs e =>
    have z : isTup H (.ref a) = false := by simp only [isTup, e]
    rw [z]
    exact ⟨_, .base (.lst e), kit_ty (r := false) (by decide +kernel), kit_ty (r := false) (by decide +kernel), kit_ty (r := false) (by decide +kernel), kit_ty (r := false) (by decide +kernel)⟩
  | @tup a xs e =>
    have z : isTup H (.ref a) = true := by simp only [isTup, e]
    rw [z]
    exact ⟨_, .base (.tup e), kit_ty (r := false) (by decide +kernel), kit_ty (r := false) (by decide +kernel), kit_ty (r := false) (by decide +kernel), kit_ty (r := true) (by decide +kernel)⟩
  | @dK a kvs e =>
    have z : isTup H (.ref a) = false := by simp only [isTup, e]
    rw [z]
    exact ⟨_, .base (.dK e), kit_ty (r := false) (by decide +kernel), kit_ty (r := false) (by decide +kernel), kit_ty (r := false) (by decide +kernel), kit_ty (r := false) (by decide +kernel)⟩
theorem AnyV.keep {H H' : Hp} {v : V} (h : AnyV H v) (e : ∀ a o, v = .ref a → H a = some o → H' a = some o) : AnyV H' v := by
  cases h with
  | non => exact .non
  | bl b => exact .bl b
  | int i => exact .int i
  | str x => exact .str x
  | lst z => exact .lst (e _ _ rfl z)
  | tup z => exact .tup (e _ _ rfl z)
  | dK z => exact .dK (e _ _ rfl z)
theorem AnyV.same {H H' : Hp} {v : V} (h : AnyV H v) (e : Same H H') : AnyV H' v := h.keep fun a o _ z => e a o z
theorem AnyV.selfEq {H : Hp} {v : V} (h : AnyV H v) : L2.selfEq v = true := by cases h <;> rfl
/-- whether a value is an integer from lo to hi -/
def inR (lo hi : Int) : V → Bool
  | .int i => decide (lo ≤ i ∧ i ≤ hi)
  | _ => false
theorem inR_int {lo hi : Int} {v : V} (h : inR lo hi v = true) : ∃ i, v = .int i ∧ lo ≤ i ∧ i ≤ hi := by
  cases v <;> first | exact ⟨_, rfl, of_decide_eq_true h⟩ | cases h
theorem inR_of {lo hi i : Int} (h0 : lo ≤ i) (h1 : i ≤ hi) : inR lo hi (.int i) = true := decide_eq_true ⟨h0, h1⟩
/-- what an error of the class C with the field f and the value v leaves -/
def Rz (C : Addr) (f : Str) (v : V) (H : Hp) (E : XK) : Prop := ∀ d H', Same H H' → H d = none → H' d = some (.xd [(f, v)]) → E (.ref C) (some d) H'
theorem Rz.same {C : Addr} {f : Str} {v : V} {H H1 : Hp} {E : XK} (h : Rz C f v H E) (s : Same H H1) : Rz C f v H1 E := fun d H' s' hd e => h d H' (s.trans s') (Same.free s hd) e
def spXi (K : PySem.W.Frag) (f : Str) : Sp := fun vs H Q _ => ∃ (a C : Addr) (y : V), vs = [.ref a, y] ∧ OexC K C ∧ PySem.W.findIn K (.ref C) f = some none ∧ H a = some (exo a C none) ∧
  ∀ dx, H dx = none → dx ≠ a → Q .non (upd (upd H dx (exd dx [(f, y)])) a (exo a C (some dx)))
theorem xi_done {K : PySem.W.Frag} {f : Str} {y : V} {a C : Addr} {H : Hp} {E : XK} (hC : OexC K C) (hn : PySem.W.findIn K (.ref C) f = some none) (ha : H a = none) (k : Rz C f y H E) :
    spXi K f [.ref a, y] (upd H a (exo a C none)) (fun v H2 => v = .non ∧ ∃ (d : Addr) (fs : List (Str × V)), H2 a = some (exo a C (some d)) ∧ H2 d = some (exd d fs) ∧ H d = none ∧ E (.ref C) (some d) (upd (del H2 a) d (.xd fs))) (fun _ _ _ => False) := by
  refine ⟨a, C, y, rfl, hC, hn, upd_same, fun dx hx ne => ⟨rfl, dx, [(f, y)], upd_same, ?_, (upd_none hx).2, ?_⟩⟩
  · rw [upd_ne ne, upd_same]
  · refine k dx _ (fun b o e => ?_) (upd_none hx).2 upd_same
    rw [upd_ne (ne_of_none e (upd_none hx).2), del_ne (ne_of_none e ha), upd_ne (ne_of_none e ha), upd_ne (ne_of_none e (upd_none hx).2), upd_ne (ne_of_none e ha)]
    exact e
theorem exm_is {K : PySem.W.Frag} {T S : Addr} {b : Bool} (h1 : PySem.W.subIn K (.ref S) (.type "BaseException") = some true) (h2 : PySem.W.isClsIn K S = true) (h3 : PySem.W.typeIn K (.ref S) = some (.type "type")) (h4 : PySem.W.subIn K (.ref T) (.ref S) = some b) : PySem.W.exmOne K (.ref T) (.ref S) = some b := by
  have h2' : (PySem.W.clsIn K S).isSome = true := h2
  unfold PySem.W.exmOne PySem.W.kitCls
  rw [h1]
  simp only [h2', h3, h4, beq_self_eq_true, Bool.and_self, if_true]
inductive Tag where
  | sys | tabs | objs | opgs | files | tab (i : Int) | usr (k : Int) | his | row | lks
  deriving DecidableEq
abbrev Tm := Addr → Option Tag
structure Sys where
  n : Int
  p : Int
  o : Int
  tabs : Int → Option Tb
  fls : Str → Bool
structure Wh where
  dx : Addr
  t : Addr
  ob : Addr
  og : Addr
  fi : Addr
  cl : Addr
  me : Addr
  sw : Addr
  hi : Addr
  ro : Addr
def sysF (n p o : Int) (w : Wh) : List (Str × V) :=
  [("frames", .non), ("slots", .non), ("strict", .bl false), ("steps_made", .int n), ("processes_made", .int p), ("objects_made", .int o), ("tables", .ref w.t), ("objects", .ref w.ob), ("object_pages", .ref w.og), ("files", .ref w.fi), ("classes", .ref w.cl), ("locked_pages", .int 0), ("memory", .ref w.me), ("swapped", .ref w.sw), ("faults", .int 0), ("swap_outs", .int 0), ("write_backs", .int 0), ("history", .ref w.hi)]
/-- the fields of the history -/
def hisF (ro lk : Addr) (y : Nat → V) : List (Str × V) :=
  [("row", .ref ro), ("holes", y 0), ("locked", .ref lk), ("classes", y 1), ("touches", y 2), ("distances", y 3), ("swap_outs", y 4), ("write_backs", y 5), ("most_slots", y 6), ("saves", y 7), ("lock_changes", y 8), ("most_locked", y 9), ("crashed", y 10), ("merged", y 11)]
/-- pages and tuples are never changed -/
def isImm : HO → Bool
  | .tup _ => true
  | .ins _ _ fs => fs.length == 7
  | _ => false
def isBox : HO → Bool
  | .dK _ => true
  | .dT _ => true
  | .lst _ => true
  | .ins _ _ fs => fs.length == 14
  | _ => false
def ImmK (H H' : Hp) : Prop := ∀ b o, H b = some o → isImm o = true → H' b = some o
theorem ImmK.same {H H' : Hp} (h : Same H H') : ImmK H H' := fun b o e _ => h b o e
theorem ImmK.trans {H H1 H2 : Hp} (h : ImmK H H1) (k : ImmK H1 H2) : ImmK H H2 := fun b o e i => k b o (h b o e i) i
theorem ImmK.upd {H : Hp} {a : Addr} {o u : HO} (h : H a = some o) (hi : isImm o = false) : ImmK H (upd H a u) := fun b v e i => by
  by_cases z : b = a
  · rw [z, h] at e
    cases e
    rw [hi] at i
    cases i
  · rw [upd_ne z]
    exact e
theorem srcR.keep {H H' : Hp} {v : V} {s : Src} (h : srcR H v s) (k : ImmK H H') : srcR H' v s := by
  cases s with
  | non => exact h
  | file n => obtain ⟨a, e1, e2⟩ := h; exact ⟨a, e1, k _ _ e2 rfl⟩
  | obj j => obtain ⟨a, e1, e2⟩ := h; exact ⟨a, e1, k _ _ e2 rfl⟩
theorem PgR.keep {CP : Addr} {H H' : Hp} {p : Addr} {g : Pg} (h : PgR CP H p g) (k : ImmK H H') : PgR CP H' p g := by
  obtain ⟨dx, sv, fa, e1, e2, e3⟩ := h
  exact ⟨dx, sv, fa, k _ _ e1 rfl, e2.keep k, k _ _ e3 rfl⟩
def PgO (CP : Addr) (H : Hp) (i : Int) : Option V → Option Pg → Prop
  | none, none => True
  | some v, some g => (0 ≤ i ∧ i < 512) ∧ WfP g ∧ ∃ p, v = .ref p ∧ PgR CP H p g
  | _, _ => False
theorem PgO.keep {CP : Addr} {H H' : Hp} {i : Int} {v : Option V} {g : Option Pg} (h : PgO CP H i v g) (k : ImmK H H') : PgO CP H' i v g := by
  match v, g, h with
  | none, none, _ => exact True.intro
  | some v, some g, h => obtain ⟨b, wf, p, e1, e2⟩ := h; exact ⟨b, wf, p, e1, e2.keep k⟩
theorem PgO.isSome {CP : Addr} {H : Hp} {i : Int} {v : Option V} {g : Option Pg} (h : PgO CP H i v g) : v.isSome = g.isSome := by
  match v, g, h with
  | none, none, _ => rfl
  | some v, some g, _ => rfl
/-- a table of pages -/
def TabR (CP : Addr) (H : Hp) (d : Addr) (P : Tb) : Prop := ∃ kvs f, H d = some (.dK kvs) ∧ DI kvs f ∧ ∀ i, PgO CP H i (f i) (P i)
theorem TabR.keep {CP : Addr} {H H' : Hp} {d : Addr} {P : Tb} (h : TabR CP H d P) (k : ImmK H H') (e : H' d = H d) : TabR CP H' d P := by
  obtain ⟨kvs, f, h1, h2, h3⟩ := h
  exact ⟨kvs, f, e.trans h1, h2, fun i => (h3 i).keep k⟩
theorem PgO.low {CP : Addr} {H : Hp} {i : Int} {v : Option V} {g : Option Pg} (h : PgO CP H i v g) (s : v.isSome = true) : 0 ≤ i ∧ i < 512 := by
  match v, g, h with
  | some v, some g, h => exact h.1
/-- the users of the pages of an object -/
def UsrR (H : Hp) (u : Addr) (c : Int → Nat) : Prop := ∃ kvs f, H u = some (.dK kvs) ∧ DI kvs f ∧ (∀ i, f i = if c i = 0 then none else some (.int (c i : Nat))) ∧ ∀ i, c i ≠ 0 → 0 ≤ i ∧ i < 512
def ObjO (H : Hp) (τ : Tm) (o k : Int) (c : Int → Nat) : Option V → Prop
  | none => ∀ i, c i = 0
  | some v => (1 ≤ k ∧ k ≤ o) ∧ (∃ i, c i ≠ 0) ∧ ∃ u, v = .ref u ∧ τ u = some (.usr k) ∧ UsrR H u c
def ObR (H : Hp) (τ : Tm) (ob : Addr) (o : Int) (cnt : Int → Int → Nat) : Prop := ∃ kvs f, H ob = some (.dK kvs) ∧ DI kvs f ∧ ∀ k, ObjO H τ o k (cnt k) (f k)
def TbO (CP : Addr) (H : Hp) (τ : Tm) (p i : Int) : Option V → Option Tb → Prop
  | none, none => True
  | some v, some P => (1 ≤ i ∧ i ≤ p) ∧ ∃ d, v = .ref d ∧ τ d = some (.tab i) ∧ TabR CP H d P
  | _, _ => False
def TsR (CP : Addr) (H : Hp) (τ : Tm) (t : Addr) (p : Int) (tabs : Int → Option Tb) : Prop := ∃ kvs f, H t = some (.dK kvs) ∧ DI kvs f ∧ ∀ i, TbO CP H τ p i (f i) (tabs i)
def FilR (H : Hp) (fi : Addr) (fls : Str → Bool) : Prop := ∃ kvs : List (Key × V), H fi = some (.dK kvs) ∧ (∀ nm : Str, (valV kvs (Sum.inr nm)).isSome = fls nm) ∧ kvs.length ≤ 100 ∧ ∀ nm, fls nm = true → PyData.strOk nm = true
/-- the history of a system in which nothing was touched -/
structure HisR (CH : Addr) (H : Hp) (τ : Tm) (w : Wh) : Prop where
  at_ : ∃ dh lk y, H w.hi = some (.ins CH dh (hisF w.ro lk y)) ∧ H lk = some (.lst []) ∧ τ lk = some .lks
  ro : H w.ro = some (.lst [])
  th : τ w.hi = some .his
  tr : τ w.ro = some .row
theorem HisR.keep {CH : Addr} {H H' : Hp} {τ τ' : Tm} {w : Wh} (h : HisR CH H τ w) (e : ∀ b g, τ b = some g → (g = .his ∨ g = .row ∨ g = .lks) → ∀ o, H b = some o → H' b = some o) (t : ∀ b g, τ b = some g → τ' b = some g) : HisR CH H' τ' w := by
  obtain ⟨dh, lk, y, h1, h2, h3⟩ := h.at_
  exact ⟨⟨dh, lk, y, e _ _ h.th (.inl rfl) _ h1, e _ _ h3 (.inr (.inr rfl)) _ h2, t _ _ h3⟩, e _ _ h.tr (.inr (.inl rfl)) _ h.ro, t _ _ h.th, t _ _ h.tr⟩
structure SyA (CS CP CH : Addr) (H : Hp) (x : Addr) (w : Wh) (S : Sys) (τ : Tm) (cnt : Int → Int → Nat) : Prop where
  hx : H x = some (.ins CS w.dx (sysF S.n S.p S.o w))
  tx : τ x = some .sys
  tt : τ w.t = some .tabs
  to : τ w.ob = some .objs
  tg : τ w.og = some .opgs
  tf : τ w.fi = some .files
  tabs : TsR CP H τ w.t S.p S.tabs
  obs : ObR H τ w.ob S.o cnt
  ogs : H w.og = some (.dT [])
  fis : FilR H w.fi S.fls
  bp : 0 ≤ S.p ∧ S.p ≤ 1000
  bo : 0 ≤ S.o ∧ S.o ≤ 1000
  own : ∀ b g, τ b = some g → b = x ∨ ∃ o, H b = some o ∧ isBox o = true
  his : HisR CH H τ w
@[irreducible] def cntS (S : Sys) (k i : Int) : Nat := sumN 1001 fun j => match S.tabs j with
  | some P => cntT P k i
  | none => 0
abbrev SyR (CS CP CH : Addr) (H : Hp) (x : Addr) (w : Wh) (S : Sys) (τ : Tm) : Prop := SyA CS CP CH H x w S τ (cntS S)
/-- what a step of the program leaves: all that is not the system's; new things become the system's -/
def Fr (τ : Tm) (H H' : Hp) : Prop := ∀ b o, τ b = none → H b = some o → H' b = some o
def Ex (τ τ' : Tm) (H : Hp) : Prop := ∀ b, τ' b = τ b ∨ (τ b = none ∧ H b = none)
structure Go (τ : Tm) (H : Hp) (τ' : Tm) (H' : Hp) : Prop where
  fr : Fr τ H H'
  ex : Ex τ τ' H
  ls : ∀ b xs, H b = some (.lst xs) → H' b = some (.lst xs)
def isLst : HO → Bool
  | .lst _ => true
  | _ => false
theorem Go.refl (τ : Tm) (H : Hp) : Go τ H τ H := ⟨fun _ _ _ e => e, fun _ => .inl rfl, fun _ _ e => e⟩
theorem Go.same {τ : Tm} {H H' : Hp} (s : Same H H') : Go τ H τ H' := ⟨fun b o _ e => s b o e, fun _ => .inl rfl, fun b xs e => s b _ e⟩
theorem Go.trans {τ τ1 τ2 : Tm} {H H1 H2 : Hp} (a : Go τ H τ1 H1) (b : Go τ1 H1 τ2 H2) : Go τ H τ2 H2 := by
  refine ⟨fun c o n e => ?_, fun c => ?_, fun c xs e => b.ls c xs (a.ls c xs e)⟩
  · rcases a.ex c with z | ⟨_, z⟩
    · exact b.fr c o (z.trans n) (a.fr c o n e)
    · rw [e] at z; cases z
  · rcases b.ex c with z | ⟨z1, z2⟩
    · rcases a.ex c with y | y
      · exact .inl (z.trans y)
      · exact .inr y
    · rcases a.ex c with y | y
      · refine .inr ⟨y.symm.trans z1, ?_⟩
        cases e : H c with
        | none => rfl
        | some o => rw [a.fr c o (y.symm.trans z1) e] at z2; cases z2
      · exact .inr y
theorem Go.upd {τ : Tm} {H : Hp} {a : Addr} {o u : HO} (h : τ a ≠ none) (ea : H a = some u) (n : isLst u = false := by rfl) : Go τ H τ (upd H a o) := ⟨fun b u n e => by
  have nz : b ≠ a := fun z => h (by rw [← z]; exact n)
  show L2.upd H a o b = some u
  rw [upd_ne nz]; exact e, fun _ => .inl rfl, fun b xs e => by
  have nz : b ≠ a := fun z => by rw [z, ea] at e; cases e; cases n
  show L2.upd H a o b = some _
  rw [upd_ne nz]; exact e⟩
/-- what the system leans on stays -/
def Kp (τ : Tm) (H H' : Hp) : Prop := ∀ b o, H b = some o → (τ b ≠ none ∨ isImm o = true) → H' b = some o
theorem Kp.same {τ : Tm} {H H' : Hp} (s : Same H H') : Kp τ H H' := fun b o e _ => s b o e
theorem Kp.imm {τ : Tm} {H H' : Hp} (k : Kp τ H H') : ImmK H H' := fun b o e i => k b o e (.inr i)
section
variable {CS CP CH : Addr} {H H' : Hp} {x : Addr} {w : Wh} {S : Sys} {τ : Tm} {cnt : Int → Int → Nat}
theorem UsrR.keep {u : Addr} {c : Int → Nat} (h : UsrR H u c) (e : H' u = H u) : UsrR H' u c := by
  obtain ⟨kvs, f, h1, h2⟩ := h
  exact ⟨kvs, f, e.trans h1, h2⟩
theorem ObjO.keep {τ' : Tm} {o o' k : Int} {c : Int → Nat} {v : Option V} (h : ObjO H τ o k c v) (e : ∀ u, τ u = some (.usr k) → (∃ z, H u = some z) → H' u = H u ∧ τ' u = τ u) (ho : o ≤ o') : ObjO H' τ' o' k c v := by
  cases v with
  | none => exact h
  | some v =>
    obtain ⟨b, c1, u, rfl, tu, hu⟩ := h
    obtain ⟨kvs, f, hk, _⟩ := id hu
    obtain ⟨e1, e2⟩ := e u tu ⟨_, hk⟩
    exact ⟨by omega, c1, u, rfl, e2.trans tu, hu.keep e1⟩
theorem TbO.keep {τ' : Tm} {p p' i : Int} {v : Option V} {P : Option Tb} (h : TbO CP H τ p i v P) (k : ImmK H H') (e : ∀ d, τ d = some (.tab i) → (∃ z, H d = some z) → H' d = H d ∧ τ' d = τ d) (hp : p ≤ p') : TbO CP H' τ' p' i v P := by
  match v, P, h with
  | none, none, _ => exact True.intro
  | some v, some P, h =>
    obtain ⟨b, d, rfl, td, hd⟩ := h
    obtain ⟨kvs, f, hk, _⟩ := id hd
    obtain ⟨e1, e2⟩ := e d td ⟨_, hk⟩
    exact ⟨by omega, d, rfl, e2.trans td, hd.keep k e1⟩
theorem SyA.keep (h : SyA CS CP CH H x w S τ cnt) (k : Kp τ H H') : SyA CS CP CH H' x w S τ cnt := by
  have at_ : ∀ {b : Addr} {g : Tag}, τ b = some g → ∀ {o}, H b = some o → H' b = some o := fun t _ e => k _ _ e (.inl (by rw [t]; simp))
  have eq_ : ∀ {b : Addr} {g : Tag}, τ b = some g → (∃ z, H b = some z) → H' b = H b ∧ τ b = τ b := fun t ⟨z, e⟩ => ⟨(at_ t e).trans e.symm, rfl⟩
  refine ⟨at_ h.tx h.hx, h.tx, h.tt, h.to, h.tg, h.tf, ?_, ?_, at_ h.tg h.ogs, ?_, h.bp, h.bo, fun b g e => ?_, h.his.keep (fun b g t _ o e => at_ t e) (fun b g t => t)⟩
  · obtain ⟨kvs, f, h1, h2, h3⟩ := h.tabs
    exact ⟨kvs, f, at_ h.tt h1, h2, fun i => (h3 i).keep k.imm (fun d td z => eq_ td z) (Int.le_refl _)⟩
  · obtain ⟨kvs, f, h1, h2, h3⟩ := h.obs
    exact ⟨kvs, f, at_ h.to h1, h2, fun i => (h3 i).keep (fun d td z => eq_ td z) (Int.le_refl _)⟩
  · obtain ⟨kvs, h1, h2⟩ := h.fis
    exact ⟨kvs, at_ h.tf h1, h2⟩
  · rcases h.own b g e with z | ⟨o, z1, z2⟩
    · exact .inl z
    · exact .inr ⟨o, at_ e z1, z2⟩
theorem SyA.same (h : SyA CS CP CH H x w S τ cnt) (s : Same H H') : SyA CS CP CH H' x w S τ cnt := h.keep (Kp.same s)
theorem SyA.cong {cnt' : Int → Int → Nat} (h : SyA CS CP CH H x w S τ cnt) (e : ∀ k i, cnt k i = cnt' k i) : SyA CS CP CH H x w S τ cnt' := by
  have : cnt = cnt' := by funext k i; exact e k i
  rw [← this]; exact h
/-- the table of a living process -/
def TabOf (H : Hp) (w : Wh) (i : Int) (d : Addr) : Prop := ∃ kvs, H w.t = some (.dK kvs) ∧ valV kvs (Sum.inl i) = some (.ref d)
theorem SyA.living (h : SyA CS CP CH H x w S τ cnt) {i : Int} {P : Tb} (e : S.tabs i = some P) : ∃ d, TabOf H w i d := by
  obtain ⟨kvs, f, h1, h2, h3⟩ := h.tabs
  have z := h3 i
  rw [e] at z
  cases ef : f i with
  | none => rw [ef] at z; exact z.elim
  | some v =>
    rw [ef] at z
    obtain ⟨_, d, rfl, _⟩ := z
    exact ⟨d, kvs, h1, (h2.val i).trans ef⟩
theorem SyA.tab (h : SyA CS CP CH H x w S τ cnt) {i : Int} {d : Addr} (e : TabOf H w i d) : ∃ P, S.tabs i = some P ∧ (1 ≤ i ∧ i ≤ S.p) ∧ τ d = some (.tab i) ∧ TabR CP H d P := by
  obtain ⟨kvs, f, h1, h2, h3⟩ := h.tabs
  obtain ⟨kvs', h1', hv⟩ := e
  rw [h1] at h1'
  cases h1'
  have z := h3 i
  rw [← h2.val i, hv] at z
  cases eP : S.tabs i with
  | none => rw [eP] at z; exact z.elim
  | some P =>
    rw [eP] at z
    obtain ⟨b, d', e', td, hd⟩ := z
    cases e'
    exact ⟨P, rfl, b, td, hd⟩
theorem SyA.tabE (h : SyA CS CP CH H x w S τ cnt) {i : Int} {d : Addr} {P : Tb} (e : TabOf H w i d) (eP : S.tabs i = some P) : (1 ≤ i ∧ i ≤ S.p) ∧ τ d = some (.tab i) ∧ TabR CP H d P := by
  obtain ⟨P', e', r⟩ := h.tab e
  rw [eP] at e'
  cases e'
  exact r
theorem TabOf.keep {i : Int} {d : Addr} (h : TabOf H w i d) (e : ∀ o, H w.t = some o → H' w.t = some o) : TabOf H' w i d := by
  obtain ⟨k, h1, h2⟩ := h
  exact ⟨k, e _ h1, h2⟩
theorem SyA.notIn (h : SyA CS CP CH H x w S τ cnt) {i : Int} (e : S.tabs i = none) : ∃ kvs, H w.t = some (.dK kvs) ∧ valV kvs (Sum.inl i) = none := by
  obtain ⟨kvs, f, h1, h2, h3⟩ := h.tabs
  have z := h3 i
  rw [e] at z
  cases ef : f i with
  | none => exact ⟨kvs, h1, (h2.val i).trans ef⟩
  | some v => rw [ef] at z; exact z.elim
theorem ne_tag {b c : Addr} {g g' : Tag} (h : τ b = some g) (h' : τ c = some g') (n : g ≠ g') : b ≠ c := fun e => by
  rw [e, h'] at h
  exact n (Option.some.inj h).symm
/-- the system's own fields change, nothing else -/
theorem SyA.put (h : SyA CS CP CH H x w S τ cnt) {n' o' : Int} (ho : S.o ≤ o') (ho2 : o' ≤ 1000) : SyA CS CP CH (upd H x (.ins CS w.dx (sysF n' S.p o' w))) x w { S with n := n', o := o' } τ cnt := by
  have im : ImmK H (upd H x (.ins CS w.dx (sysF n' S.p o' w))) := ImmK.upd h.hx rfl
  have at_ : ∀ {b : Addr} {g : Tag}, τ b = some g → g ≠ .sys → (upd H x (.ins CS w.dx (sysF n' S.p o' w))) b = H b := fun t n => upd_ne (ne_tag t h.tx n)
  refine ⟨upd_same, h.tx, h.tt, h.to, h.tg, h.tf, ?_, ?_, (at_ h.tg (by simp)).trans h.ogs, ?_, h.bp, ⟨by have := h.bo; simp only; omega, ho2⟩, fun b g e => ?_, h.his.keep (fun b g t c o e => by rw [at_ t (by rcases c with c | c | c <;> rw [c] <;> simp)]; exact e) (fun b g t => t)⟩
  · obtain ⟨kvs, f, h1, h2, h3⟩ := h.tabs
    exact ⟨kvs, f, (at_ h.tt (by simp)).trans h1, h2, fun i => (h3 i).keep im (fun d td _ => ⟨at_ td (by simp), rfl⟩) (Int.le_refl _)⟩
  · obtain ⟨kvs, f, h1, h2, h3⟩ := h.obs
    exact ⟨kvs, f, (at_ h.to (by simp)).trans h1, h2, fun i => (h3 i).keep (fun d td _ => ⟨at_ td (by simp), rfl⟩) ho⟩
  · obtain ⟨kvs, h1, h2⟩ := h.fis
    exact ⟨kvs, (at_ h.tf (by simp)).trans h1, h2⟩
  · rcases h.own b g e with z | ⟨o, z1, z2⟩
    · exact .inl z
    · by_cases bx : b = x
      · exact .inl bx
      · exact .inr ⟨o, by rw [upd_ne bx]; exact z1, z2⟩
def Sys.setTab (S : Sys) (i : Int) (P : Option Tb) : Sys := { S with tabs := fun j => if j = i then P else S.tabs j }
/-- one table changes -/
theorem SyA.putTab (h : SyA CS CP CH H x w S τ cnt) {i : Int} {d : Addr} {P' : Tb} {kvs' : List (Key × V)} (e : TabOf H w i d) (r : TabR CP (upd H d (.dK kvs')) d P') : SyA CS CP CH (upd H d (.dK kvs')) x w (S.setTab i (some P')) τ cnt := by
  obtain ⟨P, eP, bi, td, kvs0, f0, hd, _⟩ := h.tab e
  have im : ImmK H (upd H d (.dK kvs')) := ImmK.upd hd rfl
  have at_ : ∀ {b : Addr} {g : Tag}, τ b = some g → g ≠ .tab i → (upd H d (.dK kvs')) b = H b := fun t n => upd_ne (ne_tag t td n)
  refine ⟨(at_ h.tx (by simp)).trans h.hx, h.tx, h.tt, h.to, h.tg, h.tf, ?_, ?_, (at_ h.tg (by simp)).trans h.ogs, ?_, h.bp, h.bo, fun b g e' => ?_, h.his.keep (fun b g t c o e => by rw [at_ t (by rcases c with c | c | c <;> rw [c] <;> simp)]; exact e) (fun b g t => t)⟩
  · obtain ⟨kvs, f, h1, h2, h3⟩ := h.tabs
    refine ⟨kvs, f, (at_ h.tt (by simp)).trans h1, h2, fun j => ?_⟩
    by_cases ej : j = i
    · subst ej
      have z := h3 j
      show TbO CP _ τ S.p j (f j) (if j = j then some P' else S.tabs j)
      rw [if_pos rfl]
      obtain ⟨kvs1, q1, q2⟩ := e
      rw [h1] at q1
      cases q1
      rw [← h2.val j, q2]
      exact ⟨bi, d, rfl, td, r⟩
    · show TbO CP _ τ S.p j (f j) (if j = i then some P' else S.tabs j)
      rw [if_neg ej]
      exact (h3 j).keep im (fun d' td' _ => ⟨at_ td' (fun z => ej (Tag.tab.inj z)), rfl⟩) (Int.le_refl _)
  · obtain ⟨kvs, f, h1, h2, h3⟩ := h.obs
    exact ⟨kvs, f, (at_ h.to (by simp)).trans h1, h2, fun i => (h3 i).keep (fun d td _ => ⟨at_ td (by simp), rfl⟩) (Int.le_refl _)⟩
  · obtain ⟨kvs, h1, h2⟩ := h.fis
    exact ⟨kvs, (at_ h.tf (by simp)).trans h1, h2⟩
  · rcases h.own b g e' with z | ⟨o, z1, z2⟩
    · exact .inl z
    · by_cases bx : b = d
      · exact .inr ⟨.dK kvs', by rw [bx, upd_same], rfl⟩
      · exact .inr ⟨o, by rw [upd_ne bx]; exact z1, z2⟩
end
theorem upd_comm {H : Hp} {a b : Addr} {o u : HO} (n : a ≠ b) : upd (upd H a o) b u = upd (upd H b u) a o := by
  funext c
  by_cases e1 : c = a
  · subst e1
    rw [upd_ne n, upd_same, upd_same]
  · by_cases e2 : c = b
    · subst e2
      rw [upd_same, upd_ne e1, upd_same]
    · rw [upd_ne e2, upd_ne e1, upd_ne e1, upd_ne e2]
def setC (cnt : Int → Int → Nat) (k : Int) (c : Int → Nat) : Int → Int → Nat := fun k' => if k' = k then c else cnt k'
def setTag (τ : Tm) (u : Addr) (g : Tag) : Tm := fun b => if b = u then some g else τ b
theorem setTag_ne {τ : Tm} {u b : Addr} {g : Tag} (h : b ≠ u) : setTag τ u g b = τ b := if_neg h
theorem setTag_same {τ : Tm} {u : Addr} {g : Tag} : setTag τ u g u = some g := if_pos rfl
section
variable {CS CP CH : Addr} {H H' : Hp} {x : Addr} {w : Wh} {S : Sys} {τ : Tm} {cnt : Int → Int → Nat} {k : Int} {u : Addr} {okvs : List (Key × V)}
theorem SyA.usr (h : SyA CS CP CH H x w S τ cnt) (ho : H w.ob = some (.dK okvs)) (hu : valV okvs (Sum.inl k) = some (.ref u)) : τ u = some (.usr k) ∧ UsrR H u (cnt k) ∧ (∃ i, cnt k i ≠ 0) ∧ 1 ≤ k ∧ k ≤ S.o := by
  obtain ⟨kvs, f, h1, h2, h3⟩ := h.obs
  rw [ho] at h1
  cases h1
  have z := h3 k
  rw [← h2.val k, hu] at z
  obtain ⟨b, c, u', e, t, r⟩ := z
  cases e
  exact ⟨t, r, c, b⟩
theorem SyA.noUsr (h : SyA CS CP CH H x w S τ cnt) (ho : H w.ob = some (.dK okvs)) (hu : valV okvs (Sum.inl k) = none) : ∀ i, cnt k i = 0 := by
  obtain ⟨kvs, f, h1, h2, h3⟩ := h.obs
  rw [ho] at h1
  cases h1
  have z := h3 k
  rw [← h2.val k, hu] at z
  exact z
theorem SyA.obv (h : SyA CS CP CH H x w S τ cnt) (ho : H w.ob = some (.dK okvs)) (k : Int) : valV okvs (Sum.inl k) = none ∨ ∃ u, valV okvs (Sum.inl k) = some (.ref u) := by
  obtain ⟨kvs, f, h1, h2, h3⟩ := h.obs
  rw [ho] at h1
  cases h1
  have z := h3 k
  rw [← h2.val k] at z
  cases e : valV okvs (Sum.inl k) with
  | none => exact .inl rfl
  | some v =>
    rw [e] at z
    obtain ⟨_, _, u, e', _⟩ := z
    exact .inr ⟨u, by rw [e']⟩
theorem SyA.obLen (h : SyA CS CP CH H x w S τ cnt) (ho : H w.ob = some (.dK okvs)) : okvs.length ≤ 1001 := by
  obtain ⟨kvs, f, h1, h2, h3⟩ := h.obs
  rw [ho] at h1
  cases h1
  refine h2.len fun i hi => ?_
  have z := h3 i
  cases e : f i with
  | none => rw [e] at hi; cases hi
  | some v =>
    rw [e] at z
    have := z.1
    have := h.bo
    omega
theorem UsrR.len {c : Int → Nat} {kvs : List (Key × V)} (h : UsrR H u c) (e : H u = some (.dK kvs)) : kvs.length ≤ 512 := by
  obtain ⟨kvs', f, h1, h2, h3, h4⟩ := h
  rw [e] at h1
  cases h1
  refine h2.len fun i hi => ?_
  rw [h3 i] at hi
  by_cases z : c i = 0
  · rw [if_pos z] at hi; cases hi
  · have := h4 i z
    omega
/-- a dict among the system's changes, one of users -/
theorem SyA.putUsr (h : SyA CS CP CH H x w S τ cnt) (ho : H w.ob = some (.dK okvs)) (hu : valV okvs (Sum.inl k) = some (.ref u)) {c' : Int → Nat} {kvs' : List (Key × V)} (r : UsrR (upd H u (.dK kvs')) u c') (ne : ∃ i, c' i ≠ 0) :
    SyA CS CP CH (upd H u (.dK kvs')) x w S τ (setC cnt k c') := by
  obtain ⟨tu, ⟨kvs0, f0, hd, _⟩, _, bk⟩ := h.usr ho hu
  have im : ImmK H (upd H u (.dK kvs')) := ImmK.upd hd rfl
  have at_ : ∀ {b : Addr} {g : Tag}, τ b = some g → g ≠ .usr k → (upd H u (.dK kvs')) b = H b := fun t n => upd_ne (ne_tag t tu n)
  refine ⟨(at_ h.tx (by simp)).trans h.hx, h.tx, h.tt, h.to, h.tg, h.tf, ?_, ?_, (at_ h.tg (by simp)).trans h.ogs, ?_, h.bp, h.bo, fun b g e' => ?_, h.his.keep (fun b g t c o e => by rw [at_ t (by rcases c with c | c | c <;> rw [c] <;> simp)]; exact e) (fun b g t => t)⟩
  · obtain ⟨kvs, f, h1, h2, h3⟩ := h.tabs
    exact ⟨kvs, f, (at_ h.tt (by simp)).trans h1, h2, fun j => (h3 j).keep im (fun d td _ => ⟨at_ td (by simp), rfl⟩) (Int.le_refl _)⟩
  · obtain ⟨kvs, f, h1, h2, h3⟩ := h.obs
    rw [ho] at h1
    cases h1
    refine ⟨okvs, f, (at_ h.to (by simp)).trans ho, h2, fun j => ?_⟩
    by_cases ej : j = k
    · subst ej
      rw [← h2.val j, hu]
      show ObjO _ τ S.o j (if j = j then c' else cnt j) _
      rw [if_pos rfl]
      exact ⟨bk, ne, u, rfl, tu, r⟩
    · show ObjO _ τ S.o j (if j = k then c' else cnt j) _
      rw [if_neg ej]
      exact (h3 j).keep (fun d td _ => ⟨at_ td (fun z => ej (Tag.usr.inj z)), rfl⟩) (Int.le_refl _)
  · obtain ⟨kvs, h1, h2⟩ := h.fis
    exact ⟨kvs, (at_ h.tf (by simp)).trans h1, h2⟩
  · rcases h.own b g e' with z | ⟨o, z1, z2⟩
    · exact .inl z
    · by_cases bx : b = u
      · exact .inr ⟨.dK kvs', by rw [bx, upd_same], rfl⟩
      · exact .inr ⟨o, by rw [upd_ne bx]; exact z1, z2⟩
/-- a dict of users that is not looked at any more -/
theorem SyA.garb (h : SyA CS CP CH H x w S τ cnt) (ho : H w.ob = some (.dK okvs)) (hu : valV okvs (Sum.inl k) = none) (tu : τ u = some (.usr k)) {kvs0 kvs' : List (Key × V)} (hd : H u = some (.dK kvs0)) : SyA CS CP CH (upd H u (.dK kvs')) x w S τ cnt := by
  have im : ImmK H (upd H u (.dK kvs')) := ImmK.upd hd rfl
  have at_ : ∀ {b : Addr} {g : Tag}, τ b = some g → g ≠ .usr k → (upd H u (.dK kvs')) b = H b := fun t n => upd_ne (ne_tag t tu n)
  refine ⟨(at_ h.tx (by simp)).trans h.hx, h.tx, h.tt, h.to, h.tg, h.tf, ?_, ?_, (at_ h.tg (by simp)).trans h.ogs, ?_, h.bp, h.bo, fun b g e' => ?_, h.his.keep (fun b g t c o e => by rw [at_ t (by rcases c with c | c | c <;> rw [c] <;> simp)]; exact e) (fun b g t => t)⟩
  · obtain ⟨kvs, f, h1, h2, h3⟩ := h.tabs
    exact ⟨kvs, f, (at_ h.tt (by simp)).trans h1, h2, fun j => (h3 j).keep im (fun d td _ => ⟨at_ td (by simp), rfl⟩) (Int.le_refl _)⟩
  · obtain ⟨kvs, f, h1, h2, h3⟩ := h.obs
    rw [ho] at h1
    cases h1
    refine ⟨okvs, f, (at_ h.to (by simp)).trans ho, h2, fun j => ?_⟩
    by_cases ej : j = k
    · subst ej
      have z := h3 j
      rw [← h2.val j, hu] at z ⊢
      exact z
    · exact (h3 j).keep (fun d td _ => ⟨at_ td (fun z => ej (Tag.usr.inj z)), rfl⟩) (Int.le_refl _)
  · obtain ⟨kvs, h1, h2⟩ := h.fis
    exact ⟨kvs, (at_ h.tf (by simp)).trans h1, h2⟩
  · rcases h.own b g e' with z | ⟨o, z1, z2⟩
    · exact .inl z
    · by_cases bx : b = u
      · exact .inr ⟨.dK kvs', by rw [bx, upd_same], rfl⟩
      · exact .inr ⟨o, by rw [upd_ne bx]; exact z1, z2⟩
/-- the dict of the objects changes -/
theorem SyA.putOb (h : SyA CS CP CH H x w S τ cnt) (ho : H w.ob = some (.dK okvs)) {okvs' : List (Key × V)} {τ' : Tm} {cnt' : Int → Int → Nat} (ht : ∀ b g, τ b = some g → τ' b = some g) (ht' : ∀ b g, τ' b = some g → τ b = some g ∨ (b ≠ w.ob ∧ ∃ o, H b = some o ∧ isBox o = true))
    (r : ObR (upd H w.ob (.dK okvs')) τ' w.ob S.o cnt') : SyA CS CP CH (upd H w.ob (.dK okvs')) x w S τ' cnt' := by
  have im : ImmK H (upd H w.ob (.dK okvs')) := ImmK.upd ho rfl
  have at_ : ∀ {b : Addr} {g : Tag}, τ b = some g → g ≠ .objs → (upd H w.ob (.dK okvs')) b = H b := fun t n => upd_ne (ne_tag t h.to n)
  refine ⟨(at_ h.tx (by simp)).trans h.hx, ht _ _ h.tx, ht _ _ h.tt, ht _ _ h.to, ht _ _ h.tg, ht _ _ h.tf, ?_, r, (at_ h.tg (by simp)).trans h.ogs, ?_, h.bp, h.bo, fun b g e' => ?_, h.his.keep (fun b g t c o e => by rw [at_ t (by rcases c with c | c | c <;> rw [c] <;> simp)]; exact e) ht⟩
  · obtain ⟨kvs, f, h1, h2, h3⟩ := h.tabs
    exact ⟨kvs, f, (at_ h.tt (by simp)).trans h1, h2, fun j => (h3 j).keep im (fun d td _ => ⟨at_ td (by simp), (ht _ _ td).trans td.symm⟩) (Int.le_refl _)⟩
  · obtain ⟨kvs, h1, h2⟩ := h.fis
    exact ⟨kvs, (at_ h.tf (by simp)).trans h1, h2⟩
  · by_cases bo : b = w.ob
    · exact .inr ⟨.dK okvs', by rw [bo, upd_same], rfl⟩
    · rcases ht' b g e' with z | ⟨_, o, z1, z2⟩
      · rcases h.own b g z with y | ⟨o, z1, z2⟩
        · exact .inl y
        · exact .inr ⟨o, by rw [upd_ne bo]; exact z1, z2⟩
      · exact .inr ⟨o, by rw [upd_ne bo]; exact z1, z2⟩
theorem SyA.newUsr (h : SyA CS CP CH H x w S τ cnt) (ho : H w.ob = some (.dK okvs)) (hu : valV okvs (Sum.inl k) = none) (bk : 1 ≤ k ∧ k ≤ S.o) (tu : τ u = none) {c' : Int → Nat} (r : UsrR H u c') (ne : ∃ i, c' i ≠ 0) :
    SyA CS CP CH (upd H w.ob (.dK (putK okvs (Sum.inl k) (.ref u)))) x w S (setTag τ u (.usr k)) (setC cnt k c') := by
  have nu : ∀ {b : Addr} {g : Tag}, τ b = some g → b ≠ u := fun t e => by rw [e, tu] at t; cases t
  have neu : u ≠ w.ob := (nu h.to).symm
  obtain ⟨ukvs, uf, hu1, hu2⟩ := id r
  refine h.putOb ho (fun b g t => by rw [setTag_ne (nu t)]; exact t) (fun b g t => ?_) ?_
  · by_cases e : b = u
    · rw [e]
      exact .inr ⟨neu, _, hu1, rfl⟩
    · rw [setTag_ne e] at t
      exact .inl t
  · obtain ⟨kvs, f, h1, h2, h3⟩ := h.obs
    rw [ho] at h1
    cases h1
    refine ⟨_, _, upd_same, h2.put k (.ref u), fun j => ?_⟩
    by_cases ej : j = k
    · subst ej
      simp only [if_pos]
      show ObjO _ _ S.o j (if j = j then c' else cnt j) _
      rw [if_pos rfl]
      exact ⟨bk, ne, u, rfl, setTag_same, r.keep (upd_ne neu)⟩
    · simp only [if_neg ej]
      show ObjO _ _ S.o j (if j = k then c' else cnt j) _
      rw [if_neg ej]
      exact (h3 j).keep (fun d td _ => ⟨upd_ne (ne_tag td h.to (by simp)), setTag_ne (nu td)⟩) (Int.le_refl _)
theorem SyA.dropUsr (h : SyA CS CP CH H x w S τ cnt) (ho : H w.ob = some (.dK okvs)) : SyA CS CP CH (upd H w.ob (.dK (dropK okvs (Sum.inl k)))) x w S τ (setC cnt k fun _ => 0) := by
  refine h.putOb ho (fun b g t => t) (fun b g t => .inl t) ?_
  obtain ⟨kvs, f, h1, h2, h3⟩ := h.obs
  rw [ho] at h1
  cases h1
  refine ⟨_, _, upd_same, h2.drop k, fun j => ?_⟩
  by_cases ej : j = k
  · subst ej
    simp only [if_pos]
    show ObjO _ _ S.o j (if j = j then (fun _ => 0) else cnt j) _
    rw [if_pos rfl]
    exact fun _ => rfl
  · simp only [if_neg ej]
    show ObjO _ _ S.o j (if j = k then (fun _ => 0) else cnt j) _
    rw [if_neg ej]
    exact (h3 j).keep (fun d td _ => ⟨upd_ne (ne_tag td h.to (by simp)), rfl⟩) (Int.le_refl _)
end
/-- a page more, a page less -/
def incC (cnt : Int → Int → Nat) (g : Pg) : Int → Int → Nat := fun k i => cnt k i + cntO k i (some g)
def decC (cnt : Int → Int → Nat) (g : Pg) : Int → Int → Nat := fun k i => cnt k i - cntO k i (some g)
theorem cntO_no {g : Pg} (h : ∀ k, g.src ≠ .obj k) (k i : Int) : cntO k i (some g) = 0 := by
  simp [cntO, showsO, h k]
theorem cntO_is {g : Pg} {k0 i0 : Int} (h1 : g.sh = true) (h2 : g.src = .obj k0) (h3 : g.ix = some i0) (k i : Int) : cntO k i (some g) = if k = k0 ∧ i = i0 then 1 else 0 := by
  simp only [cntO, showsO, h1, h2, h3, Bool.true_and, Bool.and_eq_true, decide_eq_true_eq]
  by_cases e : k = k0 ∧ i = i0
  · obtain ⟨rfl, rfl⟩ := e
    simp
  · have : ¬ (Src.obj k0 = .obj k ∧ some i0 = some i) := fun z => e ⟨(Src.obj.inj z.1).symm, (Option.some.inj z.2).symm⟩
    rw [if_neg this, if_neg e]
end My
namespace My
open PySem L2
theorem SyA.fresh {CS CP CH : Addr} {H : Hp} {x : Addr} {w : Wh} {S : Sys} {τ : Tm} {cnt : Int → Int → Nat} (h : SyA CS CP CH H x w S τ cnt) {q : Addr} (hq : H q = none) : τ q = none := by
  cases e : τ q with
  | none => rfl
  | some g =>
    rcases h.own q g e with z | ⟨o, z, _⟩
    · rw [z, h.hx] at hq
      cases hq
    · rw [z] at hq
      cases hq
/-- pages and tuples are not the system's own -/
theorem SyA.immN {CS CP CH : Addr} {H : Hp} {x : Addr} {w : Wh} {S : Sys} {τ : Tm} {cnt : Int → Int → Nat} (h : SyA CS CP CH H x w S τ cnt) {b : Addr} {o : HO} (e : H b = some o) (i : isImm o = true) : τ b = none := by
  cases t : τ b with
  | none => rfl
  | some g =>
    rcases h.own b g t with z | ⟨o', z, z'⟩
    · rw [z, h.hx] at e
      cases e
      cases i
    · rw [z] at e
      cases e
      cases o <;> first | (cases i; done) | (cases z'; done) | (simp only [isImm, isBox, beq_iff_eq] at i z'; omega)
theorem SyA.imm {CS CP CH : Addr} {H H' : Hp} {x : Addr} {w : Wh} {S : Sys} {τ τ' : Tm} {cnt : Int → Int → Nat} (h : SyA CS CP CH H x w S τ cnt) (g : Go τ H τ' H') : ImmK H H' := fun b o e i => g.fr b o (h.immN e i) e
end My
namespace My
open PySem L2
def PgV (CP : Addr) (H : Hp) (v : V) : Option Pg → Prop
  | none => v = .non
  | some g => WfP g ∧ ∃ p, v = .ref p ∧ PgR CP H p g
theorem PgV.keep {CP : Addr} {H H' : Hp} {v : V} {g : Option Pg} (h : PgV CP H v g) (k : ImmK H H') : PgV CP H' v g := by
  cases g with
  | none => exact h
  | some g => obtain ⟨a, p, e, b⟩ := h; exact ⟨a, p, e, b.keep k⟩
def XsR (CP : Addr) (H : Hp) : List V → List Pg → Prop
  | [], [] => True
  | v :: xs, g :: gs => PgV CP H v (some g) ∧ XsR CP H xs gs
  | _, _ => False
theorem XsR.keep {CP : Addr} {H H' : Hp} (k : ImmK H H') : ∀ {xs : List V} {gs : List Pg}, XsR CP H xs gs → XsR CP H' xs gs
  | [], [], _ => True.intro
  | _ :: _, _ :: _, h => ⟨h.1.keep k, XsR.keep k h.2⟩
theorem XsR.snoc {CP : Addr} {H : Hp} {v : V} {g : Pg} (hv : PgV CP H v (some g)) : ∀ {xs : List V} {gs : List Pg}, XsR CP H xs gs → XsR CP H (xs ++ [v]) (gs ++ [g])
  | [], [], _ => ⟨hv, True.intro⟩
  | _ :: _, _ :: _, h => ⟨h.1, XsR.snoc hv h.2⟩
theorem XsR.get {CP : Addr} {H : Hp} : ∀ {xs : List V} {gs : List Pg} {j : Nat} {v : V}, XsR CP H xs gs → xs[j]? = some v → ∃ g, gs[j]? = some g ∧ PgV CP H v (some g)
  | _ :: _, g :: _, 0, _, h, e => by
    have e' := Option.some.inj e
    subst e'
    exact ⟨g, rfl, h.1⟩
  | _ :: xs, _ :: gs, j + 1, v, h, e => XsR.get (j := j) h.2 e
theorem XsR.length {CP : Addr} {H : Hp} : ∀ {xs : List V} {gs : List Pg}, XsR CP H xs gs → xs.length = gs.length
  | [], [], _ => rfl
  | _ :: _, _ :: _, h => congrArg (· + 1) (XsR.length h.2)
def LsR (CP : Addr) (H : Hp) : List (Key × V) → List (Int × Option Pg) → Prop
  | [], [] => True
  | kv :: ls, q :: ch => (kv.1 = Sum.inl q.1 ∧ PgV CP H kv.2 q.2) ∧ LsR CP H ls ch
  | _, _ => False
theorem LsR.keep {CP : Addr} {H H' : Hp} (k : ImmK H H') : ∀ {ls : List (Key × V)} {ch : List (Int × Option Pg)}, LsR CP H ls ch → LsR CP H' ls ch
  | [], [], _ => True.intro
  | _ :: _, _ :: _, h => ⟨⟨h.1.1, h.1.2.keep k⟩, LsR.keep k h.2⟩
theorem LsR.get {CP : Addr} {H : Hp} : ∀ {ls : List (Key × V)} {ch : List (Int × Option Pg)} {j : Nat} {kv : Key × V}, LsR CP H ls ch → ls[j]? = some kv → ∃ q, ch[j]? = some q ∧ kv.1 = Sum.inl q.1 ∧ PgV CP H kv.2 q.2
  | _ :: _, q :: _, 0, _, h, e => by
    have e' := Option.some.inj e
    subst e'
    exact ⟨q, rfl, h.1⟩
  | _ :: ls, _ :: ch, j + 1, v, h, e => LsR.get (j := j) h.2 e
theorem LsR.length {CP : Addr} {H : Hp} : ∀ {ls : List (Key × V)} {ch : List (Int × Option Pg)}, LsR CP H ls ch → ls.length = ch.length
  | [], [], _ => rfl
  | _ :: _, _ :: _, h => congrArg (· + 1) (LsR.length h.2)
theorem LsR.snoc {CP : Addr} {H : Hp} {kv : Key × V} {q : Int × Option Pg} (h0 : kv.1 = Sum.inl q.1) (hv : PgV CP H kv.2 q.2) : ∀ {ls : List (Key × V)} {ch : List (Int × Option Pg)}, LsR CP H ls ch → LsR CP H (ls ++ [kv]) (ch ++ [q])
  | [], [], _ => ⟨⟨h0, hv⟩, True.intro⟩
  | _ :: _, _ :: _, h => ⟨h.1, LsR.snoc h0 hv h.2⟩
theorem appT_snoc (P : Tb) (ch : List (Int × Option Pg)) (q : Int × Option Pg) : appT P (ch ++ [q]) = setT (appT P ch) q.1 q.2 := by
  unfold appT
  rw [List.foldl_append]
  rfl
theorem take_succ {α : Type} {l : List α} {j : Nat} {x : α} (h : l[j]? = some x) : l.take (j + 1) = l.take j ++ [x] := by
  rw [List.take_succ, h]
  rfl
theorem setTab_two (S : Sys) (i : Int) (a b : Option Tb) : (S.setTab i a).setTab i b = S.setTab i b := by
  show ({ S with tabs := fun j => if j = i then b else if j = i then a else S.tabs j } : Sys) = { S with tabs := fun j => if j = i then b else S.tabs j }
  congr 1
  funext j
  by_cases e : j = i
  · rw [if_pos e, if_pos e]
  · rw [if_neg e, if_neg e, if_neg e]
theorem setTab_at (S : Sys) (i : Int) (a : Option Tb) : (S.setTab i a).tabs i = a := if_pos rfl
theorem setTab_ne {S : Sys} {i j : Int} {a : Option Tb} (h : j ≠ i) : (S.setTab i a).tabs j = S.tabs j := if_neg h
theorem setTab_id {S : Sys} {i : Int} {P : Tb} (h : S.tabs i = some P) : S.setTab i (some P) = S := by
  show ({ S with tabs := fun j => if j = i then some P else S.tabs j } : Sys) = S
  have : (fun j => if j = i then some P else S.tabs j) = S.tabs := by
    funext j
    by_cases e : j = i
    · rw [if_pos e, e, h]
    · rw [if_neg e]
  rw [this]
def cO (k i : Int) : Option Tb → Nat
  | some P => cntT P k i
  | none => 0
theorem cntS_eq (S : Sys) (k i : Int) : cntS S k i = sumN 1001 fun j => cO k i (S.tabs j) := by
  unfold cntS
  congr 1
theorem cntS_set {S : Sys} {i : Int} {a : Option Tb} (h0 : 0 ≤ i) (h1 : i ≤ 1000) (k m : Int) : cntS (S.setTab i a) k m + cO k m (S.tabs i) = cntS S k m + cO k m a := by
  rw [cntS_eq, cntS_eq]
  have := sumN_upd (n := 1001) (g := fun j => cO k m (S.tabs j)) (h := fun j => cO k m ((S.setTab i a).tabs j)) (i := i) h0 (by omega) (fun j hj => by simp only [setTab_ne hj])
  simp only [setTab_at] at this
  exact this
theorem cntS_app {S : Sys} {i : Int} {P : Tb} {ch : List (Int × Option Pg)} (h0 : 0 ≤ i) (h1 : i ≤ 1000) (e : S.tabs i = some P) (nd : (ch.map (·.1)).Nodup) (hb : ∀ q ∈ ch, 0 ≤ q.1 ∧ q.1 < 512) (k m : Int) :
    cntS S k m + occ (ch.filterMap (·.2)) k m - occ (ch.filterMap fun q => P q.1) k m = cntS (S.setTab i (some (appT P ch))) k m ∧ occ (ch.filterMap fun q => P q.1) k m ≤ cntS S k m := by
  have a := cntS_set (S := S) (a := some (appT P ch)) h0 h1 k m
  have b := appT_cnt ch P nd hb k m
  have c := occ_old ch P nd hb k m
  have d : cntT P k m ≤ cntS S k m := by
    have := cntS_set (S := S) (a := none) h0 h1 k m
    rw [e] at this
    simp only [cO] at this
    omega
  rw [e] at a
  simp only [cO] at a
  omega
theorem occ_le_take (L : List Pg) (j : Nat) (k i : Int) : occ (L.take j) k i ≤ occ L k i := by
  have : occ L k i = occ (L.take j) k i + occ (L.drop j) k i := by rw [← occ_append, List.take_append_drop]
  omega
end My
namespace My
open PySem L2
theorem tab_put {CP : Addr} {H : Hp} {d : Addr} {P : Tb} {kvs : List (Key × V)} {f : Int → Option V} {n : Int} {p : Addr} {g : Pg} (hd : H d = some (.dK kvs)) (di : DI kvs f) (pg : ∀ i, PgO CP H i (f i) (P i)) (b : 0 ≤ n ∧ n < 512) (wf : WfP g) (hp : PgR CP H p g) :
    TabR CP (upd H d (.dK (putK kvs (Sum.inl n) (.ref p)))) d (setT P n (some g)) := by
  have im : ImmK H (upd H d (.dK (putK kvs (Sum.inl n) (.ref p)))) := ImmK.upd hd rfl
  refine ⟨_, _, upd_same, di.put n _, fun i => ?_⟩
  by_cases e : i = n
  · subst e
    simp only [setT, if_pos]
    exact ⟨b, wf, p, rfl, hp.keep im⟩
  · simp only [setT, if_neg e]
    exact (pg i).keep im
theorem tab_drop {CP : Addr} {H : Hp} {d : Addr} {P : Tb} {kvs : List (Key × V)} {f : Int → Option V} {n : Int} (hd : H d = some (.dK kvs)) (di : DI kvs f) (pg : ∀ i, PgO CP H i (f i) (P i)) :
    TabR CP (upd H d (.dK (dropK kvs (Sum.inl n)))) d (setT P n none) := by
  have im : ImmK H (upd H d (.dK (dropK kvs (Sum.inl n)))) := ImmK.upd hd rfl
  refine ⟨_, _, upd_same, di.drop n, fun i => ?_⟩
  by_cases e : i = n
  · subst e
    simp only [setT, if_pos]
    exact True.intro
  · simp only [setT, if_neg e]
    exact (pg i).keep im
theorem setT_none {P : Tb} {n : Int} (h : P n = none) : setT P n none = P := by
  funext j
  show (if j = n then none else P j) = P j
  by_cases e : j = n
  · rw [if_pos e, e, h]
  · rw [if_neg e]
theorem PgO.none_iff {CP : Addr} {H : Hp} {i : Int} {v : Option V} {g : Option Pg} (h : PgO CP H i v g) : v = none ↔ g = none := by
  match v, g, h with
  | none, none, _ => exact ⟨fun _ => rfl, fun _ => rfl⟩
  | some v, some g, _ => exact ⟨fun z => (nomatch z), fun z => (nomatch z)⟩
end My
namespace My
open PySem L2
/-- whether a value is one of some texts -/
def isW (xs : List V) (v : V) : Bool := isS v && inV v xs
abbrev FO : List V := [.str "file", .str "object"]
def SrcC (NP NF : Addr) (H : Hp) (fls : Str → Bool) (cnt : Int → Int → Nat) (sov : V) (sh : Bool) (E : XK) (K : Src → Prop) : Prop :=
  (sov = .non → K .non) ∧ ((sov ≠ .non ∧ ¬ ∃ a k nm, sov = .ref a ∧ H a = some (.tup [k, nm])) → Rz NP "part" (.str "source") H E) ∧
  ∀ a kd nm, sov = .ref a → H a = some (.tup [kd, nm]) → AnyV H kd ∧ AnyV H nm ∧ (isW FO kd = false → Rz NP "part" (.str "source") H E) ∧
    (kd = .str "file" → (∀ n, nm = .str n → fls n = true → K (.file n)) ∧ ((∀ n, nm = .str n → fls n = false) → Rz NF "name" nm H E)) ∧
    (kd = .str "object" → (∀ j, nm = .int j → sh = true → (∃ i, cnt j i ≠ 0) → K (.obj j)) ∧ (¬ (sh = true ∧ ∃ j, nm = .int j ∧ ∃ i, cnt j i ≠ 0) → Rz NP "part" (.str "source") H E))
theorem SrcC.mono {NP NF : Addr} {H : Hp} {fls : Str → Bool} {cnt : Int → Int → Nat} {sov : V} {sh : Bool} {E : XK} {K K' : Src → Prop} (h : SrcC NP NF H fls cnt sov sh E K)
    (k : ∀ s, srcR H sov s → (∀ j, s = .obj j → sh = true ∧ ∃ i, cnt j i ≠ 0) → (∀ n, s = .file n → fls n = true) → K s → K' s) : SrcC NP NF H fls cnt sov sh E K' := by
  obtain ⟨h1, h2, h3⟩ := h
  refine ⟨fun e => k _ e (fun j z => by cases z) (fun j z => by cases z) (h1 e), h2, fun a kd nm e1 e2 => ?_⟩
  obtain ⟨a1, a2, a3, a4, a5⟩ := h3 a kd nm e1 e2
  refine ⟨a1, a2, a3, fun e => ⟨fun n en hn => ?_, (a4 e).2⟩, fun e => ⟨fun j ej hs hc => ?_, (a5 e).2⟩⟩
  · refine k (.file n) ⟨a, e1, ?_⟩ (fun j z => by cases z) (fun j z => by cases z; exact hn) ((a4 e).1 n en hn)
    rw [e2, e, en]
  · refine k (.obj j) ⟨a, e1, ?_⟩ (fun j' z => ?_) (fun j z => by cases z) ((a5 e).1 j ej hs hc)
    · rw [e2, e, ej]
    · cases z
      exact ⟨hs, hc⟩
theorem SrcC.same {NP NF : Addr} {H H' : Hp} {fls : Str → Bool} {cnt : Int → Int → Nat} {sov : V} {sh : Bool} {E : XK} {K : Src → Prop} (h : SrcC NP NF H fls cnt sov sh E K) (s : Same H H') (ha : AnyV H sov) : SrcC NP NF H' fls cnt sov sh E K := by
  obtain ⟨h1, h2, h3⟩ := h
  have back : ∀ {a : Addr} {xs : List V}, sov = .ref a → H' a = some (.tup xs) → H a = some (.tup xs) := fun e e' => by
    subst e
    cases ha with
    | lst z => rw [s _ _ z] at e'; cases e'
    | tup z => rw [s _ _ z] at e'; cases e'; exact z
    | dK z => rw [s _ _ z] at e'; cases e'
  refine ⟨h1, fun z => (h2 ⟨z.1, fun ⟨a, k, nm, e1, e2⟩ => z.2 ⟨a, k, nm, e1, s _ _ e2⟩⟩).same s, fun a kd nm e1 e2 => ?_⟩
  obtain ⟨a1, a2, a3, a4, a5⟩ := h3 a kd nm e1 (back e1 e2)
  exact ⟨a1.same s, a2.same s, fun z => (a3 z).same s, fun e => ⟨(a4 e).1, fun z => ((a4 e).2 z).same s⟩, fun e => ⟨(a5 e).1, fun z => ((a5 e).2 z).same s⟩⟩
theorem LsR.val_none {CP : Addr} {H : Hp} {n : Int} : ∀ {ls : List (Key × V)} {ch : List (Int × Option Pg)}, LsR CP H ls ch → (∀ q ∈ ch, q.1 ≠ n) → valV ls (Sum.inl n) = none
  | [], [], _, _ => rfl
  | kv :: ls, q :: ch, h, hn => by
    rw [valV_neg (fun e => hn q List.mem_cons_self (by rw [h.1.1] at e; exact Sum.inl.inj e))]
    exact LsR.val_none h.2 fun z hz => hn z (List.mem_cons_of_mem _ hz)
theorem cntS_tabs {S S' : Sys} (e : S.tabs = S'.tabs) : cntS S = cntS S' := by
  unfold cntS
  rw [e]
theorem SyA.cntPos {CS CP CH : Addr} {H : Hp} {x : Addr} {w : Wh} {S : Sys} {τ : Tm} {cnt : Int → Int → Nat} (h : SyA CS CP CH H x w S τ cnt) {k i : Int} (c : cnt k i ≠ 0) : 1 ≤ k ∧ k ≤ S.o := by
  obtain ⟨kvs, f, h1, h2, h3⟩ := h.obs
  have z := h3 k
  cases e : f k with
  | none => rw [e] at z; exact absurd (z i) c
  | some v => rw [e] at z; exact z.1
end My
namespace My
open PySem L2
/-- a page laid anew by its __init__ -/
theorem same_made {H1 H2 : Hp} {y dy : Addr} {o u : HO} (hy : H1 y = none) (hdy : H1 dy = none) (b2 : But y (upd (upd H1 dy o) y u) H2) : Same H1 H2 := fun b o' ho => by
  refine b2 b o' (ne_of_none ho hy) ?_
  rw [upd_ne (ne_of_none ho hy), upd_ne (ne_of_none ho hdy)]
  exact ho
end My
namespace My
open PySem L2
/-- a page's object is known -/
theorem SyA.pgOb {CS CP CH : Addr} {H : Hp} {x : Addr} {w : Wh} {S : Sys} {τ : Tm} (h : SyR CS CP CH H x w S τ) {i : Int} {T : Tb} (e : S.tabs i = some T) {n : Int} {g : Pg} (eg : T n = some g) {j : Int} (ej : g.src = .obj j) : 1 ≤ j ∧ j ≤ S.o := by
  obtain ⟨d, hd⟩ := h.living e
  obtain ⟨bi, _, kvs, f, _, _, pg⟩ := h.tabE hd e
  have z := pg n
  rw [eg] at z
  cases ev : f n with
  | none => rw [ev] at z; exact z.elim
  | some v =>
    rw [ev] at z
    obtain ⟨⟨n0, n1⟩, wf, _⟩ := z
    obtain ⟨ix, ei, _⟩ := wf.ix (by rw [ej]; simp)
    refine h.cntPos (k := j) (i := ix) ?_
    have a := cntS_set (S := S) (a := none) (i := i) (by omega) (by have := h.bp.2; omega) j ix
    rw [e] at a
    simp only [cO] at a
    have b : 0 < cntT T j ix := by
     unfold cntT
     exact sumN_pos.mpr ⟨n, n0, by omega, by rw [eg, cntO_is (wf.ob j ej) ej ei, if_pos ⟨rfl, rfl⟩]; exact Nat.one_pos⟩
    omega
/-- a dict comprehension over a walk -/
theorem dc_walk {J : It} {n : Nat} {G : Hp → Prop} {Y : Nat → Hp → V → Hp → Prop} (w : Walk J n G Y) {g : TG} {tt : TT} {tk tv : TE} {vs : List Nat} {σ : St} {H1 : Hp} {D : Addr} {Qd : Hp → Prop} (Pv : Nat → Hp → Prop) (start : Pv 0 (upd H1 D (.dK [])))
    (stands : ∀ i H, i ≤ n → Pv i H → G H) (turn : ∀ i x H H', i < n → Pv i H → Y i H x H' → g x (wipe σ vs) H' fun σ2 H2 => wipe σ2 vs = wipe σ vs ∧ tt σ2 H2 fun b H3 =>
      if b = true then tk σ2 H3 fun y H4 => tv σ2 H4 fun z H5 => ∃ kvs k, y = kV k ∧ H5 D = some (.dK kvs) ∧ kvs.length < sizeLine ∧ Pv (i + 1) (upd H5 D (.dK (putK kvs k z))) else Pv (i + 1) H3) (done_ : ∀ H, Pv n H → Qd H) :
    ∃ W : Nat → Nat → Hp → Prop, (∃ m, W 0 m (upd H1 D (.dK []))) ∧ ∀ i m H, W i m H → (J.stop i H ∧ Qd H) ∨ (J.go i H ∧ ∃ Nx : Hp → Prop, (∀ H', Nx H' → ∃ m', m' < m ∧ W (i + 1) m' H') ∧ ∀ x H', J.yld i H x H' → g x (wipe σ vs) H' fun σ2 H2 => wipe σ2 vs = wipe σ vs ∧ tt σ2 H2 fun b H3 =>
      if b = true then tk σ2 H3 fun y H4 => tv σ2 H4 fun z H5 => ∃ kvs k, y = kV k ∧ H5 D = some (.dK kvs) ∧ kvs.length < sizeLine ∧ Nx (upd H5 D (.dK (putK kvs k z))) else Nx H3) := by
  refine ⟨fun i m H => i + m = n ∧ Pv i H, ⟨n, Nat.zero_add n, start⟩, fun i m H ⟨e, pv'⟩ => ?_⟩
  have st := stands i H (by omega) pv'
  cases m with
  | zero =>
    have ei : i = n := by omega
    subst ei
    exact .inl ⟨w.stops H st, done_ H pv'⟩
  | succ m =>
    have lt : i < n := by omega
    exact .inr ⟨w.goes i H lt st, Pv (i + 1), fun H' z => ⟨m, Nat.lt_succ_self m, by omega, z⟩, fun x H' y => turn i x H H' lt pv' (w.yields i H x H' lt st y)⟩
end My
namespace My
open PySem L2
def RowR (H : Hp) (v : V) (q : (Int × Int) × Pg) : Prop := ∃ t sv fa, v = .ref t ∧ H t = some (.tup [.int q.1.1, .int q.1.2, .str q.2.r, .bl q.2.sh, sv, ixV q.2.ix, .ref fa]) ∧ srcR H sv q.2.src ∧ H fa = some (.tup ((flL q.2.fl).map V.str))
def RowsR (H : Hp) : List V → List ((Int × Int) × Pg) → Prop
  | [], [] => True
  | v :: vs, q :: qs => RowR H v q ∧ RowsR H vs qs
  | _, _ => False
theorem RowR.keep {H H' : Hp} {v : V} {q : (Int × Int) × Pg} (k : ImmK H H') (h : RowR H v q) : RowR H' v q := by
  obtain ⟨t, sv, fa, e, e1, e2, e3⟩ := h
  exact ⟨t, sv, fa, e, k _ _ e1 rfl, e2.keep k, k _ _ e3 rfl⟩
theorem RowsR.keep {H H' : Hp} (k : ImmK H H') : ∀ {vs : List V} {qs : List ((Int × Int) × Pg)}, RowsR H vs qs → RowsR H' vs qs
  | [], [], _ => True.intro
  | _ :: _, _ :: _, h => ⟨h.1.keep k, RowsR.keep k h.2⟩
theorem RowsR.snoc {H : Hp} {v : V} {q : (Int × Int) × Pg} (hv : RowR H v q) : ∀ {vs : List V} {qs : List ((Int × Int) × Pg)}, RowsR H vs qs → RowsR H (vs ++ [v]) (qs ++ [q])
  | [], [], _ => ⟨hv, True.intro⟩
  | _ :: _, _ :: _, h => ⟨h.1, RowsR.snoc hv h.2⟩
theorem RowsR.length {H : Hp} : ∀ {vs : List V} {qs : List ((Int × Int) × Pg)}, RowsR H vs qs → vs.length = qs.length
  | [], [], _ => rfl
  | _ :: _, _ :: _, h => congrArg (· + 1) (RowsR.length h.2)
theorem RowsR.get {H : Hp} : ∀ {vs : List V} {qs : List ((Int × Int) × Pg)} {j : Nat} {v : V}, RowsR H vs qs → vs[j]? = some v → ∃ q, qs[j]? = some q ∧ RowR H v q
  | _ :: _, q :: _, 0, _, h, e => by
    have e' := Option.some.inj e
    subst e'
    exact ⟨q, rfl, h.1⟩
  | _ :: vs, _ :: qs, j + 1, v, h, e => RowsR.get (j := j) h.2 e
/-- two-item lists, each at its own place -/
def PrR (H : Hp) : List Addr → List (Int × Int) → Prop
  | [], [] => True
  | p :: ps, q :: qs => H p = some (.lst [.int q.1, .int q.2]) ∧ PrR H ps qs
  | _, _ => False
theorem PrR.keep {H H' : Hp} : ∀ {ps : List Addr} {qs : List (Int × Int)}, PrR H ps qs → (∀ p ∈ ps, ∀ o, H p = some o → H' p = some o) → PrR H' ps qs
  | [], [], _, _ => True.intro
  | p :: _, _ :: _, h, k => ⟨k p List.mem_cons_self _ h.1, PrR.keep h.2 fun p' hp' => k p' (List.mem_cons_of_mem _ hp')⟩
theorem PrR.snoc {H : Hp} {p : Addr} {q : Int × Int} (hv : H p = some (.lst [.int q.1, .int q.2])) : ∀ {ps : List Addr} {qs : List (Int × Int)}, PrR H ps qs → PrR H (ps ++ [p]) (qs ++ [q])
  | [], [], _ => ⟨hv, True.intro⟩
  | _ :: _, _ :: _, h => ⟨h.1, PrR.snoc hv h.2⟩
theorem PrR.length {H : Hp} : ∀ {ps : List Addr} {qs : List (Int × Int)}, PrR H ps qs → ps.length = qs.length
  | [], [], _ => rfl
  | _ :: _, _ :: _, h => congrArg (· + 1) (PrR.length h.2)
theorem PrR.get {H : Hp} : ∀ {ps : List Addr} {qs : List (Int × Int)} {j : Nat} {p : Addr}, PrR H ps qs → ps[j]? = some p → ∃ q, qs[j]? = some q ∧ H p = some (.lst [.int q.1, .int q.2])
  | _ :: _, q :: _, 0, _, h, e => by
    have e' := Option.some.inj e
    subst e'
    exact ⟨q, rfl, h.1⟩
  | _ :: ps, _ :: qs, j + 1, v, h, e => PrR.get (j := j) h.2 e
end My
namespace My
open PySem L2
/-- a test that leaves the heap as it was but for new things -/
theorem tIfS_s {c : TT} {t u : TS} {D : Ends} {σ : St} {H : Hp} {b : Bool} (hc : ∀ Q' : Bool → Hp → Prop, (∀ H', Same H H' → Q' b H') → c σ H Q') (h1 : b = true → ∀ H', Same H H' → t D σ H')
    (h2 : b = false → ∀ H', Same H H' → u D σ H') : tIfS c t u D σ H :=
  hc _ fun H' s => iteB (fun e => h1 e H' s) (fun e => h2 e H' s)
end My
namespace My
open PySem L2
def S0 : Sys := ⟨0, 0, 0, fun _ => none, fun _ => false⟩
theorem cntS_S0 (k i : Int) : cntS S0 k i = 0 := by
  rw [cntS_eq]
  exact sumN_zero.mpr fun j _ _ => rfl
end My
namespace My
open PySem L2
def childG (g : Pg) : Option Pg := if g.fl.s = true then none else some g
def childT (T : Tb) : Tb := fun n => (T n).bind childG
def forkS (S : Sys) (T : Tb) : Sys := { (newS' S T) with n := S.n + 1 }
where newS' (S : Sys) (T : Tb) : Sys := { S with p := S.p + 1, tabs := fun j => if j = S.p + 1 then some (childT T) else S.tabs j }
def endS (S : Sys) (i : Int) : Sys := { S.setTab i none with n := S.n + 1 }
def freshS (S : Sys) (i : Int) : Sys := { S.setTab i (some fun _ => none) with n := S.n + 1 }
/-- changes made of a dict's keys -/
def keyCh (F : Int → Option (Option Pg)) (ks : List Int) : List (Int × Option Pg) := ks.filterMap fun n => (F n).map fun x => (n, x)
theorem keyCh_mem {F : Int → Option (Option Pg)} {ks : List Int} {q : Int × Option Pg} (h : q ∈ keyCh F ks) : q.1 ∈ ks ∧ F q.1 = some q.2 := by
  obtain ⟨n, hn, e⟩ := List.mem_filterMap.mp h
  cases ef : F n with
  | none => rw [ef] at e; cases e
  | some x =>
    rw [ef] at e
    cases e
    exact ⟨hn, ef⟩
theorem keyCh_in {F : Int → Option (Option Pg)} {ks : List Int} {n : Int} {x : Option Pg} (h : n ∈ ks) (e : F n = some x) : (n, x) ∈ keyCh F ks := List.mem_filterMap.mpr ⟨n, h, by rw [e]; rfl⟩
theorem keyCh_nod {F : Int → Option (Option Pg)} : ∀ {ks : List Int}, ks.Nodup → ((keyCh F ks).map (·.1)).Nodup
  | [], _ => List.nodup_nil
  | n :: r, nd => by
    rw [List.nodup_cons] at nd
    have ih := keyCh_nod (F := F) nd.2
    unfold keyCh at ih ⊢
    rw [List.filterMap_cons]
    cases ef : F n with
    | none => exact ih
    | some x =>
      show (((n, x) :: List.filterMap _ r).map (·.1)).Nodup
      rw [List.map_cons, List.nodup_cons]
      refine ⟨fun hm => ?_, ih⟩
      obtain ⟨q, hq, e⟩ := List.mem_map.mp hm
      have := (keyCh_mem (F := F) hq).1
      simp only at e
      rw [e] at this
      exact nd.1 this
theorem keyCh_snoc (F : Int → Option (Option Pg)) (ks : List Int) (n : Int) : keyCh F (ks ++ [n]) = keyCh F ks ++ (match F n with | some x => [(n, x)] | none => []) := by
  unfold keyCh
  rw [List.filterMap_append]
  congr 1
  rw [List.filterMap_cons, List.filterMap_nil]
  cases F n <;> rfl
theorem keyCh_length (F : Int → Option (Option Pg)) (ks : List Int) : (keyCh F ks).length ≤ ks.length := List.length_filterMap_le _ _
theorem appT_key {F : Int → Option (Option Pg)} {ks : List Int} (nd : ks.Nodup) (P : Tb) (n : Int) : appT P (keyCh F ks) n = if n ∈ ks then (F n).getD (P n) else P n := by
  by_cases h : n ∈ ks
  · rw [if_pos h]
    cases ef : F n with
    | none =>
      rw [appT_out fun q hq e => ?_]
      · rfl
      · have := (keyCh_mem hq).2
        rw [e, ef] at this
        cases this
    | some x => exact appT_in (keyCh_nod nd) (keyCh_in h ef)
  · rw [if_neg h]
    exact appT_out fun q hq e => h (by rw [← e]; exact (keyCh_mem hq).1)
section
variable {CS CP CH : Addr} {H H' : Hp} {x : Addr} {w : Wh} {S : Sys} {τ : Tm} {cnt : Int → Int → Nat}
/-- a table is taken away -/
theorem SyA.dropTab (h : SyA CS CP CH H x w S τ cnt) {i : Int} {kvs : List (Key × V)} (e : H w.t = some (.dK kvs)) : SyA CS CP CH (upd H w.t (.dK (dropK kvs (Sum.inl i)))) x w (S.setTab i none) τ cnt := by
  have im : ImmK H (upd H w.t (.dK (dropK kvs (Sum.inl i)))) := ImmK.upd e rfl
  have at_ : ∀ {b : Addr} {g : Tag}, τ b = some g → g ≠ .tabs → (upd H w.t (.dK (dropK kvs (Sum.inl i)))) b = H b := fun t n => upd_ne (ne_tag t h.tt n)
  refine ⟨(at_ h.tx (by simp)).trans h.hx, h.tx, h.tt, h.to, h.tg, h.tf, ?_, ?_, (at_ h.tg (by simp)).trans h.ogs, ?_, h.bp, h.bo, fun b g e' => ?_, h.his.keep (fun b g t c o e => by rw [at_ t (by rcases c with c | c | c <;> rw [c] <;> simp)]; exact e) (fun b g t => t)⟩
  · obtain ⟨kv, f, h1, h2, h3⟩ := h.tabs
    rw [e] at h1
    cases h1
    refine ⟨_, _, upd_same, h2.drop i, fun j => ?_⟩
    by_cases ej : j = i
    · subst ej
      simp only [if_pos]
      show TbO CP _ τ S.p j none (if j = j then none else S.tabs j)
      rw [if_pos rfl]
      exact True.intro
    · simp only [if_neg ej]
      show TbO CP _ τ S.p j (f j) (if j = i then none else S.tabs j)
      rw [if_neg ej]
      exact (h3 j).keep im (fun d td _ => ⟨at_ td (by simp), rfl⟩) (Int.le_refl _)
  · obtain ⟨kvs, f, h1, h2, h3⟩ := h.obs
    exact ⟨kvs, f, (at_ h.to (by simp)).trans h1, h2, fun i => (h3 i).keep (fun d td _ => ⟨at_ td (by simp), rfl⟩) (Int.le_refl _)⟩
  · obtain ⟨kvs, h1, h2⟩ := h.fis
    exact ⟨kvs, (at_ h.tf (by simp)).trans h1, h2⟩
  · rcases h.own b g e' with z | ⟨o, z1, z2⟩
    · exact .inl z
    · by_cases bx : b = w.t
      · rw [bx]; exact .inr ⟨_, upd_same, rfl⟩
      · exact .inr ⟨o, by rw [upd_ne bx]; exact z1, z2⟩
end
theorem cntS_drop {S : Sys} {i : Int} (h0 : 0 ≤ i) (h1 : i ≤ 1000) (e : S.tabs i = some fun _ => none) (k m : Int) : cntS (S.setTab i none) k m = cntS S k m := by
  have a := cntS_set (S := S) (a := none) h0 h1 k m
  rw [e] at a
  have b : cO k m (some fun _ => none) = 0 := cntT_none k m
  rw [b] at a
  simp only [cO] at a
  omega
/-- two systems with the same tables behind them -/
theorem SyA.tabsEq {CS CP CH : Addr} {H : Hp} {x : Addr} {w : Wh} {S S' : Sys} {τ : Tm} (h : SyR CS CP CH H x w S τ) (e : S = S') : SyR CS CP CH H x w S' τ := by rw [← e]; exact h
/-- the list of the locked items is a new one -/
theorem SyA.putHis {CS CP CH : Addr} {H : Hp} {x : Addr} {w : Wh} {S : Sys} {τ : Tm} {cnt : Int → Int → Nat} (h : SyA CS CP CH H x w S τ cnt) {dh dh' lk lk' : Addr} {y y' : Nat → V} (e : H w.hi = some (.ins CH dh (hisF w.ro lk y))) (hl : H lk' = some (.lst [])) (tl : τ lk' = none) :
    SyA CS CP CH (upd H w.hi (.ins CH dh' (hisF w.ro lk' y'))) x w S (setTag τ lk' .lks) cnt := by
  have th := h.his.th
  have tr := h.his.tr
  have ne : ∀ {b : Addr} {g : Tag}, τ b = some g → b ≠ lk' := fun t z => by rw [z, tl] at t; cases t
  have tg : ∀ {b : Addr} {g : Tag}, τ b = some g → setTag τ lk' .lks b = some g := fun t => by rw [setTag_ne (ne t)]; exact t
  have at_ : ∀ {b : Addr} {g : Tag}, τ b = some g → g ≠ .his → (upd H w.hi (.ins CH dh' (hisF w.ro lk' y'))) b = H b := fun t n => upd_ne (ne_tag t th n)
  have im : ImmK H (upd H w.hi (.ins CH dh' (hisF w.ro lk' y'))) := ImmK.upd e rfl
  have hlk : (upd H w.hi (.ins CH dh' (hisF w.ro lk' y'))) lk' = some (.lst []) := by rw [upd_ne (ne th).symm]; exact hl
  refine ⟨(at_ h.tx (by simp)).trans h.hx, tg h.tx, tg h.tt, tg h.to, tg h.tg, tg h.tf, ?_, ?_, (at_ h.tg (by simp)).trans h.ogs, ?_, h.bp, h.bo, fun b g e' => ?_, ⟨⟨dh', lk', y', upd_same, hlk, setTag_same⟩, (at_ tr (by simp)).trans h.his.ro, tg th, tg tr⟩⟩
  · obtain ⟨kvs, f, h1, h2, h3⟩ := h.tabs
    exact ⟨kvs, f, (at_ h.tt (by simp)).trans h1, h2, fun j => (h3 j).keep im (fun d td _ => ⟨at_ td (by simp), (tg td).trans td.symm⟩) (Int.le_refl _)⟩
  · obtain ⟨kvs, f, h1, h2, h3⟩ := h.obs
    exact ⟨kvs, f, (at_ h.to (by simp)).trans h1, h2, fun j => (h3 j).keep (fun d td _ => ⟨at_ td (by simp), (tg td).trans td.symm⟩) (Int.le_refl _)⟩
  · obtain ⟨kvs, h1, h2⟩ := h.fis
    exact ⟨kvs, (at_ h.tf (by simp)).trans h1, h2⟩
  · by_cases bl : b = lk'
    · exact .inr ⟨_, by rw [bl]; exact hlk, rfl⟩
    · rw [setTag_ne bl] at e'
      rcases h.own b g e' with z | ⟨o, z1, z2⟩
      · exact .inl z
      · by_cases bx : b = w.hi
        · rw [bx]; exact .inr ⟨_, upd_same, rfl⟩
        · exact .inr ⟨o, by rw [upd_ne bx]; exact z1, z2⟩
theorem SyA.goHis {CS CP CH : Addr} {H H1 : Hp} {x : Addr} {w : Wh} {S : Sys} {τ : Tm} {cnt : Int → Int → Nat} (h : SyA CS CP CH H x w S τ cnt) {dh dh' lk lk' : Addr} {y y' : Nat → V} (s1 : Same H H1) (e : H w.hi = some (.ins CH dh (hisF w.ro lk y))) (h0 : H lk' = none) (hl : H1 lk' = some (.lst [])) :
    Go τ H (setTag τ lk' .lks) (upd H1 w.hi (.ins CH dh' (hisF w.ro lk' y'))) := by
  have th := h.his.th
  refine ⟨fun b o n eb => ?_, fun b => ?_, fun b xs eb => ?_⟩
  · rw [upd_ne (fun z => by rw [z, th] at n; cases n)]
    exact s1 _ _ eb
  · by_cases z : b = lk'
    · rw [z]; exact .inr ⟨h.fresh h0, h0⟩
    · exact .inl (setTag_ne z)
  · rw [upd_ne (fun z => by rw [z, e] at eb; cases eb)]
    exact s1 _ _ eb
end My
set_option Elab.async false
set_option linter.all false
set_option maxRecDepth 100000
set_option maxHeartbeats 4000000
namespace My
open PySem L2
local macro_rules | `(tactic| walk_at "ds") => `(tactic| dsimp only [tSeq, tIfS, tTest, tB, tAnd, tOr, tNot, tAndV, tOrV, tNotV, tIf, tIsN, tNotN, tOp, tUn, tChain, rI, rI0, rU, tC, tCB, tCons, tNil, tAsg, gName, gSub, tRet, tRetN, tNext, tDrop, tLst, tTup, rIxL, rIxT, rSetL, tVar, tFld, tCall, tDGet, tDIn, tDNotIn, tNever, L2.start, List.map, List.replicate, List.length, List.append, List.cons_append, List.nil_append, List.set, Nat.sub])
local macro_rules | `(tactic| walk_at "hp") => `(tactic| first | assumption | exact upd_same | (refine Eq.trans (upd_ne (by first | assumption | (apply Ne.symm; assumption))) ?_; walk_at "hp"))
local macro_rules | `(tactic| walk_at "sd") => `(tactic| first
  | (show (_ : Int) ≠ 0; omega)
  | (refine (show CDivN _ _ from ⟨?_, ?_⟩) <;> omega)
  | (show CPow _ _; refine ⟨by omega, by omega, by omega⟩)
  | (show CMul _ _; exact Or.inl ⟨by omega, by omega⟩)
  | (show CMul _ _; exact Or.inr ⟨by omega, by omega⟩))
local macro_rules | `(tactic| walk_at "st") => `(tactic| first
  | refine ⟨_, rfl, ?_⟩
  | refine ⟨_, _, rfl, rfl, (by walk_at "sd"), ?_⟩
  | refine ⟨_, _, rfl, rfl, ?_⟩
  | refine ⟨_, _, _, _, rfl, rfl, SqL.of (by walk_at "hp"), rfl, ?_⟩
  | refine ⟨_, _, _, _, rfl, rfl, (by walk_at "hp"), rfl, ?_⟩
  | refine .inl ⟨_, rfl, ?_⟩
  | refine ⟨_, _, _, _, _, rfl, (by walk_at "hp"), (by assumption), (by assumption), rfl, ?_⟩
  | refine ⟨_, _, rfl, .inl (SqL.of (by walk_at "hp")), ?_⟩)
local macro_rules | `(tactic| walk_at "go") => `(tactic| repeat (first | walk_at "st" | (walk_at "ds"; walk_at "st")))
local macro_rules | `(tactic| walk_at "ni") => `(tactic| dsimp (config := { proj := false }) only [tNil, List.cons_append, List.nil_append])
def top (i : Nat) : Stmt := PySem.Challenge.pw_pageclass_k01_systems_and_processes.main.body.getD i (.Pass ⟨0, 0, 0, 0⟩)
abbrev s_NoSystem_init : Stmt := inClass (top 3) 0
abbrev n_NoSystem_init : List Str := ["self", "part"]
abbrev p_NoSystem_init : List Str := ["self", "part"]
theorem sc_NoSystem_init : FnScope n_NoSystem_init p_NoSystem_init (defScope s_NoSystem_init) := ⟨rfl, rfl, rfl, by decide +kernel, rfl, by decide +kernel, by decide +kernel⟩
abbrev s_NoProcess_init : Stmt := inClass (top 4) 0
abbrev n_NoProcess_init : List Str := ["self", "process"]
abbrev p_NoProcess_init : List Str := ["self", "process"]
theorem sc_NoProcess_init : FnScope n_NoProcess_init p_NoProcess_init (defScope s_NoProcess_init) := ⟨rfl, rfl, rfl, by decide +kernel, rfl, by decide +kernel, by decide +kernel⟩
abbrev s_Page_init : Stmt := inClass (top 8) 0
abbrev n_Page_init : List Str := ["self", "rights", "shared", "source", "index", "flags", "held", "stamp"]
abbrev p_Page_init : List Str := ["self", "rights", "shared", "source", "index", "flags", "held", "stamp"]
theorem sc_Page_init : FnScope n_Page_init p_Page_init (defScope s_Page_init) := ⟨rfl, rfl, rfl, by decide +kernel, rfl, by decide +kernel, by decide +kernel⟩
abbrev s_History_init : Stmt := inClass (top 17) 0
abbrev n_History_init : List Str := ["self"]
abbrev p_History_init : List Str := ["self"]
theorem sc_History_init : FnScope n_History_init p_History_init (defScope s_History_init) := ⟨rfl, rfl, rfl, by decide +kernel, rfl, by decide +kernel, by decide +kernel⟩
abbrev s_System_init : Stmt := inClass (top 44) 0
abbrev n_System_init : List Str := ["self", "frames", "slots", "strict"]
abbrev p_System_init : List Str := ["self", "frames", "slots", "strict"]
theorem sc_System_init : FnScope n_System_init p_System_init (defScope s_System_init) := ⟨rfl, rfl, rfl, by decide +kernel, rfl, by decide +kernel, by decide +kernel⟩
abbrev s_with_flags : Stmt := top 9
abbrev n_with_flags : List Str := ["page", "flags"]
abbrev p_with_flags : List Str := ["page", "flags"]
theorem sc_with_flags : FnScope n_with_flags p_with_flags (defScope s_with_flags) := ⟨rfl, rfl, rfl, by decide +kernel, rfl, by decide +kernel, by decide +kernel⟩
abbrev s_with_lock : Stmt := top 10
abbrev n_with_lock : List Str := ["page", "locked", "words", "name"]
abbrev p_with_lock : List Str := ["page", "locked"]
theorem sc_with_lock : FnScope n_with_lock p_with_lock (defScope s_with_lock) := ⟨rfl, rfl, rfl, by decide +kernel, rfl, by decide +kernel, by decide +kernel⟩
abbrev s_with_held : Stmt := top 11
abbrev n_with_held : List Str := ["page", "held"]
abbrev p_with_held : List Str := ["page", "held"]
theorem sc_with_held : FnScope n_with_held p_with_held (defScope s_with_held) := ⟨rfl, rfl, rfl, by decide +kernel, rfl, by decide +kernel, by decide +kernel⟩
abbrev s_with_stamp : Stmt := top 12
abbrev n_with_stamp : List Str := ["page", "stamp"]
abbrev p_with_stamp : List Str := ["page", "stamp"]
theorem sc_with_stamp : FnScope n_with_stamp p_with_stamp (defScope s_with_stamp) := ⟨rfl, rfl, rfl, by decide +kernel, rfl, by decide +kernel, by decide +kernel⟩
abbrev s_has_object : Stmt := top 14
abbrev n_has_object : List Str := ["page"]
abbrev p_has_object : List Str := ["page"]
theorem sc_has_object : FnScope n_has_object p_has_object (defScope s_has_object) := ⟨rfl, rfl, rfl, by decide +kernel, rfl, by decide +kernel, by decide +kernel⟩
abbrev s_arrange_locked : Stmt := top 19
abbrev n_arrange_locked : List Str := ["history", "first", "stay", "item"]
abbrev p_arrange_locked : List Str := ["history"]
theorem sc_arrange_locked : FnScope n_arrange_locked p_arrange_locked (defScope s_arrange_locked) := ⟨rfl, rfl, rfl, by decide +kernel, rfl, by decide +kernel, by decide +kernel⟩
abbrev s_add_locked : Stmt := top 20
abbrev n_add_locked : List Str := ["history", "first", "end"]
abbrev p_add_locked : List Str := ["history", "first"]
theorem sc_add_locked : FnScope n_add_locked p_add_locked (defScope s_add_locked) := ⟨rfl, rfl, rfl, by decide +kernel, rfl, by decide +kernel, by decide +kernel⟩
abbrev s_this_step : Stmt := top 23
abbrev n_this_step : List Str := ["system"]
abbrev p_this_step : List Str := ["system"]
theorem sc_this_step : FnScope n_this_step p_this_step (defScope s_this_step) := ⟨rfl, rfl, rfl, by decide +kernel, rfl, by decide +kernel, by decide +kernel⟩
abbrev s_count_page : Stmt := top 27
abbrev n_count_page : List Str := ["system", "page", "held", "users"]
abbrev p_count_page : List Str := ["system", "page"]
theorem sc_count_page : FnScope n_count_page p_count_page (defScope s_count_page) := ⟨rfl, rfl, rfl, by decide +kernel, rfl, by decide +kernel, by decide +kernel⟩
abbrev s_discount_page : Stmt := top 29
abbrev n_discount_page : List Str := ["system", "page", "held"]
abbrev p_discount_page : List Str := ["system", "page"]
theorem sc_discount_page : FnScope n_discount_page p_discount_page (defScope s_discount_page) := ⟨rfl, rfl, rfl, by decide +kernel, rfl, by decide +kernel, by decide +kernel⟩
abbrev s_discount_user : Stmt := top 30
abbrev n_discount_user : List Str := ["system", "number", "index", "users"]
abbrev p_discount_user : List Str := ["system", "number", "index"]
theorem sc_discount_user : FnScope n_discount_user p_discount_user (defScope s_discount_user) := ⟨rfl, rfl, rfl, by decide +kernel, rfl, by decide +kernel, by decide +kernel⟩
abbrev s_replace_pages : Stmt := top 31
abbrev n_replace_pages : List Str := ["system", "process", "changes", "table", "replaced", "number", "page"]
abbrev p_replace_pages : List Str := ["system", "process", "changes"]
theorem sc_replace_pages : FnScope n_replace_pages p_replace_pages (defScope s_replace_pages) := ⟨rfl, rfl, rfl, by decide +kernel, rfl, by decide +kernel, by decide +kernel⟩
abbrev s_end_step : Stmt := top 32
abbrev n_end_step : List Str := ["system"]
abbrev p_end_step : List Str := ["system"]
theorem sc_end_step : FnScope n_end_step p_end_step (defScope s_end_step) := ⟨rfl, rfl, rfl, by decide +kernel, rfl, by decide +kernel, by decide +kernel⟩
abbrev s_is_integer : Stmt := top 34
abbrev n_is_integer : List Str := ["value", "low", "high"]
abbrev p_is_integer : List Str := ["value", "low", "high"]
theorem sc_is_integer : FnScope n_is_integer p_is_integer (defScope s_is_integer) := ⟨rfl, rfl, rfl, by decide +kernel, rfl, by decide +kernel, by decide +kernel⟩
abbrev s_table_of : Stmt := top 35
abbrev n_table_of : List Str := ["system", "process"]
abbrev p_table_of : List Str := ["system", "process"]
theorem sc_table_of : FnScope n_table_of p_table_of (defScope s_table_of) := ⟨rfl, rfl, rfl, by decide +kernel, rfl, by decide +kernel, by decide +kernel⟩
abbrev s_require_charge : Stmt := top 42
abbrev n_require_charge : List Str := ["system", "tables", "written"]
abbrev p_require_charge : List Str := ["system", "tables", "written"]
theorem sc_require_charge : FnScope n_require_charge p_require_charge (defScope s_require_charge) := ⟨rfl, rfl, rfl, by decide +kernel, rfl, by decide +kernel, by decide +kernel⟩
abbrev s_now : Stmt := top 45
abbrev n_now : List Str := ["system"]
abbrev p_now : List Str := ["system"]
theorem sc_now : FnScope n_now p_now (defScope s_now) := ⟨rfl, rfl, rfl, by decide +kernel, rfl, by decide +kernel, by decide +kernel⟩
abbrev s_new_process : Stmt := top 46
abbrev n_new_process : List Str := ["system"]
abbrev p_new_process : List Str := ["system"]
theorem sc_new_process : FnScope n_new_process p_new_process (defScope s_new_process) := ⟨rfl, rfl, rfl, by decide +kernel, rfl, by decide +kernel, by decide +kernel⟩
abbrev s_unmap_all : Stmt := top 47
abbrev n_unmap_all : List Str := ["system", "process", "number"]
abbrev p_unmap_all : List Str := ["system", "process"]
theorem sc_unmap_all : FnScope n_unmap_all p_unmap_all (defScope s_unmap_all) := ⟨rfl, rfl, rfl, by decide +kernel, rfl, by decide +kernel, by decide +kernel⟩
abbrev s_end_process : Stmt := top 48
abbrev n_end_process : List Str := ["system", "process"]
abbrev p_end_process : List Str := ["system", "process"]
theorem sc_end_process : FnScope n_end_process p_end_process (defScope s_end_process) := ⟨rfl, rfl, rfl, by decide +kernel, rfl, by decide +kernel, by decide +kernel⟩
abbrev s_spawn : Stmt := top 49
abbrev n_spawn : List Str := ["system", "process"]
abbrev p_spawn : List Str := ["system"]
theorem sc_spawn : FnScope n_spawn p_spawn (defScope s_spawn) := ⟨rfl, rfl, rfl, by decide +kernel, rfl, by decide +kernel, by decide +kernel⟩
abbrev s_child_page : Stmt := top 50
abbrev n_child_page : List Str := ["page", "step", "child"]
abbrev p_child_page : List Str := ["page", "step"]
theorem sc_child_page : FnScope n_child_page p_child_page (defScope s_child_page) := ⟨rfl, rfl, rfl, by decide +kernel, rfl, by decide +kernel, by decide +kernel⟩
abbrev s_pages_of_child : Stmt := top 51
abbrev n_pages_of_child : List Str := ["system", "table", "step", "number", "page"]
abbrev p_pages_of_child : List Str := ["system", "table"]
theorem sc_pages_of_child : FnScope n_pages_of_child p_pages_of_child (defScope s_pages_of_child) := ⟨rfl, rfl, rfl, by decide +kernel, rfl, by decide +kernel, by decide +kernel⟩
abbrev s_fork : Stmt := top 52
abbrev n_fork : List Str := ["system", "process", "pages", "child"]
abbrev p_fork : List Str := ["system", "process"]
theorem sc_fork : FnScope n_fork p_fork (defScope s_fork) := ⟨rfl, rfl, rfl, by decide +kernel, rfl, by decide +kernel, by decide +kernel⟩
abbrev s_leave : Stmt := top 53
abbrev n_leave : List Str := ["system", "process"]
abbrev p_leave : List Str := ["system", "process"]
theorem sc_leave : FnScope n_leave p_leave (defScope s_leave) := ⟨rfl, rfl, rfl, by decide +kernel, rfl, by decide +kernel, by decide +kernel⟩
abbrev s_fresh : Stmt := top 54
abbrev n_fresh : List Str := ["system", "process"]
abbrev p_fresh : List Str := ["system", "process"]
theorem sc_fresh : FnScope n_fresh p_fresh (defScope s_fresh) := ⟨rfl, rfl, rfl, by decide +kernel, rfl, by decide +kernel, by decide +kernel⟩
abbrev s_processes : Stmt := top 55
abbrev n_processes : List Str := ["system"]
abbrev p_processes : List Str := ["system"]
theorem sc_processes : FnScope n_processes p_processes (defScope s_processes) := ⟨rfl, rfl, rfl, by decide +kernel, rfl, by decide +kernel, by decide +kernel⟩
abbrev s__law_well : Stmt := top 58
abbrev n__law_well : List Str := ["cell"]
abbrev p__law_well : List Str := ["cell"]
theorem sc__law_well : FnScope n__law_well p__law_well (defScope s__law_well) := ⟨rfl, rfl, rfl, by decide +kernel, rfl, by decide +kernel, by decide +kernel⟩
abbrev s__law_draw : Stmt := top 59
abbrev n__law_draw : List Str := ["well", "many", "digit", "prime", "number"]
abbrev p__law_draw : List Str := ["well", "many"]
theorem sc__law_draw : FnScope n__law_draw p__law_draw (defScope s__law_draw) := ⟨rfl, rfl, rfl, by decide +kernel, rfl, by decide +kernel, by decide +kernel⟩
abbrev s__law_one : Stmt := top 60
abbrev n__law_one : List Str := ["well", "some"]
abbrev p__law_one : List Str := ["well", "some"]
theorem sc__law_one : FnScope n__law_one p__law_one (defScope s__law_one) := ⟨rfl, rfl, rfl, by decide +kernel, rfl, by decide +kernel, by decide +kernel⟩
abbrev s__law_said : Stmt := top 61
abbrev n__law_said : List Str := ["ask", "e"]
abbrev p__law_said : List Str := ["ask"]
theorem sc__law_said : FnScope n__law_said p__law_said (defScope s__law_said) := ⟨rfl, rfl, rfl, by decide +kernel, rfl, by decide +kernel, by decide +kernel⟩
abbrev s__law_is_number : Stmt := top 62
abbrev n__law_is_number : List Str := ["thing", "low", "high"]
abbrev p__law_is_number : List Str := ["thing", "low", "high"]
theorem sc__law_is_number : FnScope n__law_is_number p__law_is_number (defScope s__law_is_number) := ⟨rfl, rfl, rfl, by decide +kernel, rfl, by decide +kernel, by decide +kernel⟩
abbrev s__law_system_right : Stmt := top 63
abbrev n__law_system_right : List Str := ["well", "one", "two", "three", "bad", "told"]
abbrev p__law_system_right : List Str := ["well"]
theorem sc__law_system_right : FnScope n__law_system_right p__law_system_right (defScope s__law_system_right) := ⟨rfl, rfl, rfl, by decide +kernel, rfl, by decide +kernel, by decide +kernel⟩
abbrev s_law : Stmt := top 64
abbrev n_law : List Str := ["script", "cell", "well", "turn", "system", "alive", "last", "k", "way", "told", "gone", "odd"]
abbrev p_law : List Str := ["script"]
theorem sc_law : FnScope n_law p_law (defScope s_law) := ⟨rfl, rfl, rfl, by decide +kernel, rfl, by decide +kernel, by decide +kernel⟩
abbrev kw_System_init : List (Str × V) := [("frames", .non), ("slots", .non), ("strict", .bl false)]
/-- the tuple of the flags -/
def flagsIn (K : PySem.W.Frag) (a : Addr) : Bool := match K.lookup a with
  | some ⟨.type "tuple", _, .seq its _, _⟩ => (match its.toList with | [.str x _, .str y _, .str z _, .str u _] => x == "lock" && y == "merge" && z == "stay" && u == "wipe" | _ => false)
  | _ => false
/-- where the top stands -/
structure Adr where
  a_with_flags : Addr
  fd_with_flags : FuncData
  a_with_lock : Addr
  fd_with_lock : FuncData
  a_with_held : Addr
  fd_with_held : FuncData
  a_with_stamp : Addr
  fd_with_stamp : FuncData
  a_has_object : Addr
  fd_has_object : FuncData
  a_arrange_locked : Addr
  fd_arrange_locked : FuncData
  a_add_locked : Addr
  fd_add_locked : FuncData
  a_this_step : Addr
  fd_this_step : FuncData
  a_count_page : Addr
  fd_count_page : FuncData
  a_discount_page : Addr
  fd_discount_page : FuncData
  a_discount_user : Addr
  fd_discount_user : FuncData
  a_replace_pages : Addr
  fd_replace_pages : FuncData
  a_end_step : Addr
  fd_end_step : FuncData
  a_is_integer : Addr
  fd_is_integer : FuncData
  a_table_of : Addr
  fd_table_of : FuncData
  a_require_charge : Addr
  fd_require_charge : FuncData
  a_now : Addr
  fd_now : FuncData
  a_new_process : Addr
  fd_new_process : FuncData
  a_unmap_all : Addr
  fd_unmap_all : FuncData
  a_end_process : Addr
  fd_end_process : FuncData
  a_spawn : Addr
  fd_spawn : FuncData
  a_child_page : Addr
  fd_child_page : FuncData
  a_pages_of_child : Addr
  fd_pages_of_child : FuncData
  a_fork : Addr
  fd_fork : FuncData
  a_leave : Addr
  fd_leave : FuncData
  a_fresh : Addr
  fd_fresh : FuncData
  a_processes : Addr
  fd_processes : FuncData
  a__law_well : Addr
  fd__law_well : FuncData
  a__law_draw : Addr
  fd__law_draw : FuncData
  a__law_one : Addr
  fd__law_one : FuncData
  a__law_said : Addr
  fd__law_said : FuncData
  a__law_is_number : Addr
  fd__law_is_number : FuncData
  a__law_system_right : Addr
  fd__law_system_right : FuncData
  co__law_system_right : Addr
  ta__law_system_right : Addr
  a_law : Addr
  fd_law : FuncData
  co_law : Addr
  ta_law : Addr
  c_NoSystem : Addr
  c_NoProcess : Addr
  c_PageError : Addr
  c_System : Addr
  c_Page : Addr
  c_History : Addr
  a_NoSystem_init : Addr
  fd_NoSystem_init : FuncData
  a_NoProcess_init : Addr
  fd_NoProcess_init : FuncData
  a_Page_init : Addr
  fd_Page_init : FuncData
  a_History_init : Addr
  fd_History_init : FuncData
  a_System_init : Addr
  fd_System_init : FuncData
  o_FLAGS : Addr
/-- what the top has written -/
structure Txt (K : PySem.W.Frag) (mg : Str → Option Value) (A : Adr) : Prop where
  f_with_flags : Fun K "with_flags" "with_flags" s_with_flags A.a_with_flags A.fd_with_flags
  bi_with_flags : L2.Binds K A.fd_with_flags p_with_flags []
  g_with_flags : mg "with_flags" = some (.ref A.a_with_flags)
  k_with_flags : PySem.W.keepIn K (.ref A.a_with_flags) = true
  f_with_lock : Fun K "with_lock" "with_lock" s_with_lock A.a_with_lock A.fd_with_lock
  bi_with_lock : L2.Binds K A.fd_with_lock p_with_lock []
  g_with_lock : mg "with_lock" = some (.ref A.a_with_lock)
  k_with_lock : PySem.W.keepIn K (.ref A.a_with_lock) = true
  f_with_held : Fun K "with_held" "with_held" s_with_held A.a_with_held A.fd_with_held
  bi_with_held : L2.Binds K A.fd_with_held p_with_held []
  g_with_held : mg "with_held" = some (.ref A.a_with_held)
  k_with_held : PySem.W.keepIn K (.ref A.a_with_held) = true
  f_with_stamp : Fun K "with_stamp" "with_stamp" s_with_stamp A.a_with_stamp A.fd_with_stamp
  bi_with_stamp : L2.Binds K A.fd_with_stamp p_with_stamp []
  g_with_stamp : mg "with_stamp" = some (.ref A.a_with_stamp)
  k_with_stamp : PySem.W.keepIn K (.ref A.a_with_stamp) = true
  f_has_object : Fun K "has_object" "has_object" s_has_object A.a_has_object A.fd_has_object
  bi_has_object : L2.Binds K A.fd_has_object p_has_object []
  g_has_object : mg "has_object" = some (.ref A.a_has_object)
  k_has_object : PySem.W.keepIn K (.ref A.a_has_object) = true
  f_arrange_locked : Fun K "arrange_locked" "arrange_locked" s_arrange_locked A.a_arrange_locked A.fd_arrange_locked
  bi_arrange_locked : L2.Binds K A.fd_arrange_locked p_arrange_locked []
  g_arrange_locked : mg "arrange_locked" = some (.ref A.a_arrange_locked)
  k_arrange_locked : PySem.W.keepIn K (.ref A.a_arrange_locked) = true
  f_add_locked : Fun K "add_locked" "add_locked" s_add_locked A.a_add_locked A.fd_add_locked
  bi_add_locked : L2.Binds K A.fd_add_locked p_add_locked []
  g_add_locked : mg "add_locked" = some (.ref A.a_add_locked)
  k_add_locked : PySem.W.keepIn K (.ref A.a_add_locked) = true
  f_this_step : Fun K "this_step" "this_step" s_this_step A.a_this_step A.fd_this_step
  bi_this_step : L2.Binds K A.fd_this_step p_this_step []
  g_this_step : mg "this_step" = some (.ref A.a_this_step)
  k_this_step : PySem.W.keepIn K (.ref A.a_this_step) = true
  f_count_page : Fun K "count_page" "count_page" s_count_page A.a_count_page A.fd_count_page
  bi_count_page : L2.Binds K A.fd_count_page p_count_page []
  g_count_page : mg "count_page" = some (.ref A.a_count_page)
  k_count_page : PySem.W.keepIn K (.ref A.a_count_page) = true
  f_discount_page : Fun K "discount_page" "discount_page" s_discount_page A.a_discount_page A.fd_discount_page
  bi_discount_page : L2.Binds K A.fd_discount_page p_discount_page []
  g_discount_page : mg "discount_page" = some (.ref A.a_discount_page)
  k_discount_page : PySem.W.keepIn K (.ref A.a_discount_page) = true
  f_discount_user : Fun K "discount_user" "discount_user" s_discount_user A.a_discount_user A.fd_discount_user
  bi_discount_user : L2.Binds K A.fd_discount_user p_discount_user []
  g_discount_user : mg "discount_user" = some (.ref A.a_discount_user)
  k_discount_user : PySem.W.keepIn K (.ref A.a_discount_user) = true
  f_replace_pages : Fun K "replace_pages" "replace_pages" s_replace_pages A.a_replace_pages A.fd_replace_pages
  bi_replace_pages : L2.Binds K A.fd_replace_pages p_replace_pages []
  g_replace_pages : mg "replace_pages" = some (.ref A.a_replace_pages)
  k_replace_pages : PySem.W.keepIn K (.ref A.a_replace_pages) = true
  f_end_step : Fun K "end_step" "end_step" s_end_step A.a_end_step A.fd_end_step
  bi_end_step : L2.Binds K A.fd_end_step p_end_step []
  g_end_step : mg "end_step" = some (.ref A.a_end_step)
  k_end_step : PySem.W.keepIn K (.ref A.a_end_step) = true
  f_is_integer : Fun K "is_integer" "is_integer" s_is_integer A.a_is_integer A.fd_is_integer
  bi_is_integer : L2.Binds K A.fd_is_integer p_is_integer []
  g_is_integer : mg "is_integer" = some (.ref A.a_is_integer)
  k_is_integer : PySem.W.keepIn K (.ref A.a_is_integer) = true
  f_table_of : Fun K "table_of" "table_of" s_table_of A.a_table_of A.fd_table_of
  bi_table_of : L2.Binds K A.fd_table_of p_table_of []
  g_table_of : mg "table_of" = some (.ref A.a_table_of)
  k_table_of : PySem.W.keepIn K (.ref A.a_table_of) = true
  f_require_charge : Fun K "require_charge" "require_charge" s_require_charge A.a_require_charge A.fd_require_charge
  bi_require_charge : L2.Binds K A.fd_require_charge p_require_charge []
  g_require_charge : mg "require_charge" = some (.ref A.a_require_charge)
  k_require_charge : PySem.W.keepIn K (.ref A.a_require_charge) = true
  f_now : Fun K "now" "now" s_now A.a_now A.fd_now
  bi_now : L2.Binds K A.fd_now p_now []
  g_now : mg "now" = some (.ref A.a_now)
  k_now : PySem.W.keepIn K (.ref A.a_now) = true
  f_new_process : Fun K "new_process" "new_process" s_new_process A.a_new_process A.fd_new_process
  bi_new_process : L2.Binds K A.fd_new_process p_new_process []
  g_new_process : mg "new_process" = some (.ref A.a_new_process)
  k_new_process : PySem.W.keepIn K (.ref A.a_new_process) = true
  f_unmap_all : Fun K "unmap_all" "unmap_all" s_unmap_all A.a_unmap_all A.fd_unmap_all
  bi_unmap_all : L2.Binds K A.fd_unmap_all p_unmap_all []
  g_unmap_all : mg "unmap_all" = some (.ref A.a_unmap_all)
  k_unmap_all : PySem.W.keepIn K (.ref A.a_unmap_all) = true
  f_end_process : Fun K "end_process" "end_process" s_end_process A.a_end_process A.fd_end_process
  bi_end_process : L2.Binds K A.fd_end_process p_end_process []
  g_end_process : mg "end_process" = some (.ref A.a_end_process)
  k_end_process : PySem.W.keepIn K (.ref A.a_end_process) = true
  f_spawn : Fun K "spawn" "spawn" s_spawn A.a_spawn A.fd_spawn
  bi_spawn : L2.Binds K A.fd_spawn p_spawn []
  g_spawn : mg "spawn" = some (.ref A.a_spawn)
  k_spawn : PySem.W.keepIn K (.ref A.a_spawn) = true
  f_child_page : Fun K "child_page" "child_page" s_child_page A.a_child_page A.fd_child_page
  bi_child_page : L2.Binds K A.fd_child_page p_child_page []
  g_child_page : mg "child_page" = some (.ref A.a_child_page)
  k_child_page : PySem.W.keepIn K (.ref A.a_child_page) = true
  f_pages_of_child : Fun K "pages_of_child" "pages_of_child" s_pages_of_child A.a_pages_of_child A.fd_pages_of_child
  bi_pages_of_child : L2.Binds K A.fd_pages_of_child p_pages_of_child []
  g_pages_of_child : mg "pages_of_child" = some (.ref A.a_pages_of_child)
  k_pages_of_child : PySem.W.keepIn K (.ref A.a_pages_of_child) = true
  f_fork : Fun K "fork" "fork" s_fork A.a_fork A.fd_fork
  bi_fork : L2.Binds K A.fd_fork p_fork []
  g_fork : mg "fork" = some (.ref A.a_fork)
  k_fork : PySem.W.keepIn K (.ref A.a_fork) = true
  f_leave : Fun K "leave" "leave" s_leave A.a_leave A.fd_leave
  bi_leave : L2.Binds K A.fd_leave p_leave []
  g_leave : mg "leave" = some (.ref A.a_leave)
  k_leave : PySem.W.keepIn K (.ref A.a_leave) = true
  f_fresh : Fun K "fresh" "fresh" s_fresh A.a_fresh A.fd_fresh
  bi_fresh : L2.Binds K A.fd_fresh p_fresh []
  g_fresh : mg "fresh" = some (.ref A.a_fresh)
  k_fresh : PySem.W.keepIn K (.ref A.a_fresh) = true
  f_processes : Fun K "processes" "processes" s_processes A.a_processes A.fd_processes
  bi_processes : L2.Binds K A.fd_processes p_processes []
  g_processes : mg "processes" = some (.ref A.a_processes)
  k_processes : PySem.W.keepIn K (.ref A.a_processes) = true
  f__law_well : Fun K "_law_well" "_law_well" s__law_well A.a__law_well A.fd__law_well
  bi__law_well : L2.Binds K A.fd__law_well p__law_well []
  g__law_well : mg "_law_well" = some (.ref A.a__law_well)
  k__law_well : PySem.W.keepIn K (.ref A.a__law_well) = true
  f__law_draw : Fun K "_law_draw" "_law_draw" s__law_draw A.a__law_draw A.fd__law_draw
  bi__law_draw : L2.Binds K A.fd__law_draw p__law_draw []
  g__law_draw : mg "_law_draw" = some (.ref A.a__law_draw)
  k__law_draw : PySem.W.keepIn K (.ref A.a__law_draw) = true
  f__law_one : Fun K "_law_one" "_law_one" s__law_one A.a__law_one A.fd__law_one
  bi__law_one : L2.Binds K A.fd__law_one p__law_one []
  g__law_one : mg "_law_one" = some (.ref A.a__law_one)
  k__law_one : PySem.W.keepIn K (.ref A.a__law_one) = true
  f__law_said : Fun K "_law_said" "_law_said" s__law_said A.a__law_said A.fd__law_said
  bi__law_said : L2.Binds K A.fd__law_said p__law_said []
  g__law_said : mg "_law_said" = some (.ref A.a__law_said)
  k__law_said : PySem.W.keepIn K (.ref A.a__law_said) = true
  f__law_is_number : Fun K "_law_is_number" "_law_is_number" s__law_is_number A.a__law_is_number A.fd__law_is_number
  bi__law_is_number : L2.Binds K A.fd__law_is_number p__law_is_number []
  g__law_is_number : mg "_law_is_number" = some (.ref A.a__law_is_number)
  k__law_is_number : PySem.W.keepIn K (.ref A.a__law_is_number) = true
  f__law_system_right : Fun K "_law_system_right" "_law_system_right" s__law_system_right A.a__law_system_right A.fd__law_system_right
  bi__law_system_right : L2.Binds K A.fd__law_system_right p__law_system_right []
  fl__law_system_right : FunC K "_law_system_right" "_law_system_right" s__law_system_right A.a__law_system_right A.fd__law_system_right A.co__law_system_right
  g__law_system_right : mg "_law_system_right" = some (.ref A.a__law_system_right)
  k__law_system_right : PySem.W.keepIn K (.ref A.a__law_system_right) = true
  f_law : Fun K "law" "law" s_law A.a_law A.fd_law
  bi_law : L2.Binds K A.fd_law p_law []
  fl_law : FunC K "law" "law" s_law A.a_law A.fd_law A.co_law
  g_law : mg "law" = some (.ref A.a_law)
  k_law : PySem.W.keepIn K (.ref A.a_law) = true
  g_NoSystem : mg "NoSystem" = some (.ref A.c_NoSystem)
  g_NoProcess : mg "NoProcess" = some (.ref A.c_NoProcess)
  g_PageError : mg "PageError" = some (.ref A.c_PageError)
  g_System : mg "System" = some (.ref A.c_System)
  g_Page : mg "Page" = some (.ref A.c_Page)
  g_History : mg "History" = some (.ref A.c_History)
  f_NoSystem_init : Fun K "__init__" "NoSystem.__init__" s_NoSystem_init A.a_NoSystem_init A.fd_NoSystem_init
  bi_NoSystem_init : L2.Binds K A.fd_NoSystem_init p_NoSystem_init []
  f_NoProcess_init : Fun K "__init__" "NoProcess.__init__" s_NoProcess_init A.a_NoProcess_init A.fd_NoProcess_init
  bi_NoProcess_init : L2.Binds K A.fd_NoProcess_init p_NoProcess_init []
  f_Page_init : Fun K "__init__" "Page.__init__" s_Page_init A.a_Page_init A.fd_Page_init
  bi_Page_init : L2.Binds K A.fd_Page_init p_Page_init []
  f_History_init : Fun K "__init__" "History.__init__" s_History_init A.a_History_init A.fd_History_init
  bi_History_init : L2.Binds K A.fd_History_init p_History_init []
  f_System_init : FunD K "__init__" "System.__init__" (defArgs s_System_init) (defBody s_System_init) (defScope s_System_init) [] kw_System_init A.a_System_init A.fd_System_init
  x_NoSystem : OexC K A.c_NoSystem
  xf_NoSystem : XfC K A.c_NoSystem
  xn_NoSystem : PySem.W.findIn K (.ref A.c_NoSystem) "part" = some none
  xi_NoSystem : PySem.W.findIn K (.ref A.c_NoSystem) "__init__" = some (some (.ref A.a_NoSystem_init))
  xt_NoSystem : PySem.W.typeIn K (.ref A.a_NoSystem_init) = some (.type "function")
  x_NoProcess : OexC K A.c_NoProcess
  xf_NoProcess : XfC K A.c_NoProcess
  xn_NoProcess : PySem.W.findIn K (.ref A.c_NoProcess) "process" = some none
  xi_NoProcess : PySem.W.findIn K (.ref A.c_NoProcess) "__init__" = some (some (.ref A.a_NoProcess_init))
  xt_NoProcess : PySem.W.typeIn K (.ref A.a_NoProcess_init) = some (.type "function")
  x_PageError : OexC K A.c_PageError
  xf_PageError : XfC K A.c_PageError
  e_NoSystem_NoSystem : PySem.W.exmOne K (.ref A.c_NoSystem) (.ref A.c_NoSystem) = some true
  e_NoProcess_NoSystem : PySem.W.exmOne K (.ref A.c_NoProcess) (.ref A.c_NoSystem) = some false
  e_NoProcess_NoProcess : PySem.W.exmOne K (.ref A.c_NoProcess) (.ref A.c_NoProcess) = some true
  cl_System : Cls K A.c_System
  mk_System : Mk K A.c_System A.a_System_init
  n_System_frames : NoAttr K A.c_System "frames"
  n_System_slots : NoAttr K A.c_System "slots"
  n_System_strict : NoAttr K A.c_System "strict"
  n_System_steps_made : NoAttr K A.c_System "steps_made"
  n_System_processes_made : NoAttr K A.c_System "processes_made"
  n_System_objects_made : NoAttr K A.c_System "objects_made"
  n_System_tables : NoAttr K A.c_System "tables"
  n_System_objects : NoAttr K A.c_System "objects"
  n_System_object_pages : NoAttr K A.c_System "object_pages"
  n_System_files : NoAttr K A.c_System "files"
  n_System_classes : NoAttr K A.c_System "classes"
  n_System_locked_pages : NoAttr K A.c_System "locked_pages"
  n_System_memory : NoAttr K A.c_System "memory"
  n_System_swapped : NoAttr K A.c_System "swapped"
  n_System_faults : NoAttr K A.c_System "faults"
  n_System_swap_outs : NoAttr K A.c_System "swap_outs"
  n_System_write_backs : NoAttr K A.c_System "write_backs"
  n_System_history : NoAttr K A.c_System "history"
  cl_Page : Cls K A.c_Page
  mk_Page : Mk K A.c_Page A.a_Page_init
  n_Page_rights : NoAttr K A.c_Page "rights"
  n_Page_shared : NoAttr K A.c_Page "shared"
  n_Page_source : NoAttr K A.c_Page "source"
  n_Page_index : NoAttr K A.c_Page "index"
  n_Page_flags : NoAttr K A.c_Page "flags"
  n_Page_held : NoAttr K A.c_Page "held"
  n_Page_stamp : NoAttr K A.c_Page "stamp"
  cl_History : Cls K A.c_History
  mk_History : Mk K A.c_History A.a_History_init
  n_History_row : NoAttr K A.c_History "row"
  n_History_holes : NoAttr K A.c_History "holes"
  n_History_locked : NoAttr K A.c_History "locked"
  n_History_classes : NoAttr K A.c_History "classes"
  n_History_touches : NoAttr K A.c_History "touches"
  n_History_distances : NoAttr K A.c_History "distances"
  n_History_swap_outs : NoAttr K A.c_History "swap_outs"
  n_History_write_backs : NoAttr K A.c_History "write_backs"
  n_History_most_slots : NoAttr K A.c_History "most_slots"
  n_History_saves : NoAttr K A.c_History "saves"
  n_History_lock_changes : NoAttr K A.c_History "lock_changes"
  n_History_most_locked : NoAttr K A.c_History "most_locked"
  n_History_crashed : NoAttr K A.c_History "crashed"
  n_History_merged : NoAttr K A.c_History "merged"
  b_int : mg "int" = none
  b_len : mg "len" = none
  b_isinstance : mg "isinstance" = none
  b_bool : mg "bool" = none
  b_str : mg "str" = none
  b_list : mg "list" = none
  b_range : mg "range" = none
  b_enumerate : mg "enumerate" = none
  b_sorted : mg "sorted" = none
  b_dict : mg "dict" = none
  b_tuple : mg "tuple" = none
  g_FLAGS : mg "FLAGS" = some (.ref A.o_FLAGS)
  r_FLAGS : flagsIn K A.o_FLAGS = true
section
variable {P : Program} {w : World} {K : PySem.W.Frag} {mg : Str → Option Value} {base : Heap} {A : Adr}
theorem ok_is_integer (G : Txt K mg A) : FnOk P w K mg base CX0 1 A.a_is_integer A.fd_is_integer p_is_integer (fun vs H Q _ => ∃ (v : V) (lo hi : Int), vs = [v, .int lo, .int hi] ∧ AnyV H v ∧ Q (.bl (inR lo hi v)) H) := by
  refine G.f_is_integer.ok sc_is_integer (fun vs H Q E h => ?_) (fun cdv A' outer s H vs Q E hr h => ?_)
  · obtain ⟨v, lo, hi, rfl, _⟩ := h
    rfl
  · obtain ⟨v, lo, hi, rfl, hv, k⟩ := h
    refine ⟨_, (pss_one (ps_ret (pe_and (pe_callB call_isi (by rfl) G.b_isinstance (by decide +kernel) (pa_cons (pv 0) (pa_cons (pe_bltn (v := .ty "int") (u := .type "int") (by rfl) G.b_int (by decide +kernel) rfl) pa_nil))) (pe_and (pe_not (pe_callB call_isi (by rfl) G.b_isinstance (by decide +kernel) (pa_cons (pv 0) (pa_cons (pe_bltn (v := .ty "bool") (u := .type "bool") (by rfl) G.b_bool (by decide +kernel) rfl) pa_nil)))) (pe_one (pe_chain op_le op_le (pv 1) (pv 0) (pv 2))))))), ?_⟩
    obtain ⟨t, h1, h2, h3, _⟩ := hv.ty (K := K)
    walk_at "go"
    walk_at "ds"
    refine ⟨v, .ty "int", .type t, .type "int", _, rfl, .ty "int", h1, h2, _, rfl, ?_⟩
    cases e : isI v with
    | false =>
      refine iteF ?_
      have q : inR lo hi v = false := by cases v <;> first | rfl | cases e
      rw [q] at k
      exact k
    | true =>
      refine iteT ⟨_, rfl, v, .ty "bool", .type t, .type "bool", _, rfl, .ty "bool", h1, h3, _, rfl, _, rfl, ?_⟩
      cases e2 : isB v with
      | true =>
        refine iteF ?_
        have q : inR lo hi v = false := by cases v <;> first | rfl | cases e2
        rw [q] at k
        exact k
      | false =>
        refine iteT ?_
        obtain ⟨i, rfl⟩ : ∃ i, v = V.int i := by cases v <;> first | exact ⟨_, rfl⟩ | (cases e; done) | (cases e2; done)
        refine ⟨_, rfl, _, rfl, _, _, rfl, rfl, _, rfl, ?_⟩
        refine iteD (fun c => ?_) (fun c => ?_)
        · refine ⟨_, rfl, _, _, rfl, rfl, ?_⟩
          have q : inR lo hi (V.int i) = decide (i ≤ hi) := by
            show decide (lo ≤ i ∧ i ≤ hi) = _
            simp [c]
          rw [q] at k
          exact k
        · have q : inR lo hi (V.int i) = false := by
            show decide (lo ≤ i ∧ i ≤ hi) = _
            simp [c]
          rw [q] at k
          exact k
theorem ok_NoSystem_init (G : Txt K mg A) : FnOk P w K mg base CX0 1 A.a_NoSystem_init A.fd_NoSystem_init p_NoSystem_init (spXi K "part") := by
  refine G.f_NoSystem_init.ok sc_NoSystem_init (fun vs H Q E h => ?_) (fun cdv A' outer s H vs Q E hr h => ?_)
  · obtain ⟨a, C, y, rfl, _⟩ := h
    rfl
  · obtain ⟨a, C, y, rfl, hC, hn, ha, k⟩ := h
    exact ⟨_, pss_one (ps_ost (pv 0) (pv 1)), _, rfl, _, rfl, a, C, rfl, hC, hn, .inl ⟨ha, k⟩⟩
theorem ok_NoProcess_init (G : Txt K mg A) : FnOk P w K mg base CX0 1 A.a_NoProcess_init A.fd_NoProcess_init p_NoProcess_init (spXi K "process") := by
  refine G.f_NoProcess_init.ok sc_NoProcess_init (fun vs H Q E h => ?_) (fun cdv A' outer s H vs Q E hr h => ?_)
  · obtain ⟨a, C, y, rfl, _⟩ := h
    rfl
  · obtain ⟨a, C, y, rfl, hC, hn, ha, k⟩ := h
    exact ⟨_, pss_one (ps_ost (pv 0) (pv 1)), _, rfl, _, rfl, a, C, rfl, hC, hn, .inl ⟨ha, k⟩⟩
theorem sf_val {C x dx : Addr} {fs fs' : List (Str × V)} {H : Hp} {D : Ends} {σ : St} {f : Str} {y : V} {te : TE} (hte : ∀ Q : VK, Q y H → te σ H Q) (cl : Cls K C) (na : NoAttr K C f) (h0 : σ[0]? = some (some (.ref x)))
    (hx : H x = some (.ins C dx fs)) (hl : fs.length < 1000) (he : putF f y fs = fs') (k : ∀ H', But x H H' → (∀ b, b ≠ x → H' b = H b) → H' x = some (.ins C dx fs') → D.nx σ H') : sFld K (tVar 0) te f D σ H :=
  hte _ ⟨_, h0, x, C, dx, fs, rfl, hx, cl, na, hl, k _ But.up (fun b hb => upd_ne hb) (by rw [he, upd_same])⟩
def PgAt (C : Addr) (H : Hp) (p : Addr) (r s so i f h : V) : Prop := ∃ dx : Addr × Int, H p = some (.ins C dx.1 (pageF r s so i f h (.int dx.2)))
def spPage (A : Adr) : Sp := fun vs H Q _ => ∃ (x dx : Addr) (r s so i f h : V) (n : Int), vs = [.ref x, r, s, so, i, f, h, .int n] ∧ H x = some (.ins A.c_Page dx []) ∧
  ∀ H', But x H H' → PgAt A.c_Page H' x r s so i f h → Q .non H'
theorem ok_Page_init (G : Txt K mg A) : FnOk P w K mg base CX0 1 A.a_Page_init A.fd_Page_init p_Page_init (spPage A) := by
  refine G.f_Page_init.ok sc_Page_init (fun vs H Q E h => ?_) (fun cdv A' outer s H vs Q E hr h => ?_)
  · obtain ⟨x, dx, r, s, so, i, f, h, n, rfl, _⟩ := h
    rfl
  · obtain ⟨x, dx, r, s, so, i, f, h, n, rfl, hx, k⟩ := h
    refine ⟨_, (pss_cons (ps_fld (pv 0) (pv 1) rfl)
  (pss_cons (ps_fld (pv 0) (pv 2) rfl)
  (pss_cons (ps_fld (pv 0) (pv 3) rfl)
  (pss_cons (ps_fld (pv 0) (pv 4) rfl)
  (pss_cons (ps_fld (pv 0) (pv 5) rfl)
  (pss_cons (ps_fld (pv 0) (pv 6) rfl)
  (pss_one (ps_fld (pv 0) (pv 7) rfl)))))))), ?_⟩
    have v1 : ∀ {j : Nat} {v : V} {H : Hp}, (L2.start n_Page_init [V.ref x, r, s, so, i, f, h, .int n])[j]? = some (some v) → ∀ Q : VK, Q v H → tVar j (L2.start n_Page_init [V.ref x, r, s, so, i, f, h, .int n]) H Q := fun h Q q => ⟨_, h, q⟩
    refine sf_val (fs := []) (fs' := [("rights", r)]) (v1 (j := 1) rfl) G.cl_Page G.n_Page_rights rfl hx (by show 0 < 1000; decide) rfl (fun H1 b1 n1 e1 => ?_)
    dsimp only
    refine sf_val (fs := [("rights", r)]) (fs' := [("rights", r), ("shared", s)]) (v1 (j := 2) rfl) G.cl_Page G.n_Page_shared rfl e1 (by show 1 < 1000; decide) rfl (fun H2 b2 n2 e2 => ?_)
    dsimp only
    refine sf_val (fs := [("rights", r), ("shared", s)]) (fs' := [("rights", r), ("shared", s), ("source", so)]) (v1 (j := 3) rfl) G.cl_Page G.n_Page_source rfl e2 (by show 2 < 1000; decide) rfl (fun H3 b3 n3 e3 => ?_)
    dsimp only
    refine sf_val (fs := [("rights", r), ("shared", s), ("source", so)]) (fs' := [("rights", r), ("shared", s), ("source", so), ("index", i)]) (v1 (j := 4) rfl) G.cl_Page G.n_Page_index rfl e3 (by show 3 < 1000; decide) rfl (fun H4 b4 n4 e4 => ?_)
    dsimp only
    refine sf_val (fs := [("rights", r), ("shared", s), ("source", so), ("index", i)]) (fs' := [("rights", r), ("shared", s), ("source", so), ("index", i), ("flags", f)]) (v1 (j := 5) rfl) G.cl_Page G.n_Page_flags rfl e4 (by show 4 < 1000; decide) rfl (fun H5 b5 n5 e5 => ?_)
    dsimp only
    refine sf_val (fs := [("rights", r), ("shared", s), ("source", so), ("index", i), ("flags", f)]) (fs' := [("rights", r), ("shared", s), ("source", so), ("index", i), ("flags", f), ("held", h)]) (v1 (j := 6) rfl) G.cl_Page G.n_Page_held rfl e5 (by show 5 < 1000; decide) rfl (fun H6 b6 n6 e6 => ?_)
    dsimp only
    refine sf_val (fs := [("rights", r), ("shared", s), ("source", so), ("index", i), ("flags", f), ("held", h)]) (fs' := pageF r s so i f h (.int n)) (v1 (j := 7) rfl) G.cl_Page G.n_Page_stamp rfl e6 (by show 6 < 1000; decide) rfl (fun H7 b7 n7 e7 => ?_)
    exact k H7 (b1.trans (b2.trans (b3.trans (b4.trans (b5.trans (b6.trans b7)))))) ⟨(dx, n), e7⟩
theorem ok_has_object (G : Txt K mg A) : FnOk P w K mg base CX0 1 A.a_has_object A.fd_has_object p_has_object (fun vs H Q _ => ∃ (p : Addr) (g : Pg), vs = [.ref p] ∧ PgR A.c_Page H p g ∧ WfP g ∧ Q (.bl (isObj g.src)) H) := by
  refine G.f_has_object.ok sc_has_object (fun vs H Q E h => ?_) (fun cdv A' outer s H vs Q E hr h => ?_)
  · obtain ⟨p, g, rfl, _⟩ := h
    rfl
  · obtain ⟨p, g, rfl, ⟨dx, sv, fa, e, hs, hf⟩, wf, k⟩ := h
    refine ⟨_, (pss_one (ps_ret (pe_and (pe_fld (pv 0) rfl) (pe_one (pe_cmpR op_eq (pe_ix ix_tup (pe_fld (pv 0) rfl) pe_int (fun _ _ => rfl)) pe_str (nomark _)))))), ?_⟩
    refine ⟨_, rfl, p, _, _, _, _, rfl, e, G.cl_Page, G.n_Page_shared, rfl, _, rfl, ?_⟩
    refine iteB (fun c => ?_) (fun c => ?_)
    · cases es : g.src with
      | non => exact absurd es (wf.sh c)
      | file n =>
        rw [es] at hs
        obtain ⟨a, rfl, ha⟩ := hs
        refine ⟨_, rfl, p, _, _, _, _, rfl, e, G.cl_Page, G.n_Page_source, rfl, a, _, 0, _, rfl, rfl, SqT.of ha, rfl, rfl, ?_⟩
        rw [show isObj g.src = false by rw [es]; rfl] at k
        rw [show decide (V.str (Str.ofString "file") = V.str (Str.ofString "object")) = false by decide +kernel]
        exact k
      | obj j =>
        rw [es] at hs
        obtain ⟨a, rfl, ha⟩ := hs
        refine ⟨_, rfl, p, _, _, _, _, rfl, e, G.cl_Page, G.n_Page_source, rfl, a, _, 0, _, rfl, rfl, SqT.of ha, rfl, rfl, ?_⟩
        rw [show isObj g.src = true by rw [es]; rfl] at k
        rw [show decide (V.str (Str.ofString "object") = V.str (Str.ofString "object")) = true by decide +kernel]
        exact k
    · have z : isObj g.src = false := by
        cases es : g.src with
        | obj j => have := wf.ob j es; rw [c] at this; cases this
        | non => rfl
        | file n => rfl
      rw [z] at k
      exact k
theorem Txt.sysN (G : Txt K mg A) : Cls K A.c_System ∧ NoAttr K A.c_System "strict" ∧ NoAttr K A.c_System "steps_made" ∧ NoAttr K A.c_System "processes_made" ∧ NoAttr K A.c_System "objects_made" ∧ NoAttr K A.c_System "tables" ∧ NoAttr K A.c_System "objects" ∧ NoAttr K A.c_System "object_pages" ∧ NoAttr K A.c_System "files" :=
  ⟨G.cl_System, G.n_System_strict, G.n_System_steps_made, G.n_System_processes_made, G.n_System_objects_made, G.n_System_tables, G.n_System_objects, G.n_System_object_pages, G.n_System_files⟩
abbrev Sa (A : Adr) := SyA A.c_System A.c_Page A.c_History
abbrev Sr (A : Adr) := SyR A.c_System A.c_Page A.c_History
/-- the table of a living process; else NoProcess -/
def spTable (A : Adr) : Sp := fun vs H Q E => ∃ (x : Addr) (wh : Wh) (S : Sys) (τ : Tm) (cnt : Int → Int → Nat) (v : V), vs = [.ref x, v] ∧ Sa A H x wh S τ cnt ∧ AnyV H v ∧
  (∀ i d, v = .int i → TabOf H wh i d → Q (.ref d) H) ∧ ((∀ i, v = .int i → S.tabs i = none) → Rz A.c_NoProcess "process" v H E)
theorem ok_table_of (G : Txt K mg A) : FnOk P w K mg base (L2.CX P w) 3 A.a_table_of A.fd_table_of p_table_of (spTable A) := by
  refine G.f_table_of.okX sc_table_of (fun vs H Q E h => ?_) (fun cdv A' outer s H vs Q E hr h => ?_)
  · obtain ⟨x, wh, S, τ, cnt, v, rfl, _⟩ := h
    rfl
  · obtain ⟨x, wh, S, τ, cnt, v, rfl, hS, hv, k1, k2⟩ := h
    obtain ⟨cl, a3, a4, a5, a6, a7, a8, a9, a10⟩ := G.sysN
    refine ⟨_, (pss_cons (ps_if (PW.pt (pw_or (pt_not (pt_val (pe_call (ok_is_integer G) (hr.mono (by decide)) rfl G.g_is_integer G.k_is_integer G.bi_is_integer .nil pass0 (pa_cons (pv 1) (pa_cons pe_int (pa_cons (pe_fld (pv 0) rfl) pa_nil)))))) (pw_or1 (pt_cmp (pc_dnotin (hu_of hr) (pv 1) (pe_fld (pv 0) rfl)))))) (pss_one (ps_raise rfl (takes_of rfl rfl rfl rfl) (pmk_oex G.x_NoProcess G.xi_NoProcess G.xt_NoProcess (ok_NoProcess_init G) (hr.mono (by decide)) G.bi_NoProcess_init .nil pass0 rfl G.g_NoProcess (pa_cons (pv 1) pa_nil)))) pss_nil)
  (pss_one (ps_ret (pe_dget (hu_of hr) (pe_fld (pv 0) rfl) (pv 1) (fun _ _ => rfl))))), ?_⟩
    have h1 := hS.hx
    have fin : (∀ i, v = .int i → S.tabs i = none) → tMkO A.c_NoProcess (spXi K "process") [] (tCons (tVar 1) tNil) (L2.start n_table_of [V.ref x, v]) H (fun cls d H' => E cls d H') := fun hn => by
      refine ⟨_, rfl, (by show 1 ≤ 1000; decide), fun a ha => xi_done G.x_NoProcess G.xn_NoProcess ha (k2 hn)⟩
    refine ⟨_, rfl, _, rfl, x, _, _, _, _, rfl, h1, cl, a5, rfl, v, 1, S.p, rfl, hv, _, rfl, ?_⟩
    cases ei : inR 1 S.p v with
    | false =>
      refine iteT (iteT (fin fun i e => ?_))
      subst e
      cases et : S.tabs i with
      | none => rfl
      | some P =>
        obtain ⟨d, hd⟩ := hS.living et
        have := (hS.tabE hd et).1
        rw [inR_of this.1 this.2] at ei
        cases ei
    | true =>
      refine iteF ?_
      obtain ⟨i, rfl, _⟩ := inR_int ei
      cases et : S.tabs i with
      | some P =>
        obtain ⟨d, hd⟩ := hS.living et
        obtain ⟨kvs, h2, hv2⟩ := id hd
        refine ⟨_, rfl, _, rfl, x, _, _, _, _, rfl, h1, cl, a7, rfl, wh.t, _, rfl, DGet.k (k := Sum.inl i) h2, _, rfl, ?_⟩
        rw [hv2]
        refine iteF ?_
        exact ⟨_, rfl, x, _, _, _, _, rfl, h1, cl, a7, rfl, _, rfl, wh.t, _, rfl, (by rw [← hv2]; exact DGet.k (k := Sum.inl i) h2), k1 i d rfl hd⟩
      | none =>
        obtain ⟨kvs, h2, hv2⟩ := hS.notIn et
        refine ⟨_, rfl, _, rfl, x, _, _, _, _, rfl, h1, cl, a7, rfl, wh.t, _, rfl, DGet.k (k := Sum.inl i) h2, _, rfl, ?_⟩
        rw [hv2]
        exact iteT (fin fun j e => by rw [← V.int.inj e]; exact et)
/-- nothing is locked: a new list of nothing -/
def spAddL (A : Adr) : Sp := fun vs H Q _ => ∃ (h f dh ro lk : Addr) (y : Nat → V), vs = [.ref h, .ref f] ∧ H h = some (.ins A.c_History dh (hisF ro lk y)) ∧ H ro = some (.lst []) ∧ H f = some (.lst []) ∧ Q .non H
theorem ok_add_locked (G : Txt K mg A) : FnOk P w K mg base CX0 1 A.a_add_locked A.fd_add_locked p_add_locked (spAddL A) := by
  refine G.f_add_locked.ok sc_add_locked (fun vs H Q E h => ?_) (fun cdv A' outer s H vs Q E hr h => ?_)
  · obtain ⟨h, f, dh, ro, lk, y, rfl, _⟩ := h
    rfl
  · obtain ⟨h, f, dh, ro, lk, y, rfl, hh, hr0, hf, k⟩ := h
    refine ⟨_, (pss_cons (ps_set (i := 2) sc_add_locked.nd rfl (Or.inl rfl) (pe_callB call_len_seq (by rfl) G.b_len (by decide +kernel) (pa_cons (pv 1) pa_nil)))
  (pss_one (ps_if (PW.pt (pw_and (pt_cmpR op_lt (pv 2) (pe_callB call_len_seq (by rfl) G.b_len (by decide +kernel) (pa_cons (pe_fld (pv 0) rfl) pa_nil)) (nomark _)) (pw_and (pt_cmpR op_notN (pe_ix ix_list (pe_fld (pv 0) rfl) (pv 2) (fun _ _ => rfl)) pe_non (nomark _)) (pw_and1 (pt_cmpR op_gt (pe_fld (pe_ix ix_list (pe_fld (pv 0) rfl) (pv 2) (fun _ _ => rfl)) rfl) pe_int (nomark _)))))) (pss_cons ps_never
  (pss_one ps_never)) pss_nil))), ?_⟩
    refine ⟨_, rfl, f, [], rfl, .inl (SqL.of hf), ?_⟩
    refine ⟨_, rfl, _, rfl, h, _, _, _, _, rfl, hh, G.cl_History, G.n_History_row, rfl, ro, [], rfl, .inl (SqL.of hr0), ?_⟩
    exact ⟨_, _, rfl, rfl, _, rfl, iteF (iteF k)⟩
def spArr (A : Adr) : Sp := fun vs H Q _ => ∃ (h dh ro lk : Addr) (y : Nat → V), vs = [.ref h] ∧ H h = some (.ins A.c_History dh (hisF ro lk y)) ∧ H ro = some (.lst []) ∧ H lk = some (.lst []) ∧
  ∀ H1 l, Same H H1 → H l = none → H1 l = some (.lst []) → Q .non (upd H1 h (.ins A.c_History dh (hisF ro l y)))
theorem ok_arrange_locked (G : Txt K mg A) : FnOk P w K mg base CX0 2 A.a_arrange_locked A.fd_arrange_locked p_arrange_locked (spArr A) := by
  refine G.f_arrange_locked.ok sc_arrange_locked (fun vs H Q E h => ?_) (fun cdv A' outer s H vs Q E hr h => ?_)
  · obtain ⟨h, dh, ro, lk, y, rfl, _⟩ := h
    rfl
  · obtain ⟨h, dh, ro, lk, y, rfl, hh, hr0, hl, k⟩ := h
    refine ⟨_, (pss_cons (ps_set (i := 1) sc_arrange_locked.nd rfl (Or.inl rfl) (pe_callTy call_list_of (by rfl) G.b_list (by decide +kernel) (pa_cons (pe_fld (pv 0) rfl) pa_nil)))
  (pss_cons (ps_expr (pe_call (ok_add_locked G) (hr.mono (by decide)) rfl G.g_add_locked G.k_add_locked G.bi_add_locked .nil pass0 (pa_cons (pv 0) (pa_cons (pv 1) pa_nil))))
  (pss_cons (ps_setLc (i := 2) (own := [("item", 3)]) (g := gName 3) rfl sc_arrange_locked.nd rfl rfl (sw_true rfl rfl rfl (by decide +kernel)) (pi_list (pv 1)) (blkOk_by (own := [("item", 3)]) (N := n_arrange_locked) (sc := defScope s_arrange_locked) (by decide +kernel)) (fun _ _ _ _ _ => pg_name (i := 3) sc_arrange_locked.nd rfl (Or.inl rfl)) (fun _ _ _ _ _ => pts_nev) (fun _ _ _ _ _ => (pv 3)))
  (pss_cons (ps_if (pt_cmpR op_lt (pe_callB call_len_seq (by rfl) G.b_len (by decide +kernel) (pa_cons (pv 2) pa_nil)) (pe_callB call_len_seq (by rfl) G.b_len (by decide +kernel) (pa_cons (pv 1) pa_nil)) (nomark _)) (pss_one ps_never) pss_nil)
  (pss_one (ps_fld (pv 0) (pv 2) rfl)))))), ?_⟩
    refine ⟨_, rfl, h, _, dh, _, _, rfl, hh, G.cl_History, G.n_History_locked, rfl, lk, [], rfl, .inl (SqL.of hl), fun f hf => ?_⟩
    have s1 := Same.new (o := .lst []) hf
    refine ⟨_, rfl, _, rfl, h, f, dh, ro, lk, y, rfl, s1 _ _ hh, s1 _ _ hr0, upd_same, ?_⟩
    refine ⟨_, rfl, f, rfl, ⟨_, SqL.of upd_same⟩, fun D hD => ?_⟩
    have s2 := s1.trans (Same.new (o := .lst []) hD)
    refine lc_it (tt := fun _ _ _ => False) (te := tVar 3) (walk_list (K := K) (a := f) (xs := [])) (fun j Z => Z = upd (upd H f (.lst [])) D (.lst [])) rfl (fun j Z _ z => by rw [z]; exact SqL.of (Same.new hD _ _ upd_same)) ?_ ?_
    · rintro j y Z0 Z hj _ ⟨rfl, hy⟩
      cases hy
    · rintro Z rfl
      obtain ⟨nDf, hD0⟩ := upd_none hD
      refine ⟨_, rfl, D, [], rfl, .inl (SqL.of upd_same), ?_⟩
      refine ⟨_, rfl, f, [], rfl, .inl (SqL.of (Same.new hD _ _ upd_same)), ?_⟩
      refine ⟨_, _, rfl, rfl, _, rfl, iteF ?_⟩
      refine ⟨_, rfl, _, rfl, h, _, _, _, rfl, s2 _ _ hh, G.cl_History, G.n_History_locked, (by show 14 < 1000; decide), k _ D s2 hD0 upd_same⟩
/-- a step is counted -/
def spEnd (A : Adr) : Sp := fun vs H Q _ => ∃ (x : Addr) (wh : Wh) (S : Sys) (τ : Tm), vs = [.ref x] ∧ Sr A H x wh S τ ∧ ∀ H' τ', Go τ H τ' H' → Sr A H' x wh { S with n := S.n + 1 } τ' → Q .non H'
theorem ok_end_step (G : Txt K mg A) : FnOk P w K mg base CX0 3 A.a_end_step A.fd_end_step p_end_step (spEnd A) := by
  refine G.f_end_step.ok sc_end_step (fun vs H Q E h => ?_) (fun cdv A' outer s H vs Q E hr h => ?_)
  · obtain ⟨x, wh, S, τ, rfl, _⟩ := h
    rfl
  · obtain ⟨x, wh, S, τ, rfl, hS, k⟩ := h
    refine ⟨_, (pss_cons (ps_expr (pe_call (ok_arrange_locked G) (hr.mono (by decide)) rfl G.g_arrange_locked G.k_arrange_locked G.bi_arrange_locked .nil pass0 (pa_cons (pe_fld (pv 0) rfl) pa_nil)))
  (pss_one (ps_fldaug (pv 0) pe_int in_add))), ?_⟩
    obtain ⟨dh, lk, y, e1, e2, e3⟩ := hS.his.at_
    refine ⟨_, rfl, x, _, _, _, _, rfl, hS.hx, G.cl_System, G.n_System_history, rfl, wh.hi, dh, wh.ro, lk, y, rfl, e1, hS.his.ro, e2, fun H1 l s1 hl0 hl1 => ?_⟩
    have S1 := hS.same s1
    have S2 := S1.putHis (dh' := dh) (lk' := l) (y' := y) (s1 _ _ e1) hl1 (hS.fresh hl0)
    refine ⟨_, rfl, x, _, _, _, _, rfl, S2.hx, G.cl_System, G.n_System_steps_made, rfl, S.n, 1, rfl, rfl, _, _, S2.hx, (by show 18 < 1000; decide), k _ (setTag τ l .lks) ?_ ?_⟩
    · have g1 := hS.goHis (dh' := dh) (y' := y) s1 e1 hl0 hl1
      exact g1.trans (Go.upd (by rw [S2.tx]; simp) S2.hx)
    · have e := cntS_tabs (S := S) (S' := { S with n := S.n + 1 }) rfl
      show SyA _ _ _ _ _ _ _ _ (cntS { S with n := S.n + 1 })
      rw [← e]
      exact S2.put (n' := S.n + 1) (o' := S.o) (Int.le_refl _) hS.bo.2
def spThis (A : Adr) : Sp := fun vs H Q _ => ∃ (x : Addr) (wh : Wh) (S : Sys) (τ : Tm) (cnt : Int → Int → Nat), vs = [.ref x] ∧ Sa A H x wh S τ cnt ∧ Q (.int (S.n + 1)) H
theorem ok_this_step (G : Txt K mg A) : FnOk P w K mg base CX0 1 A.a_this_step A.fd_this_step p_this_step (spThis A) := by
  refine G.f_this_step.ok sc_this_step (fun vs H Q E h => ?_) (fun cdv A' outer s H vs Q E hr h => ?_)
  · obtain ⟨x, wh, S, τ, cnt, rfl, _⟩ := h
    rfl
  · obtain ⟨x, wh, S, τ, cnt, rfl, hS, k⟩ := h
    refine ⟨_, (pss_one (ps_ret (pe_op op_add (pe_fld (pv 0) rfl) pe_int))), ?_⟩
    exact ⟨_, rfl, x, _, _, _, _, rfl, hS.hx, G.cl_System, G.n_System_steps_made, rfl, S.n, 1, rfl, rfl, k⟩
end
end My
set_option Elab.async false
set_option linter.all false
set_option maxRecDepth 100000
set_option maxHeartbeats 4000000
namespace My
open PySem L2
local macro_rules | `(tactic| walk_at "ds") => `(tactic| dsimp only [tSeq, tIfS, tTest, tB, tAnd, tOr, tNot, tAndV, tOrV, tNotV, tIf, tIsN, tNotN, tOp, tUn, tChain, rI, rI0, rU, tC, tCB, tCons, tNil, tAsg, gName, gSub, tRet, tRetN, tNext, tDrop, tLst, tTup, rIxL, rIxT, rSetL, tVar, tFld, tCall, tDGet, tDIn, tDNotIn, tNever, L2.start, List.map, List.replicate, List.length, List.append, List.cons_append, List.nil_append, List.set, Nat.sub])
local macro_rules | `(tactic| walk_at "hp") => `(tactic| first | assumption | exact upd_same | (refine Eq.trans (upd_ne (by first | assumption | (apply Ne.symm; assumption))) ?_; walk_at "hp"))
local macro_rules | `(tactic| walk_at "sd") => `(tactic| first
  | (show (_ : Int) ≠ 0; omega)
  | (refine (show CDivN _ _ from ⟨?_, ?_⟩) <;> omega)
  | (show CPow _ _; refine ⟨by omega, by omega, by omega⟩)
  | (show CMul _ _; exact Or.inl ⟨by omega, by omega⟩)
  | (show CMul _ _; exact Or.inr ⟨by omega, by omega⟩))
local macro_rules | `(tactic| walk_at "st") => `(tactic| first
  | refine ⟨_, rfl, ?_⟩
  | refine ⟨_, _, rfl, rfl, (by walk_at "sd"), ?_⟩
  | refine ⟨_, _, rfl, rfl, ?_⟩
  | refine ⟨_, _, _, _, rfl, rfl, SqL.of (by walk_at "hp"), rfl, ?_⟩
  | refine ⟨_, _, _, _, rfl, rfl, (by walk_at "hp"), rfl, ?_⟩
  | refine .inl ⟨_, rfl, ?_⟩
  | refine ⟨_, _, _, _, _, rfl, (by walk_at "hp"), (by assumption), (by assumption), rfl, ?_⟩
  | refine ⟨_, _, rfl, .inl (SqL.of (by walk_at "hp")), ?_⟩)
local macro_rules | `(tactic| walk_at "go") => `(tactic| repeat (first | walk_at "st" | (walk_at "ds"; walk_at "st")))
local macro_rules | `(tactic| walk_at "ni") => `(tactic| dsimp (config := { proj := false }) only [tNil, List.cons_append, List.nil_append])
section
variable {P : Program} {w : World} {K : PySem.W.Frag} {mg : Str → Option Value} {base : Heap} {A : Adr}
def spCount (A : Adr) : Sp := fun vs H Q _ => ∃ (x : Addr) (wh : Wh) (S : Sys) (τ : Tm) (cnt : Int → Int → Nat) (p : Addr) (g : Pg), vs = [.ref x, .ref p] ∧ Sa A H x wh S τ cnt ∧ PgR A.c_Page H p g ∧ WfP g ∧ (∀ k, g.src = .obj k → 1 ≤ k ∧ k ≤ S.o) ∧
  ∀ H' τ', Go τ H τ' H' → H' wh.t = H wh.t → Sa A H' x wh S τ' (incC cnt g) → Q .non H'
theorem ok_count_page (G : Txt K mg A) : FnOk P w K mg base CX0 2 A.a_count_page A.fd_count_page p_count_page (spCount A) := by
  refine G.f_count_page.ok sc_count_page (fun vs H Q E h => ?_) (fun cdv A' outer s H vs Q E hr h => ?_)
  · obtain ⟨x, wh, S, τ, cnt, p, g, rfl, _⟩ := h
    rfl
  · obtain ⟨x, wh, S, τ, cnt, p, g, rfl, hS, hp, wf, ob, k⟩ := h
    obtain ⟨dx, sv, fa, e, hs, hf⟩ := id hp
    obtain ⟨cl, a3, a4, a5, a6, a7, a8, a9, a10⟩ := G.sysN
    refine ⟨_, (pss_cons (ps_set (i := 2) sc_count_page.nd rfl (Or.inl rfl) (pe_fld (pv 1) rfl))
  (pss_one (ps_if (pt_cmpR op_notN (pv 2) pe_non (nomark _)) (pss_cons ps_never
  (pss_one ps_never)) (pss_one (ps_if (pt_val (pe_call (ok_has_object G) (hr.mono (by decide)) rfl G.g_has_object G.k_has_object G.bi_has_object .nil pass0 (pa_cons (pv 1) pa_nil))) (pss_cons (ps_set (i := 3) sc_count_page.nd rfl (Or.inl rfl) (pe_dsetd (pe_fld (pv 0) rfl) (pe_ix ix_tup (pe_fld (pv 1) rfl) pe_int (fun _ _ => rfl)) pe_dnewK ⟨rfl, rfl, rfl, rfl⟩))
  (pss_one (ps_dput (hu_of hr) (pv 3) (pe_fld (pv 1) rfl) (pe_op op_add (pe_dget2 (hu_of hr) (pv 3) (pe_fld (pv 1) rfl) pe_int ⟨rfl, rfl, rfl, rfl⟩) pe_int) rfl))) pss_nil))))), ?_⟩
    refine ⟨_, rfl, p, _, _, _, _, rfl, e, G.cl_Page, G.n_Page_held, rfl, _, rfl, rfl, _, rfl, iteF ?_⟩
    refine ⟨_, rfl, p, g, rfl, hp, wf, _, rfl, iteB (fun c => ?_) (fun c => ?_)⟩
    · obtain ⟨j, ej⟩ : ∃ j, g.src = .obj j := by
        cases es : g.src with
        | obj j => exact ⟨j, rfl⟩
        | non => rw [es] at c; cases c
        | file n => rw [es] at c; cases c
      obtain ⟨i, ei, i0, i1⟩ := wf.ix (by rw [ej]; simp)
      obtain ⟨b0, b1⟩ := ob j ej
      have hsh := wf.ob j ej
      rw [ej] at hs
      obtain ⟨a, rfl, ha⟩ := hs
      rw [ei] at e
      obtain ⟨okvs, fo, ho, _⟩ := hS.obs
      have inc : ∀ k' i', incC cnt g k' i' = setC cnt j (fun i' => if i' = i then cnt j i + 1 else cnt j i') k' i' := fun k' i' => by
        show cnt k' i' + cntO k' i' (some g) = (if k' = j then (fun i' => if i' = i then cnt j i + 1 else cnt j i') else cnt k') i'
        rw [cntO_is hsh ej ei]
        by_cases z : k' = j
        · rw [if_pos z, z]
          by_cases y : i' = i
          · rw [if_pos ⟨rfl, y⟩]
            simp only [y, if_pos]
          · rw [if_neg (fun q => y q.2)]
            simp only [if_neg y]
            omega
        · rw [if_neg z, if_neg (fun q => z q.1)]
          omega
      refine ⟨_, rfl, x, _, _, _, _, rfl, hS.hx, cl, a8, rfl, wh.ob, rfl, .inl ⟨okvs, .inl ho⟩, ?_⟩
      refine ⟨_, rfl, p, _, _, _, _, rfl, e, G.cl_Page, G.n_Page_source, rfl, a, _, 1, _, rfl, rfl, SqT.of ha, rfl, fun q hq => ?_⟩
      have s1 := Same.new (o := .dK []) hq
      have nq : ∀ {b : Addr} {o : HO}, H b = some o → b ≠ q := fun e => ne_of_none e hq
      refine ⟨okvs, Sum.inl j, s1 _ _ ho, rfl, Nat.lt_of_le_of_lt (hS.obLen ho) (by decide), fun v hv => ?_, fun hn => ?_⟩
      · -- the object is known
        obtain ⟨u, eu⟩ : ∃ u, v = .ref u := by
          rcases hS.obv ho j with z | ⟨u, z⟩
          · rw [hv] at z; cases z
          · rw [hv] at z; exact ⟨u, Option.some.inj z⟩
        subst eu
        obtain ⟨tu, ur, ne, _⟩ := hS.usr ho hv
        have ul := ur
        obtain ⟨ukvs, f, hu, di, hf1, hf2⟩ := ur
        have len := ul.len hu
        have hget : (valV ukvs (Sum.inl i)).getD (.int 0) = .int (cnt j i : Nat) := by
          rw [di.val, hf1]
          by_cases z : cnt j i = 0
          · rw [if_pos z, z]; rfl
          · rw [if_neg z]; rfl
        refine ⟨_, rfl, u, rfl, .inl ⟨ukvs, .inl (s1 _ _ hu)⟩, ?_⟩
        refine ⟨_, rfl, p, _, _, _, _, rfl, s1 _ _ e, G.cl_Page, G.n_Page_index, rfl, _, DGet.k (k := Sum.inl i) (s1 _ _ hu), _, 1, hget, rfl, ?_⟩
        refine ⟨_, rfl, _, rfl, p, _, _, _, _, rfl, s1 _ _ e, G.cl_Page, G.n_Page_index, rfl, u, _, rfl, DPut.k (k := Sum.inl i) (s1 _ _ hu) (Nat.lt_of_le_of_lt len (by decide)), ?_⟩
        have go : Go τ H τ (upd (upd H q (.dK [])) u (.dK (putK ukvs (Sum.inl i) (.int ((cnt j i : Nat) + 1))))) := (Go.same s1).trans (Go.upd (by rw [tu]; simp) (s1 _ _ hu))
        refine k _ τ go (by rw [upd_ne (ne_tag hS.tt tu (by simp)), upd_ne (ne_of_none hS.tabs.choose_spec.choose_spec.1 hq)]) (SyA.cong ((hS.same s1).putUsr (s1 _ _ ho) hv (c' := fun i' => if i' = i then cnt j i + 1 else cnt j i') ⟨_, _, upd_same, di.put i _, fun i' => ?_, fun i' h' => ?_⟩ ⟨i, by simp⟩) fun k' i' => (inc k' i').symm)
        · by_cases z : i' = i
          · simp only [z, if_pos]
            rw [if_neg (by omega)]
            rfl
          · simp only [if_neg z]
            exact hf1 i'
        · by_cases z : i' = i
          · rw [z]; exact ⟨i0, i1⟩
          · simp only [if_neg z] at h'
            exact hf2 i' h'
      · -- it is not
        have zero := hS.noUsr ho hn
        have nqo : wh.ob ≠ q := nq ho
        have e1 : ∀ {b : Addr} {o : HO}, H b = some o → b ≠ wh.ob → (upd (upd H q (.dK [])) wh.ob (.dK (putK okvs (Sum.inl j) (.ref q)))) b = some o := fun h n => by rw [upd_ne n]; exact s1 _ _ h
        have npo : p ≠ wh.ob := ne_of e ho (by intro z; cases z)
        have hq1 : (upd (upd H q (.dK [])) wh.ob (.dK (putK okvs (Sum.inl j) (.ref q)))) q = some (.dK []) := by rw [upd_ne (Ne.symm nqo), upd_same]
        refine ⟨_, rfl, q, rfl, .inl ⟨[], .inl hq1⟩, ?_⟩
        refine ⟨_, rfl, p, _, _, _, _, rfl, e1 e npo, G.cl_Page, G.n_Page_index, rfl, _, DGet.k (k := Sum.inl i) hq1, 0, 1, rfl, rfl, ?_⟩
        refine ⟨_, rfl, _, rfl, p, _, _, _, _, rfl, e1 e npo, G.cl_Page, G.n_Page_index, rfl, q, _, rfl, DPut.k (k := Sum.inl i) hq1 (by show 0 < sizeLine; decide), ?_⟩
        have eH : upd (upd (upd H q (.dK [])) wh.ob (.dK (putK okvs (Sum.inl j) (.ref q)))) q (.dK (putK [] (Sum.inl i) (.int (0 + 1)))) = upd (upd H q (.dK (putK [] (Sum.inl i) (.int (0 + 1))))) wh.ob (.dK (putK okvs (Sum.inl j) (.ref q))) := by
          rw [upd_comm nqo, upd_upd]
        rw [eH]
        have s2 := Same.new (o := .dK (putK [] (Sum.inl i) (.int (0 + 1)))) hq
        have tq := hS.fresh hq
        refine k _ _ ⟨fun b o n eb => ?_, fun b => ?_, fun b xs eb => by rw [upd_ne (fun z => by rw [z, ho] at eb; cases eb)]; exact s2 _ _ eb⟩ (by rw [upd_ne (ne_tag hS.tt hS.to (by simp)), upd_ne (ne_of_none hS.tabs.choose_spec.choose_spec.1 hq)]) (SyA.cong ((hS.same s2).newUsr (s2 _ _ ho) hn ⟨b0, b1⟩ tq (c' := fun i' => if i' = i then cnt j i + 1 else cnt j i') ⟨_, _, upd_same, DI.nil.put i _, fun i' => ?_, fun i' h' => ?_⟩ ⟨i, by simp⟩) fun k' i' => (inc k' i').symm)
        · rw [upd_ne (fun z => by rw [z, hS.to] at n; cases n)]
          exact s2 _ _ eb
        · by_cases z : b = q
          · rw [z]; exact .inr ⟨tq, hq⟩
          · exact .inl (setTag_ne z)
        · by_cases z : i' = i
          · simp only [z, if_pos]
            rw [if_neg (by omega), zero i]
            rfl
          · simp only [if_neg z]
            rw [if_pos (zero i')]
        · by_cases z : i' = i
          · rw [z]; exact ⟨i0, i1⟩
          · simp only [if_neg z] at h'
            exact absurd (zero i') h'
    · refine k H τ (Go.refl τ H) rfl (hS.cong fun k' i' => ?_)
      show cnt k' i' = cnt k' i' + cntO k' i' (some g)
      rw [cntO_no fun j ej => by rw [ej] at c; cases c]
      omega
def spDisU (A : Adr) : Sp := fun vs H Q _ => ∃ (x : Addr) (wh : Wh) (S : Sys) (τ : Tm) (cnt : Int → Int → Nat) (j i : Int), vs = [.ref x, .int j, .int i] ∧ Sa A H x wh S τ cnt ∧ 0 < cnt j i ∧
  ∀ H', Go τ H τ H' → H' wh.t = H wh.t → Sa A H' x wh S τ (setC cnt j fun i' => if i' = i then cnt j i - 1 else cnt j i') → Q .non H'
theorem ok_discount_user (G : Txt K mg A) : FnOk P w K mg base CX0 1 A.a_discount_user A.fd_discount_user p_discount_user (spDisU A) := by
  refine G.f_discount_user.ok sc_discount_user (fun vs H Q E h => ?_) (fun cdv A' outer s H vs Q E hr h => ?_)
  · obtain ⟨x, wh, S, τ, cnt, j, i, rfl, _⟩ := h
    rfl
  · obtain ⟨x, wh, S, τ, cnt, j, i, rfl, hS, pos, k⟩ := h
    obtain ⟨cl, a3, a4, a5, a6, a7, a8, a9, a10⟩ := G.sysN
    refine ⟨_, (pss_cons (ps_set (i := 3) sc_discount_user.nd rfl (Or.inl rfl) (pe_dget (hu_of hr) (pe_fld (pv 0) rfl) (pv 1) (fun _ _ => rfl)))
  (pss_cons (ps_daug (hu_of hr) (pv 3) (pv 2) pe_int in_sub (fun _ _ _ => rfl))
  (pss_cons (ps_if (pt_cmpR op_gt (pe_dget (hu_of hr) (pv 3) (pv 2) (fun _ _ => rfl)) pe_int (nomark _)) (pss_one ps_retN) pss_nil)
  (pss_cons (ps_ddel (pv 3) (pv 2))
  (pss_cons (ps_if (pt_cmp (pc_din (hu_of hr) (pe_tup (pa_cons (pv 1) (pa_cons (pv 2) pa_nil))) (pe_fld (pv 0) rfl))) (pss_cons ps_never
  (pss_one ps_never)) pss_nil)
  (pss_one (ps_if (pt_cmpR op_eq (pe_callB call_lenD (by rfl) G.b_len (by decide +kernel) (pa_cons (pv 3) pa_nil)) pe_int (nomark _)) (pss_one (ps_ddel (pe_fld (pv 0) rfl) (pv 1))) pss_nil))))))), ?_⟩
    obtain ⟨okvs, fo, ho, _⟩ := hS.obs
    obtain ⟨u, hv⟩ : ∃ u, valV okvs (Sum.inl j) = some (.ref u) := by
      rcases hS.obv ho j with z | z
      · have := hS.noUsr ho z i
        omega
      · exact z
    obtain ⟨tu, ur, ne, _⟩ := hS.usr ho hv
    have ul := ur
    obtain ⟨ukvs, f, hu, di, hf1, hf2⟩ := ur
    have len := ul.len hu
    have ntt : wh.t ≠ u := ne_tag hS.tt tu (by simp)
    have nto : wh.t ≠ wh.ob := ne_tag hS.tt hS.to (by simp)
    have hget : valV ukvs (Sum.inl i) = some (.int (cnt j i : Nat)) := by rw [di.val, hf1, if_neg (by omega)]
    refine ⟨_, rfl, x, _, _, _, _, rfl, hS.hx, cl, a8, rfl, _, rfl, wh.ob, _, rfl, (by rw [← hv]; exact DGet.k (k := Sum.inl j) ho), ?_⟩
    refine ⟨_, rfl, _, rfl, u, _, rfl, (by rw [← hget]; exact DGet.k (k := Sum.inl i) hu), _, 1, rfl, rfl, _, DPut.k (k := Sum.inl i) hu (Nat.lt_of_le_of_lt len (by decide)), ?_⟩
    have goU : ∀ {kvs' : List (Key × V)}, Go τ H τ (upd H u (.dK kvs')) := Go.upd (by rw [tu]; simp) hu
    have g1 : valV (putK ukvs (Sum.inl i) (.int ((cnt j i : Nat) - 1))) (Sum.inl i) = some (.int ((cnt j i : Nat) - 1)) := by rw [valV_put, if_pos rfl]
    refine ⟨_, rfl, _, rfl, u, _, rfl, (by rw [← g1]; exact DGet.k (k := Sum.inl i) upd_same), _, _, rfl, rfl, _, rfl, iteB (fun c => ?_) (fun c => ?_)⟩
    · have c' := of_decide_eq_true c
      refine k _ goU (upd_ne ntt) (hS.putUsr ho hv ⟨_, _, upd_same, di.put i _, fun i' => ?_, fun i' h' => ?_⟩ ⟨i, by simp only [if_pos]; omega⟩)
      · by_cases z : i' = i
        · simp only [z, if_pos]
          rw [if_neg (by omega), Int.natCast_sub (by omega)]
          rfl
        · simp only [if_neg z]
          exact hf1 i'
      · by_cases z : i' = i
        · rw [z]; exact hf2 i (by omega)
        · simp only [if_neg z] at h'
          exact hf2 i' h'
    · have c' := of_decide_eq_false c
      have one : cnt j i = 1 := by omega
      refine ⟨_, rfl, _, rfl, u, _, Sum.inl i, rfl, upd_same, rfl, by rw [g1]; rfl, ?_⟩
      rw [upd_upd]
      have di2 := (di.put i (.int ((cnt j i : Nat) - 1))).drop i
      generalize hkv : dropK (putK ukvs (Sum.inl i) (.int ((cnt j i : Nat) - 1))) (Sum.inl i) = kv2 at *
      have val2 : ∀ i', valV kv2 (Sum.inl i') = if (if i' = i then cnt j i - 1 else cnt j i') = 0 then none else some (.int ((if i' = i then cnt j i - 1 else cnt j i' : Nat) : Nat)) := fun i' => by
        rw [di2.val]
        by_cases z : i' = i
        · simp only [z, if_pos]
          rw [if_pos (by omega)]
        · simp only [if_neg z]
          exact hf1 i'
      have nuo : wh.ob ≠ u := ne_tag hS.to tu (by simp)
      have nux : x ≠ u := ne_tag hS.tx tu (by simp)
      have nug : wh.og ≠ u := ne_tag hS.tg tu (by simp)
      refine ⟨_, rfl, _, rfl, (by show 2 ≤ sizeLine; decide), fun t ht => ?_⟩
      obtain ⟨ntu, ht0⟩ := upd_none ht
      have e1 : ∀ {b : Addr} {o : HO}, H b = some o → b ≠ u → (upd (upd H u (.dK kv2)) t (.tup [V.int j, V.int i])) b = some o := fun h n => by rw [upd_ne (ne_of_none h ht0), upd_ne n]; exact h
      refine ⟨_, rfl, x, _, _, _, _, rfl, e1 hS.hx nux, cl, a9, rfl, wh.og, _, rfl, DGet.t (k := [Sum.inl j, Sum.inl i]) (e1 hS.ogs nug) upd_same, _, rfl, iteF ?_⟩
      have hu2 : (upd (upd H u (.dK kv2)) t (.tup [V.int j, V.int i])) u = some (.dK kv2) := by rw [upd_ne (Ne.symm ntu), upd_same]
      refine ⟨_, rfl, u, kv2, rfl, hu2, rfl, _, rfl, iteB (fun c2 => ?_) (fun c2 => ?_)⟩
      · have l0 : kv2.length = 0 := by
          have := V.int.inj (of_decide_eq_true c2)
          omega
        have nil : kv2 = [] := List.eq_nil_of_length_eq_zero l0
        subst nil
        refine ⟨_, rfl, x, _, _, _, _, rfl, e1 hS.hx nux, cl, a8, rfl, _, rfl, wh.ob, okvs, Sum.inl j, rfl, e1 ho nuo, rfl, by rw [hv]; rfl, ?_⟩
        have st := Same.new (o := .tup [V.int j, V.int i]) ht0
        have eH : upd (upd (upd H u (.dK [])) t (.tup [V.int j, V.int i])) wh.ob (.dK (dropK okvs (Sum.inl j))) = upd (upd (upd H t (.tup [V.int j, V.int i])) wh.ob (.dK (dropK okvs (Sum.inl j)))) u (.dK []) := by
          rw [upd_comm (Ne.symm ntu), upd_comm (Ne.symm nuo)]
        rw [eH]
        have h2 := (hS.same st).dropUsr (k := j) (st _ _ ho)
        have hu3 : (upd (upd H t (.tup [V.int j, V.int i])) wh.ob (.dK (dropK okvs (Sum.inl j)))) u = some (.dK ukvs) := by rw [upd_ne (Ne.symm nuo)]; exact st _ _ hu
        have h3 := h2.garb upd_same (by rw [val_drop, if_pos rfl]) tu (kvs' := []) hu3
        refine k _ (((Go.same st).trans (Go.upd (by rw [hS.to]; simp) (st _ _ ho))).trans (Go.upd (by rw [tu]; simp) hu3)) (by rw [upd_ne ntt, upd_ne nto, upd_ne (ne_of_none hS.tabs.choose_spec.choose_spec.1 ht0)]) (h3.cong fun k' i' => ?_)
        show (if k' = j then (fun _ => 0) else cnt k') i' = (if k' = j then (fun i' => if i' = i then cnt j i - 1 else cnt j i') else cnt k') i'
        by_cases z : k' = j
        · rw [if_pos z, if_pos z]
          have := val2 i'
          rw [show valV ([] : List (Key × V)) (Sum.inl i') = none from rfl] at this
          by_cases y : (if i' = i then cnt j i - 1 else cnt j i') = 0
          · exact y.symm
          · rw [if_neg y] at this
            cases this
        · rw [if_neg z, if_neg z]
      · have l0 : kv2.length ≠ 0 := fun z => of_decide_eq_false c2 (by rw [z]; rfl)
        have st := Same.new (o := .tup [V.int j, V.int i]) ht
        refine k _ (goU.trans (Go.same st)) (by rw [upd_ne (ne_of_none hS.tabs.choose_spec.choose_spec.1 ht0), upd_ne ntt]) (((hS.putUsr ho hv ⟨_, _, upd_same, di2, fun i' => (di2.val i').symm.trans (val2 i'), fun i' h' => ?_⟩ ?_)).same st)
        · by_cases z : i' = i
          · rw [z]; exact hf2 i (by omega)
          · simp only [if_neg z] at h'
            exact hf2 i' h'
        · obtain ⟨q, hq⟩ : ∃ q, q ∈ kv2 := by
            cases kv2 with
            | nil => exact absurd rfl l0
            | cons q r => exact ⟨q, List.mem_cons_self⟩
          obtain ⟨i', e1, e2⟩ := di2.of_mem hq
          refine ⟨i', fun z => ?_⟩
          have := val2 i'
          rw [if_pos z, di2.val, e2] at this
          cases this
def spDisc (A : Adr) : Sp := fun vs H Q _ => ∃ (x : Addr) (wh : Wh) (S : Sys) (τ : Tm) (cnt : Int → Int → Nat) (p : Addr) (g : Pg), vs = [.ref x, .ref p] ∧ Sa A H x wh S τ cnt ∧ PgR A.c_Page H p g ∧ WfP g ∧ (∀ k i, cntO k i (some g) ≤ cnt k i) ∧
  ∀ H', Go τ H τ H' → H' wh.t = H wh.t → Sa A H' x wh S τ (decC cnt g) → Q .non H'
theorem ok_discount_page (G : Txt K mg A) : FnOk P w K mg base CX0 2 A.a_discount_page A.fd_discount_page p_discount_page (spDisc A) := by
  refine G.f_discount_page.ok sc_discount_page (fun vs H Q E h => ?_) (fun cdv A' outer s H vs Q E hr h => ?_)
  · obtain ⟨x, wh, S, τ, cnt, p, g, rfl, _⟩ := h
    rfl
  · obtain ⟨x, wh, S, τ, cnt, p, g, rfl, hS, hp, wf, le, k⟩ := h
    obtain ⟨dx, sv, fa, e, hs, hf⟩ := id hp
    refine ⟨_, (pss_cons (ps_set (i := 2) sc_discount_page.nd rfl (Or.inl rfl) (pe_fld (pv 1) rfl))
  (pss_one (ps_if (pt_cmpR op_notN (pv 2) pe_non (nomark _)) (pss_cons ps_never
  (pss_cons ps_never
  (pss_one ps_never))) (pss_one (ps_if (pt_val (pe_call (ok_has_object G) (hr.mono (by decide)) rfl G.g_has_object G.k_has_object G.bi_has_object .nil pass0 (pa_cons (pv 1) pa_nil))) (pss_one (ps_expr (pe_call (ok_discount_user G) (hr.mono (by decide)) rfl G.g_discount_user G.k_discount_user G.bi_discount_user .nil pass0 (pa_cons (pv 0) (pa_cons (pe_ix ix_tup (pe_fld (pv 1) rfl) pe_int (fun _ _ => rfl)) (pa_cons (pe_fld (pv 1) rfl) pa_nil)))))) pss_nil))))), ?_⟩
    refine ⟨_, rfl, p, _, _, _, _, rfl, e, G.cl_Page, G.n_Page_held, rfl, _, rfl, rfl, _, rfl, iteF ?_⟩
    refine ⟨_, rfl, p, g, rfl, hp, wf, _, rfl, iteB (fun c => ?_) (fun c => ?_)⟩
    · obtain ⟨j, ej⟩ : ∃ j, g.src = .obj j := by
        cases es : g.src with
        | obj j => exact ⟨j, rfl⟩
        | non => rw [es] at c; cases c
        | file n => rw [es] at c; cases c
      obtain ⟨i, ei, i0, i1⟩ := wf.ix (by rw [ej]; simp)
      have hsh := wf.ob j ej
      rw [ej] at hs
      obtain ⟨a, rfl, ha⟩ := hs
      rw [ei] at e
      have pos : 0 < cnt j i := by
        have := le j i
        rw [cntO_is hsh ej ei, if_pos ⟨rfl, rfl⟩] at this
        omega
      refine ⟨_, rfl, _, rfl, p, _, _, _, _, rfl, e, G.cl_Page, G.n_Page_source, rfl, a, _, 1, _, rfl, rfl, SqT.of ha, rfl, _, rfl, p, _, _, _, _, rfl, e, G.cl_Page, G.n_Page_index, rfl, ?_⟩
      refine ⟨x, wh, S, τ, cnt, j, i, rfl, hS, pos, fun H' go et S' => k H' go et (S'.cong fun k' i' => ?_)⟩
      show (if k' = j then (fun i' => if i' = i then cnt j i - 1 else cnt j i') else cnt k') i' = cnt k' i' - cntO k' i' (some g)
      rw [cntO_is hsh ej ei]
      by_cases z : k' = j
      · rw [if_pos z, z]
        by_cases y : i' = i
        · rw [if_pos (show j = j ∧ i' = i from ⟨rfl, y⟩)]
          simp only [y, if_pos]
        · rw [if_neg (show ¬ (j = j ∧ i' = i) from fun q => y q.2)]
          simp only [if_neg y]
          omega
      · rw [if_neg z, if_neg (fun q => z q.1)]
        omega
    · refine k H (Go.refl τ H) rfl (hS.cong fun k' i' => ?_)
      show cnt k' i' = cnt k' i' - cntO k' i' (some g)
      rw [cntO_no fun j ej => by rw [ej] at c; cases c]
      omega
end
end My
set_option Elab.async false
set_option linter.all false
set_option maxRecDepth 100000
set_option maxHeartbeats 4000000
namespace My
open PySem L2
local macro_rules | `(tactic| walk_at "ds") => `(tactic| dsimp only [tSeq, tIfS, tTest, tB, tAnd, tOr, tNot, tAndV, tOrV, tNotV, tIf, tIsN, tNotN, tOp, tUn, tChain, rI, rI0, rU, tC, tCB, tCons, tNil, tAsg, gName, gSub, tRet, tRetN, tNext, tDrop, tLst, tTup, rIxL, rIxT, rSetL, tVar, tFld, tCall, tDGet, tDIn, tDNotIn, tNever, L2.start, List.map, List.replicate, List.length, List.append, List.cons_append, List.nil_append, List.set, Nat.sub])
local macro_rules | `(tactic| walk_at "hp") => `(tactic| first | assumption | exact upd_same | (refine Eq.trans (upd_ne (by first | assumption | (apply Ne.symm; assumption))) ?_; walk_at "hp"))
local macro_rules | `(tactic| walk_at "sd") => `(tactic| first
  | (show (_ : Int) ≠ 0; omega)
  | (refine (show CDivN _ _ from ⟨?_, ?_⟩) <;> omega)
  | (show CPow _ _; refine ⟨by omega, by omega, by omega⟩)
  | (show CMul _ _; exact Or.inl ⟨by omega, by omega⟩)
  | (show CMul _ _; exact Or.inr ⟨by omega, by omega⟩))
local macro_rules | `(tactic| walk_at "st") => `(tactic| first
  | refine ⟨_, rfl, ?_⟩
  | refine ⟨_, _, rfl, rfl, (by walk_at "sd"), ?_⟩
  | refine ⟨_, _, rfl, rfl, ?_⟩
  | refine ⟨_, _, _, _, rfl, rfl, SqL.of (by walk_at "hp"), rfl, ?_⟩
  | refine ⟨_, _, _, _, rfl, rfl, (by walk_at "hp"), rfl, ?_⟩
  | refine .inl ⟨_, rfl, ?_⟩
  | refine ⟨_, _, _, _, _, rfl, (by walk_at "hp"), (by assumption), (by assumption), rfl, ?_⟩
  | refine ⟨_, _, rfl, .inl (SqL.of (by walk_at "hp")), ?_⟩)
local macro_rules | `(tactic| walk_at "go") => `(tactic| repeat (first | walk_at "st" | (walk_at "ds"; walk_at "st")))
local macro_rules | `(tactic| walk_at "ni") => `(tactic| dsimp (config := { proj := false }) only [tNil, List.cons_append, List.nil_append])
section
variable {P : Program} {w : World} {K : PySem.W.Frag} {mg : Str → Option Value} {base : Heap} {A : Adr}
def spRepl (A : Adr) : Sp := fun vs H Q _ => ∃ (x : Addr) (wh : Wh) (S : Sys) (τ : Tm) (i : Int) (c : Addr) (ls : List (Key × V)) (ch : List (Int × Option Pg)) (T : Tb), vs = [.ref x, .int i, .ref c] ∧ Sr A H x wh S τ ∧ S.tabs i = some T ∧
  H c = some (.dK ls) ∧ τ c = none ∧ LsR A.c_Page H ls ch ∧ (ch.map (·.1)).Nodup ∧ (∀ q ∈ ch, 0 ≤ q.1 ∧ q.1 < 512) ∧ (∀ q ∈ ch, ∀ g, q.2 = some g → ∀ k, g.src = .obj k → 1 ≤ k ∧ k ≤ S.o) ∧
  ∀ H' τ', Go τ H τ' H' → Sr A H' x wh (S.setTab i (some (appT T ch))) τ' → Q .non H'
theorem ok_replace_pages (G : Txt K mg A) : FnOk P w K mg base CX0 3 A.a_replace_pages A.fd_replace_pages p_replace_pages (spRepl A) := by
  refine G.f_replace_pages.ok sc_replace_pages (fun vs H Q E h => ?_) (fun cdv A' outer s H vs Q E hr h => ?_)
  · obtain ⟨x, wh, S, τ, i, c, ls, ch, T, rfl, _⟩ := h
    rfl
  · obtain ⟨x, wh, S, τ, i, c, ls, ch, T, rfl, hS, hT, hc, tc, hl, nd, hb, hob, k⟩ := h
    obtain ⟨cl, a3, a4, a5, a6, a7, a8, a9, a10⟩ := G.sysN
    refine ⟨_, (pss_cons (ps_set (i := 3) sc_replace_pages.nd rfl (Or.inr rfl) (pe_dget (hu_of hr) (pe_fld (pv 0) rfl) (pv 1) (fun _ _ => rfl)))
  (pss_cons (ps_lock (ps_setLc (i := 4) (own := [("number", 5)]) (g := gName 5) rfl sc_replace_pages.nd rfl rfl (sw_true rfl rfl rfl (by decide +kernel)) (pi_keys (pv 2)) (blkOk_by (own := [("number", 5)]) (N := n_replace_pages) (sc := defScope s_replace_pages) (by decide +kernel)) (fun _ _ _ _ _ => pg_name (i := 5) sc_replace_pages.nd rfl (Or.inl rfl)) (fun _ _ _ _ _ => pts_one (pt_cmp (pc_din (hu_of hr) (pv 5) (pv 3)))) (fun _ _ _ _ _ => (pe_dget (hu_of hr) (pv 3) (pv 5) (fun _ _ => rfl)))))
  (pss_cons (ps_lock (ps_for PassesOwn.never rfl (pi_values (pv 2)) (pg_name (i := 6) sc_replace_pages.nd rfl (Or.inl rfl)) (pss_one (ps_if (pt_cmpR op_notN (pv 6) pe_non (nomark _)) (pss_one (ps_expr (pe_call (ok_count_page G) (hr.mono (by decide)) rfl G.g_count_page G.k_count_page G.bi_count_page .nil pass0 (pa_cons (pv 0) (pa_cons (pv 6) pa_nil))))) pss_nil))))
  (pss_cons (ps_for PassesOwn.never rfl (pi_list (pv 4)) (pg_name (i := 6) sc_replace_pages.nd rfl (Or.inl rfl)) (pss_one (ps_expr (pe_call (ok_discount_page G) (hr.mono (by decide)) rfl G.g_discount_page G.k_discount_page G.bi_discount_page .nil pass0 (pa_cons (pv 0) (pa_cons (pv 6) pa_nil))))))
  (pss_one (ps_lock (ps_for PassesOwn.never rfl (pi_items (pv 2)) (pg_tup rfl (pgs_cons (pg_name (i := 5) sc_replace_pages.nd rfl (Or.inl rfl)) (pgs_cons (pg_name (i := 6) sc_replace_pages.nd rfl (Or.inl rfl)) pgs_nil))) (pss_one (ps_if (pt_cmpR op_notN (pv 6) pe_non (nomark _)) (pss_one (ps_dput (hu_of hr) (pv 3) (pv 5) (pv 6) rfl)) (pss_one (ps_if (pt_cmp (pc_din (hu_of hr) (pv 5) (pv 3))) (pss_one (ps_ddel (pv 3) (pv 5))) pss_nil))))))))))), ?_⟩
    obtain ⟨d, hd⟩ := hS.living hT
    obtain ⟨bi, td, tkvs, tf, hdk, tdi, tpg⟩ := hS.tabE hd hT
    have b1000 : i ≤ 1000 := Int.le_trans bi.2 hS.bp.2
    have b0 : 0 ≤ i := by omega
    obtain ⟨kvt, ht, hvt⟩ := id hd
    have lnd := hl.length
    have l512 : ch.length ≤ 512 := by
      have := nod_len 512 (ch.map (·.1)) nd fun y hy => by
        obtain ⟨q, hq, rfl⟩ := List.mem_map.mp hy
        have := hb q hq
        omega
      rw [List.length_map] at this
      exact this
    have ncd : c ≠ d := fun e => by rw [e, td] at tc; cases tc
    have ntc : wh.t ≠ c := fun e => by rw [← e, hS.tt] at tc; cases tc
    refine ⟨_, rfl, x, _, _, _, _, rfl, hS.hx, cl, a7, rfl, _, rfl, wh.t, _, rfl, (by rw [← hvt]; exact DGet.k (k := Sum.inl i) ht), ?_⟩
    -- replaced
    refine ⟨c, _, hc, trivial, fun od => ?_⟩
    refine ⟨_, rfl, c, od, rfl, .inl ⟨ls, upd_same, fun D hD => ?_⟩⟩
    obtain ⟨nDc, hD0⟩ := upd_none hD
    refine lc_it walk_keys (fun j Z => Z c = some (.frz od (.dK ls)) ∧ (∃ xs, Z D = some (.lst xs) ∧ XsR A.c_Page H xs ((ch.take j).filterMap fun q => T q.1)) ∧ ∀ b o, b ≠ c → H b = some o → Z b = some o)
      ⟨by rw [upd_ne (Ne.symm nDc), upd_same], ⟨[], upd_same, True.intro⟩, fun b o hb ho => by rw [upd_ne (ne_of_none ho hD0), upd_ne hb]; exact ho⟩ (fun j Z _ z => z.1) ?_ ?_
    · rintro j y Z _ hj ⟨z1, ⟨xs, z2, z3⟩, z5⟩ ⟨rfl, key, v, hkey, rfl⟩
      obtain ⟨q, hq, ek, _⟩ := hl.get hkey
      simp only at ek
      subst ek
      have tk := take_succ hq
      refine ⟨rfl, ?_⟩
      refine ⟨_, rfl, _, rfl, d, _, rfl, DGet.k (k := Sum.inl q.1) (z5 _ _ (Ne.symm ncd) hdk), _, rfl, ?_⟩
      have rel := tpg q.1
      have eval : valV tkvs (Sum.inl q.1) = tf q.1 := tdi.val q.1
      cases ev : tf q.1 with
      | none =>
        rw [ev] at rel eval
        have eT : T q.1 = none := by
          cases eT : T q.1 with
          | none => rfl
          | some g => rw [eT] at rel; exact rel.elim
        rw [eval]
        refine iteF ⟨z1, ⟨xs, z2, ?_⟩, z5⟩
        rw [tk, List.filterMap_append]
        simpa [eT] using z3
      | some u =>
        rw [ev] at rel eval
        obtain ⟨g, eT⟩ : ∃ g, T q.1 = some g := by
          cases eT : T q.1 with
          | none => rw [eT] at rel; exact rel.elim
          | some g => exact ⟨g, rfl⟩
        rw [eT] at rel
        obtain ⟨_, wf, p', rfl, hp'⟩ := rel
        rw [eval]
        have lx := z3.length
        have lf := List.length_filterMap_le (fun q : Int × Option Pg => T q.1) (ch.take j)
        have lt := List.length_take_le j ch
        refine iteT ⟨_, rfl, _, rfl, d, _, rfl, (by rw [← eval]; exact DGet.k (k := Sum.inl q.1) (z5 _ _ (Ne.symm ncd) hdk)), _, z2, Nat.lt_of_le_of_lt (by omega : xs.length ≤ 10000) (by decide), ?_⟩
        refine ⟨by rw [upd_ne (Ne.symm nDc)]; exact z1, ⟨_, upd_same, ?_⟩, fun b o hb ho => by rw [upd_ne (ne_of_none ho hD0)]; exact z5 b o hb ho⟩
        rw [tk, List.filterMap_append]
        have : List.filterMap (fun q : Int × Option Pg => T q.1) [q] = [g] := by simp [eT]
        rw [this]
        exact z3.snoc ⟨wf, p', rfl, hp'⟩
    · rintro Z ⟨z1, ⟨xs, z2, z3⟩, z5⟩
      rw [hl.length, List.take_length] at z3
      refine ⟨z1, ?_⟩
      generalize hH1 : upd Z c (.dK ls) = H1
      have c1 : H1 c = some (.dK ls) := by rw [← hH1, upd_same]
      have l1 : H1 D = some (.lst xs) := by rw [← hH1, upd_ne nDc]; exact z2
      have s1 : Same H H1 := fun b o ho => by
        rw [← hH1]
        by_cases eb : b = c
        · rw [eb, upd_same, ← hc, ← eb, ho]
        · rw [upd_ne eb]
          exact z5 b o eb ho
      have tD := hS.fresh hD0
      have S1 := hS.same s1
      have kz : ∀ {u : HO}, ImmK H1 (upd H1 c u) := fun {u} => ImmK.upd c1 rfl
      have kp : ∀ {Z : Hp} {u v : HO}, Z c = some u → isImm u = false → ∀ {τ' : Tm}, τ' c = none → Kp τ' Z (upd Z c v) := fun {Z u v} e i {τ'} t b o e' h' => by
        by_cases z : b = c
        · rw [z] at e' h'
          rw [e] at e'
          cases e'
          rcases h' with h' | h'
          · exact absurd t h'
          · rw [i] at h'; cases h'
        · rw [upd_ne z]; exact e'
      have occ0 : ∀ k m, cntS S k m + occ ((ch.take 0).filterMap (·.2)) k m = cntS S k m := fun k m => Nat.add_zero _
      have occ1 : ∀ k m, cntS S k m + occ (ch.filterMap (·.2)) k m - occ ((ch.filterMap fun q => T q.1).take 0) k m = cntS S k m + occ (ch.filterMap (·.2)) k m := fun k m => Nat.sub_zero _
      -- for page in changes.values()
      refine ⟨c, _, c1, trivial, fun od2 => ?_⟩
      have l0 := hl.keep (ImmK.same s1)
      refine ⟨_, rfl, c, od2, ls, rfl, upd_same, for_it walk_values (fun j σ Z => ∃ τj, Go τ (upd H1 c (.frz od2 (.dK ls))) τj Z ∧ Z wh.t = H wh.t ∧ Sa A Z x wh S τj (fun k m => cntS S k m + occ ((ch.take j).filterMap (·.2)) k m) ∧ ∃ c6, σ = [some (.ref x), some (.int i), some (.ref c), some (.ref d), some (.ref D), none, c6])
        ⟨τ, Go.refl _ _, by rw [upd_ne ntc, s1 _ _ ht, ht], (S1.keep (kp c1 rfl tc)).cong (fun k m => (occ0 k m).symm), _, rfl⟩ (fun j σ Z _ z => by obtain ⟨τj, go, _⟩ := z; exact go.fr _ _ tc upd_same) ?_ ?_⟩
      · rintro j y σ Z0 Z hj ⟨τj, go, et, Sj, c6, rfl⟩ ⟨rfl, key, hk⟩
        obtain ⟨q, hq, ek, pv⟩ := l0.get hk
        have tk := take_succ hq
        have im : ImmK H1 Z := kz.trans ((S1.keep (kp c1 rfl tc)).imm go)
        cases eg : q.2 with
        | none =>
          rw [eg] at pv
          cases (show y = .non from pv)
          refine ⟨_, rfl, rfl, _, rfl, iteF ⟨τj, go, et, Sj.cong fun k m => ?_, _, rfl⟩⟩
          rw [tk, List.filterMap_append]
          simp [eg]
        | some g =>
          rw [eg] at pv
          obtain ⟨wf, p', rfl, hp'⟩ := pv
          refine ⟨_, rfl, rfl, _, rfl, iteT ⟨_, rfl, _, rfl, x, wh, S, τj, _, p', g, rfl, Sj, hp'.keep im, wf, hob q (List.mem_of_getElem? hq) g eg, fun H2 τ2 go2 et2 S2 => ⟨τ2, go.trans go2, et2.trans et, S2.cong fun k m => ?_, _, rfl⟩⟩⟩
          rw [tk, List.filterMap_append]
          have : List.filterMap (·.2) [q] = [g] := by simp [eg]
          rw [this, occ_append]
          show cntS S k m + occ ((ch.take j).filterMap (·.2)) k m + cntO k m (some g) = _
          have : occ [g] k m = cntO k m (some g) := by rw [occ_cons]; rfl
          omega
      · rintro σ Z ⟨τ1, go1, et1, S1', c6, rfl⟩
        rw [lnd, List.take_length] at S1'
        have zc : Z c = some (.frz od2 (.dK ls)) := go1.fr _ _ tc upd_same
        have tc1 : τ1 c = none := by
          rcases go1.ex c with z | z
          · exact z.trans tc
          · exact absurd z.2 (by rw [upd_same]; simp)
        refine ⟨zc, ?_⟩
        have S2 := S1'.keep (kp zc rfl tc1 (v := .dK ls))
        have go2 : Go τ H τ1 (upd Z c (.dK ls)) := by
          refine ⟨fun b o n e => ?_, fun b => ?_, fun b xs e => by
            have eb : b ≠ c := fun z => by rw [z, hc] at e; cases e
            rw [upd_ne eb]
            exact go1.ls b xs (by rw [upd_ne eb]; exact s1 _ _ e)⟩
          · by_cases eb : b = c
            · rw [eb, upd_same, ← hc, ← eb, e]
            · rw [upd_ne eb]
              exact go1.fr b o n (by rw [upd_ne eb]; exact s1 _ _ e)
          · rcases go1.ex b with z | ⟨z1, z2⟩
            · exact .inl z
            · refine .inr ⟨z1, ?_⟩
              obtain ⟨nb, z2⟩ := upd_none z2
              exact Same.free s1 z2
        have im2 : ImmK H (upd Z c (.dK ls)) := hS.imm go2
        have lD : (upd Z c (.dK ls)) D = some (.lst xs) := by
          rw [upd_ne nDc]
          exact go1.fr _ _ tD (by rw [upd_ne nDc]; exact l1)
        have tD1 : τ1 D = none := by
          rcases go1.ex D with z | z
          · exact z.trans tD
          · exact absurd z.2 (by rw [upd_ne nDc, l1]; simp)
        have lc2 : (upd Z c (.dK ls)) c = some (.dK ls) := upd_same
        have et2 : (upd Z c (.dK ls)) wh.t = H wh.t := by rw [upd_ne ntc]; exact et1
        generalize hH2 : upd Z c (.dK ls) = H2 at *
        have x2 := z3.keep im2
        have cntE := fun k m => cntS_app (S := S) (i := i) b0 b1000 hT nd hb k m
        -- for page in replaced
        refine ⟨_, rfl, D, rfl, ⟨_, SqL.of lD⟩, for_list (K := K) (a := D) (xs := xs) (fun j σ Z => Go τ1 H2 τ1 Z ∧ Z wh.t = H wh.t ∧ Sa A Z x wh S τ1 (fun k m => cntS S k m + occ (ch.filterMap (·.2)) k m - occ ((ch.filterMap fun q => T q.1).take j) k m) ∧ ∃ c6, σ = [some (.ref x), some (.int i), some (.ref c), some (.ref d), some (.ref D), none, c6])
          ⟨Go.refl _ _, et2, S2.cong fun k m => (occ1 k m).symm, _, rfl⟩ (fun j σ Z _ z => SqL.of (z.1.fr _ _ tD1 lD)) ?_ ?_⟩
        · rintro j y σ Z hy ⟨goj, et, Sj, c6, rfl⟩
          obtain ⟨g, hg, wf, p', rfl, hp'⟩ := x2.get hy
          have tk := take_succ hg
          refine ⟨_, rfl, _, rfl, x, wh, S, τ1, _, p', g, rfl, Sj, hp'.keep (S2.imm goj), wf, fun k m => ?_, fun H3 go3 et3 S3 => ⟨goj.trans go3, et3.trans et, S3.cong fun k m => ?_, _, rfl⟩⟩
          · have a := (cntE k m).2
            have b := occ_le_take (ch.filterMap fun q => T q.1) (j + 1) k m
            rw [tk, occ_append] at b
            have : occ [g] k m = cntO k m (some g) := by rw [occ_cons]; rfl
            show cntO k m (some g) ≤ cntS S k m + occ (ch.filterMap (·.2)) k m - occ ((ch.filterMap fun q => T q.1).take j) k m
            omega
          · show cntS S k m + occ (ch.filterMap (·.2)) k m - occ ((ch.filterMap fun q => T q.1).take j) k m - cntO k m (some g) = cntS S k m + occ (ch.filterMap (·.2)) k m - occ ((ch.filterMap fun q => T q.1).take (j + 1)) k m
            rw [tk, occ_append]
            have : occ [g] k m = cntO k m (some g) := by rw [occ_cons]; rfl
            omega
        · rintro σ Z ⟨go3, et3, S3, c6, rfl⟩
          rw [x2.length, List.take_length] at S3
          have S3' := S3.cong (fun k m => (cntE k m).1)
          have zc3 : Z c = some (.dK ls) := go3.fr _ _ tc1 lc2
          have im3 : ImmK H Z := im2.trans (S2.imm go3)
          refine ⟨c, _, zc3, trivial, fun od3 => ?_⟩
          have hd3 : TabOf Z wh i d := hd.keep (fun o e => et3.trans e)
          have S4 := S3'.keep (kp zc3 rfl tc1 (v := .frz od3 (.dK ls)))
          have td1 : τ1 d = some (.tab i) := (S3'.tabE hd3 hT).2.1
          have ntd : wh.t ≠ d := ne_tag S3'.tt td1 (by simp)
          refine ⟨_, rfl, c, od3, ls, rfl, upd_same, for_it walk_items (fun j σ Z' => Go τ1 (upd Z c (.frz od3 (.dK ls))) τ1 Z' ∧ Sa A Z' x wh (S.setTab i (some (appT T (ch.take j)))) τ1 (cntS (S.setTab i (some (appT T ch)))) ∧ TabOf Z' wh i d ∧ ∃ c5 c6, σ = [some (.ref x), some (.int i), some (.ref c), some (.ref d), some (.ref D), c5, c6])
            ⟨Go.refl _ _, by rw [show appT T (ch.take 0) = T from rfl, setTab_id hT]; exact S4, hd3.keep (fun o e => by rw [upd_ne ntc]; exact e), _, _, rfl⟩ (fun j σ Z' _ z => z.1.fr _ _ tc1 upd_same) ?_ ?_⟩
          · rintro j y σ Z1 Z2 hj ⟨go4, Sj, hdj, c5, c6, rfl⟩ ⟨T0, k0, v0, rfl, hT0, rfl, hk0, hv0⟩
            obtain ⟨⟨key, v⟩, hkv⟩ : ∃ q, ls[j]? = some q := ⟨ls[j], List.getElem?_eq_getElem hj⟩
            have hk1 : some (kV key) = some k0 := by have h := hk0; simp only [hkv] at h; exact h
            have hv1 : some v = some v0 := by have h := hv0; simp only [hkv] at h; exact h
            have hk2 := Option.some.inj hk1
            have hv2 := Option.some.inj hv1
            subst hk2 hv2
            obtain ⟨q, hq, ek, pv⟩ := hl.get hkv
            simp only at ek pv
            subst ek
            have tk := take_succ hq
            have at1 : appT T (ch.take (j + 1)) = setT (appT T (ch.take j)) q.1 q.2 := by rw [tk, appT_snoc]
            have sT := Same.new (o := .tup [kV (Sum.inl q.1), v]) hT0
            have S5 := Sj.same sT
            have hd5 := hdj.keep (H' := upd Z1 T0 (.tup [kV (Sum.inl q.1), v])) (fun o e => sT _ _ e)
            have go5 := go4.trans (Go.same sT)
            have im5 : ImmK H (upd Z1 T0 (.tup [kV (Sum.inl q.1), v])) := (im3.trans (ImmK.upd zc3 rfl)).trans (S4.imm go5)
            have bq := hb q (List.mem_of_getElem? hq)
            refine ⟨T0, _, rfl, SqT.of upd_same, rfl, _, _, rfl, _, _, rfl, rfl, ?_⟩
            generalize hZ5 : upd Z1 T0 (.tup [kV (Sum.inl q.1), v]) = Z5 at *
            obtain ⟨_, _, kv5, f5, hk5, di5, pg5⟩ := S5.tabE hd5 (setTab_at S i _)
            have fin : ∀ {kvs' : List (Key × V)}, TabR A.c_Page (upd Z5 d (.dK kvs')) d (setT (appT T (ch.take j)) q.1 q.2) → ∀ {c5 c6 : Option V}, Go τ1 (upd Z c (.frz od3 (.dK ls))) τ1 (upd Z5 d (.dK kvs')) ∧ Sa A (upd Z5 d (.dK kvs')) x wh (S.setTab i (some (appT T (ch.take (j + 1))))) τ1 (cntS (S.setTab i (some (appT T ch)))) ∧ TabOf (upd Z5 d (.dK kvs')) wh i d ∧ ∃ c5' c6', [some (V.ref x), some (.int i), some (.ref c), some (.ref d), some (.ref D), c5, c6] = [some (V.ref x), some (.int i), some (.ref c), some (.ref d), some (.ref D), c5', c6'] := fun {kvs'} r {c5 c6} => by
              refine ⟨go5.trans (Go.upd (by rw [td1]; simp) hk5), ?_, hd5.keep (fun o e => by rw [upd_ne ntd]; exact e), _, _, rfl⟩
              have := S5.putTab hd5 r
              rw [setTab_two] at this
              rw [at1]
              exact this
            cases eq2 : q.2 with
            | none =>
              rw [eq2] at pv at1 fin
              cases (show v = .non from pv)
              refine ⟨_, rfl, rfl, _, rfl, iteF ⟨_, rfl, _, rfl, d, _, rfl, DGet.k (k := Sum.inl q.1) hk5, _, rfl, ?_⟩⟩
              rw [di5.val]
              have rel := (pg5 q.1).none_iff
              cases ev : f5 q.1 with
              | none =>
                refine iteF ⟨go5, ?_, hd5, _, _, rfl⟩
                rw [at1, setT_none (rel.mp ev)]
                exact S5
              | some u =>
                refine iteT ⟨_, rfl, _, rfl, d, _, Sum.inl q.1, rfl, hk5, rfl, (by rw [di5.val, ev]; rfl), fin (tab_drop hk5 di5 pg5)⟩
            | some g =>
              rw [eq2] at pv at1 fin
              obtain ⟨wf, p', rfl, hp'⟩ := pv
              have len5 : kv5.length ≤ 512 := di5.len fun i' hi' => by
                have := (pg5 i').low hi'
                omega
              exact ⟨_, rfl, rfl, _, rfl, iteT ⟨_, rfl, _, rfl, _, rfl, d, _, rfl, DPut.k (k := Sum.inl q.1) hk5 (Nat.lt_of_le_of_lt len5 (by decide)), fin (tab_put hk5 di5 pg5 bq wf (hp'.keep im5))⟩⟩
          · rintro σ Z1 ⟨go4, Sj, hdj, c5, c6, rfl⟩
            rw [lnd, List.take_length] at Sj
            have zc4 : Z1 c = some (.frz od3 (.dK ls)) := go4.fr _ _ tc1 upd_same
            refine ⟨zc4, k _ τ1 ?_ (Sj.keep (kp zc4 rfl tc1))⟩
            have goZ : Go τ H τ1 Z := go2.trans go3
            refine ⟨fun b o n e => ?_, goZ.ex, fun b xs e => by
              have eb : b ≠ c := fun z => by rw [z, hc] at e; cases e
              rw [upd_ne eb]
              exact go4.ls b xs (by rw [upd_ne eb]; exact goZ.ls b xs e)⟩
            have e3 := goZ.fr b o n e
            by_cases eb : b = c
            · rw [eb, upd_same, ← hc, ← eb, e]
            · rw [upd_ne eb]
              have n1 : τ1 b = none := by
                rcases goZ.ex b with z | z
                · exact z.trans n
                · rw [e] at z; cases z.2
              exact go4.fr b o n1 (by rw [upd_ne eb]; exact e3)
end
end My
set_option Elab.async false
set_option linter.all false
set_option maxRecDepth 100000
set_option maxHeartbeats 4000000
namespace My
open PySem L2
local macro_rules | `(tactic| walk_at "ds") => `(tactic| dsimp only [tSeq, tIfS, tTest, tB, tAnd, tOr, tNot, tAndV, tOrV, tNotV, tIf, tIsN, tNotN, tOp, tUn, tChain, rI, rI0, rU, tC, tCB, tCons, tNil, tAsg, gName, gSub, tRet, tRetN, tNext, tDrop, tLst, tTup, rIxL, rIxT, rSetL, tVar, tFld, tCall, tDGet, tDIn, tDNotIn, tNever, L2.start, List.map, List.replicate, List.length, List.append, List.cons_append, List.nil_append, List.set, Nat.sub])
local macro_rules | `(tactic| walk_at "hp") => `(tactic| first | assumption | exact upd_same | (refine Eq.trans (upd_ne (by first | assumption | (apply Ne.symm; assumption))) ?_; walk_at "hp"))
local macro_rules | `(tactic| walk_at "sd") => `(tactic| first
  | (show (_ : Int) ≠ 0; omega)
  | (refine (show CDivN _ _ from ⟨?_, ?_⟩) <;> omega)
  | (show CPow _ _; refine ⟨by omega, by omega, by omega⟩)
  | (show CMul _ _; exact Or.inl ⟨by omega, by omega⟩)
  | (show CMul _ _; exact Or.inr ⟨by omega, by omega⟩))
local macro_rules | `(tactic| walk_at "st") => `(tactic| first
  | refine ⟨_, rfl, ?_⟩
  | refine ⟨_, _, rfl, rfl, (by walk_at "sd"), ?_⟩
  | refine ⟨_, _, rfl, rfl, ?_⟩
  | refine ⟨_, _, _, _, rfl, rfl, SqL.of (by walk_at "hp"), rfl, ?_⟩
  | refine ⟨_, _, _, _, rfl, rfl, (by walk_at "hp"), rfl, ?_⟩
  | refine .inl ⟨_, rfl, ?_⟩
  | refine ⟨_, _, _, _, _, rfl, (by walk_at "hp"), (by assumption), (by assumption), rfl, ?_⟩
  | refine ⟨_, _, rfl, .inl (SqL.of (by walk_at "hp")), ?_⟩)
local macro_rules | `(tactic| walk_at "go") => `(tactic| repeat (first | walk_at "st" | (walk_at "ds"; walk_at "st")))
local macro_rules | `(tactic| walk_at "ni") => `(tactic| dsimp (config := { proj := false }) only [tNil, List.cons_append, List.nil_append])
section
variable {P : Program} {w : World} {K : PySem.W.Frag} {mg : Str → Option Value} {base : Heap} {A : Adr}
def spReq (A : Adr) : Sp := fun vs H Q E => ∃ (x : Addr) (wh : Wh) (S : Sys) (τ : Tm) (cnt : Int → Int → Nat) (v w : V), vs = [.ref x, v, w] ∧ Sa A H x wh S τ cnt ∧ Q .non H
theorem ok_require_charge (G : Txt K mg A) : FnOk P w K mg base (L2.CX P w) 1 A.a_require_charge A.fd_require_charge p_require_charge (spReq A) := by
  refine G.f_require_charge.okX sc_require_charge (fun vs H Q E h => ?_) (fun cdv A' outer s H vs Q E hr h => ?_)
  · obtain ⟨x, wh, S, τ, cnt, v, w, rfl, _⟩ := h
    rfl
  · obtain ⟨x, wh, S, τ, cnt, v, w, rfl, hS, k⟩ := h
    obtain ⟨cl, a3, a4, a5, a6, a7, a8, a9, a10⟩ := G.sysN
    refine ⟨_, (pss_one (ps_if (pt_val (pe_fld (pv 0) rfl)) (pss_one ps_never) pss_nil)), ?_⟩
    exact ⟨_, rfl, x, _, _, _, _, rfl, hS.hx, cl, a3, rfl, _, rfl, iteF k⟩
end
end My
set_option Elab.async false
set_option linter.all false
set_option maxRecDepth 100000
set_option maxHeartbeats 4000000
namespace My
open PySem L2
local macro_rules | `(tactic| walk_at "ds") => `(tactic| dsimp only [tSeq, tIfS, tTest, tB, tAnd, tOr, tNot, tAndV, tOrV, tNotV, tIf, tIsN, tNotN, tOp, tUn, tChain, rI, rI0, rU, tC, tCB, tCons, tNil, tAsg, gName, gSub, tRet, tRetN, tNext, tDrop, tLst, tTup, rIxL, rIxT, rSetL, tVar, tFld, tCall, tDGet, tDIn, tDNotIn, tNever, L2.start, List.map, List.replicate, List.length, List.append, List.cons_append, List.nil_append, List.set, Nat.sub])
local macro_rules | `(tactic| walk_at "hp") => `(tactic| first | assumption | exact upd_same | (refine Eq.trans (upd_ne (by first | assumption | (apply Ne.symm; assumption))) ?_; walk_at "hp"))
local macro_rules | `(tactic| walk_at "sd") => `(tactic| first
  | (show (_ : Int) ≠ 0; omega)
  | (refine (show CDivN _ _ from ⟨?_, ?_⟩) <;> omega)
  | (show CPow _ _; refine ⟨by omega, by omega, by omega⟩)
  | (show CMul _ _; exact Or.inl ⟨by omega, by omega⟩)
  | (show CMul _ _; exact Or.inr ⟨by omega, by omega⟩))
local macro_rules | `(tactic| walk_at "st") => `(tactic| first
  | refine ⟨_, rfl, ?_⟩
  | refine ⟨_, _, rfl, rfl, (by walk_at "sd"), ?_⟩
  | refine ⟨_, _, rfl, rfl, ?_⟩
  | refine ⟨_, _, _, _, rfl, rfl, SqL.of (by walk_at "hp"), rfl, ?_⟩
  | refine ⟨_, _, _, _, rfl, rfl, (by walk_at "hp"), rfl, ?_⟩
  | refine .inl ⟨_, rfl, ?_⟩
  | refine ⟨_, _, _, _, _, rfl, (by walk_at "hp"), (by assumption), (by assumption), rfl, ?_⟩
  | refine ⟨_, _, rfl, .inl (SqL.of (by walk_at "hp")), ?_⟩)
local macro_rules | `(tactic| walk_at "go") => `(tactic| repeat (first | walk_at "st" | (walk_at "ds"; walk_at "st")))
local macro_rules | `(tactic| walk_at "ni") => `(tactic| dsimp (config := { proj := false }) only [tNil, List.cons_append, List.nil_append])
section
variable {P : Program} {w : World} {K : PySem.W.Frag} {mg : Str → Option Value} {base : Heap} {A : Adr}
def spStamp (A : Adr) : Sp := fun vs H Q _ => ∃ (p : Addr) (r s so i f h : V) (n : Int), vs = [.ref p, .int n] ∧ PgAt A.c_Page H p r s so i f h ∧ ∀ y H', Same H H' → PgAt A.c_Page H' y r s so i f h → Q (.ref y) H'
theorem ok_with_stamp (G : Txt K mg A) : FnOk P w K mg base CX0 3 A.a_with_stamp A.fd_with_stamp p_with_stamp (spStamp A) := by
  refine G.f_with_stamp.ok sc_with_stamp (fun vs H Q E h => ?_) (fun cdv A' outer s H vs Q E hr h => ?_)
  · obtain ⟨p, r, s, so, i, f, h, n, rfl, _⟩ := h
    rfl
  · obtain ⟨p, r, s, so, i, f, h, n, rfl, ⟨dx, e⟩, k⟩ := h
    refine ⟨_, (pss_one (ps_ret (pe_make G.mk_Page (ok_Page_init G) (hr.mono (by decide)) rfl G.g_Page G.bi_Page_init .nil pass0 (pa_cons (pe_fld (pv 0) rfl) (pa_cons (pe_fld (pv 0) rfl) (pa_cons (pe_fld (pv 0) rfl) (pa_cons (pe_fld (pv 0) rfl) (pa_cons (pe_fld (pv 0) rfl) (pa_cons (pe_fld (pv 0) rfl) (pa_cons (pv 1) pa_nil)))))))))), ?_⟩
    refine ⟨_, rfl, p, _, _, _, _, rfl, e, G.cl_Page, G.n_Page_rights, rfl, _, rfl, p, _, _, _, _, rfl, e, G.cl_Page, G.n_Page_shared, rfl, _, rfl, p, _, _, _, _, rfl, e, G.cl_Page, G.n_Page_source, rfl,
      _, rfl, p, _, _, _, _, rfl, e, G.cl_Page, G.n_Page_index, rfl, _, rfl, p, _, _, _, _, rfl, e, G.cl_Page, G.n_Page_flags, rfl, _, rfl, p, _, _, _, _, rfl, e, G.cl_Page, G.n_Page_held, rfl, _, rfl, ?_⟩
    intro y dy hy hdy ne
    exact ⟨y, dy, _, _, _, _, _, _, _, rfl, upd_same, fun H5 b5 pg => ⟨rfl, k y H5 (same_made hy hdy b5) pg⟩⟩
end
end My
set_option Elab.async false
set_option linter.all false
set_option maxRecDepth 100000
set_option maxHeartbeats 4000000
namespace My
open PySem L2
local macro_rules | `(tactic| walk_at "ds") => `(tactic| dsimp only [tSeq, tIfS, tTest, tB, tAnd, tOr, tNot, tAndV, tOrV, tNotV, tIf, tIsN, tNotN, tOp, tUn, tChain, rI, rI0, rU, tC, tCB, tCons, tNil, tAsg, gName, gSub, tRet, tRetN, tNext, tDrop, tLst, tTup, rIxL, rIxT, rSetL, tVar, tFld, tCall, tDGet, tDIn, tDNotIn, tNever, L2.start, List.map, List.replicate, List.length, List.append, List.cons_append, List.nil_append, List.set, Nat.sub])
local macro_rules | `(tactic| walk_at "hp") => `(tactic| first | assumption | exact upd_same | (refine Eq.trans (upd_ne (by first | assumption | (apply Ne.symm; assumption))) ?_; walk_at "hp"))
local macro_rules | `(tactic| walk_at "sd") => `(tactic| first
  | (show (_ : Int) ≠ 0; omega)
  | (refine (show CDivN _ _ from ⟨?_, ?_⟩) <;> omega)
  | (show CPow _ _; refine ⟨by omega, by omega, by omega⟩)
  | (show CMul _ _; exact Or.inl ⟨by omega, by omega⟩)
  | (show CMul _ _; exact Or.inr ⟨by omega, by omega⟩))
local macro_rules | `(tactic| walk_at "st") => `(tactic| first
  | refine ⟨_, rfl, ?_⟩
  | refine ⟨_, _, rfl, rfl, (by walk_at "sd"), ?_⟩
  | refine ⟨_, _, rfl, rfl, ?_⟩
  | refine ⟨_, _, _, _, rfl, rfl, SqL.of (by walk_at "hp"), rfl, ?_⟩
  | refine ⟨_, _, _, _, rfl, rfl, (by walk_at "hp"), rfl, ?_⟩
  | refine .inl ⟨_, rfl, ?_⟩
  | refine ⟨_, _, _, _, _, rfl, (by walk_at "hp"), (by assumption), (by assumption), rfl, ?_⟩
  | refine ⟨_, _, rfl, .inl (SqL.of (by walk_at "hp")), ?_⟩)
local macro_rules | `(tactic| walk_at "go") => `(tactic| repeat (first | walk_at "st" | (walk_at "ds"; walk_at "st")))
local macro_rules | `(tactic| walk_at "ni") => `(tactic| dsimp (config := { proj := false }) only [tNil, List.cons_append, List.nil_append])
def okP (hi lo : Int) (v : V) : Bool := decide (v = .non) || inR lo hi v
def badP (fr sl st : V) : Option Str :=
  if okP 64 1 fr = false then some "frames" else if okP 256 0 sl = false then some "slots" else if isB st = false ∨ (st = .bl true ∧ (fr = .non ∨ sl = .non)) then some "strict" else none
section
variable {P : Program} {w : World} {K : PySem.W.Frag} {mg : Str → Option Value} {base : Heap} {A : Adr}
/-- self.f = a new thing -/
theorem sf_dict {C x dx : Addr} {fs : List (Str × V)} {fs' : Addr → List (Str × V)} {H : Hp} {D : Ends} {σ : St} {f : Str} (cl : Cls K C) (na : NoAttr K C f) (h0 : σ[0]? = some (some (.ref x)))
    (hx : H x = some (.ins C dx fs)) (hl : fs.length < 1000) (he : ∀ q, putF f (.ref q) fs = fs' q) (k : ∀ q H', H q = none → But x H H' → H' q = some (.dK []) → H' x = some (.ins C dx (fs' q)) → D.nx σ H') : sFld K (tVar 0) tDNewK f D σ H := by
  intro q hq
  have nq : x ≠ q := ne_of_none hx hq
  refine ⟨_, h0, x, C, dx, fs, rfl, (by rw [upd_ne nq]; exact hx), cl, na, hl, k q _ hq (fun b o hb ho => ?_) ?_ (by rw [he, upd_same])⟩
  · rw [upd_ne hb, upd_ne (ne_of_none ho hq)]
    exact ho
  · rw [upd_ne (Ne.symm nq), upd_same]
theorem sf_dictT {C x dx : Addr} {fs : List (Str × V)} {fs' : Addr → List (Str × V)} {H : Hp} {D : Ends} {σ : St} {f : Str} (cl : Cls K C) (na : NoAttr K C f) (h0 : σ[0]? = some (some (.ref x)))
    (hx : H x = some (.ins C dx fs)) (hl : fs.length < 1000) (he : ∀ q, putF f (.ref q) fs = fs' q) (k : ∀ q H', H q = none → But x H H' → H' q = some (.dT []) → H' x = some (.ins C dx (fs' q)) → D.nx σ H') : sFld K (tVar 0) tDNewT f D σ H := by
  intro q hq
  have nq : x ≠ q := ne_of_none hx hq
  refine ⟨_, h0, x, C, dx, fs, rfl, (by rw [upd_ne nq]; exact hx), cl, na, hl, k q _ hq (fun b o hb ho => ?_) ?_ (by rw [he, upd_same])⟩
  · rw [upd_ne hb, upd_ne (ne_of_none ho hq)]
    exact ho
  · rw [upd_ne (Ne.symm nq), upd_same]
theorem sf_list {C x dx : Addr} {fs : List (Str × V)} {fs' : Addr → List (Str × V)} {H : Hp} {D : Ends} {σ : St} {f : Str} (cl : Cls K C) (na : NoAttr K C f) (h0 : σ[0]? = some (some (.ref x)))
    (hx : H x = some (.ins C dx fs)) (hl : fs.length < 1000) (he : ∀ q, putF f (.ref q) fs = fs' q) (k : ∀ q H', H q = none → But x H H' → H' q = some (.lst []) → H' x = some (.ins C dx (fs' q)) → D.nx σ H') : sFld K (tVar 0) (tLst tNil) f D σ H := by
  refine ⟨Nat.zero_le _, fun q hq => ?_⟩
  have nq : x ≠ q := ne_of_none hx hq
  refine ⟨_, h0, x, C, dx, fs, rfl, (by rw [upd_ne nq]; exact hx), cl, na, hl, k q _ hq (fun b o hb ho => ?_) ?_ (by rw [he, upd_same])⟩
  · rw [upd_ne hb, upd_ne (ne_of_none ho hq)]
    exact ho
  · rw [upd_ne (Ne.symm nq), upd_same]
theorem sf_list0 {C x dx : Addr} {fs : List (Str × V)} {fs' : Addr → List (Str × V)} {H : Hp} {D : Ends} {σ : St} {f : Str} (cl : Cls K C) (na : NoAttr K C f) (h0 : σ[0]? = some (some (.ref x)))
    (hx : H x = some (.ins C dx fs)) (hl : fs.length < 1000) (he : ∀ q, putF f (.ref q) fs = fs' q) (k : ∀ q H', H q = none → But x H H' → H' q = some (.lst [.int 0]) → H' x = some (.ins C dx (fs' q)) → D.nx σ H') : sFld K (tVar 0) (tLst (tCons (tC (V.int 0)) tNil)) f D σ H := by
  refine ⟨(by show 1 ≤ sizeLine; decide), fun q hq => ?_⟩
  have nq : x ≠ q := ne_of_none hx hq
  refine ⟨_, h0, x, C, dx, fs, rfl, (by rw [upd_ne nq]; exact hx), cl, na, hl, k q _ hq (fun b o hb ho => ?_) ?_ (by rw [he, upd_same])⟩
  · rw [upd_ne hb, upd_ne (ne_of_none ho hq)]
    exact ho
  · rw [upd_ne (Ne.symm nq), upd_same]
/-- self.f = a new history -/
theorem sf_his {C x dx CH : Addr} {fs : List (Str × V)} {H : Hp} {D : Ends} {σ : St} {f : Str} {te : TE}
    (hte : ∀ Q : VK, (∀ q ro lk dh y Hh, Same H Hh → Hh q = some (.ins CH dh (hisF ro lk y)) → Hh ro = some (.lst []) → Hh lk = some (.lst []) → H q = none → H ro = none → H lk = none → ro ≠ lk → Q (.ref q) Hh) → te σ H Q)
    (cl : Cls K C) (na : NoAttr K C f) (h0 : σ[0]? = some (some (.ref x)))
    (hx : H x = some (.ins C dx fs)) (hl : fs.length < 1000) (k : ∀ q H' ro lk dh y, But x H H' → H' x = some (.ins C dx (putF f (.ref q) fs)) → H' q = some (.ins CH dh (hisF ro lk y)) → H' ro = some (.lst []) → H' lk = some (.lst []) → H q = none → H ro = none → H lk = none → ro ≠ lk → D.nx σ H') : sFld K (tVar 0) te f D σ H :=
  hte _ fun q ro lk dh y Hh s1 e1 e2 e3 z1 z2 z3 n => by
    have nq : x ≠ q := ne_of_none hx z1
    have nr : x ≠ ro := ne_of_none hx z2
    have nl : x ≠ lk := ne_of_none hx z3
    refine ⟨_, h0, x, C, dx, fs, rfl, s1 _ _ hx, cl, na, hl, k q _ ro lk dh y (fun b o hb ho => ?_) upd_same ?_ ?_ ?_ z1 z2 z3 n⟩
    · rw [upd_ne hb]; exact s1 _ _ ho
    · rw [upd_ne (Ne.symm nq)]; exact e1
    · rw [upd_ne (Ne.symm nr)]; exact e2
    · rw [upd_ne (Ne.symm nl)]; exact e3
def hisY (v : List V) : Nat → V := fun n => v.getD n .non
def spHisI (A : Adr) : Sp := fun vs H Q _ => ∃ (h dh : Addr), vs = [.ref h] ∧ H h = some (.ins A.c_History dh []) ∧
  ∀ H' ro lk y, But h H H' → H' h = some (.ins A.c_History dh (hisF ro lk y)) → H' ro = some (.lst []) → H' lk = some (.lst []) → H ro = none → H lk = none → ro ≠ lk → Q .non H'
theorem ok_History_init (G : Txt K mg A) : FnOk P w K mg base CX0 1 A.a_History_init A.fd_History_init p_History_init (spHisI A) := by
  refine G.f_History_init.ok sc_History_init (fun vs H Q E h => ?_) (fun cdv A' outer s H vs Q E hr h => ?_)
  · obtain ⟨x, dx, rfl, _⟩ := h
    rfl
  · obtain ⟨x, dx, rfl, hx, k⟩ := h
    have cl := G.cl_History
    refine ⟨_, (pss_cons (ps_fld (pv 0) (pe_lst pa_nil) rfl)
  (pss_cons (ps_fld (pv 0) (pe_lst pa_nil) rfl)
  (pss_cons (ps_fld (pv 0) (pe_lst pa_nil) rfl)
  (pss_cons (ps_fld (pv 0) pe_int rfl)
  (pss_cons (ps_fld (pv 0) (pe_lst pa_nil) rfl)
  (pss_cons (ps_fld (pv 0) (pe_lst pa_nil) rfl)
  (pss_cons (ps_fld (pv 0) (pe_lst (pa_cons pe_int pa_nil)) rfl)
  (pss_cons (ps_fld (pv 0) (pe_lst (pa_cons pe_int pa_nil)) rfl)
  (pss_cons (ps_fld (pv 0) (pe_lst (pa_cons pe_int pa_nil)) rfl)
  (pss_cons (ps_fld (pv 0) (pe_lst (pa_cons pe_int pa_nil)) rfl)
  (pss_cons (ps_fld (pv 0) (pe_lst pa_nil) rfl)
  (pss_cons (ps_fld (pv 0) pe_int rfl)
  (pss_cons (ps_fld (pv 0) pe_bl rfl)
  (pss_one (ps_fld (pv 0) pe_bl rfl))))))))))))))), ?_⟩
    refine sf_list (fs := []) (fs' := fun q1 => [("row", .ref q1)]) cl G.n_History_row rfl hx (by show 0 < 1000; decide) (fun _ => rfl) (fun q1 H1 z1 b1 d1 e1 => ?_)
    try dsimp only
    refine sf_list (fs := [("row", .ref q1)]) (fs' := fun q2 => [("row", .ref q1), ("holes", .ref q2)]) cl G.n_History_holes rfl e1 (by show 1 < 1000; decide) (fun _ => rfl) (fun q2 H2 z2 b2 d2 e2 => ?_)
    try dsimp only
    refine sf_list (fs := [("row", .ref q1), ("holes", .ref q2)]) (fs' := fun q3 => [("row", .ref q1), ("holes", .ref q2), ("locked", .ref q3)]) cl G.n_History_locked rfl e2 (by show 2 < 1000; decide) (fun _ => rfl) (fun q3 H3 z3 b3 d3 e3 => ?_)
    try dsimp only
    refine sf_val (fs := [("row", .ref q1), ("holes", .ref q2), ("locked", .ref q3)]) (fs' := [("row", .ref q1), ("holes", .ref q2), ("locked", .ref q3), ("classes", .int 0)]) (fun Q q => q) cl G.n_History_classes rfl e3 (by show 3 < 1000; decide) rfl (fun H4 b4 n4 e4 => ?_)
    try dsimp only
    refine sf_list (fs := [("row", .ref q1), ("holes", .ref q2), ("locked", .ref q3), ("classes", .int 0)]) (fs' := fun q5 => [("row", .ref q1), ("holes", .ref q2), ("locked", .ref q3), ("classes", .int 0), ("touches", .ref q5)]) cl G.n_History_touches rfl e4 (by show 4 < 1000; decide) (fun _ => rfl) (fun q5 H5 z5 b5 d5 e5 => ?_)
    try dsimp only
    refine sf_list (fs := [("row", .ref q1), ("holes", .ref q2), ("locked", .ref q3), ("classes", .int 0), ("touches", .ref q5)]) (fs' := fun q6 => [("row", .ref q1), ("holes", .ref q2), ("locked", .ref q3), ("classes", .int 0), ("touches", .ref q5), ("distances", .ref q6)]) cl G.n_History_distances rfl e5 (by show 5 < 1000; decide) (fun _ => rfl) (fun q6 H6 z6 b6 d6 e6 => ?_)
    try dsimp only
    refine sf_list0 (fs := [("row", .ref q1), ("holes", .ref q2), ("locked", .ref q3), ("classes", .int 0), ("touches", .ref q5), ("distances", .ref q6)]) (fs' := fun q7 => [("row", .ref q1), ("holes", .ref q2), ("locked", .ref q3), ("classes", .int 0), ("touches", .ref q5), ("distances", .ref q6), ("swap_outs", .ref q7)]) cl G.n_History_swap_outs rfl e6 (by show 6 < 1000; decide) (fun _ => rfl) (fun q7 H7 z7 b7 d7 e7 => ?_)
    try dsimp only
    refine sf_list0 (fs := [("row", .ref q1), ("holes", .ref q2), ("locked", .ref q3), ("classes", .int 0), ("touches", .ref q5), ("distances", .ref q6), ("swap_outs", .ref q7)]) (fs' := fun q8 => [("row", .ref q1), ("holes", .ref q2), ("locked", .ref q3), ("classes", .int 0), ("touches", .ref q5), ("distances", .ref q6), ("swap_outs", .ref q7), ("write_backs", .ref q8)]) cl G.n_History_write_backs rfl e7 (by show 7 < 1000; decide) (fun _ => rfl) (fun q8 H8 z8 b8 d8 e8 => ?_)
    try dsimp only
    refine sf_list0 (fs := [("row", .ref q1), ("holes", .ref q2), ("locked", .ref q3), ("classes", .int 0), ("touches", .ref q5), ("distances", .ref q6), ("swap_outs", .ref q7), ("write_backs", .ref q8)]) (fs' := fun q9 => [("row", .ref q1), ("holes", .ref q2), ("locked", .ref q3), ("classes", .int 0), ("touches", .ref q5), ("distances", .ref q6), ("swap_outs", .ref q7), ("write_backs", .ref q8), ("most_slots", .ref q9)]) cl G.n_History_most_slots rfl e8 (by show 8 < 1000; decide) (fun _ => rfl) (fun q9 H9 z9 b9 d9 e9 => ?_)
    try dsimp only
    refine sf_list0 (fs := [("row", .ref q1), ("holes", .ref q2), ("locked", .ref q3), ("classes", .int 0), ("touches", .ref q5), ("distances", .ref q6), ("swap_outs", .ref q7), ("write_backs", .ref q8), ("most_slots", .ref q9)]) (fs' := fun q10 => [("row", .ref q1), ("holes", .ref q2), ("locked", .ref q3), ("classes", .int 0), ("touches", .ref q5), ("distances", .ref q6), ("swap_outs", .ref q7), ("write_backs", .ref q8), ("most_slots", .ref q9), ("saves", .ref q10)]) cl G.n_History_saves rfl e9 (by show 9 < 1000; decide) (fun _ => rfl) (fun q10 H10 z10 b10 d10 e10 => ?_)
    try dsimp only
    refine sf_list (fs := [("row", .ref q1), ("holes", .ref q2), ("locked", .ref q3), ("classes", .int 0), ("touches", .ref q5), ("distances", .ref q6), ("swap_outs", .ref q7), ("write_backs", .ref q8), ("most_slots", .ref q9), ("saves", .ref q10)]) (fs' := fun q11 => [("row", .ref q1), ("holes", .ref q2), ("locked", .ref q3), ("classes", .int 0), ("touches", .ref q5), ("distances", .ref q6), ("swap_outs", .ref q7), ("write_backs", .ref q8), ("most_slots", .ref q9), ("saves", .ref q10), ("lock_changes", .ref q11)]) cl G.n_History_lock_changes rfl e10 (by show 10 < 1000; decide) (fun _ => rfl) (fun q11 H11 z11 b11 d11 e11 => ?_)
    try dsimp only
    refine sf_val (fs := [("row", .ref q1), ("holes", .ref q2), ("locked", .ref q3), ("classes", .int 0), ("touches", .ref q5), ("distances", .ref q6), ("swap_outs", .ref q7), ("write_backs", .ref q8), ("most_slots", .ref q9), ("saves", .ref q10), ("lock_changes", .ref q11)]) (fs' := [("row", .ref q1), ("holes", .ref q2), ("locked", .ref q3), ("classes", .int 0), ("touches", .ref q5), ("distances", .ref q6), ("swap_outs", .ref q7), ("write_backs", .ref q8), ("most_slots", .ref q9), ("saves", .ref q10), ("lock_changes", .ref q11), ("most_locked", .int 0)]) (fun Q q => q) cl G.n_History_most_locked rfl e11 (by show 11 < 1000; decide) rfl (fun H12 b12 n12 e12 => ?_)
    try dsimp only
    refine sf_val (fs := [("row", .ref q1), ("holes", .ref q2), ("locked", .ref q3), ("classes", .int 0), ("touches", .ref q5), ("distances", .ref q6), ("swap_outs", .ref q7), ("write_backs", .ref q8), ("most_slots", .ref q9), ("saves", .ref q10), ("lock_changes", .ref q11), ("most_locked", .int 0)]) (fs' := [("row", .ref q1), ("holes", .ref q2), ("locked", .ref q3), ("classes", .int 0), ("touches", .ref q5), ("distances", .ref q6), ("swap_outs", .ref q7), ("write_backs", .ref q8), ("most_slots", .ref q9), ("saves", .ref q10), ("lock_changes", .ref q11), ("most_locked", .int 0), ("crashed", .bl false)]) (fun Q q => q) cl G.n_History_crashed rfl e12 (by show 12 < 1000; decide) rfl (fun H13 b13 n13 e13 => ?_)
    try dsimp only
    refine sf_val (fs := [("row", .ref q1), ("holes", .ref q2), ("locked", .ref q3), ("classes", .int 0), ("touches", .ref q5), ("distances", .ref q6), ("swap_outs", .ref q7), ("write_backs", .ref q8), ("most_slots", .ref q9), ("saves", .ref q10), ("lock_changes", .ref q11), ("most_locked", .int 0), ("crashed", .bl false)]) (fs' := [("row", .ref q1), ("holes", .ref q2), ("locked", .ref q3), ("classes", .int 0), ("touches", .ref q5), ("distances", .ref q6), ("swap_outs", .ref q7), ("write_backs", .ref q8), ("most_slots", .ref q9), ("saves", .ref q10), ("lock_changes", .ref q11), ("most_locked", .int 0), ("crashed", .bl false), ("merged", .bl false)]) (fun Q q => q) cl G.n_History_merged rfl e13 (by show 13 < 1000; decide) rfl (fun H14 b14 n14 e14 => ?_)
    try dsimp only
    have n8 : ∀ {b : Addr} {Hx : Hp}, (∃ o, Hx x = some o) → Hx b = none → b ≠ x := fun ⟨o, e⟩ z => (ne_of_none e z).symm
    have m1 := n8 ⟨_, hx⟩ z1
    have m3 := n8 ⟨_, e2⟩ z3
    have a1 := b2 _ _ m1 d1
    have n13 : q1 ≠ q3 := ne_of_none a1 z3
    have t2 : But x H H2 := b1.trans b2
    have t4 : But x H3 H14 := b4.trans (b5.trans (b6.trans (b7.trans (b8.trans (b9.trans (b10.trans (b11.trans (b12.trans (b13.trans b14)))))))))
    have z3' : H q3 = none := by
      cases ho : H q3 with
      | none => rfl
      | some o => rw [t2 _ o m3 ho] at z3; cases z3
    exact k H14 q1 q3 (hisY [.ref q2, .int 0, .ref q5, .ref q6, .ref q7, .ref q8, .ref q9, .ref q10, .ref q11, .int 0, .bl false, .bl false]) (t2.trans (b3.trans t4)) e14 (t4 _ _ m1 (b3 _ _ m1 a1)) (t4 _ _ m3 d3) z1 z3' n13
def sysG (fr sl st : V) (w : Wh) : List (Str × V) := ([("frames", fr), ("slots", sl), ("strict", st)] : List (Str × V)) ++ (sysF 0 0 0 w).drop 3
theorem if_raise {c : TT} {t : TS} {D : Ends} {σ : St} {H : Hp} (b : Bool) (hc : ∀ Q : Bool → Hp → Prop, Q b H → c σ H Q) (h1 : b = true → t D σ H) (h2 : b = false → D.nx σ H) : tIfS c t tNext D σ H :=
  hc _ (by
    cases b with
    | true => exact iteT (h1 rfl)
    | false => exact iteF (h2 rfl))
def spInit (A : Adr) : Sp := fun vs H Q E => ∃ (x dx : Addr) (fr sl st : V), vs = [.ref x, fr, sl, st] ∧ AnyV H fr ∧ AnyV H sl ∧ AnyV H st ∧ H x = some (.ins A.c_System dx []) ∧
  (badP fr sl st = none → ∀ H' wh τ, But x H H' → (∀ b g, τ b = some g → b = x ∨ H b = none) → H' x = some (.ins A.c_System wh.dx (sysG fr sl st wh)) → H' wh.t = some (.dK []) → (fr = .non → sl = .non → st = .bl false → Sr A H' x wh S0 τ) → H' wh.fi = some (.dK []) → Q .non H') ∧
  ∀ pt, badP fr sl st = some pt → Rz A.c_NoSystem "part" (.str pt) H E
theorem ok_System_init (G : Txt K mg A) : FnOk P w K mg base (L2.CX P w) 3 A.a_System_init A.fd_System_init p_System_init (spInit A) := by
  refine G.f_System_init.ok sc_System_init (fun vs H Q E h => ?_) (fun cdv A' outer s H vs Q E hr h => ?_)
  · obtain ⟨x, dx, fr, sl, st, rfl, _⟩ := h
    rfl
  · obtain ⟨x, dx, fr, sl, st, rfl, hf, hs, ht, hx, k1, k2⟩ := h
    have cl := G.cl_System
    refine ⟨_, (pss_cons (ps_if (PW.pt (pw_and (pt_cmpR op_notN (pv 1) pe_non (nomark _)) (pw_and1 (pt_not (pt_val (pe_call (ok_is_integer G) (hr.mono (by decide)) rfl G.g_is_integer G.k_is_integer G.bi_is_integer .nil pass0 (pa_cons (pv 1) (pa_cons pe_int (pa_cons pe_int pa_nil))))))))) (pss_one (ps_raise rfl (takes_of rfl rfl rfl rfl) (pmk_oex G.x_NoSystem G.xi_NoSystem G.xt_NoSystem (ok_NoSystem_init G) (hr.mono (by decide)) G.bi_NoSystem_init .nil pass0 rfl G.g_NoSystem (pa_cons pe_str pa_nil)))) pss_nil)
  (pss_cons (ps_if (PW.pt (pw_and (pt_cmpR op_notN (pv 2) pe_non (nomark _)) (pw_and1 (pt_not (pt_val (pe_call (ok_is_integer G) (hr.mono (by decide)) rfl G.g_is_integer G.k_is_integer G.bi_is_integer .nil pass0 (pa_cons (pv 2) (pa_cons pe_int (pa_cons pe_int pa_nil))))))))) (pss_one (ps_raise rfl (takes_of rfl rfl rfl rfl) (pmk_oex G.x_NoSystem G.xi_NoSystem G.xt_NoSystem (ok_NoSystem_init G) (hr.mono (by decide)) G.bi_NoSystem_init .nil pass0 rfl G.g_NoSystem (pa_cons pe_str pa_nil)))) pss_nil)
  (pss_cons (ps_if (PW.pt (pw_or (pt_not (pt_val (pe_callB call_isi (by rfl) G.b_isinstance (by decide +kernel) (pa_cons (pv 3) (pa_cons (pe_bltn (v := .ty "bool") (u := .type "bool") (by rfl) G.b_bool (by decide +kernel) rfl) pa_nil))))) (pw_or1 (PW.pt (pw_and (pt_val (pv 3)) (pw_and1 (PW.pt (pw_or (pt_cmpR op_isN (pv 1) pe_non (nomark _)) (pw_or1 (pt_cmpR op_isN (pv 2) pe_non (nomark _))))))))))) (pss_one (ps_raise rfl (takes_of rfl rfl rfl rfl) (pmk_oex G.x_NoSystem G.xi_NoSystem G.xt_NoSystem (ok_NoSystem_init G) (hr.mono (by decide)) G.bi_NoSystem_init .nil pass0 rfl G.g_NoSystem (pa_cons pe_str pa_nil)))) pss_nil)
  (pss_cons (ps_fld (pv 0) (pv 1) rfl)
  (pss_cons (ps_fld (pv 0) (pv 2) rfl)
  (pss_cons (ps_fld (pv 0) (pv 3) rfl)
  (pss_cons (ps_fld (pv 0) pe_int rfl)
  (pss_cons (ps_fld (pv 0) pe_int rfl)
  (pss_cons (ps_fld (pv 0) pe_int rfl)
  (pss_cons (ps_fld (pv 0) pe_dnewK rfl)
  (pss_cons (ps_fld (pv 0) pe_dnewK rfl)
  (pss_cons (ps_fld (pv 0) pe_dnewT rfl)
  (pss_cons (ps_fld (pv 0) pe_dnewK rfl)
  (pss_cons (ps_fld (pv 0) pe_dnewK rfl)
  (pss_cons (ps_fld (pv 0) pe_int rfl)
  (pss_cons (ps_fld (pv 0) pe_dnewK rfl)
  (pss_cons (ps_fld (pv 0) pe_dnewK rfl)
  (pss_cons (ps_fld (pv 0) pe_int rfl)
  (pss_cons (ps_fld (pv 0) pe_int rfl)
  (pss_cons (ps_fld (pv 0) pe_int rfl)
  (pss_one (ps_fld (pv 0) (pe_make0 G.mk_History (ok_History_init G) (hr.mono (by decide)) rfl G.g_History G.bi_History_init .nil pass0) rfl)))))))))))))))))))))), ?_⟩
    have fin : ∀ pt : Str, badP fr sl st = some pt → tMkO A.c_NoSystem (spXi K "part") [] (tCons (tC (.str pt)) tNil) (L2.start n_System_init [V.ref x, fr, sl, st]) H (fun cls d H' => E cls d H') := fun pt hp =>
      ⟨(by show 1 ≤ 1000; decide), fun a ha => xi_done G.x_NoSystem G.xn_NoSystem ha fun d H' s0 d0 e0 => k2 pt hp d H' s0 d0 e0⟩
    refine if_raise (!(okP 64 1 fr)) (fun Q q => ?_) (fun e => ?_) (fun e => ?_)
    · refine ⟨_, rfl, rfl, _, rfl, ?_⟩
      by_cases c : fr = .non
      · rw [decide_eq_true c]
        refine iteF ?_
        have z : okP 64 1 fr = true := by unfold okP; rw [decide_eq_true c]; rfl
        rw [z] at q
        exact q
      · rw [decide_eq_false c]
        refine iteT ⟨_, rfl, fr, 1, 64, rfl, hf, _, rfl, ?_⟩
        have z : okP 64 1 fr = inR 1 64 fr := by unfold okP; rw [decide_eq_false c]; rfl
        rw [z] at q
        exact q
    · exact fin _ (if_pos (by simpa using e))
    have eF : ¬ (okP 64 1 fr = false) := by simpa using e
    dsimp only
    refine if_raise (!(okP 256 0 sl)) (fun Q q => ?_) (fun e => ?_) (fun e => ?_)
    · refine ⟨_, rfl, rfl, _, rfl, ?_⟩
      by_cases c : sl = .non
      · rw [decide_eq_true c]
        refine iteF ?_
        have z : okP 256 0 sl = true := by unfold okP; rw [decide_eq_true c]; rfl
        rw [z] at q
        exact q
      · rw [decide_eq_false c]
        refine iteT ⟨_, rfl, sl, 0, 256, rfl, hs, _, rfl, ?_⟩
        have z : okP 256 0 sl = inR 0 256 sl := by unfold okP; rw [decide_eq_false c]; rfl
        rw [z] at q
        exact q
    · exact fin _ ((if_neg eF).trans (if_pos (by simpa using e)))
    have eS : ¬ (okP 256 0 sl = false) := by simpa using e
    obtain ⟨ty, q1, q2, q3, _⟩ := ht.ty (K := K)
    dsimp only
    refine if_raise (decide (isB st = false ∨ (st = .bl true ∧ (fr = .non ∨ sl = .non)))) (fun Q q => ?_) (fun e => ?_) (fun e => ?_)
    · refine ⟨_, rfl, st, .ty "bool", _, _, _, rfl, .ty "bool", q1, q3, _, rfl, ?_⟩
      cases cb : isB st with
      | false =>
        refine iteT ?_
        have z : decide (isB st = false ∨ (st = .bl true ∧ (fr = .non ∨ sl = .non))) = true := decide_eq_true (.inl cb)
        rw [z] at q
        exact q
      | true =>
        refine iteF ?_
        obtain ⟨k, rfl⟩ : ∃ k, st = V.bl k := by cases st <;> first | exact ⟨_, rfl⟩ | (cases cb; done)
        refine ⟨_, rfl, _, rfl, ?_⟩
        cases k with
        | false =>
          refine iteF ?_
          have z : decide (isB (.bl false) = false ∨ (V.bl false = .bl true ∧ (fr = .non ∨ sl = .non))) = false := decide_eq_false (by simp [isB])
          rw [z] at q
          exact q
        | true =>
          refine iteT ⟨_, rfl, rfl, _, rfl, ?_⟩
          by_cases c : fr = .non
          · rw [decide_eq_true c]
            refine iteT ?_
            have z : decide (isB (.bl true) = false ∨ (V.bl true = .bl true ∧ (fr = .non ∨ sl = .non))) = true := decide_eq_true (by simp [c])
            rw [z] at q
            exact q
          · rw [decide_eq_false c]
            refine iteF ⟨_, rfl, rfl, _, rfl, ?_⟩
            have z : decide (isB (.bl true) = false ∨ (V.bl true = .bl true ∧ (fr = .non ∨ sl = .non))) = decide (sl = .non) := by simp [isB, c]
            rw [z] at q
            exact q
    · exact fin _ ((if_neg eF).trans ((if_neg eS).trans (if_pos (of_decide_eq_true e))))
    have eT := of_decide_eq_false e
    have bad0 : badP fr sl st = none := (if_neg eF).trans ((if_neg eS).trans (if_neg eT))
    have k1 := k1 bad0
    have v1 : ∀ {j : Nat} {v : V} {H : Hp}, (L2.start n_System_init [V.ref x, fr, sl, st])[j]? = some (some v) → ∀ Q : VK, Q v H → tVar j (L2.start n_System_init [V.ref x, fr, sl, st]) H Q := fun h Q q => ⟨_, h, q⟩
    have n8 : ∀ {b : Addr} {Hx : Hp}, (∃ o, Hx x = some o) → Hx b = none → b ≠ x := fun ⟨o, e⟩ z => (ne_of_none e z).symm
    have frr : ∀ {b : Addr} {Hx : Hp}, But x H Hx → b ≠ x → Hx b = none → H b = none := fun {b Hx} bt n e => by
      cases ho : H b with
      | none => rfl
      | some o => rw [bt b o n ho] at e; cases e
    have t0 : But x H H := fun _ _ _ e => e
    refine sf_val (fs := []) (fs' := [("frames", fr)]) (v1 (j := 1) rfl) cl G.n_System_frames rfl hx (by show 0 < 1000; decide) rfl (fun H1 b1 n1 e1 => ?_)
    try dsimp only
    have t1 := t0.trans b1
    refine sf_val (fs := [("frames", fr)]) (fs' := [("frames", fr), ("slots", sl)]) (v1 (j := 2) rfl) cl G.n_System_slots rfl e1 (by show 1 < 1000; decide) rfl (fun H2 b2 n2 e2 => ?_)
    try dsimp only
    have t2 := t1.trans b2
    refine sf_val (fs := [("frames", fr), ("slots", sl)]) (fs' := [("frames", fr), ("slots", sl), ("strict", st)]) (v1 (j := 3) rfl) cl G.n_System_strict rfl e2 (by show 2 < 1000; decide) rfl (fun H3 b3 n3 e3 => ?_)
    try dsimp only
    have t3 := t2.trans b3
    refine sf_val (fs := [("frames", fr), ("slots", sl), ("strict", st)]) (fs' := [("frames", fr), ("slots", sl), ("strict", st), ("steps_made", .int 0)]) (fun Q q => q) cl G.n_System_steps_made rfl e3 (by show 3 < 1000; decide) rfl (fun H4 b4 n4 e4 => ?_)
    try dsimp only
    have t4 := t3.trans b4
    refine sf_val (fs := [("frames", fr), ("slots", sl), ("strict", st), ("steps_made", .int 0)]) (fs' := [("frames", fr), ("slots", sl), ("strict", st), ("steps_made", .int 0), ("processes_made", .int 0)]) (fun Q q => q) cl G.n_System_processes_made rfl e4 (by show 4 < 1000; decide) rfl (fun H5 b5 n5 e5 => ?_)
    try dsimp only
    have t5 := t4.trans b5
    refine sf_val (fs := [("frames", fr), ("slots", sl), ("strict", st), ("steps_made", .int 0), ("processes_made", .int 0)]) (fs' := [("frames", fr), ("slots", sl), ("strict", st), ("steps_made", .int 0), ("processes_made", .int 0), ("objects_made", .int 0)]) (fun Q q => q) cl G.n_System_objects_made rfl e5 (by show 5 < 1000; decide) rfl (fun H6 b6 n6 e6 => ?_)
    try dsimp only
    have t6 := t5.trans b6
    refine sf_dict (fs := [("frames", fr), ("slots", sl), ("strict", st), ("steps_made", .int 0), ("processes_made", .int 0), ("objects_made", .int 0)]) (fs' := fun q7 => [("frames", fr), ("slots", sl), ("strict", st), ("steps_made", .int 0), ("processes_made", .int 0), ("objects_made", .int 0), ("tables", .ref q7)]) cl G.n_System_tables rfl e6 (by show 6 < 1000; decide) (fun _ => rfl) (fun q7 H7 z7 b7 d7 e7 => ?_)
    try dsimp only
    have m7 := n8 ⟨_, e6⟩ z7
    have f7 := frr t6 m7 z7
    have a7 := d7
    have t7 := t6.trans b7
    refine sf_dict (fs := [("frames", fr), ("slots", sl), ("strict", st), ("steps_made", .int 0), ("processes_made", .int 0), ("objects_made", .int 0), ("tables", .ref q7)]) (fs' := fun q8 => [("frames", fr), ("slots", sl), ("strict", st), ("steps_made", .int 0), ("processes_made", .int 0), ("objects_made", .int 0), ("tables", .ref q7), ("objects", .ref q8)]) cl G.n_System_objects rfl e7 (by show 7 < 1000; decide) (fun _ => rfl) (fun q8 H8 z8 b8 d8 e8 => ?_)
    try dsimp only
    have m8 := n8 ⟨_, e7⟩ z8
    have n7_8 : q7 ≠ q8 := ne_of_none a7 z8
    have f8 := frr t7 m8 z8
    have a7 := b8 _ _ m7 a7
    have a8 := d8
    have t8 := t7.trans b8
    refine sf_dictT (fs := [("frames", fr), ("slots", sl), ("strict", st), ("steps_made", .int 0), ("processes_made", .int 0), ("objects_made", .int 0), ("tables", .ref q7), ("objects", .ref q8)]) (fs' := fun q9 => [("frames", fr), ("slots", sl), ("strict", st), ("steps_made", .int 0), ("processes_made", .int 0), ("objects_made", .int 0), ("tables", .ref q7), ("objects", .ref q8), ("object_pages", .ref q9)]) cl G.n_System_object_pages rfl e8 (by show 8 < 1000; decide) (fun _ => rfl) (fun q9 H9 z9 b9 d9 e9 => ?_)
    try dsimp only
    have m9 := n8 ⟨_, e8⟩ z9
    have n7_9 : q7 ≠ q9 := ne_of_none a7 z9
    have n8_9 : q8 ≠ q9 := ne_of_none a8 z9
    have f9 := frr t8 m9 z9
    have a7 := b9 _ _ m7 a7
    have a8 := b9 _ _ m8 a8
    have a9 := d9
    have t9 := t8.trans b9
    refine sf_dict (fs := [("frames", fr), ("slots", sl), ("strict", st), ("steps_made", .int 0), ("processes_made", .int 0), ("objects_made", .int 0), ("tables", .ref q7), ("objects", .ref q8), ("object_pages", .ref q9)]) (fs' := fun q10 => [("frames", fr), ("slots", sl), ("strict", st), ("steps_made", .int 0), ("processes_made", .int 0), ("objects_made", .int 0), ("tables", .ref q7), ("objects", .ref q8), ("object_pages", .ref q9), ("files", .ref q10)]) cl G.n_System_files rfl e9 (by show 9 < 1000; decide) (fun _ => rfl) (fun q10 H10 z10 b10 d10 e10 => ?_)
    try dsimp only
    have m10 := n8 ⟨_, e9⟩ z10
    have n7_10 : q7 ≠ q10 := ne_of_none a7 z10
    have n8_10 : q8 ≠ q10 := ne_of_none a8 z10
    have n9_10 : q9 ≠ q10 := ne_of_none a9 z10
    have f10 := frr t9 m10 z10
    have a7 := b10 _ _ m7 a7
    have a8 := b10 _ _ m8 a8
    have a9 := b10 _ _ m9 a9
    have a10 := d10
    have t10 := t9.trans b10
    refine sf_dict (fs := [("frames", fr), ("slots", sl), ("strict", st), ("steps_made", .int 0), ("processes_made", .int 0), ("objects_made", .int 0), ("tables", .ref q7), ("objects", .ref q8), ("object_pages", .ref q9), ("files", .ref q10)]) (fs' := fun q11 => [("frames", fr), ("slots", sl), ("strict", st), ("steps_made", .int 0), ("processes_made", .int 0), ("objects_made", .int 0), ("tables", .ref q7), ("objects", .ref q8), ("object_pages", .ref q9), ("files", .ref q10), ("classes", .ref q11)]) cl G.n_System_classes rfl e10 (by show 10 < 1000; decide) (fun _ => rfl) (fun q11 H11 z11 b11 d11 e11 => ?_)
    try dsimp only
    have a7 := b11 _ _ m7 a7
    have a8 := b11 _ _ m8 a8
    have a9 := b11 _ _ m9 a9
    have a10 := b11 _ _ m10 a10
    have t11 := t10.trans b11
    refine sf_val (fs := [("frames", fr), ("slots", sl), ("strict", st), ("steps_made", .int 0), ("processes_made", .int 0), ("objects_made", .int 0), ("tables", .ref q7), ("objects", .ref q8), ("object_pages", .ref q9), ("files", .ref q10), ("classes", .ref q11)]) (fs' := [("frames", fr), ("slots", sl), ("strict", st), ("steps_made", .int 0), ("processes_made", .int 0), ("objects_made", .int 0), ("tables", .ref q7), ("objects", .ref q8), ("object_pages", .ref q9), ("files", .ref q10), ("classes", .ref q11), ("locked_pages", .int 0)]) (fun Q q => q) cl G.n_System_locked_pages rfl e11 (by show 11 < 1000; decide) rfl (fun H12 b12 n12 e12 => ?_)
    try dsimp only
    have a7 := b12 _ _ m7 a7
    have a8 := b12 _ _ m8 a8
    have a9 := b12 _ _ m9 a9
    have a10 := b12 _ _ m10 a10
    have t12 := t11.trans b12
    refine sf_dict (fs := [("frames", fr), ("slots", sl), ("strict", st), ("steps_made", .int 0), ("processes_made", .int 0), ("objects_made", .int 0), ("tables", .ref q7), ("objects", .ref q8), ("object_pages", .ref q9), ("files", .ref q10), ("classes", .ref q11), ("locked_pages", .int 0)]) (fs' := fun q13 => [("frames", fr), ("slots", sl), ("strict", st), ("steps_made", .int 0), ("processes_made", .int 0), ("objects_made", .int 0), ("tables", .ref q7), ("objects", .ref q8), ("object_pages", .ref q9), ("files", .ref q10), ("classes", .ref q11), ("locked_pages", .int 0), ("memory", .ref q13)]) cl G.n_System_memory rfl e12 (by show 12 < 1000; decide) (fun _ => rfl) (fun q13 H13 z13 b13 d13 e13 => ?_)
    try dsimp only
    have a7 := b13 _ _ m7 a7
    have a8 := b13 _ _ m8 a8
    have a9 := b13 _ _ m9 a9
    have a10 := b13 _ _ m10 a10
    have t13 := t12.trans b13
    refine sf_dict (fs := [("frames", fr), ("slots", sl), ("strict", st), ("steps_made", .int 0), ("processes_made", .int 0), ("objects_made", .int 0), ("tables", .ref q7), ("objects", .ref q8), ("object_pages", .ref q9), ("files", .ref q10), ("classes", .ref q11), ("locked_pages", .int 0), ("memory", .ref q13)]) (fs' := fun q14 => [("frames", fr), ("slots", sl), ("strict", st), ("steps_made", .int 0), ("processes_made", .int 0), ("objects_made", .int 0), ("tables", .ref q7), ("objects", .ref q8), ("object_pages", .ref q9), ("files", .ref q10), ("classes", .ref q11), ("locked_pages", .int 0), ("memory", .ref q13), ("swapped", .ref q14)]) cl G.n_System_swapped rfl e13 (by show 13 < 1000; decide) (fun _ => rfl) (fun q14 H14 z14 b14 d14 e14 => ?_)
    try dsimp only
    have a7 := b14 _ _ m7 a7
    have a8 := b14 _ _ m8 a8
    have a9 := b14 _ _ m9 a9
    have a10 := b14 _ _ m10 a10
    have t14 := t13.trans b14
    refine sf_val (fs := [("frames", fr), ("slots", sl), ("strict", st), ("steps_made", .int 0), ("processes_made", .int 0), ("objects_made", .int 0), ("tables", .ref q7), ("objects", .ref q8), ("object_pages", .ref q9), ("files", .ref q10), ("classes", .ref q11), ("locked_pages", .int 0), ("memory", .ref q13), ("swapped", .ref q14)]) (fs' := [("frames", fr), ("slots", sl), ("strict", st), ("steps_made", .int 0), ("processes_made", .int 0), ("objects_made", .int 0), ("tables", .ref q7), ("objects", .ref q8), ("object_pages", .ref q9), ("files", .ref q10), ("classes", .ref q11), ("locked_pages", .int 0), ("memory", .ref q13), ("swapped", .ref q14), ("faults", .int 0)]) (fun Q q => q) cl G.n_System_faults rfl e14 (by show 14 < 1000; decide) rfl (fun H15 b15 n15 e15 => ?_)
    try dsimp only
    have a7 := b15 _ _ m7 a7
    have a8 := b15 _ _ m8 a8
    have a9 := b15 _ _ m9 a9
    have a10 := b15 _ _ m10 a10
    have t15 := t14.trans b15
    refine sf_val (fs := [("frames", fr), ("slots", sl), ("strict", st), ("steps_made", .int 0), ("processes_made", .int 0), ("objects_made", .int 0), ("tables", .ref q7), ("objects", .ref q8), ("object_pages", .ref q9), ("files", .ref q10), ("classes", .ref q11), ("locked_pages", .int 0), ("memory", .ref q13), ("swapped", .ref q14), ("faults", .int 0)]) (fs' := [("frames", fr), ("slots", sl), ("strict", st), ("steps_made", .int 0), ("processes_made", .int 0), ("objects_made", .int 0), ("tables", .ref q7), ("objects", .ref q8), ("object_pages", .ref q9), ("files", .ref q10), ("classes", .ref q11), ("locked_pages", .int 0), ("memory", .ref q13), ("swapped", .ref q14), ("faults", .int 0), ("swap_outs", .int 0)]) (fun Q q => q) cl G.n_System_swap_outs rfl e15 (by show 15 < 1000; decide) rfl (fun H16 b16 n16 e16 => ?_)
    try dsimp only
    have a7 := b16 _ _ m7 a7
    have a8 := b16 _ _ m8 a8
    have a9 := b16 _ _ m9 a9
    have a10 := b16 _ _ m10 a10
    have t16 := t15.trans b16
    refine sf_val (fs := [("frames", fr), ("slots", sl), ("strict", st), ("steps_made", .int 0), ("processes_made", .int 0), ("objects_made", .int 0), ("tables", .ref q7), ("objects", .ref q8), ("object_pages", .ref q9), ("files", .ref q10), ("classes", .ref q11), ("locked_pages", .int 0), ("memory", .ref q13), ("swapped", .ref q14), ("faults", .int 0), ("swap_outs", .int 0)]) (fs' := [("frames", fr), ("slots", sl), ("strict", st), ("steps_made", .int 0), ("processes_made", .int 0), ("objects_made", .int 0), ("tables", .ref q7), ("objects", .ref q8), ("object_pages", .ref q9), ("files", .ref q10), ("classes", .ref q11), ("locked_pages", .int 0), ("memory", .ref q13), ("swapped", .ref q14), ("faults", .int 0), ("swap_outs", .int 0), ("write_backs", .int 0)]) (fun Q q => q) cl G.n_System_write_backs rfl e16 (by show 16 < 1000; decide) rfl (fun H17 b17 n17 e17 => ?_)
    try dsimp only
    have a7 := b17 _ _ m7 a7
    have a8 := b17 _ _ m8 a8
    have a9 := b17 _ _ m9 a9
    have a10 := b17 _ _ m10 a10
    have t17 := t16.trans b17
    refine sf_his (CH := A.c_History) (fs := [("frames", fr), ("slots", sl), ("strict", st), ("steps_made", .int 0), ("processes_made", .int 0), ("objects_made", .int 0), ("tables", .ref q7), ("objects", .ref q8), ("object_pages", .ref q9), ("files", .ref q10), ("classes", .ref q11), ("locked_pages", .int 0), ("memory", .ref q13), ("swapped", .ref q14), ("faults", .int 0), ("swap_outs", .int 0), ("write_backs", .int 0)]) (fun Q q => fun hh dhh hhn hdhn hne => ⟨hh, dhh, rfl, upd_same, fun H' ro lk y b1 e1 e2 e3 z2 z3 n => ⟨rfl, ?_⟩⟩) cl G.n_System_history rfl e17 (by show 17 < 1000; decide) (fun q18 H18 ro lk dh y b18 e18 hh1 hh2 hh3 hn1 hn2 hn3 hn4 => ?_)
    · have s1 : Same H17 H' := same_made hhn hdhn b1
      have o1 : Same H17 (upd (upd H17 dhh (.own hh)) hh (.ins A.c_History dhh [])) := (Same.new hdhn).trans (Same.new (by rw [upd_ne (Ne.symm hne)]; exact hhn))
      exact q hh ro lk dhh y H' s1 e1 e2 e3 hhn (Same.free o1 z2) (Same.free o1 z3) n
    try dsimp only
    have mh := n8 ⟨_, e17⟩ hn1
    have n7_h : q7 ≠ q18 := ne_of_none a7 hn1
    have n8_h : q8 ≠ q18 := ne_of_none a8 hn1
    have n9_h : q9 ≠ q18 := ne_of_none a9 hn1
    have n10_h : q10 ≠ q18 := ne_of_none a10 hn1
    have ffh := frr t17 mh hn1
    have mr := n8 ⟨_, e17⟩ hn2
    have n7_r : q7 ≠ ro := ne_of_none a7 hn2
    have n8_r : q8 ≠ ro := ne_of_none a8 hn2
    have n9_r : q9 ≠ ro := ne_of_none a9 hn2
    have n10_r : q10 ≠ ro := ne_of_none a10 hn2
    have ffr := frr t17 mr hn2
    have ml := n8 ⟨_, e17⟩ hn3
    have n7_l : q7 ≠ lk := ne_of_none a7 hn3
    have n8_l : q8 ≠ lk := ne_of_none a8 hn3
    have n9_l : q9 ≠ lk := ne_of_none a9 hn3
    have n10_l : q10 ≠ lk := ne_of_none a10 hn3
    have ffl := frr t17 ml hn3
    have a7 := b18 _ _ m7 a7
    have a8 := b18 _ _ m8 a8
    have a9 := b18 _ _ m9 a9
    have a10 := b18 _ _ m10 a10
    have t18 := t17.trans b18
    have nhr : q18 ≠ ro := fun z => by rw [z, hh2] at hh1; cases hh1
    have nhl : q18 ≠ lk := fun z => by rw [z, hh3] at hh1; cases hh1
    refine k1 H18 ⟨dx, q7, q8, q9, q10, q11, q13, q14, q18, ro⟩ (fun b => if b = x then some .sys else if b = q7 then some .tabs else if b = q8 then some .objs else if b = q9 then some .opgs else if b = q10 then some .files else if b = q18 then some .his else if b = ro then some .row else if b = lk then some .lks else none) t18 (fun b g hg => ?_) e18 a7 (fun z1 z2 z3 => ?_) a10
    · split at hg
      · rename_i e; exact .inl e
      · refine .inr ?_
        repeat' (split at hg)
        all_goals first | (rename_i e; rw [e]; assumption) | cases hg
    · subst z1 z2 z3
      refine ⟨e18, if_pos rfl, ?_, ?_, ?_, ?_, ⟨[], _, a7, DI.nil, fun _ => True.intro⟩, ⟨[], _, a8, DI.nil, fun k i => cntS_S0 k i⟩, a9, ⟨[], a10, fun _ => rfl, Nat.zero_le _, fun _ z => (nomatch z)⟩, ⟨Int.le_refl _, by decide⟩, ⟨Int.le_refl _, by decide⟩, fun b g hg => ?_, ⟨⟨dh, lk, y, hh1, hh3, ?_⟩, hh2, ?_, ?_⟩⟩
      · simp only [if_neg m7, if_pos]
      · simp only [if_neg m8, if_neg (Ne.symm n7_8), if_pos]
      · simp only [if_neg m9, if_neg (Ne.symm n7_9), if_neg (Ne.symm n8_9), if_pos]
      · simp only [if_neg m10, if_neg (Ne.symm n7_10), if_neg (Ne.symm n8_10), if_neg (Ne.symm n9_10), if_pos]
      · split at hg
        · rename_i e; exact .inl e
        · refine .inr ?_
          repeat' (split at hg)
          all_goals first | (rename_i e; rw [e]; exact ⟨_, by assumption, rfl⟩) | cases hg
      · simp only [if_neg ml, if_neg (Ne.symm n7_l), if_neg (Ne.symm n8_l), if_neg (Ne.symm n9_l), if_neg (Ne.symm n10_l), if_neg (Ne.symm nhl), if_neg (Ne.symm hn4), if_pos]
      · simp only [if_neg mh, if_neg (Ne.symm n7_h), if_neg (Ne.symm n8_h), if_neg (Ne.symm n9_h), if_neg (Ne.symm n10_h), if_pos]
      · simp only [if_neg mr, if_neg (Ne.symm n7_r), if_neg (Ne.symm n8_r), if_neg (Ne.symm n9_r), if_neg (Ne.symm n10_r), if_neg (Ne.symm nhr), if_pos]
/-- a new process, without pages -/
def newS (S : Sys) : Sys := { S with p := S.p + 1, tabs := fun j => if j = S.p + 1 then some fun _ => none else S.tabs j }
theorem cntS_new {S : Sys} (h0 : 0 ≤ S.p) (h : S.p < 1000) (hn : S.tabs (S.p + 1) = none) (k i : Int) : cntS (newS S) k i = cntS S k i := by
  have a := cntS_set (S := S) (a := some fun _ => none) (i := S.p + 1) (by omega) (by omega) k i
  rw [hn] at a
  have b : cO k i (some fun _ => none) = 0 := cntT_none k i
  rw [b] at a
  have c := congrFun (congrFun (cntS_tabs (S := newS S) (S' := S.setTab (S.p + 1) (some fun _ => none)) rfl) k) i
  rw [c]
  simp only [cO] at a
  omega
def spNewP (A : Adr) : Sp := fun vs H Q _ => ∃ (x : Addr) (wh : Wh) (S : Sys) (τ : Tm), vs = [.ref x] ∧ Sr A H x wh S τ ∧ S.p < 1000 ∧ ∀ H' τ', Go τ H τ' H' → Sr A H' x wh (newS S) τ' → Q (.int (S.p + 1)) H'
theorem ok_new_process (G : Txt K mg A) : FnOk P w K mg base CX0 1 A.a_new_process A.fd_new_process p_new_process (spNewP A) := by
  refine G.f_new_process.ok sc_new_process (fun vs H Q E h => ?_) (fun cdv A' outer s H vs Q E hr h => ?_)
  · obtain ⟨x, wh, S, τ, rfl, _⟩ := h
    rfl
  · obtain ⟨x, wh, S, τ, rfl, hS, hl, k⟩ := h
    obtain ⟨cl, a3, a4, a5, a6, a7, a8, a9, a10⟩ := G.sysN
    refine ⟨_, (pss_cons (ps_fldaug (pv 0) pe_int in_add)
  (pss_cons (ps_dput (hu_of hr) (pe_fld (pv 0) rfl) (pe_fld (pv 0) rfl) pe_dnewK rfl)
  (pss_one (ps_ret (pe_fld (pv 0) rfl))))), ?_⟩
    have h1 := hS.hx
    obtain ⟨kvt, ft, ht, dit, rel⟩ := hS.tabs
    have nt : wh.t ≠ x := ne_tag hS.tt hS.tx (by simp)
    have bp := hS.bp
    refine ⟨_, rfl, x, _, _, _, _, rfl, h1, cl, a5, rfl, S.p, 1, rfl, rfl, _, _, h1, (by show 18 < 1000; decide), ?_⟩
    have hx' : (upd H x (.ins A.c_System wh.dx (putF "processes_made" (.int (S.p + 1)) (sysF S.n S.p S.o wh)))) x = some (.ins A.c_System wh.dx (sysF S.n (S.p + 1) S.o wh)) := upd_same
    intro q hq
    obtain ⟨nqx, hq0⟩ := upd_none hq
    have nqt : wh.t ≠ q := ne_of_none ht hq0
    have fn : ft (S.p + 1) = none := by
      have z := rel (S.p + 1)
      cases e : ft (S.p + 1) with
      | none => rfl
      | some v =>
        rw [e] at z
        cases e2 : S.tabs (S.p + 1) with
        | none => rw [e2] at z; exact z.elim
        | some T => rw [e2] at z; have := z.1; omega
    have tn : S.tabs (S.p + 1) = none := by
      have z := rel (S.p + 1)
      rw [fn] at z
      cases e2 : S.tabs (S.p + 1) with
      | none => rfl
      | some T => rw [e2] at z; exact z.elim
    have vn : valV kvt (Sum.inl (S.p + 1)) = none := (dit.val _).trans fn
    have len : kvt.length ≤ 1001 := dit.len fun i hi => by
      have z := rel i
      cases e : ft i with
      | none => rw [e] at hi; cases hi
      | some v =>
        rw [e] at z
        cases e2 : S.tabs i with
        | none => rw [e2] at z; exact z.elim
        | some T => rw [e2] at z; have := z.1; omega
    refine ⟨_, rfl, x, _, _, _, _, rfl, (by rw [upd_ne (Ne.symm nqx)]; exact hx'), cl, a7, rfl, _, rfl, x, _, _, _, _, rfl, (by rw [upd_ne (Ne.symm nqx)]; exact hx'), cl, a5, rfl, wh.t, _, rfl,
      DPut.k (k := Sum.inl (S.p + 1)) (kvs := kvt) (by rw [upd_ne nqt, upd_ne nt]; exact ht) (Nat.lt_of_le_of_lt len (by decide)), ?_⟩
    refine ⟨_, rfl, x, _, _, _, _, rfl, (by rw [upd_ne (Ne.symm nt), upd_ne (Ne.symm nqx)]; exact hx'), cl, a5, rfl, ?_⟩
    have tq := hS.fresh hq0
    have nu : ∀ {b : Addr} {g : Tag}, τ b = some g → b ≠ q := fun t e => by rw [e, tq] at t; cases t
    generalize hHf : upd (upd (upd H x (.ins A.c_System wh.dx (putF "processes_made" (.int (S.p + 1)) (sysF S.n S.p S.o wh)))) q (.dK [])) wh.t (.dK (putK kvt (Sum.inl (S.p + 1)) (.ref q))) = Hf
    have at_ : ∀ {b : Addr}, b ≠ x → b ≠ q → b ≠ wh.t → Hf b = H b := fun n1 n2 n3 => by rw [← hHf, upd_ne n3, upd_ne n2, upd_ne n1]
    have atT : ∀ {b : Addr} {g : Tag}, τ b = some g → g ≠ .sys → g ≠ .tabs → Hf b = H b := fun t n1 n2 => at_ (ne_tag t hS.tx n1) (nu t) (ne_tag t hS.tt n2)
    have hfx : Hf x = some (.ins A.c_System wh.dx (sysF S.n (S.p + 1) S.o wh)) := by rw [← hHf, upd_ne (Ne.symm nt), upd_ne (Ne.symm nqx)]; exact hx'
    have hft : Hf wh.t = some (.dK (putK kvt (Sum.inl (S.p + 1)) (.ref q))) := by rw [← hHf, upd_same]
    have hfq : Hf q = some (.dK []) := by rw [← hHf, upd_ne (Ne.symm nqt), upd_same]
    have im : ImmK H Hf := fun b o e i => by
      have t := hS.immN e i
      rw [at_ (fun z => by rw [z, hS.tx] at t; cases t) (ne_of_none e hq0) (fun z => by rw [z, hS.tt] at t; cases t)]
      exact e
    refine k Hf (setTag τ q (.tab (S.p + 1))) ⟨fun b o n e => ?_, fun b => ?_, fun b xs e => by rw [at_ (fun z => by rw [z, h1] at e; cases e) (ne_of_none e hq0) (fun z => by rw [z, ht] at e; cases e)]; exact e⟩ ?_
    · rw [at_ (fun z => by rw [z, hS.tx] at n; cases n) (ne_of_none e hq0) (fun z => by rw [z, hS.tt] at n; cases n)]
      exact e
    · by_cases z : b = q
      · rw [z]; exact .inr ⟨tq, hq0⟩
      · exact .inl (setTag_ne z)
    · show SyA A.c_System A.c_Page A.c_History Hf x wh (newS S) (setTag τ q (.tab (S.p + 1))) (cntS (newS S))
      have ec : cntS (newS S) = cntS S := by
        funext k i
        exact cntS_new bp.1 hl tn k i
      rw [ec]
      refine ⟨hfx, (setTag_ne (nu hS.tx)).trans hS.tx, (setTag_ne (nu hS.tt)).trans hS.tt, (setTag_ne (nu hS.to)).trans hS.to, (setTag_ne (nu hS.tg)).trans hS.tg, (setTag_ne (nu hS.tf)).trans hS.tf, ?_, ?_, (atT hS.tg (by simp) (by simp)).trans hS.ogs, ?_, ⟨by show 0 ≤ S.p + 1; omega, by show S.p + 1 ≤ 1000; omega⟩, hS.bo, fun b g hg => ?_, hS.his.keep (fun b g t c o e => by rw [atT t (by rcases c with c | c | c <;> rw [c] <;> simp) (by rcases c with c | c | c <;> rw [c] <;> simp)]; exact e) (fun b g t => (setTag_ne (nu t)).trans t)⟩
      · refine ⟨_, _, hft, dit.put _ _, fun i => ?_⟩
        by_cases ei : i = S.p + 1
        · subst ei
          simp only [if_pos]
          show TbO A.c_Page Hf _ (S.p + 1) (S.p + 1) (some (.ref q)) (if S.p + 1 = S.p + 1 then some (fun _ => none) else S.tabs (S.p + 1))
          rw [if_pos rfl]
          exact ⟨by omega, q, rfl, setTag_same, [], _, hfq, DI.nil, fun _ => True.intro⟩
        · simp only [if_neg ei]
          show TbO A.c_Page Hf _ (S.p + 1) i (ft i) (if i = S.p + 1 then some (fun _ => none) else S.tabs i)
          rw [if_neg ei]
          exact (rel i).keep im (fun d td _ => ⟨atT td (by simp) (by simp), setTag_ne (nu td)⟩) (by omega)
      · obtain ⟨kvs, f, g1, g2, g3⟩ := hS.obs
        exact ⟨kvs, f, (atT hS.to (by simp) (by simp)).trans g1, g2, fun i => (g3 i).keep (fun d td _ => ⟨atT td (by simp) (by simp), setTag_ne (nu td)⟩) (Int.le_refl _)⟩
      · obtain ⟨kvs, g1, g2⟩ := hS.fis
        exact ⟨kvs, (atT hS.tf (by simp) (by simp)).trans g1, g2⟩
      · by_cases z : b = q
        · rw [z]; exact .inr ⟨_, hfq, rfl⟩
        · rw [setTag_ne z] at hg
          rcases hS.own b g hg with y | ⟨o, y1, y2⟩
          · exact .inl y
          · by_cases z2 : b = wh.t
            · rw [z2]; exact .inr ⟨_, hft, rfl⟩
            · by_cases z3 : b = x
              · exact .inl z3
              · exact .inr ⟨o, (at_ z3 z z2).trans y1, y2⟩
def spnS (S : Sys) : Sys := { newS S with n := S.n + 1 }
def spSpawn (A : Adr) : Sp := fun vs H Q _ => ∃ (x : Addr) (wh : Wh) (S : Sys) (τ : Tm), vs = [.ref x] ∧ Sr A H x wh S τ ∧ S.p < 1000 ∧ ∀ H' τ', Go τ H τ' H' → Sr A H' x wh (spnS S) τ' → Q (.int (S.p + 1)) H'
theorem ok_spawn (G : Txt K mg A) : FnOk P w K mg base CX0 4 A.a_spawn A.fd_spawn p_spawn (spSpawn A) := by
  refine G.f_spawn.ok sc_spawn (fun vs H Q E h => ?_) (fun cdv A' outer s H vs Q E hr h => ?_)
  · obtain ⟨x, wh, S, τ, rfl, _⟩ := h
    rfl
  · obtain ⟨x, wh, S, τ, rfl, hS, hl, k⟩ := h
    refine ⟨_, (pss_cons (ps_set (i := 1) sc_spawn.nd rfl (Or.inl rfl) (pe_call (ok_new_process G) (hr.mono (by decide)) rfl G.g_new_process G.k_new_process G.bi_new_process .nil pass0 (pa_cons (pv 0) pa_nil)))
  (pss_cons (ps_expr (pe_call (ok_end_step G) (hr.mono (by decide)) rfl G.g_end_step G.k_end_step G.bi_end_step .nil pass0 (pa_cons (pv 0) pa_nil)))
  (pss_one (ps_ret (pv 1))))), ?_⟩
    refine ⟨_, rfl, x, wh, S, τ, rfl, hS, hl, fun H1 τ1 g1 S1 => ?_⟩
    exact ⟨_, rfl, x, wh, _, τ1, rfl, S1, fun H2 τ2 g2 S2 => ⟨_, rfl, k H2 τ2 (g1.trans g2) S2⟩⟩
end
end My
set_option Elab.async false
set_option linter.all false
set_option maxRecDepth 100000
set_option maxHeartbeats 4000000
namespace My
open PySem L2
local macro_rules | `(tactic| walk_at "ds") => `(tactic| dsimp only [tSeq, tIfS, tTest, tB, tAnd, tOr, tNot, tAndV, tOrV, tNotV, tIf, tIsN, tNotN, tOp, tUn, tChain, rI, rI0, rU, tC, tCB, tCons, tNil, tAsg, gName, gSub, tRet, tRetN, tNext, tDrop, tLst, tTup, rIxL, rIxT, rSetL, tVar, tFld, tCall, tDGet, tDIn, tDNotIn, tNever, L2.start, List.map, List.replicate, List.length, List.append, List.cons_append, List.nil_append, List.set, Nat.sub])
local macro_rules | `(tactic| walk_at "hp") => `(tactic| first | assumption | exact upd_same | (refine Eq.trans (upd_ne (by first | assumption | (apply Ne.symm; assumption))) ?_; walk_at "hp"))
local macro_rules | `(tactic| walk_at "sd") => `(tactic| first
  | (show (_ : Int) ≠ 0; omega)
  | (refine (show CDivN _ _ from ⟨?_, ?_⟩) <;> omega)
  | (show CPow _ _; refine ⟨by omega, by omega, by omega⟩)
  | (show CMul _ _; exact Or.inl ⟨by omega, by omega⟩)
  | (show CMul _ _; exact Or.inr ⟨by omega, by omega⟩))
local macro_rules | `(tactic| walk_at "st") => `(tactic| first
  | refine ⟨_, rfl, ?_⟩
  | refine ⟨_, _, rfl, rfl, (by walk_at "sd"), ?_⟩
  | refine ⟨_, _, rfl, rfl, ?_⟩
  | refine ⟨_, _, _, _, rfl, rfl, SqL.of (by walk_at "hp"), rfl, ?_⟩
  | refine ⟨_, _, _, _, rfl, rfl, (by walk_at "hp"), rfl, ?_⟩
  | refine .inl ⟨_, rfl, ?_⟩
  | refine ⟨_, _, _, _, _, rfl, (by walk_at "hp"), (by assumption), (by assumption), rfl, ?_⟩
  | refine ⟨_, _, rfl, .inl (SqL.of (by walk_at "hp")), ?_⟩)
local macro_rules | `(tactic| walk_at "go") => `(tactic| repeat (first | walk_at "st" | (walk_at "ds"; walk_at "st")))
local macro_rules | `(tactic| walk_at "ni") => `(tactic| dsimp (config := { proj := false }) only [tNil, List.cons_append, List.nil_append])
/-- a truth -/
def tTru (K : PySem.W.Frag) (t : TE) : TT := fun σ H Q => t σ H fun x H' => ∃ k, TruV K x H' k ∧ Q k H'
abbrev FLs : List Str := ["lock", "merge", "stay", "wipe"]
def flV (f : Fl) (n : Str) : Bool := if n = "merge" then f.m else if n = "stay" then f.s else if n = "wipe" then f.w else false
theorem FLs_fl (f : Fl) : FLs.filter (flV f) = flL f := by
  obtain ⟨a, b, c⟩ := f
  cases a <;> cases b <;> cases c <;> decide +kernel
theorem inV_fl (f : Fl) : ∀ n ∈ FLs, inV (.str n) ((flL f).map V.str) = flV f n := by
  obtain ⟨a, b, c⟩ := f
  cases a <;> cases b <;> cases c <;> decide +kernel
theorem flV_lock (f : Fl) : flV f "lock" = false := by
  unfold flV
  rw [if_neg (by decide +kernel), if_neg (by decide +kernel), if_neg (by decide +kernel)]
section
variable {P : Program} {w : World} {K : PySem.W.Frag} {mg : Str → Option Value} {base : Heap} {A : Adr}
theorem flags_tup {H : Hp} (G : Txt K mg A) : SqT K H A.o_FLAGS (FLs.map V.str) := by
  have h := G.r_FLAGS
  unfold flagsIn at h
  split at h
  · rename_i dd its n sl hl
    split at h
    · rename_i x t1 y t2 z t3 u t4 he
      simp only [Bool.and_eq_true, beq_iff_eq] at h
      obtain ⟨⟨⟨rfl, rfl⟩, rfl⟩, rfl⟩ := h
      refine .inr ⟨_, its, n, hl, rfl, rfl, ?_, ?_⟩
      · have : its.size = 4 := by rw [← Array.length_toList, he]; rfl
        rw [this]; decide
      · rw [he]
        exact .cons ⟨_, rfl⟩ (.cons ⟨_, rfl⟩ (.cons ⟨_, rfl⟩ (.cons ⟨_, rfl⟩ .nil)))
    · cases h
  · cases h
def spWith (A : Adr) (nw : V → V → V → V → V → V → V → List V) : Sp := fun vs H Q _ => ∃ (p : Addr) (r s so i f h v : V), vs = [.ref p, v] ∧ PgAt A.c_Page H p r s so i f h ∧
  ∀ y H', Same H H' → (∃ r' s' so' i' f' h', nw r s so i f h v = [r', s', so', i', f', h'] ∧ PgAt A.c_Page H' y r' s' so' i' f' h') → Q (.ref y) H'
theorem ok_with_flags (G : Txt K mg A) : FnOk P w K mg base CX0 3 A.a_with_flags A.fd_with_flags p_with_flags (spWith A fun r s so i f h v => [r, s, so, i, v, h]) := by
  refine G.f_with_flags.ok sc_with_flags (fun vs H Q E h => ?_) (fun cdv A' outer s H vs Q E hr h => ?_)
  · obtain ⟨p, r, s, so, i, f, h, v, rfl, _⟩ := h
    rfl
  · obtain ⟨p, r, s, so, i, f, h, v, rfl, ⟨dx, e⟩, k⟩ := h
    refine ⟨_, (pss_one (ps_ret (pe_make G.mk_Page (ok_Page_init G) (hr.mono (by decide)) rfl G.g_Page G.bi_Page_init .nil pass0 (pa_cons (pe_fld (pv 0) rfl) (pa_cons (pe_fld (pv 0) rfl) (pa_cons (pe_fld (pv 0) rfl) (pa_cons (pe_fld (pv 0) rfl) (pa_cons (pv 1) (pa_cons (pe_fld (pv 0) rfl) (pa_cons (pe_fld (pv 0) rfl) pa_nil)))))))))), ?_⟩
    refine ⟨_, rfl, p, _, _, _, _, rfl, e, G.cl_Page, G.n_Page_rights, rfl, _, rfl, p, _, _, _, _, rfl, e, G.cl_Page, G.n_Page_shared, rfl, _, rfl, p, _, _, _, _, rfl, e, G.cl_Page, G.n_Page_source, rfl,
      _, rfl, p, _, _, _, _, rfl, e, G.cl_Page, G.n_Page_index, rfl, _, rfl, _, rfl, p, _, _, _, _, rfl, e, G.cl_Page, G.n_Page_held, rfl, _, rfl, p, _, _, _, _, rfl, e, G.cl_Page, G.n_Page_stamp, rfl, ?_⟩
    intro y dy hy hdy ne
    exact ⟨y, dy, _, _, _, _, _, _, _, rfl, upd_same, fun H5 b5 pg => ⟨rfl, k y H5 (same_made hy hdy b5) ⟨_, _, _, _, _, _, rfl, pg⟩⟩⟩
theorem flags_flat (f : Fl) : ((flL f).map V.str).all flatV = true := by
  obtain ⟨a, b, c⟩ := f
  cases a <;> cases b <;> cases c <;> rfl
theorem flags_stay (f : Fl) : inV (.str "stay") ((flL f).map V.str) = f.s := by
  obtain ⟨a, b, c⟩ := f
  cases a <;> cases b <;> cases c <;> decide +kernel
end
end My
set_option Elab.async false
set_option linter.all false
set_option maxRecDepth 100000
set_option maxHeartbeats 4000000
namespace My
open PySem L2
local macro_rules | `(tactic| walk_at "ds") => `(tactic| dsimp only [tSeq, tIfS, tTest, tB, tAnd, tOr, tNot, tAndV, tOrV, tNotV, tIf, tIsN, tNotN, tOp, tUn, tChain, rI, rI0, rU, tC, tCB, tCons, tNil, tAsg, gName, gSub, tRet, tRetN, tNext, tDrop, tLst, tTup, rIxL, rIxT, rSetL, tVar, tFld, tCall, tDGet, tDIn, tDNotIn, tNever, L2.start, List.map, List.replicate, List.length, List.append, List.cons_append, List.nil_append, List.set, Nat.sub])
local macro_rules | `(tactic| walk_at "hp") => `(tactic| first | assumption | exact upd_same | (refine Eq.trans (upd_ne (by first | assumption | (apply Ne.symm; assumption))) ?_; walk_at "hp"))
local macro_rules | `(tactic| walk_at "sd") => `(tactic| first
  | (show (_ : Int) ≠ 0; omega)
  | (refine (show CDivN _ _ from ⟨?_, ?_⟩) <;> omega)
  | (show CPow _ _; refine ⟨by omega, by omega, by omega⟩)
  | (show CMul _ _; exact Or.inl ⟨by omega, by omega⟩)
  | (show CMul _ _; exact Or.inr ⟨by omega, by omega⟩))
local macro_rules | `(tactic| walk_at "st") => `(tactic| first
  | refine ⟨_, rfl, ?_⟩
  | refine ⟨_, _, rfl, rfl, (by walk_at "sd"), ?_⟩
  | refine ⟨_, _, rfl, rfl, ?_⟩
  | refine ⟨_, _, _, _, rfl, rfl, SqL.of (by walk_at "hp"), rfl, ?_⟩
  | refine ⟨_, _, _, _, rfl, rfl, (by walk_at "hp"), rfl, ?_⟩
  | refine .inl ⟨_, rfl, ?_⟩
  | refine ⟨_, _, _, _, _, rfl, (by walk_at "hp"), (by assumption), (by assumption), rfl, ?_⟩
  | refine ⟨_, _, rfl, .inl (SqL.of (by walk_at "hp")), ?_⟩)
local macro_rules | `(tactic| walk_at "go") => `(tactic| repeat (first | walk_at "st" | (walk_at "ds"; walk_at "st")))
local macro_rules | `(tactic| walk_at "ni") => `(tactic| dsimp (config := { proj := false }) only [tNil, List.cons_append, List.nil_append])
section
variable {P : Program} {w : World} {K : PySem.W.Frag} {mg : Str → Option Value} {base : Heap} {A : Adr}
theorem ok_with_held (G : Txt K mg A) : FnOk P w K mg base CX0 3 A.a_with_held A.fd_with_held p_with_held (spWith A fun r s so i f h v => [r, s, so, i, f, v]) := by
  refine G.f_with_held.ok sc_with_held (fun vs H Q E h => ?_) (fun cdv A' outer s H vs Q E hr h => ?_)
  · obtain ⟨p, r, s, so, i, f, h, v, rfl, _⟩ := h
    rfl
  · obtain ⟨p, r, s, so, i, f, h, v, rfl, ⟨dx, e⟩, k⟩ := h
    refine ⟨_, (pss_one (ps_ret (pe_make G.mk_Page (ok_Page_init G) (hr.mono (by decide)) rfl G.g_Page G.bi_Page_init .nil pass0 (pa_cons (pe_fld (pv 0) rfl) (pa_cons (pe_fld (pv 0) rfl) (pa_cons (pe_fld (pv 0) rfl) (pa_cons (pe_fld (pv 0) rfl) (pa_cons (pe_fld (pv 0) rfl) (pa_cons (pv 1) (pa_cons (pe_fld (pv 0) rfl) pa_nil)))))))))), ?_⟩
    refine ⟨_, rfl, p, _, _, _, _, rfl, e, G.cl_Page, G.n_Page_rights, rfl, _, rfl, p, _, _, _, _, rfl, e, G.cl_Page, G.n_Page_shared, rfl, _, rfl, p, _, _, _, _, rfl, e, G.cl_Page, G.n_Page_source, rfl,
      _, rfl, p, _, _, _, _, rfl, e, G.cl_Page, G.n_Page_index, rfl, _, rfl, p, _, _, _, _, rfl, e, G.cl_Page, G.n_Page_flags, rfl, _, rfl, _, rfl, p, _, _, _, _, rfl, e, G.cl_Page, G.n_Page_stamp, rfl, ?_⟩
    intro y dy hy hdy ne
    exact ⟨y, dy, _, _, _, _, _, _, _, rfl, upd_same, fun H5 b5 pg => ⟨rfl, k y H5 (same_made hy hdy b5) ⟨_, _, _, _, _, _, rfl, pg⟩⟩⟩
def spLock (A : Adr) : Sp := fun vs H Q _ => ∃ (p : Addr) (g : Pg), vs = [.ref p, .bl false] ∧ PgR A.c_Page H p g ∧ ∀ y H', Same H H' → PgR A.c_Page H' y g → Q (.ref y) H'
theorem ok_with_lock (G : Txt K mg A) : FnOk P w K mg base CX0 4 A.a_with_lock A.fd_with_lock p_with_lock (spLock A) := by
  refine G.f_with_lock.ok sc_with_lock (fun vs H Q E h => ?_) (fun cdv A' outer s H vs Q E hr h => ?_)
  · obtain ⟨p, g, rfl, _⟩ := h
    rfl
  · obtain ⟨p, g, rfl, hp, k⟩ := h
    obtain ⟨dx, sv, fa, e, hs, hf⟩ := hp
    refine ⟨_, (pss_cons (ps_set (i := 2) sc_with_lock.nd rfl (Or.inr rfl) (pe_dc (own := [("name", 3)]) (g := gName 3) (tt := tYes) (tv := tOp (rIn K false) (tVar 3) (tFld K (tVar 0) "flags")) rfl sc_with_lock.nd (pi_tup (pe_glob (v := .ref A.o_FLAGS) rfl G.g_FLAGS rfl)) (blkOk_by (own := [("name", 3)]) (N := n_with_lock) (sc := defScope s_with_lock) (by decide +kernel)) (fun _ _ _ _ _ => pg_name (i := 3) sc_with_lock.nd rfl (Or.inl rfl)) (fun _ _ _ _ _ => pts_nil) (fun _ _ _ _ _ => (pv 3)) (fun _ _ _ _ _ => (pe_cmpR (r := rIn K false) op_in_seq (pv 3) (pe_fld (pv 0) rfl) (by rfl)))))
  (pss_cons (ps_dput (hu_of hr) (pv 2) pe_str (pv 1) rfl)
  (pss_one (ps_ret (pe_call (ok_with_flags G) (hr.mono (by decide)) rfl G.g_with_flags G.k_with_flags G.bi_with_flags .nil pass0 (pa_cons (pv 0) (pa_cons (pe_callTy call_tuple_of (by rfl) G.b_tuple (by decide +kernel) (pa_cons (pe_lc (own := [("name", 3)]) (g := gName 3) (tt := (tTru K (tDGet (tVar 2) (tVar 3)))) rfl sc_with_lock.nd (pi_tup (pe_glob (v := .ref A.o_FLAGS) rfl G.g_FLAGS rfl)) (blkOk_by (own := [("name", 3)]) (N := n_with_lock) (sc := defScope s_with_lock) (by decide +kernel)) (fun _ _ _ _ _ => pg_name (i := 3) sc_with_lock.nd rfl (Or.inl rfl)) (fun _ _ _ _ _ => pts_one (pt_truth (pe_dget (hu_of hr) (pv 2) (pv 3) (fun _ _ => rfl)) (by intro _; rfl))) (fun _ _ _ _ _ => (pv 3))) pa_nil)) pa_nil))))))), ?_⟩
    refine ⟨_, rfl, ⟨_, flags_tup G⟩, fun D hD => ?_⟩
    refine dc_walk (walk_tup (K := K) (a := A.o_FLAGS) (xs := FLs.map V.str)) (fun j Z => Same H Z ∧ ∃ ls, Z D = some (.dK ls) ∧ ls.length ≤ j ∧ ∀ n ∈ FLs.take j, valV ls (Sum.inr n) = some (.bl (flV g.fl n)))
      ⟨Same.new hD, [], upd_same, Nat.zero_le _, fun n h => (nomatch h)⟩ (fun j Z _ _ => flags_tup G) ?_ ?_
    · rintro j y Z0 Z hj ⟨sz, ls, z1, z2, z3⟩ ⟨rfl, hy⟩
      obtain ⟨n, hn, rfl⟩ : ∃ n, FLs[j]? = some n ∧ V.str n = y := by
        rw [List.getElem?_map] at hy
        cases e : FLs[j]? with
        | none => rw [e] at hy; cases hy
        | some n => rw [e] at hy; exact ⟨n, rfl, Option.some.inj hy⟩
      have hm : n ∈ FLs := List.mem_of_getElem? hn
      refine ⟨rfl, ?_⟩
      dsimp only [tYes]
      have j4 : j < 4 := hj
      refine iteT ⟨_, rfl, _, rfl, _, rfl, p, _, _, _, _, rfl, sz _ _ e, G.cl_Page, G.n_Page_flags, rfl, fa, _, rfl, .inr (SqT.of (sz _ _ hf)), rfl, flags_flat _, ls, Sum.inr n, rfl, z1, Nat.lt_of_le_of_lt (by omega : ls.length ≤ 10000) (by decide), fun b o ho => ?_, _, upd_same, ?_, fun u hu => ?_⟩
      · rw [upd_ne (ne_of_none ho hD)]
        exact sz _ _ ho
      · have := length_putK ls (Sum.inr n : Key) (V.bl (inV (.str n) ((flL g.fl).map V.str)))
        show (putK ls (Sum.inr n : Key) (V.bl (inV (.str n) ((flL g.fl).map V.str)))).length ≤ j + 1
        omega
      · show valV (putK ls (Sum.inr n : Key) (V.bl (inV (.str n) ((flL g.fl).map V.str)))) (Sum.inr u) = _
        rw [valV_put, inV_fl g.fl n hm]
        rw [take_succ hn] at hu
        by_cases e : u = n
        · rw [if_pos (by rw [e]), e]
        · rw [if_neg fun z => e (Sum.inr.inj z)]
          rcases List.mem_append.mp hu with h | h
          · exact z3 u h
          · exact absurd (List.mem_singleton.mp h) e
    · rintro Z ⟨sz, ls, z1, z2, z3⟩
      have z4 : ∀ n ∈ FLs, valV ls (Sum.inr n) = some (.bl (flV g.fl n)) := fun n hn => z3 n (by rw [show FLs.take (FLs.map V.str).length = FLs from rfl]; exact hn)
      have l4 : ls.length ≤ 4 := z2
      refine ⟨_, rfl, _, rfl, D, _, rfl, DPut.k (k := Sum.inr "lock") z1 (Nat.lt_of_le_of_lt (by omega : ls.length ≤ 10000) (by decide)), ?_⟩
      have y3 : ∀ n ∈ FLs, valV (putK ls (Sum.inr "lock") (V.bl false)) (Sum.inr n) = some (.bl (flV g.fl n)) := fun n hn => by
        rw [valV_put]
        by_cases en : n = "lock"
        · rw [if_pos (by rw [en]), en, flV_lock]
        · rw [if_neg fun z => en (Sum.inr.inj z)]
          exact z4 n hn
      have sY : Same H (upd Z D (.dK (putK ls (Sum.inr "lock") (V.bl false)))) := fun b o e => by
        rw [upd_ne (ne_of_none e hD)]; exact sz _ _ e
      have y1' : (upd Z D (.dK (putK ls (Sum.inr "lock") (V.bl false)))) D = some (.dK (putK ls (Sum.inr "lock") (V.bl false))) := upd_same
      generalize upd Z D (.dK (putK ls (Sum.inr "lock") (V.bl false))) = Y' at *
      generalize putK ls (Sum.inr "lock") (V.bl false) = ls2 at *
      clear z1 z3 z4 sz
      refine ⟨_, rfl, _, rfl, ⟨_, flags_tup G⟩, fun R hR => ?_⟩
      refine lc_it (walk_tup (K := K) (a := A.o_FLAGS) (xs := FLs.map V.str)) (fun j X => Same Y' X ∧ X R = some (.lst (((FLs.take j).filter (flV g.fl)).map V.str)))
        ⟨Same.new hR, upd_same⟩ (fun j X _ _ => flags_tup G) ?_ ?_
      · rintro j y X0 X hj ⟨sx, x1⟩ ⟨rfl, hy⟩
        obtain ⟨n, hn, rfl⟩ : ∃ n, FLs[j]? = some n ∧ V.str n = y := by
          rw [List.getElem?_map] at hy
          cases e : FLs[j]? with
          | none => rw [e] at hy; cases hy
          | some n => rw [e] at hy; exact ⟨n, rfl, Option.some.inj hy⟩
        have hm : n ∈ FLs := List.mem_of_getElem? hn
        have tk := take_succ hn
        have cl := y3 n hm
        refine ⟨rfl, ?_⟩
        refine ⟨_, rfl, _, rfl, D, .bl _, rfl, (by rw [← cl]; exact DGet.k (k := Sum.inr n) (sx _ _ y1')), _, rfl, ?_⟩
        have e3 : (FLs.take (j + 1)).filter (flV g.fl) = (FLs.take j).filter (flV g.fl) ++ if flV g.fl n = true then [n] else [] := by
          rw [tk, List.filter_append]
          congr 1
          rw [List.filter_cons]
          split <;> rfl
        refine iteB (fun e => ?_) (fun e => ?_)
        · rw [if_pos e] at e3
          have lf := List.length_filter_le (flV g.fl) (FLs.take j)
          have lt := List.length_take_le j FLs
          have j4 : j < 4 := hj
          refine ⟨_, rfl, _, x1, ?_, fun b o ho => ?_, ?_⟩
          · rw [List.length_map]
            exact Nat.lt_of_le_of_lt (by omega : _ ≤ 10000) (by decide)
          · rw [upd_ne (ne_of_none ho hR)]
            exact sx _ _ ho
          · rw [upd_same, e3, List.map_append]
            rfl
        · rw [if_neg (by rw [e]; exact Bool.false_ne_true), List.append_nil] at e3
          exact ⟨sx, by rw [e3]; exact x1⟩
      · rintro X ⟨sx, x1⟩
        rw [show FLs.take (FLs.map V.str).length = FLs from rfl, FLs_fl] at x1
        refine ⟨R, _, rfl, .inl ⟨SqL.of x1, fun t ht => ?_⟩⟩
        have st := Same.new (o := .tup ((flL g.fl).map V.str)) ht
        have s1 := sY.trans (sx.trans st)
        refine ⟨p, _, _, _, _, _, _, _, rfl, ⟨dx, s1 _ _ e⟩, fun y2 H2 s2 pg2 => ?_⟩
        obtain ⟨r', s', so', i', f', h', el, dx2, pg2⟩ := pg2
        cases el
        exact k y2 H2 (s1.trans s2) ⟨dx2, sv, t, pg2, hs.keep (ImmK.same (s1.trans s2)), s2 _ _ upd_same⟩
def spChild (A : Adr) : Sp := fun vs H Q _ => ∃ (p : Addr) (g : Pg) (n : Int), vs = [.ref p, .int n] ∧ PgR A.c_Page H p g ∧ ∀ y H', Same H H' → PgR A.c_Page H' y g → Q (.ref y) H'
theorem ok_child_page (G : Txt K mg A) : FnOk P w K mg base CX0 5 A.a_child_page A.fd_child_page p_child_page (spChild A) := by
  refine G.f_child_page.ok sc_child_page (fun vs H Q E h => ?_) (fun cdv A' outer s H vs Q E hr h => ?_)
  · obtain ⟨p, g, n, rfl, _⟩ := h
    rfl
  · obtain ⟨p, g, n, rfl, hp, k⟩ := h
    refine ⟨_, (pss_cons (ps_set (i := 2) sc_child_page.nd rfl (Or.inl rfl) (pe_call (ok_with_lock G) (hr.mono (by decide)) rfl G.g_with_lock G.k_with_lock G.bi_with_lock .nil pass0 (pa_cons (pv 0) (pa_cons pe_bl pa_nil))))
  (pss_cons (ps_if (PW.pt (pw_and (pt_cmpR (r := rIn K false) op_in_seq pe_str (pe_fld (pv 0) rfl) (by rfl)) (pw_and1 (pt_not (pt_val (pe_fld (pv 0) rfl)))))) (pss_one (ps_ret (pe_call (ok_with_stamp G) (hr.mono (by decide)) rfl G.g_with_stamp G.k_with_stamp G.bi_with_stamp .nil pass0 (pa_cons (pe_call (ok_with_held G) (hr.mono (by decide)) rfl G.g_with_held G.k_with_held G.bi_with_held .nil pass0 (pa_cons (pv 2) (pa_cons pe_non pa_nil))) (pa_cons (pv 1) pa_nil))))) pss_nil)
  (pss_one (ps_ret (pv 2))))), ?_⟩
    refine ⟨_, rfl, p, g, rfl, hp, fun y1 H1 s1 hp1 => ?_⟩
    obtain ⟨dx, sv, fa, e, hs, hf⟩ := hp.keep (ImmK.same s1)
    obtain ⟨dx1, sv1, fa1, e1, hs1, hf1⟩ := id hp1
    dsimp only [gName, List.set]
    refine tIfS_s (b := inV (.str "wipe") ((flL g.fl).map V.str) && !g.sh) (fun Q' q' => ?_) (fun c Y sY => ?_) (fun c Y sY => ?_)
    · refine ⟨_, rfl, p, _, _, _, _, rfl, e, G.cl_Page, G.n_Page_flags, rfl, fa, _, rfl, .inr (SqT.of hf), rfl, flags_flat _, _, rfl, ?_⟩
      cases ew : inV (.str "wipe") ((flL g.fl).map V.str) with
      | false =>
        rw [ew] at q'
        exact iteF (q' H1 (Same.refl _))
      | true =>
        rw [ew] at q'
        refine iteT ⟨_, rfl, p, _, _, _, _, rfl, e, G.cl_Page, G.n_Page_shared, rfl, _, rfl, ?_⟩
        exact q' H1 (Same.refl _)
    · have hp2 := hp1.keep (ImmK.same sY)
      obtain ⟨dx2, sv2, fa2, e2, hs2, hf2⟩ := hp2
      refine ⟨_, rfl, y1, _, _, _, _, _, _, _, rfl, ⟨dx2, e2⟩, fun y3 H3 s3 pg3 => ?_⟩
      obtain ⟨r', s', so', i', f', h', el, dx3, e3⟩ := pg3
      cases el
      refine ⟨_, rfl, y3, _, _, _, _, _, _, n, rfl, ⟨dx3, e3⟩, fun y4 H4 s4 pg4 => ?_⟩
      obtain ⟨dx4, e4⟩ := pg4
      have s34 := s3.trans s4
      exact k y4 H4 (s1.trans (sY.trans s34)) ⟨dx4, sv2, fa2, e4, hs2.keep (ImmK.same s34), s34 _ _ hf2⟩
    · exact ⟨_, rfl, k y1 Y (s1.trans sY) (hp1.keep (ImmK.same sY))⟩
end
end My
set_option Elab.async false
set_option linter.all false
set_option maxRecDepth 100000
set_option maxHeartbeats 4000000
namespace My
open PySem L2
local macro_rules | `(tactic| walk_at "ds") => `(tactic| dsimp only [tSeq, tIfS, tTest, tB, tAnd, tOr, tNot, tAndV, tOrV, tNotV, tIf, tIsN, tNotN, tOp, tUn, tChain, rI, rI0, rU, tC, tCB, tCons, tNil, tAsg, gName, gSub, tRet, tRetN, tNext, tDrop, tLst, tTup, rIxL, rIxT, rSetL, tVar, tFld, tCall, tDGet, tDIn, tDNotIn, tNever, L2.start, List.map, List.replicate, List.length, List.append, List.cons_append, List.nil_append, List.set, Nat.sub])
local macro_rules | `(tactic| walk_at "hp") => `(tactic| first | assumption | exact upd_same | (refine Eq.trans (upd_ne (by first | assumption | (apply Ne.symm; assumption))) ?_; walk_at "hp"))
local macro_rules | `(tactic| walk_at "sd") => `(tactic| first
  | (show (_ : Int) ≠ 0; omega)
  | (refine (show CDivN _ _ from ⟨?_, ?_⟩) <;> omega)
  | (show CPow _ _; refine ⟨by omega, by omega, by omega⟩)
  | (show CMul _ _; exact Or.inl ⟨by omega, by omega⟩)
  | (show CMul _ _; exact Or.inr ⟨by omega, by omega⟩))
local macro_rules | `(tactic| walk_at "st") => `(tactic| first
  | refine ⟨_, rfl, ?_⟩
  | refine ⟨_, _, rfl, rfl, (by walk_at "sd"), ?_⟩
  | refine ⟨_, _, rfl, rfl, ?_⟩
  | refine ⟨_, _, _, _, rfl, rfl, SqL.of (by walk_at "hp"), rfl, ?_⟩
  | refine ⟨_, _, _, _, rfl, rfl, (by walk_at "hp"), rfl, ?_⟩
  | refine .inl ⟨_, rfl, ?_⟩
  | refine ⟨_, _, _, _, _, rfl, (by walk_at "hp"), (by assumption), (by assumption), rfl, ?_⟩
  | refine ⟨_, _, rfl, .inl (SqL.of (by walk_at "hp")), ?_⟩)
local macro_rules | `(tactic| walk_at "go") => `(tactic| repeat (first | walk_at "st" | (walk_at "ds"; walk_at "st")))
local macro_rules | `(tactic| walk_at "ni") => `(tactic| dsimp (config := { proj := false }) only [tNil, List.cons_append, List.nil_append])
section
variable {P : Program} {w : World} {K : PySem.W.Frag} {mg : Str → Option Value} {base : Heap} {A : Adr}
def spUnA (A : Adr) : Sp := fun vs H Q _ => ∃ (x : Addr) (wh : Wh) (S : Sys) (τ : Tm) (i : Int) (T : Tb), vs = [.ref x, .int i] ∧ Sr A H x wh S τ ∧ S.tabs i = some T ∧ ∀ H' τ', Go τ H τ' H' → Sr A H' x wh (S.setTab i (some fun _ => none)) τ' → Q .non H'
theorem ok_unmap_all (G : Txt K mg A) : FnOk P w K mg base CX0 4 A.a_unmap_all A.fd_unmap_all p_unmap_all (spUnA A) := by
  refine G.f_unmap_all.ok sc_unmap_all (fun vs H Q E h => ?_) (fun cdv A' outer s H vs Q E hr h => ?_)
  · obtain ⟨x, wh, S, τ, i, T, rfl, _⟩ := h
    rfl
  · obtain ⟨x, wh, S, τ, i, T, rfl, hS, eT, k⟩ := h
    obtain ⟨cl, a3, a4, a5, a6, a7, a8, a9, a10⟩ := G.sysN
    refine ⟨_, (pss_one (ps_expr (pe_call (ok_replace_pages G) (hr.mono (by decide)) rfl G.g_replace_pages G.k_replace_pages G.bi_replace_pages .nil pass0 (pa_cons (pv 0) (pa_cons (pv 1) (pa_cons (pe_lock (pe_dc (own := [("number", 2)]) (g := gName 2) (tt := tYes) rfl sc_unmap_all.nd (pi_keys (pe_dget (hu_of hr) (pe_fld (pv 0) rfl) (pv 1) (fun _ _ => rfl))) (blkOk_by (own := [("number", 2)]) (N := n_unmap_all) (sc := defScope s_unmap_all) (by decide +kernel)) (fun _ _ _ _ _ => pg_name (i := 2) sc_unmap_all.nd rfl (Or.inl rfl)) (fun _ _ _ _ _ => pts_nil) (fun _ _ _ _ _ => (pv 2)) (fun _ _ _ _ _ => pe_non))) pa_nil)))))), ?_⟩
    obtain ⟨d, hd⟩ := hS.living eT
    obtain ⟨bi, td, tkvs, tf, hdk, tdi, tpg⟩ := hS.tabE hd eT
    obtain ⟨kvt, ht, hvt⟩ := id hd
    have dom : ∀ i, (tf i).isSome = true → 0 ≤ i ∧ i < (512 : Nat) := fun i z => by
      have := (tpg i).low z
      omega
    have lt := tdi.len dom
    refine ⟨_, rfl, _, rfl, d, _, hdk, trivial, fun od => ?_⟩
    have nx : x ≠ d := ne_tag hS.tx td (by simp)
    have nt : wh.t ≠ d := ne_tag hS.tt td (by simp)
    refine ⟨_, rfl, x, _, _, _, _, rfl, (by rw [upd_ne nx]; exact hS.hx), cl, a7, rfl, _, rfl, wh.t, _, rfl, (by rw [← hvt]; exact DGet.k (k := Sum.inl i) (by rw [upd_ne nt]; exact ht)), d, od, rfl, .inl ⟨tkvs, upd_same, fun D hD => ?_⟩⟩
    obtain ⟨nDd, hD0⟩ := upd_none hD
    refine dc_walk walk_keys (fun j Z => Z d = some (.frz od (.dK tkvs)) ∧ (∀ b o, b ≠ d → H b = some o → Z b = some o) ∧ ∃ ls, Z D = some (.dK ls) ∧ LsR A.c_Page H ls (keyCh (fun _ => some none) ((intsOf tkvs).take j)))
      ⟨by rw [upd_ne (Ne.symm nDd), upd_same], fun b o n e => by rw [upd_ne (ne_of_none e hD0), upd_ne n]; exact e, [], upd_same, True.intro⟩ (fun j Z _ z => z.1) ?_ ?_
    · rintro j y Z0 Z hj ⟨zd, sz, ls, z1, z2⟩ ⟨rfl, key, v, hkv, rfl⟩
      obtain ⟨n, en, _⟩ := tdi.of_mem (List.mem_of_getElem? hkv)
      simp only at en
      subst en
      have hn : (intsOf tkvs)[j]? = some n := by
        unfold intsOf
        rw [List.getElem?_map, hkv]
        rfl
      have tk := take_succ hn
      refine ⟨rfl, ?_⟩
      dsimp only [tYes]
      have vn : valV ls (Sum.inl n) = none := z2.val_none fun q hq e => by
        have m := (keyCh_mem hq).1
        rw [e] at m
        have nd := tdi.nodI
        rw [← List.take_append_drop j (intsOf tkvs)] at nd
        refine (List.nodup_append.mp nd).2.2 n m n ?_ rfl
        obtain ⟨h1, e1⟩ := List.getElem?_eq_some_iff.mp hn
        rw [List.drop_eq_getElem_cons h1, e1]
        exact List.mem_cons_self
      have ll := z2.length
      have kl := keyCh_length (fun _ => some none) ((intsOf tkvs).take j)
      have tl := List.length_take_le j (intsOf tkvs)
      refine iteT ⟨_, rfl, ls, Sum.inl n, rfl, z1, Nat.lt_of_le_of_lt (by omega : ls.length ≤ 10000) (by decide), ?_, fun b o n e => ?_, _, upd_same, ?_⟩
      · rw [upd_ne (Ne.symm nDd)]
        exact zd
      · rw [upd_ne (ne_of_none e hD0)]
        exact sz _ _ n e
      · rw [putK_new _ vn, tk, keyCh_snoc]
        exact LsR.snoc (kv := (Sum.inl n, V.non)) (q := (n, none)) rfl rfl z2
    · rintro Z ⟨zd, sz, ls, z1, z2⟩
      have il : (intsOf tkvs).take tkvs.length = intsOf tkvs := by rw [← intsOf_length]; exact List.take_length
      rw [il] at z2
      refine ⟨zd, ?_⟩
      have s1 : Same H (upd Z d (.dK tkvs)) := fun b o e => by
        by_cases eb : b = d
        · rw [eb, upd_same, ← hdk, ← eb, e]
        · rw [upd_ne eb]
          exact sz _ _ eb e
      have tD := hS.fresh hD0
      refine ⟨x, wh, S, τ, i, D, ls, _, T, rfl, hS.same s1, eT, by rw [upd_ne nDd]; exact z1, tD, z2.keep (ImmK.same s1), keyCh_nod tdi.nodI, fun q hq => ?_, fun q hq g eg => ?_, fun H2 τ2 go2 S2 => k H2 τ2 ((Go.same s1).trans go2) ?_⟩
      · have := dom q.1 ((tdi.memI q.1).mp (keyCh_mem hq).1)
        omega
      · have := (keyCh_mem hq).2
        rw [eg] at this
        cases this
      · have e : appT T (keyCh (fun _ => some none) (intsOf tkvs)) = fun _ => none := by
          funext n
          rw [appT_key tdi.nodI]
          by_cases hm : n ∈ intsOf tkvs
          · rw [if_pos hm]; rfl
          · rw [if_neg hm]
            have z := tpg n
            cases ev : tf n with
            | none =>
              rw [ev] at z
              cases eT2 : T n with
              | none => rfl
              | some g => rw [eT2] at z; exact z.elim
            | some v => exact absurd ((tdi.memI n).mpr (by rw [ev]; rfl)) hm
        rw [e] at S2
        exact S2
def spEndP (A : Adr) : Sp := fun vs H Q _ => ∃ (x : Addr) (wh : Wh) (S : Sys) (τ : Tm) (i : Int) (T : Tb), vs = [.ref x, .int i] ∧ Sr A H x wh S τ ∧ S.tabs i = some T ∧ ∀ H' τ', Go τ H τ' H' → Sr A H' x wh (S.setTab i none) τ' → Q .non H'
theorem ok_end_process (G : Txt K mg A) : FnOk P w K mg base CX0 5 A.a_end_process A.fd_end_process p_end_process (spEndP A) := by
  refine G.f_end_process.ok sc_end_process (fun vs H Q E h => ?_) (fun cdv A' outer s H vs Q E hr h => ?_)
  · obtain ⟨x, wh, S, τ, i, T, rfl, _⟩ := h
    rfl
  · obtain ⟨x, wh, S, τ, i, T, rfl, hS, eT, k⟩ := h
    obtain ⟨cl, a3, a4, a5, a6, a7, a8, a9, a10⟩ := G.sysN
    refine ⟨_, (pss_cons (ps_expr (pe_call (ok_unmap_all G) (hr.mono (by decide)) rfl G.g_unmap_all G.k_unmap_all G.bi_unmap_all .nil pass0 (pa_cons (pv 0) (pa_cons (pv 1) pa_nil))))
  (pss_one (ps_ddel (pe_fld (pv 0) rfl) (pv 1)))), ?_⟩
    refine ⟨_, rfl, _, rfl, x, wh, S, τ, i, T, rfl, hS, eT, fun H1 τ1 go1 S1 => ?_⟩
    have eT1 := setTab_at S i (some fun _ => none)
    obtain ⟨d, hd⟩ := S1.living eT1
    obtain ⟨bi, _⟩ := S1.tabE hd eT1
    obtain ⟨kvt, ht, hvt⟩ := hd
    have bp := S1.bp
    refine ⟨_, rfl, x, _, _, _, _, rfl, S1.hx, cl, a7, rfl, _, rfl, wh.t, kvt, Sum.inl i, rfl, ht, rfl, by rw [hvt]; rfl, k _ τ1 (go1.trans (Go.upd (by rw [S1.tt]; simp) ht)) ?_⟩
    have r := S1.dropTab (i := i) ht
    rw [setTab_two] at r
    refine r.cong fun a b => ?_
    have c := cntS_drop (S := S.setTab i (some fun _ => none)) (i := i) (by omega) (by omega) eT1 a b
    rw [setTab_two] at c
    exact c.symm
def spLeave (A : Adr) : Sp := fun vs H Q E => ∃ (x : Addr) (wh : Wh) (S : Sys) (τ : Tm) (who : V), vs = [.ref x, who] ∧ Sr A H x wh S τ ∧ AnyV H who ∧
  ((∀ i, who = .int i → S.tabs i = none) → Rz A.c_NoProcess "process" who H E) ∧ ∀ i T, who = .int i → S.tabs i = some T → ∀ H' τ', Go τ H τ' H' → Sr A H' x wh (endS S i) τ' → Q .non H'
theorem ok_leave (G : Txt K mg A) : FnOk P w K mg base (L2.CX P w) 6 A.a_leave A.fd_leave p_leave (spLeave A) := by
  refine G.f_leave.okX sc_leave (fun vs H Q E h => ?_) (fun cdv A' outer s H vs Q E hr h => ?_)
  · obtain ⟨x, wh, S, τ, who, rfl, _⟩ := h
    rfl
  · obtain ⟨x, wh, S, τ, who, rfl, hS, hv, k1, k2⟩ := h
    refine ⟨_, (pss_cons (ps_expr (pe_call (ok_table_of G) (hr.mono (by decide)) rfl G.g_table_of G.k_table_of G.bi_table_of .nil (passes_call (takes_of rfl rfl rfl rfl) (fun _ _ _ _ z => z)) (pa_cons (pv 0) (pa_cons (pv 1) pa_nil))))
  (pss_cons (ps_expr (pe_call (ok_end_process G) (hr.mono (by decide)) rfl G.g_end_process G.k_end_process G.bi_end_process .nil pass0 (pa_cons (pv 0) (pa_cons (pv 1) pa_nil))))
  (pss_one (ps_expr (pe_call (ok_end_step G) (hr.mono (by decide)) rfl G.g_end_step G.k_end_step G.bi_end_step .nil pass0 (pa_cons (pv 0) pa_nil)))))), ?_⟩
    refine ⟨_, rfl, _, rfl, x, wh, S, τ, _, who, rfl, hS, hv, fun i d e hd => ?_, k1⟩
    subst e
    obtain ⟨T, eT, _⟩ := hS.tab hd
    exact ⟨_, rfl, _, rfl, x, wh, S, τ, i, T, rfl, hS, eT, fun H1 τ1 go1 S1 => ⟨_, rfl, x, wh, _, τ1, rfl, S1, fun H2 τ2 go2 S2 => k2 i T rfl eT H2 τ2 (go1.trans go2) S2⟩⟩
def spFresh (A : Adr) : Sp := fun vs H Q E => ∃ (x : Addr) (wh : Wh) (S : Sys) (τ : Tm) (who : V), vs = [.ref x, who] ∧ Sr A H x wh S τ ∧ AnyV H who ∧
  ((∀ i, who = .int i → S.tabs i = none) → Rz A.c_NoProcess "process" who H E) ∧ ∀ i T, who = .int i → S.tabs i = some T → ∀ H' τ', Go τ H τ' H' → Sr A H' x wh (freshS S i) τ' → Q .non H'
theorem ok_fresh (G : Txt K mg A) : FnOk P w K mg base (L2.CX P w) 6 A.a_fresh A.fd_fresh p_fresh (spFresh A) := by
  refine G.f_fresh.okX sc_fresh (fun vs H Q E h => ?_) (fun cdv A' outer s H vs Q E hr h => ?_)
  · obtain ⟨x, wh, S, τ, who, rfl, _⟩ := h
    rfl
  · obtain ⟨x, wh, S, τ, who, rfl, hS, hv, k1, k2⟩ := h
    refine ⟨_, (pss_cons (ps_expr (pe_call (ok_table_of G) (hr.mono (by decide)) rfl G.g_table_of G.k_table_of G.bi_table_of .nil (passes_call (takes_of rfl rfl rfl rfl) (fun _ _ _ _ z => z)) (pa_cons (pv 0) (pa_cons (pv 1) pa_nil))))
  (pss_cons (ps_expr (pe_call (ok_unmap_all G) (hr.mono (by decide)) rfl G.g_unmap_all G.k_unmap_all G.bi_unmap_all .nil pass0 (pa_cons (pv 0) (pa_cons (pv 1) pa_nil))))
  (pss_one (ps_expr (pe_call (ok_end_step G) (hr.mono (by decide)) rfl G.g_end_step G.k_end_step G.bi_end_step .nil pass0 (pa_cons (pv 0) pa_nil)))))), ?_⟩
    refine ⟨_, rfl, _, rfl, x, wh, S, τ, _, who, rfl, hS, hv, fun i d e hd => ?_, k1⟩
    subst e
    obtain ⟨T, eT, _⟩ := hS.tab hd
    exact ⟨_, rfl, _, rfl, x, wh, S, τ, i, T, rfl, hS, eT, fun H1 τ1 go1 S1 => ⟨_, rfl, x, wh, _, τ1, rfl, S1, fun H2 τ2 go2 S2 => k2 i T rfl eT H2 τ2 (go1.trans go2) S2⟩⟩
end
end My
set_option Elab.async false
set_option linter.all false
set_option maxRecDepth 100000
set_option maxHeartbeats 4000000
namespace My
open PySem L2
local macro_rules | `(tactic| walk_at "ds") => `(tactic| dsimp only [tSeq, tIfS, tTest, tB, tAnd, tOr, tNot, tAndV, tOrV, tNotV, tIf, tIsN, tNotN, tOp, tUn, tChain, rI, rI0, rU, tC, tCB, tCons, tNil, tAsg, gName, gSub, tRet, tRetN, tNext, tDrop, tLst, tTup, rIxL, rIxT, rSetL, tVar, tFld, tCall, tDGet, tDIn, tDNotIn, tNever, L2.start, List.map, List.replicate, List.length, List.append, List.cons_append, List.nil_append, List.set, Nat.sub])
local macro_rules | `(tactic| walk_at "hp") => `(tactic| first | assumption | exact upd_same | (refine Eq.trans (upd_ne (by first | assumption | (apply Ne.symm; assumption))) ?_; walk_at "hp"))
local macro_rules | `(tactic| walk_at "sd") => `(tactic| first
  | (show (_ : Int) ≠ 0; omega)
  | (refine (show CDivN _ _ from ⟨?_, ?_⟩) <;> omega)
  | (show CPow _ _; refine ⟨by omega, by omega, by omega⟩)
  | (show CMul _ _; exact Or.inl ⟨by omega, by omega⟩)
  | (show CMul _ _; exact Or.inr ⟨by omega, by omega⟩))
local macro_rules | `(tactic| walk_at "st") => `(tactic| first
  | refine ⟨_, rfl, ?_⟩
  | refine ⟨_, _, rfl, rfl, (by walk_at "sd"), ?_⟩
  | refine ⟨_, _, rfl, rfl, ?_⟩
  | refine ⟨_, _, _, _, rfl, rfl, SqL.of (by walk_at "hp"), rfl, ?_⟩
  | refine ⟨_, _, _, _, rfl, rfl, (by walk_at "hp"), rfl, ?_⟩
  | refine .inl ⟨_, rfl, ?_⟩
  | refine ⟨_, _, _, _, _, rfl, (by walk_at "hp"), (by assumption), (by assumption), rfl, ?_⟩
  | refine ⟨_, _, rfl, .inl (SqL.of (by walk_at "hp")), ?_⟩)
local macro_rules | `(tactic| walk_at "go") => `(tactic| repeat (first | walk_at "st" | (walk_at "ds"; walk_at "st")))
local macro_rules | `(tactic| walk_at "ni") => `(tactic| dsimp (config := { proj := false }) only [tNil, List.cons_append, List.nil_append])
section
variable {P : Program} {w : World} {K : PySem.W.Frag} {mg : Str → Option Value} {base : Heap} {A : Adr}
def forkF (T : Tb) : Int → Option (Option Pg) := fun n => (T n).bind fun g => if g.fl.s = true then none else some (some g)
def spPoc (A : Adr) : Sp := fun vs H Q _ => ∃ (x : Addr) (wh : Wh) (S : Sys) (τ : Tm) (i : Int) (d : Addr) (T : Tb), vs = [.ref x, .ref d] ∧ Sr A H x wh S τ ∧ TabOf H wh i d ∧ S.tabs i = some T ∧
  ∀ H1 D ls tkvs tf, Same H H1 → H D = none → H1 D = some (.dK ls) → H d = some (.dK tkvs) → DI tkvs tf → (∀ i, PgO A.c_Page H i (tf i) (T i)) → LsR A.c_Page H1 ls (keyCh (forkF T) (intsOf tkvs)) → Q (.ref D) H1
theorem ok_pages_of_child (G : Txt K mg A) : FnOk P w K mg base CX0 6 A.a_pages_of_child A.fd_pages_of_child p_pages_of_child (spPoc A) := by
  refine G.f_pages_of_child.ok sc_pages_of_child (fun vs H Q E h => ?_) (fun cdv A' outer s H vs Q E hr h => ?_)
  · obtain ⟨x, wh, S, τ, i, d, T, rfl, _⟩ := h
    rfl
  · obtain ⟨x, wh, S, τ, i, d, T, rfl, hS, hd, eT, k⟩ := h
    obtain ⟨bi, td, tkvs, tf, hdk, tdi, tpg⟩ := hS.tabE hd eT
    refine ⟨_, (pss_cons (ps_set (i := 2) sc_pages_of_child.nd rfl (Or.inr rfl) (pe_call (ok_this_step G) (hr.mono (by decide)) rfl G.g_this_step G.k_this_step G.bi_this_step .nil pass0 (pa_cons (pv 0) pa_nil)))
  (pss_one (ps_ret (pe_lock (pe_dc (own := [("number", 3), ("page", 4)]) (g := gTup K 2 (gCons (gName 3) (gCons (gName 4) (gNil)))) (tt := tTest (tOp (rIn K true) (tC (V.str "stay")) (tFld K (tVar 4) "flags"))) rfl sc_pages_of_child.nd (pi_items (pv 1)) (blkOk_by (own := [("number", 3), ("page", 4)]) (N := n_pages_of_child) (sc := defScope s_pages_of_child) (by decide +kernel)) (fun _ _ _ _ _ => pg_tup rfl (pgs_cons (pg_name (i := 3) sc_pages_of_child.nd rfl (Or.inl rfl)) (pgs_cons (pg_name (i := 4) sc_pages_of_child.nd rfl (Or.inl rfl)) pgs_nil))) (fun _ _ _ _ _ => pts_one (pt_cmpR (r := rIn K true) op_notIn_seq pe_str (pe_fld (pv 4) rfl) (by rfl))) (fun _ _ _ _ _ => (pv 3)) (fun _ _ _ _ _ => (pe_call (ok_child_page G) (hr.mono (by decide)) rfl G.g_child_page G.k_child_page G.bi_child_page .nil pass0 (pa_cons (pv 4) (pa_cons (pv 2) pa_nil))))))))), ?_⟩
    refine ⟨_, rfl, x, wh, S, τ, _, rfl, hS, ?_⟩
    have dom : ∀ i, (tf i).isSome = true → 0 ≤ i ∧ i < (512 : Nat) := fun i z => by
      have := (tpg i).low z
      omega
    have lt := tdi.len dom
    -- the pages
    refine ⟨d, _, hdk, trivial, fun od => ?_⟩
    refine ⟨_, rfl, d, od, tkvs, rfl, upd_same, fun D hD => ?_⟩
    obtain ⟨nDd, hD0⟩ := upd_none hD
    refine dc_walk walk_items (fun j Z => Z d = some (.frz od (.dK tkvs)) ∧ (∀ b o, b ≠ d → H b = some o → Z b = some o) ∧ ∃ ls, Z D = some (.dK ls) ∧ LsR A.c_Page Z ls (keyCh (forkF T) ((intsOf tkvs).take j)))
      ⟨by rw [upd_ne (Ne.symm nDd), upd_same], fun b o n e => by rw [upd_ne (ne_of_none e hD0), upd_ne n]; exact e, [], upd_same, True.intro⟩ (fun j Z _ z => z.1) ?_ ?_
    · rintro j y Z1 Z2 hj ⟨zd, sz, ls, z1, z2⟩ ⟨T0, k0, v0, rfl, hT0, rfl, hk0, hv0⟩
      obtain ⟨⟨key, v⟩, hkv⟩ : ∃ q, tkvs[j]? = some q := ⟨tkvs[j], List.getElem?_eq_getElem hj⟩
      have hk1 : some (kV key) = some k0 := by have h := hk0; simp only [hkv] at h; exact h
      have hv1 : some v = some v0 := by have h := hv0; simp only [hkv] at h; exact h
      have hk2 := Option.some.inj hk1
      have hv2 := Option.some.inj hv1
      subst hk2 hv2
      obtain ⟨n, en, ef⟩ := tdi.of_mem (List.mem_of_getElem? hkv)
      simp only at en ef
      subst en
      have hn : (intsOf tkvs)[j]? = some n := by
        unfold intsOf
        rw [List.getElem?_map, hkv]
        rfl
      have tk := take_succ hn
      have rel := tpg n
      rw [ef] at rel
      obtain ⟨g, eg⟩ : ∃ g, T n = some g := by
        cases eg : T n with
        | none => rw [eg] at rel; exact rel.elim
        | some g => exact ⟨g, rfl⟩
      rw [eg] at rel
      obtain ⟨nb, wf, p', rfl, hp'⟩ := rel
      have s0 := Same.new (o := .tup [kV (Sum.inl n), .ref p']) hT0
      have im1 : ImmK H Z1 := fun b o e i => sz b o (fun z => by rw [z, hdk] at e; cases e; cases i) e
      have hp1 := (hp'.keep im1).keep (ImmK.same s0)
      obtain ⟨dx, sv, fa, e1, e2, e3⟩ := id hp1
      refine ⟨T0, _, rfl, SqT.of upd_same, rfl, _, _, rfl, _, _, rfl, rfl, rfl, ?_⟩
      refine ⟨_, rfl, p', _, _, _, _, rfl, e1, G.cl_Page, G.n_Page_flags, rfl, fa, _, rfl, .inr (SqT.of e3), rfl, flags_flat _, _, rfl, ?_⟩
      rw [if_pos rfl, flags_stay]
      have hT1 : ∀ {b : Addr} {o : HO}, Z1 b = some o → (upd Z1 T0 (.tup [kV (Sum.inl n), .ref p'])) b = some o := fun e => s0 _ _ e
      generalize hZ3 : upd Z1 T0 (.tup [kV (Sum.inl n), .ref p']) = Z3 at *
      cases est : g.fl.s with
      | true =>
        refine iteF ⟨s0 _ _ zd, fun b o n e => s0 _ _ (sz _ _ n e), ls, s0 _ _ z1, ?_⟩
        have ff : forkF T n = none := by unfold forkF; rw [eg]; show (if g.fl.s = true then none else some (some g)) = none; rw [if_pos est]
        rw [tk, keyCh_snoc, ff, List.append_nil]
        exact z2.keep (ImmK.same s0)
      | false =>
        have ff : forkF T n = some (some g) := by unfold forkF; rw [eg]; show (if g.fl.s = true then none else some (some g)) = _; rw [if_neg (by rw [est]; exact Bool.false_ne_true)]
        refine iteT ⟨_, rfl, _, rfl, _, rfl, p', g, S.n + 1, rfl, hp1, fun y2 H4 s4 hy2 => ?_⟩
        have vn : valV ls (Sum.inl n) = none := z2.val_none fun q hq e => by
          have m := (keyCh_mem hq).1
          rw [e] at m
          have nd := tdi.nodI
          rw [← List.take_append_drop j (intsOf tkvs)] at nd
          refine (List.nodup_append.mp nd).2.2 n m n ?_ rfl
          obtain ⟨h1, e1⟩ := List.getElem?_eq_some_iff.mp hn
          rw [List.drop_eq_getElem_cons h1, e1]
          exact List.mem_cons_self
        have ll := z2.length
        have kl := keyCh_length (forkF T) ((intsOf tkvs).take j)
        have tl := List.length_take_le j (intsOf tkvs)
        have s5 := s0.trans s4
        refine ⟨ls, Sum.inl n, rfl, s5 _ _ z1, Nat.lt_of_le_of_lt (by omega : ls.length ≤ 10000) (by decide), ?_, fun b o n e => ?_, _, upd_same, ?_⟩
        · rw [upd_ne (Ne.symm nDd)]
          exact s5 _ _ zd
        · rw [upd_ne (ne_of_none e hD0)]
          exact s5 _ _ (sz _ _ n e)
        · rw [putK_new _ vn, tk, keyCh_snoc, ff]
          have im := ImmK.upd (u := .dK (ls ++ [(Sum.inl n, .ref y2)])) (s5 _ _ z1) rfl
          exact LsR.snoc (kv := (Sum.inl n, V.ref y2)) (q := (n, some g)) rfl (show PgV _ _ (.ref y2) (some g) from ⟨wf, y2, rfl, hy2.keep im⟩) ((z2.keep (ImmK.same s5)).keep im)
    · rintro Z ⟨zd, sz, ls, z1, z2⟩
      have il : (intsOf tkvs).take tkvs.length = intsOf tkvs := by rw [← intsOf_length]; exact List.take_length
      rw [il] at z2
      refine ⟨zd, ?_⟩
      have s1 : Same H (upd Z d (.dK tkvs)) := fun b o e => by
        by_cases eb : b = d
        · rw [eb, upd_same, ← hdk, ← eb, e]
        · rw [upd_ne eb]
          exact sz _ _ eb e
      have imd : ImmK Z (upd Z d (.dK tkvs)) := ImmK.upd zd rfl
      exact k _ D ls tkvs tf s1 hD0 (by rw [upd_ne nDd]; exact z1) hdk tdi tpg (z2.keep imd)
def spFork (A : Adr) : Sp := fun vs H Q E => ∃ (x : Addr) (wh : Wh) (S : Sys) (τ : Tm) (who : V), vs = [.ref x, who] ∧ Sr A H x wh S τ ∧ AnyV H who ∧ S.p < 1000 ∧
  ((∀ i, who = .int i → S.tabs i = none) → Rz A.c_NoProcess "process" who H E) ∧ ∀ i T, who = .int i → S.tabs i = some T → ∀ H' τ', Go τ H τ' H' → Sr A H' x wh (forkS S T) τ' → Q (.int (S.p + 1)) H'
theorem ok_fork (G : Txt K mg A) : FnOk P w K mg base (L2.CX P w) 7 A.a_fork A.fd_fork p_fork (spFork A) := by
  refine G.f_fork.okX sc_fork (fun vs H Q E h => ?_) (fun cdv A' outer s H vs Q E hr h => ?_)
  · obtain ⟨x, wh, S, τ, who, rfl, _⟩ := h
    rfl
  · obtain ⟨x, wh, S, τ, who, rfl, hS, hv, hl, k1, k2⟩ := h
    obtain ⟨cl, a3, a4, a5, a6, a7, a8, a9, a10⟩ := G.sysN
    refine ⟨_, (pss_cons (ps_set (i := 2) sc_fork.nd rfl (Or.inl rfl) (pe_call (ok_pages_of_child G) (hr.mono (by decide)) rfl G.g_pages_of_child G.k_pages_of_child G.bi_pages_of_child .nil pass0 (pa_cons (pv 0) (pa_cons (pe_call (ok_table_of G) (hr.mono (by decide)) rfl G.g_table_of G.k_table_of G.bi_table_of .nil (passes_call (takes_of rfl rfl rfl rfl) (fun _ _ _ _ z => z)) (pa_cons (pv 0) (pa_cons (pv 1) pa_nil))) pa_nil))))
  (pss_cons (ps_expr (pe_call (ok_require_charge G) (hr.mono (by decide)) rfl G.g_require_charge G.k_require_charge G.bi_require_charge .nil (passes_call (takes_of rfl rfl rfl rfl) (fun _ _ _ _ z => z)) (pa_cons (pv 0) (pa_cons (pe_disp (pps_cons (pe_op op_add (pe_fld (pv 0) rfl) pe_int) (pv 2) pps_nil) (by rfl) (by rfl) (fun z => by cases z) (by decide)) (pa_cons pe_dnewK pa_nil)))))
  (pss_cons (ps_set (i := 3) sc_fork.nd rfl (Or.inl rfl) (pe_call (ok_new_process G) (hr.mono (by decide)) rfl G.g_new_process G.k_new_process G.bi_new_process .nil pass0 (pa_cons (pv 0) pa_nil)))
  (pss_cons (ps_expr (pe_call (ok_replace_pages G) (hr.mono (by decide)) rfl G.g_replace_pages G.k_replace_pages G.bi_replace_pages .nil pass0 (pa_cons (pv 0) (pa_cons (pv 3) (pa_cons (pv 2) pa_nil)))))
  (pss_cons (ps_expr (pe_call (ok_end_step G) (hr.mono (by decide)) rfl G.g_end_step G.k_end_step G.bi_end_step .nil pass0 (pa_cons (pv 0) pa_nil)))
  (pss_one (ps_ret (pv 3)))))))), ?_⟩
    refine ⟨_, rfl, _, rfl, _, rfl, x, wh, S, τ, _, who, rfl, hS, hv, fun i d e hd => ?_, k1⟩
    subst e
    obtain ⟨T, eT, _⟩ := hS.tab hd
    obtain ⟨bi, td, tkvs, tf, hdk, tdi, tpg⟩ := hS.tabE hd eT
    have k3 := k2 i T rfl eT
    clear k1 k2
    have dom : ∀ i, (tf i).isSome = true → 0 ≤ i ∧ i < (512 : Nat) := fun i z => by
      have := (tpg i).low z
      omega
    refine ⟨x, wh, S, τ, i, d, T, rfl, hS, hd, eT, fun H1 D ls tkvs' tf' s1 hD0 hD1 hdk' tdi' tpg' z3 => ?_⟩
    obtain rfl : tkvs = tkvs' := by rw [hdk] at hdk'; cases hdk'; rfl
    obtain rfl : tf = tf' := by funext n; rw [← tdi.val, ← tdi'.val]
    have tD := hS.fresh hD0
    have S1 := hS.same s1
    -- the charge, the child
    refine ⟨_, rfl, fun u0 hu0 => ?_⟩
    have s80 := Same.new (o := .dK []) hu0
    refine ⟨_, rfl, x, _, _, _, _, rfl, s80 _ _ S1.hx, cl, a5, rfl, _, _, rfl, rfl, _, rfl, upd_same, [(Sum.inl (S.p + 1), V.ref D)], rfl, (by show 1 ≤ 15; decide), fun e he => ?_⟩
    have s9 : Same H1 (upd (upd (upd H1 u0 (.dK [])) u0 (.dK (mergeK [] [(Sum.inl (S.p + 1), V.ref D)]))) e (.dK [])) := fun b o eb => by
      have b0 : b ≠ u0 := ne_of_none eb hu0
      rw [upd_ne (ne_of_none (show (upd (upd H1 u0 (.dK [])) u0 (.dK (mergeK [] [(Sum.inl (S.p + 1), V.ref D)]))) b = some o by rw [upd_ne b0, upd_ne b0]; exact eb) he), upd_ne b0, upd_ne b0]
      exact eb
    refine ⟨x, wh, S, τ, _, _, _, rfl, S1.same s9, ?_⟩
    have S1 := S1.same s9
    have hD1 := s9 _ _ hD1
    have z3 := z3.keep (ImmK.same s9)
    have s1 := s1.trans s9
    generalize upd (upd (upd H1 u0 (.dK [])) u0 (.dK (mergeK [] [(Sum.inl (S.p + 1), V.ref D)]))) e (.dK []) = H1 at *
    refine ⟨_, rfl, x, wh, S, τ, rfl, S1, hl, fun H2 τ2 go2 S2 => ?_⟩
    have e2 : (newS S).tabs (S.p + 1) = some fun _ => none := if_pos rfl
    have tD2 : τ2 D = none := by
      rcases go2.ex D with z | z
      · exact z.trans tD
      · rw [hD1] at z; cases z.2
    have nt : S.tabs (S.p + 1) = none := by
      cases e : S.tabs (S.p + 1) with
      | none => rfl
      | some T' =>
        obtain ⟨d', hd'⟩ := hS.living e
        have := (hS.tabE hd' e).1
        omega
    refine ⟨_, rfl, _, rfl, _, rfl, x, wh, newS S, τ2, S.p + 1, D, ls, _, _, rfl, S2, e2, go2.fr _ _ tD hD1, tD2, z3.keep (S1.imm go2), keyCh_nod tdi.nodI, fun q hq => ?_, fun q hq g eg j ej => ?_, fun H3 τ3 go3 S3 => ?_⟩
    · have := dom q.1 ((tdi.memI q.1).mp (keyCh_mem hq).1)
      omega
    · have ff := (keyCh_mem hq).2
      rw [eg] at ff
      unfold forkF at ff
      cases eT2 : T q.1 with
      | none => rw [eT2] at ff; cases ff
      | some g' =>
        rw [eT2] at ff
        have ff' : (if g'.fl.s = true then none else some (some g')) = some (some g) := ff
        split at ff'
        · cases ff'
        · cases ff'
          exact hS.pgOb eT eT2 ej
    · refine ⟨_, rfl, x, wh, _, τ3, rfl, S3, fun H4 τ4 go4 S4 => ⟨_, rfl, k3 H4 τ4 ((Go.same s1).trans (go2.trans (go3.trans go4))) ?_⟩⟩
      have e : appT (fun _ => none) (keyCh (forkF T) (intsOf tkvs)) = childT T := by
        funext n
        rw [appT_key tdi.nodI]
        have z := tpg n
        by_cases hm : n ∈ intsOf tkvs
        · rw [if_pos hm]
          unfold forkF childT childG
          cases T n with
          | none => rfl
          | some g => show (if g.fl.s = true then none else some (some g)).getD none = if g.fl.s = true then none else some g; split <;> rfl
        · rw [if_neg hm]
          cases ev : tf n with
          | none =>
            rw [ev] at z
            cases eT2 : T n with
            | none => unfold childT; rw [eT2]; rfl
            | some g => rw [eT2] at z; exact z.elim
          | some v => exact absurd ((tdi.memI n).mpr (by rw [ev]; rfl)) hm
      rw [e] at S4
      refine S4.tabsEq ?_
      have : (fun j => if j = S.p + 1 then some (childT T) else (newS S).tabs j) = fun j => if j = S.p + 1 then some (childT T) else S.tabs j := by
        funext j
        by_cases ej : j = S.p + 1
        · rw [if_pos ej, if_pos ej]
        · rw [if_neg ej, if_neg ej]
          exact if_neg ej
      show ({ n := S.n + 1, p := S.p + 1, o := S.o, tabs := fun j => if j = S.p + 1 then some (childT T) else (newS S).tabs j, fls := S.fls } : Sys) = { n := S.n + 1, p := S.p + 1, o := S.o, tabs := fun j => if j = S.p + 1 then some (childT T) else S.tabs j, fls := S.fls }
      rw [this]
end
end My
set_option Elab.async false
set_option linter.all false
set_option maxRecDepth 100000
set_option maxHeartbeats 4000000
namespace My
open PySem L2
local macro_rules | `(tactic| walk_at "ds") => `(tactic| dsimp only [tSeq, tIfS, tTest, tB, tAnd, tOr, tNot, tAndV, tOrV, tNotV, tIf, tIsN, tNotN, tOp, tUn, tChain, rI, rI0, rU, tC, tCB, tCons, tNil, tAsg, gName, gSub, tRet, tRetN, tNext, tDrop, tLst, tTup, rIxL, rIxT, rSetL, tVar, tFld, tCall, tDGet, tDIn, tDNotIn, tNever, L2.start, List.map, List.replicate, List.length, List.append, List.cons_append, List.nil_append, List.set, Nat.sub])
local macro_rules | `(tactic| walk_at "hp") => `(tactic| first | assumption | exact upd_same | (refine Eq.trans (upd_ne (by first | assumption | (apply Ne.symm; assumption))) ?_; walk_at "hp"))
local macro_rules | `(tactic| walk_at "sd") => `(tactic| first
  | (show (_ : Int) ≠ 0; omega)
  | (refine (show CDivN _ _ from ⟨?_, ?_⟩) <;> omega)
  | (show CPow _ _; refine ⟨by omega, by omega, by omega⟩)
  | (show CMul _ _; exact Or.inl ⟨by omega, by omega⟩)
  | (show CMul _ _; exact Or.inr ⟨by omega, by omega⟩))
local macro_rules | `(tactic| walk_at "st") => `(tactic| first
  | refine ⟨_, rfl, ?_⟩
  | refine ⟨_, _, rfl, rfl, (by walk_at "sd"), ?_⟩
  | refine ⟨_, _, rfl, rfl, ?_⟩
  | refine ⟨_, _, _, _, rfl, rfl, SqL.of (by walk_at "hp"), rfl, ?_⟩
  | refine ⟨_, _, _, _, rfl, rfl, (by walk_at "hp"), rfl, ?_⟩
  | refine .inl ⟨_, rfl, ?_⟩
  | refine ⟨_, _, _, _, _, rfl, (by walk_at "hp"), (by assumption), (by assumption), rfl, ?_⟩
  | refine ⟨_, _, rfl, .inl (SqL.of (by walk_at "hp")), ?_⟩)
local macro_rules | `(tactic| walk_at "go") => `(tactic| repeat (first | walk_at "st" | (walk_at "ds"; walk_at "st")))
local macro_rules | `(tactic| walk_at "ni") => `(tactic| dsimp (config := { proj := false }) only [tNil, List.cons_append, List.nil_append])
section
variable {P : Program} {w : World} {K : PySem.W.Frag} {mg : Str → Option Value} {base : Heap} {A : Adr}
variable {H : Hp} {x : Addr} {wh : Wh} {S : Sys} {τ : Tm} {i f c t : Int} {T : Tb} {Q : VK} {E : XK}
theorem only {i j : Int} {T T' : Tb} (e : S.tabs i = some T) (h1 : V.int i = V.int j) (h2 : S.tabs j = some T') : j = i ∧ T' = T := by
  have e1 := V.int.inj h1
  subst e1
  rw [e] at h2
  exact ⟨rfl, (Option.some.inj h2).symm⟩
theorem livg {i : Int} {T : Tb} {R : Prop} (e : S.tabs i = some T) (z : ∀ j, V.int i = V.int j → S.tabs j = none) : R := by
  have := z i rfl
  rw [e] at this
  cases this
theorem use_leave (hS : Sr A H x wh S τ) (eT : S.tabs i = some T) (k : ∀ H' τ', Go τ H τ' H' → Sr A H' x wh (endS S i) τ' → Q .non H') : spLeave A [.ref x, .int i] H Q E := by
  refine ⟨x, wh, S, τ, .int i, rfl, hS, .int _, livg eT, fun i' T' e1 e2 => ?_⟩
  obtain ⟨rfl, rfl⟩ := only eT e1 e2
  exact k
theorem use_fork (hS : Sr A H x wh S τ) (eT : S.tabs i = some T) (lt : S.p < 1000) (k : ∀ H' τ', Go τ H τ' H' → Sr A H' x wh (forkS S T) τ' → Q (.int (S.p + 1)) H') : spFork A [.ref x, .int i] H Q E := by
  refine ⟨x, wh, S, τ, .int i, rfl, hS, .int _, lt, livg eT, fun i' T' e1 e2 => ?_⟩
  obtain ⟨rfl, rfl⟩ := only eT e1 e2
  exact k
theorem SyA.tabKeys {CS CP CH : Addr} {H : Hp} {x : Addr} {w : Wh} {S : Sys} {τ : Tm} {cnt : Int → Int → Nat} (h : SyA CS CP CH H x w S τ cnt) {kvs : List (Key × V)} (e : H w.t = some (.dK kvs)) : ∃ f, DI kvs f ∧ ∀ i, (f i).isSome = (S.tabs i).isSome := by
  obtain ⟨kv, f, h1, h2, h3⟩ := h.tabs
  rw [e] at h1
  cases h1
  refine ⟨f, h2, fun i => ?_⟩
  have z := h3 i
  cases ef : f i with
  | none =>
    rw [ef] at z
    cases et : S.tabs i with
    | none => rfl
    | some T => rw [et] at z; exact z.elim
  | some v =>
    rw [ef] at z
    cases et : S.tabs i with
    | none => rw [et] at z; exact z.elim
    | some T => rfl
def spNow (A : Adr) : Sp := fun vs H Q _ => ∃ (x dx : Addr) (fs : List (Str × V)) (n : V), vs = [.ref x] ∧ H x = some (.ins A.c_System dx fs) ∧ fs.lookup ("steps_made" : Str) = some n ∧ Q n H
theorem ok_now (G : Txt K mg A) : FnOk P w K mg base CX0 1 A.a_now A.fd_now p_now (spNow A) := by
  refine G.f_now.ok sc_now (fun vs H Q E h => ?_) (fun cdv A' outer s H vs Q E hr h => ?_)
  · obtain ⟨x, dx, fs, n, rfl, _⟩ := h
    rfl
  · obtain ⟨x, dx, fs, n, rfl, hx, hl, k⟩ := h
    refine ⟨_, (pss_one (ps_ret (pe_fld (pv 0) rfl))), ?_⟩
    exact ⟨_, rfl, x, _, _, _, _, rfl, hx, G.cl_System, G.n_System_steps_made, hl, k⟩
/-- processes: the numbers of the living, ascending -/
def spProcs (A : Adr) : Sp := fun vs H Q _ => ∃ (x dx t : Addr) (fs : List (Str × V)) (kvs : List (Key × V)) (f : Int → Option V), vs = [.ref x] ∧ H x = some (.ins A.c_System dx fs) ∧ fs.lookup ("tables" : Str) = some (V.ref t) ∧ H t = some (.dK kvs) ∧ DI kvs f ∧
  ∀ (q : Addr) (ys : List Int), H q = none → ys.Pairwise (· < ·) → (∀ i, i ∈ ys ↔ (f i).isSome = true) → Q (.ref q) (upd H q (.lst (ys.map V.int)))
theorem ok_processes (G : Txt K mg A) : FnOk P w K mg base CX0 1 A.a_processes A.fd_processes p_processes (spProcs A) := by
  refine G.f_processes.ok sc_processes (fun vs H Q E h => ?_) (fun cdv A' outer s H vs Q E hr h => ?_)
  · obtain ⟨x, dx, t, fs, kvs, f, rfl, _⟩ := h
    rfl
  · obtain ⟨x, dx, t, fs, kvs, f, rfl, hx, hl, ht, di, k⟩ := h
    refine ⟨_, (pss_one (ps_ret (pe_callB (call_sortedDL rfl) (by rfl) G.b_sorted (by decide +kernel) (pa_cons (pe_fld (pv 0) rfl) pa_nil)))), ?_⟩
    refine ⟨_, rfl, x, _, _, _, _, rfl, hx, G.cl_System, G.n_System_tables, hl, t, kvs, intsOf kvs, rfl, .inl ht, di.keys, fun ys p hp hpw hq => k p ys hq (le_lt hpw (hp.nodup_iff.mpr di.nodI)) fun i => ?_⟩
    rw [hp.mem_iff, di.memI]
end
end My
set_option Elab.async false
set_option linter.all false
set_option maxRecDepth 100000
set_option maxHeartbeats 4000000
namespace My
open PySem L2
local macro_rules | `(tactic| walk_at "ds") => `(tactic| dsimp only [tSeq, tIfS, tTest, tB, tAnd, tOr, tNot, tAndV, tOrV, tNotV, tIf, tIsN, tNotN, tOp, tUn, tChain, rI, rI0, rU, tC, tCB, tCons, tNil, tAsg, gName, gSub, tRet, tRetN, tNext, tDrop, tLst, tTup, rIxL, rIxT, rSetL, tVar, tFld, tCall, tDGet, tDIn, tDNotIn, tNever, L2.start, List.map, List.replicate, List.length, List.append, List.cons_append, List.nil_append, List.set, Nat.sub])
local macro_rules | `(tactic| walk_at "hp") => `(tactic| first | assumption | exact upd_same | (refine Eq.trans (upd_ne (by first | assumption | (apply Ne.symm; assumption))) ?_; walk_at "hp"))
local macro_rules | `(tactic| walk_at "sd") => `(tactic| first
  | (show (_ : Int) ≠ 0; omega)
  | (refine (show CDivN _ _ from ⟨?_, ?_⟩) <;> omega)
  | (show CPow _ _; refine ⟨by omega, by omega, by omega⟩)
  | (show CMul _ _; exact Or.inl ⟨by omega, by omega⟩)
  | (show CMul _ _; exact Or.inr ⟨by omega, by omega⟩))
local macro_rules | `(tactic| walk_at "st") => `(tactic| first
  | refine ⟨_, rfl, ?_⟩
  | refine ⟨_, _, rfl, rfl, (by walk_at "sd"), ?_⟩
  | refine ⟨_, _, rfl, rfl, ?_⟩
  | refine ⟨_, _, _, _, rfl, rfl, SqL.of (by walk_at "hp"), rfl, ?_⟩
  | refine ⟨_, _, _, _, rfl, rfl, (by walk_at "hp"), rfl, ?_⟩
  | refine .inl ⟨_, rfl, ?_⟩
  | refine ⟨_, _, _, _, _, rfl, (by walk_at "hp"), (by assumption), (by assumption), rfl, ?_⟩
  | refine ⟨_, _, rfl, .inl (SqL.of (by walk_at "hp")), ?_⟩)
local macro_rules | `(tactic| walk_at "go") => `(tactic| repeat (first | walk_at "st" | (walk_at "ds"; walk_at "st")))
local macro_rules | `(tactic| walk_at "ni") => `(tactic| dsimp (config := { proj := false }) only [tNil, List.cons_append, List.nil_append])
def spWell : Sp := fun vs H Q _ => ∃ n : Int, vs = [.int n] ∧ ∀ (a : Addr) (H' : Hp), H a = none → Same H H' → WellAt H' a 0 → Q (.ref a) H'
def spDraw : Sp := fun vs H Q _ => ∃ (a : Addr) (m : Int) (B : Nat), vs = [.ref a, .int m] ∧ 0 < m ∧ m < 1000000 ∧ WellAt H a B ∧ B < 1000000000 ∧
  ∀ (d : Int) (H' : Hp), 0 ≤ d → d < m → But a H H' → WellAt H' a (B + 1) → Q (.int d) H'
def spOne (K : PySem.W.Frag) : Sp := fun vs H Q _ => ∃ (a l : Addr) (xs : List V) (B : Nat), vs = [.ref a, .ref l] ∧ H l = some (.lst xs) ∧ l ≠ a ∧ 0 < xs.length ∧ xs.length < 1000 ∧ WellAt H a B ∧ B < 1000000000 ∧
  ∀ (v : V) (H' : Hp), v ∈ xs → But a H H' → WellAt H' a (B + 1) → Q v H'
section
variable {P : Program} {w : World} {K : PySem.W.Frag} {mg : Str → Option Value} {base : Heap} {A : Adr}
theorem ok__law_well (G : Txt K mg A) : FnOk P w K mg base CX0 1 A.a__law_well A.fd__law_well p__law_well spWell := by
  refine G.f__law_well.ok sc__law_well (fun vs H Q E h => ?_) (fun cdv A' outer s H vs Q E hr h => ?_)
  · obtain ⟨n, rfl, _⟩ := h
    rfl
  · obtain ⟨n, rfl, k⟩ := h
    refine ⟨_, (pss_one (ps_ret (pe_lst (pa_cons (pe_op op_mul (pv 0) (pe_callTy call_int1 (by rfl) G.b_int (by decide +kernel) (pa_cons (pe_cmpR op_ge (pv 0) (pe_op op_pow pe_int pe_int) (nomark _)) pa_nil))) (pa_cons (pe_op op_modN (pe_callTy call_int1 (by rfl) G.b_int (by decide +kernel) (pa_cons (pv 0) pa_nil)) pe_int) (pa_cons pe_int pa_nil)))))), ?_⟩
    walk_at "go"
    walk_at "ds"
    refine .inr ⟨_, rfl, n, _, rfl, rfl, Or.inr (by split <;> decide), _, rfl, .inl ⟨_, rfl, _, _, rfl, rfl, by decide, by decide, fun p hp => ?_⟩⟩
    refine k p _ hp (Same.new hp) ⟨_, _, _, upd_same, ?_, (fm (by decide)).1, (fm (by decide)).2, Int.le_refl _, Int.le_refl _, by decide⟩
    by_cases c : (10 : Int) ^ Int.toNat 18 ≤ n
    · rw [decide_eq_true c, if_pos rfl, Int.mul_one]
      exact Int.le_trans (by decide) c
    · rw [decide_eq_false c, if_neg Bool.false_ne_true, Int.mul_zero]
      exact Int.le_refl _
theorem ok__law_draw (G : Txt K mg A) : FnOk P w K mg base CX0 1 A.a__law_draw A.fd__law_draw p__law_draw spDraw := by
  refine G.f__law_draw.ok sc__law_draw (fun vs H Q E h => ?_) (fun cdv A' outer s H vs Q E hr h => ?_)
  · obtain ⟨a, m, B, rfl, _⟩ := h
    rfl
  · obtain ⟨a, m, B, rfl, hm0, hm1, ⟨w0, w1, w2, hw, h0, h1, h1', h2, h2', hB⟩, hB', k⟩ := h
    refine ⟨_, (pss_cons (ps_if (pt_cmpR op_gt (pe_ix ix_list (pv 0) pe_int (fun _ _ => rfl)) pe_int (nomark _)) (pss_cons (ps_set (i := 2) sc__law_draw.nd rfl (Or.inl rfl) (pe_op op_modN (pe_callTy call_int1 (by rfl) G.b_int (by decide +kernel) (pa_cons (pe_ix ix_list (pv 0) pe_int (fun _ _ => rfl)) pa_nil)) (pv 1)))
  (pss_cons (ps_asg (pe_op op_fdivN (pe_ix ix_list (pv 0) pe_int (fun _ _ => rfl)) (pv 1)) (pg_sub (pv 0) pe_int set_list))
  (pss_one (ps_ret (pv 2))))) pss_nil)
  (pss_cons (ps_asg (pe_op op_add (pe_ix ix_list (pv 0) pe_int (fun _ _ => rfl)) pe_int) (pg_sub (pv 0) pe_int set_list))
  (pss_cons (ps_set (i := 3) sc__law_draw.nd rfl (Or.inl rfl) (pe_ix ix_list (pe_lst (pa_cons pe_int (pa_cons pe_int (pa_cons pe_int (pa_cons pe_int (pa_cons pe_int (pa_cons pe_int (pa_cons pe_int pa_nil)))))))) (pe_op op_modN (pe_callTy call_int1 (by rfl) G.b_int (by decide +kernel) (pa_cons (pe_ix ix_list (pv 0) pe_int (fun _ _ => rfl)) pa_nil)) pe_int) (fun _ _ => rfl)))
  (pss_cons (ps_set (i := 4) sc__law_draw.nd rfl (Or.inl rfl) (pe_op op_modN (pe_callTy call_int1 (by rfl) G.b_int (by decide +kernel) (pa_cons (pe_op op_pow (pe_op op_add (pe_op op_add (pe_ix ix_list (pv 0) pe_int (fun _ _ => rfl)) (pe_op op_mul pe_int (pe_ix ix_list (pv 0) pe_int (fun _ _ => rfl)))) pe_int) pe_int) pa_nil)) (pv 3)))
  (pss_cons (ps_set (i := 4) sc__law_draw.nd rfl (Or.inl rfl) (pe_op op_modN (pe_callTy call_int1 (by rfl) G.b_int (by decide +kernel) (pa_cons (pe_op op_mul (pe_op op_add (pv 4) (pe_ix ix_list (pv 0) pe_int (fun _ _ => rfl))) (pe_op op_add (pe_op op_fdivN (pv 4) pe_int) pe_int)) pa_nil)) (pv 3)))
  (pss_one (ps_ret (pe_op op_modN (pe_callTy call_int1 (by rfl) G.b_int (by decide +kernel) (pa_cons (pe_op op_fdivN (pv 4) pe_int) pa_nil)) (pv 1))))))))), ?_⟩
    walk_at "go"
    refine iteD (fun c => ?_) (fun c => ?_)
    · walk_at "go"
      have e1 := fm (x := w0) hm0
      have e2 := fdv hm0 h0
      refine k _ _ e1.1 e1.2 (fun b o hb ho => by rw [upd_ne hb]; exact ho) ⟨_, _, _, upd_same, e2.1, h1, h1', h2, by omega, by omega⟩
    · walk_at "go"
      walk_at "ds"
      refine ⟨by decide, fun p hp => ?_⟩
      obtain ⟨npa, hp0⟩ := upd_none hp
      walk_at "go"
      try walk_at "ds"
      have e7 := fm (x := w2 + 1) (m := 7) (by decide)
      obtain ⟨v, hv, hv1, hv2⟩ := at7 e7.1 e7.2
      refine ⟨_, _, _, _, rfl, rfl, SqL.of upd_same, hv, ?_⟩
      walk_at "go"
      have e1 := fm (x := (w1 + 7919 * (w2 + 1) + 1) ^ Int.toNat 5) (m := v) (by omega)
      generalize ((w1 + 7919 * (w2 + 1) + 1) ^ Int.toNat 5).fmod v = n1 at *
      refine ⟨Or.inl ⟨by omega, by omega⟩, ?_⟩
      walk_at "go"
      refine k _ _ (fm hm0).1 (fm hm0).2 (fun b o hb ho => ?_) ⟨_, _, _, Eq.trans (upd_ne (Ne.symm npa)) upd_same, h0, h1, h1', by omega, by omega, by omega⟩
      rw [upd_ne (ne_of_none ho hp0), upd_ne hb]
      exact ho
theorem ok__law_one (G : Txt K mg A) : FnOk P w K mg base CX0 2 A.a__law_one A.fd__law_one p__law_one (spOne K) := by
  refine G.f__law_one.ok sc__law_one (fun vs H Q E h => ?_) (fun cdv A' outer s H vs Q E hr h => ?_)
  · obtain ⟨a, l, xs, B, rfl, _⟩ := h
    rfl
  · obtain ⟨a, l, xs, B, rfl, hl, hne, hx0, hx1, hw, hB, k⟩ := h
    refine ⟨_, (pss_one (ps_ret (pe_ix ix_list (pv 1) (pe_call (ok__law_draw G) (hr.mono (by decide)) rfl G.g__law_draw G.k__law_draw G.bi__law_draw .nil pass0 (pa_cons (pv 0) (pa_cons (pe_callB call_len_seq (by rfl) G.b_len (by decide +kernel) (pa_cons (pv 1) pa_nil)) pa_nil))) (fun _ _ => rfl)))), ?_⟩
    walk_at "go"
    refine ⟨a, xs.length, B, rfl, by omega, by omega, hw, hB, fun d H' d0 d1 kp hw' => ?_⟩
    obtain ⟨v, hv, hm⟩ := atI_in d0 d1
    exact ⟨_, _, _, _, rfl, rfl, SqL.of (kp _ _ hne hl), hv, k v H' hm kp hw'⟩
end
end My
set_option Elab.async false
set_option linter.all false
set_option maxRecDepth 100000
set_option maxHeartbeats 4000000
namespace My
open PySem L2
local macro_rules | `(tactic| walk_at "ds") => `(tactic| dsimp only [tSeq, tIfS, tTest, tB, tAnd, tOr, tNot, tAndV, tOrV, tNotV, tIf, tIsN, tNotN, tOp, tUn, tChain, rI, rI0, rU, tC, tCB, tCons, tNil, tAsg, gName, gSub, tRet, tRetN, tNext, tDrop, tLst, tTup, rIxL, rIxT, rSetL, tVar, tFld, tCall, tDGet, tDIn, tDNotIn, tNever, L2.start, List.map, List.replicate, List.length, List.append, List.cons_append, List.nil_append, List.set, Nat.sub])
local macro_rules | `(tactic| walk_at "hp") => `(tactic| first | assumption | exact upd_same | (refine Eq.trans (upd_ne (by first | assumption | (apply Ne.symm; assumption))) ?_; walk_at "hp"))
local macro_rules | `(tactic| walk_at "sd") => `(tactic| first
  | (show (_ : Int) ≠ 0; omega)
  | (refine (show CDivN _ _ from ⟨?_, ?_⟩) <;> omega)
  | (show CPow _ _; refine ⟨by omega, by omega, by omega⟩)
  | (show CMul _ _; exact Or.inl ⟨by omega, by omega⟩)
  | (show CMul _ _; exact Or.inr ⟨by omega, by omega⟩))
local macro_rules | `(tactic| walk_at "st") => `(tactic| first
  | refine ⟨_, rfl, ?_⟩
  | refine ⟨_, _, rfl, rfl, (by walk_at "sd"), ?_⟩
  | refine ⟨_, _, rfl, rfl, ?_⟩
  | refine ⟨_, _, _, _, rfl, rfl, SqL.of (by walk_at "hp"), rfl, ?_⟩
  | refine ⟨_, _, _, _, rfl, rfl, (by walk_at "hp"), rfl, ?_⟩
  | refine .inl ⟨_, rfl, ?_⟩
  | refine ⟨_, _, _, _, _, rfl, (by walk_at "hp"), (by assumption), (by assumption), rfl, ?_⟩
  | refine ⟨_, _, rfl, .inl (SqL.of (by walk_at "hp")), ?_⟩)
local macro_rules | `(tactic| walk_at "go") => `(tactic| repeat (first | walk_at "st" | (walk_at "ds"; walk_at "st")))
local macro_rules | `(tactic| walk_at "ni") => `(tactic| dsimp (config := { proj := false }) only [tNil, List.cons_append, List.nil_append])
end My
set_option Elab.async false
set_option linter.all false
set_option maxRecDepth 100000
set_option maxHeartbeats 4000000
namespace My
open PySem L2
local macro_rules | `(tactic| walk_at "ds") => `(tactic| dsimp only [tSeq, tIfS, tTest, tB, tAnd, tOr, tNot, tAndV, tOrV, tNotV, tIf, tIsN, tNotN, tOp, tUn, tChain, rI, rI0, rU, tC, tCB, tCons, tNil, tAsg, gName, gSub, tRet, tRetN, tNext, tDrop, tLst, tTup, rIxL, rIxT, rSetL, tVar, tFld, tCall, tDGet, tDIn, tDNotIn, tNever, L2.start, List.map, List.replicate, List.length, List.append, List.cons_append, List.nil_append, List.set, Nat.sub])
local macro_rules | `(tactic| walk_at "hp") => `(tactic| first | assumption | exact upd_same | (refine Eq.trans (upd_ne (by first | assumption | (apply Ne.symm; assumption))) ?_; walk_at "hp"))
local macro_rules | `(tactic| walk_at "sd") => `(tactic| first
  | (show (_ : Int) ≠ 0; omega)
  | (refine (show CDivN _ _ from ⟨?_, ?_⟩) <;> omega)
  | (show CPow _ _; refine ⟨by omega, by omega, by omega⟩)
  | (show CMul _ _; exact Or.inl ⟨by omega, by omega⟩)
  | (show CMul _ _; exact Or.inr ⟨by omega, by omega⟩))
local macro_rules | `(tactic| walk_at "st") => `(tactic| first
  | refine ⟨_, rfl, ?_⟩
  | refine ⟨_, _, rfl, rfl, (by walk_at "sd"), ?_⟩
  | refine ⟨_, _, rfl, rfl, ?_⟩
  | refine ⟨_, _, _, _, rfl, rfl, SqL.of (by walk_at "hp"), rfl, ?_⟩
  | refine ⟨_, _, _, _, rfl, rfl, (by walk_at "hp"), rfl, ?_⟩
  | refine .inl ⟨_, rfl, ?_⟩
  | refine ⟨_, _, _, _, _, rfl, (by walk_at "hp"), (by assumption), (by assumption), rfl, ?_⟩
  | refine ⟨_, _, rfl, .inl (SqL.of (by walk_at "hp")), ?_⟩)
local macro_rules | `(tactic| walk_at "go") => `(tactic| repeat (first | walk_at "st" | (walk_at "ds"; walk_at "st")))
local macro_rules | `(tactic| walk_at "ni") => `(tactic| dsimp (config := { proj := false }) only [tNil, List.cons_append, List.nil_append])
def spIn : Sp := fun vs H Q _ => ∃ (v : V) (lo hi : Int), vs = [v, .int lo, .int hi] ∧ AnyV H v ∧ Q (.bl (inR lo hi v)) H
section
variable {P : Program} {w : World} {K : PySem.W.Frag} {mg : Str → Option Value} {base : Heap} {A : Adr}
theorem ok__law_is_number (G : Txt K mg A) : FnOk P w K mg base CX0 1 A.a__law_is_number A.fd__law_is_number p__law_is_number spIn := by
  refine G.f__law_is_number.ok sc__law_is_number (fun vs H Q E h => ?_) (fun cdv A' outer s H vs Q E hr h => ?_)
  · obtain ⟨v, lo, hi, rfl, _⟩ := h
    rfl
  · obtain ⟨v, lo, hi, rfl, hv, k⟩ := h
    refine ⟨_, (pss_one (ps_ret (pe_and (pe_callB call_isi (by rfl) G.b_isinstance (by decide +kernel) (pa_cons (pv 0) (pa_cons (pe_bltn (v := .ty "int") (u := .type "int") (by rfl) G.b_int (by decide +kernel) rfl) pa_nil))) (pe_and (pe_not (pe_callB call_isi (by rfl) G.b_isinstance (by decide +kernel) (pa_cons (pv 0) (pa_cons (pe_bltn (v := .ty "bool") (u := .type "bool") (by rfl) G.b_bool (by decide +kernel) rfl) pa_nil)))) (pe_one (pe_chain op_le op_le (pv 1) (pv 0) (pv 2))))))), ?_⟩
    obtain ⟨t, h1, h2, h3, _⟩ := hv.ty (K := K)
    walk_at "go"
    walk_at "ds"
    refine ⟨v, .ty "int", .type t, .type "int", _, rfl, .ty "int", h1, h2, _, rfl, ?_⟩
    cases e : isI v with
    | false =>
      refine iteF ?_
      have q : inR lo hi v = false := by cases v <;> first | rfl | cases e
      rw [q] at k
      exact k
    | true =>
      refine iteT ⟨_, rfl, v, .ty "bool", .type t, .type "bool", _, rfl, .ty "bool", h1, h3, _, rfl, _, rfl, ?_⟩
      cases e2 : isB v with
      | true =>
        refine iteF ?_
        have q : inR lo hi v = false := by cases v <;> first | rfl | cases e2
        rw [q] at k
        exact k
      | false =>
        refine iteT ?_
        obtain ⟨i, rfl⟩ : ∃ i, v = V.int i := by cases v <;> first | exact ⟨_, rfl⟩ | (cases e; done) | (cases e2; done)
        refine ⟨_, rfl, _, rfl, _, _, rfl, rfl, _, rfl, ?_⟩
        refine iteD (fun c => ?_) (fun c => ?_)
        · refine ⟨_, rfl, _, _, rfl, rfl, ?_⟩
          have q : inR lo hi (V.int i) = decide (i ≤ hi) := by
            show decide (lo ≤ i ∧ i ≤ hi) = _
            simp [c]
          rw [q] at k
          exact k
        · have q : inR lo hi (V.int i) = false := by
            show decide (lo ≤ i ∧ i ≤ hi) = _
            simp [c]
          rw [q] at k
          exact k
end
theorem takes_len {X : Cx} {W : WX} (tk : Takes X W) : Takes X (fun c d σ H => σ.length = X.N.length → W c d σ H) := fun u s' air => by
  obtain ⟨a, B, sI, pins, σ, H, cls, d, e, I, nb, up, sky, na, os, ag, w⟩ := air
  exact tk u s' ⟨a, B, sI, pins, σ, H, cls, d, e, I, nb, up, sky, na, os, ag, w I.len⟩
/-- how an error of one field is told -/
def ToldBy (C : Addr) (f tag : Str) (Q : VK) (cls : Value) (d : Option Addr) (H : Hp) : Prop :=
  cls = .ref C ∧ ∃ (dd : Addr) (y : V), d = some dd ∧ H dd = some (.xd [(f, y)]) ∧ ∀ p, H p = none → Q (.ref p) (upd H p (.tup [.str tag, y]))
def TTs (A : Adr) : (XK → Hp → VK → Prop) → Hp → VK → Prop := fun tl H Q =>
  tl (fun cls d H' => ToldBy A.c_NoSystem "part" "system" Q cls d H' ∨ ToldBy A.c_NoProcess "process" "process" Q cls d H') H Q
section
variable {X : Cx} {A : Adr}
theorem said_gives {q : Str} {cdg : Value} (G : Txt X.K X.mg A) : LamX.GivesTo X n__law_said "_law_said" (defScope s__law_said) A.a__law_said cdg (defBody s__law_said) "ask" q (TTs A) := by
  intro f c' s H Q tl act hc h
  let Y : Cx := (cxOf C8.CX0 X.prog X.w X.K X.mg X.base n__law_said "_law_said" (defScope s__law_said) A.a__law_said cdg X.A X.stack s H C8.E0).nox
  refine ⟨_, pss_one (ps_try_cls (X := Y) (l := [(.ref A.c_NoSystem, some 1, fun a cls d => tRet (tTup (tCons (tC (.str "system")) (tCons (tXf a cls d A.c_NoSystem "part" (tVar 1)) tNil)))),
        (.ref A.c_NoProcess, some 1, fun a cls d => tRet (tTup (tCons (tC (.str "process")) (tCons (tXf a cls d A.c_NoProcess "process" (tVar 1)) tNil)))),
        (.ref A.c_PageError, none, fun _ _ _ => tRet (tTup (tCons (tC (.str "other")) (tCons (tC .non) tNil))))])
      (tb := fun W D σ H => ∃ Ech : XK, (∀ cls d σ' H', Ech cls d H' → σ'.length = n__law_said.length → W cls d σ' H') ∧ σ[0]? = some (some (.ref f)) ∧ H c' = some (LamX.CodeO c' q) ∧ tl Ech H D.rt)
      rfl rfl sc__law_said.nd takes0 (fun W pn xe tk _ => ?_)
      (.named ⟨rfl, by decide, .inl G.g_NoSystem⟩ rfl rfl (fun a oe cls d pn hz hf => pss_one (ps_ret (pe_tup (pa_cons pe_str (pa_cons (pe_xf G.xf_NoSystem G.xn_NoSystem hz hf (pv 1)) pa_nil)))))
      (.named ⟨rfl, by decide, .inl G.g_NoProcess⟩ rfl rfl (fun a oe cls d pn hz hf => pss_one (ps_ret (pe_tup (pa_cons pe_str (pa_cons (pe_xf G.xf_NoProcess G.xn_NoProcess hz hf (pv 1)) pa_nil)))))
      (.bare ⟨rfl, by decide, .inl G.g_PageError⟩ (fun a oe cls d pn hz hf => pss_one (ps_ret (pe_tup (pa_cons pe_str (pa_cons pe_non pa_nil))))) .nil)))), ?_⟩
  · refine ⟨fun pins s' σ H' D I h' => ?_⟩
    obtain ⟨Ech, hW, h1, h2, h3⟩ := h'
    exact (pss_one (ps_ret (act (fun c d σ H => σ.length = n__law_said.length → W c d σ H) pn xe Ech _ _ (takes_len tk) hW))).run pins s' σ H' D I ⟨h1, h2, h3⟩
  · refine ⟨_, fun cls d σ' H' hE hl => ?_, rfl, hc, h⟩
    have hl2 : 1 < σ'.length := by rw [hl]; decide
    rcases hE with ⟨rfl, dd, y, rfl, hd, k⟩ | ⟨rfl, dd, y, rfl, hd, k⟩
    · refine ⟨true, G.e_NoSystem_NoSystem, fun _ a ha => ?_, fun z => (nomatch z)⟩
      refine ⟨.ref a, List.getElem?_set_self hl2, rfl, rfl, dd, _, y, rfl, hd, ?_, (by show 2 ≤ sizeLine; decide), fun p hp => k p hp⟩
      simp [List.lookup]
    · refine ⟨false, G.e_NoProcess_NoSystem, fun z => (nomatch z), fun _ => ⟨true, G.e_NoProcess_NoProcess, fun _ a ha => ?_, fun z => (nomatch z)⟩⟩
      refine ⟨.ref a, List.getElem?_set_self hl2, rfl, rfl, dd, _, y, rfl, hd, ?_, (by show 2 ≤ sizeLine; decide), fun p hp => k p hp⟩
      simp [List.lookup]
end
section
variable {P : Program} {w : World} {K : PySem.W.Frag} {mg : Str → Option Value} {base : Heap} {A : Adr}
theorem init_binds (G : Txt K mg A) : ∃ ds, Vals (kw_System_init.map (·.2)) ds ∧ L2.Binds K A.fd_System_init p_System_init ds := by
  refine G.f_System_init.binds0 1 (by decide) rfl fun D doc pm an cdv ct us ks h1 h2 => ?_
  match us, h1, ks, h2 with
  | [u], _, [a, b, c], _ =>
    exact ⟨_, _, _, _, _, _, rfl, rfl, _, _, _, _, _, _, rfl, rfl, _, _, _, _, _, _, rfl, rfl, rfl⟩
theorem init_kbinds (G : Txt K mg A) : ∃ mv : List Value, KBn K A.fd_System_init p_System_init 1 ["frames", "slots", "strict"] (fun us ws => us ++ ws) (fun vs zs => vs ++ zs) := by
  refine G.f_System_init.kbinds0 1 ["frames", "slots", "strict"] [] (fun us _ ws => us ++ ws) (by decide) (by simp) (fun r1 _ r2 => r1.append r2) fun D doc pm an cdv ct us mv ws h1 h2 h3 => ?_
  match us, h1, mv, h2, ws, h3 with
  | [u], _, [], _, [a, b, c], _ => rfl
end
def qL : Str := (PyProof.Rows.envOfC "law" (defScope s_law) 0 0 .none).qual ++ "<lambda>"
def qR : Str := (PyProof.Rows.envOfC "_law_system_right" (defScope s__law_system_right) 0 0 .none).qual ++ "<lambda>"
def TS (A : Adr) : List (Addr × Str) := [(A.ta_law, qL), (A.ta__law_system_right, qR)]
structure Tb2 (base : Heap) (mg : Str → Option Value) (A : Adr) : Prop where
  l : LamX.TabB base mg A.co_law A.ta_law
  r : LamX.TabB base mg A.co__law_system_right A.ta__law_system_right
  ne : A.ta_law ≠ A.ta__law_system_right
theorem TS_l {base : Heap} {mg : Str → Option Value} {A : Adr} (T : Tb2 base mg A) : ∀ p ∈ TS A, p.1 = A.ta_law → p.2 = qL := fun p hp e => by
  rcases List.mem_cons.mp hp with h | h
  · rw [h]
  · rw [List.mem_singleton.mp h] at e
    exact absurd e.symm T.ne
theorem TS_r {base : Heap} {mg : Str → Option Value} {A : Adr} (T : Tb2 base mg A) : ∀ p ∈ TS A, p.1 = A.ta__law_system_right → p.2 = qR := fun p hp e => by
  rcases List.mem_cons.mp hp with h | h
  · rw [h] at e
    exact absurd e T.ne
  · rw [List.mem_singleton.mp h]
def Frm (S : Addr → Prop) (H H' : Hp) : Prop := ∀ b o, ¬ S b → H b = some o → (∀ ps, o ≠ .tbl ps) → H' b = some o
theorem Frm.trans {S : Addr → Prop} {H H1 H2 : Hp} (x : Frm S H H1) (y : Frm S H1 H2) : Frm S H H2 := fun b o n e t => y b o n (x b o n e t) t
theorem Frm.same {S : Addr → Prop} {H H1 : Hp} (x : Same H H1) : Frm S H H1 := fun b o _ e _ => x b o e
theorem Frm.ext {S : Addr → Prop} {H H1 : Hp} (x : LamX.ExtN H H1) : Frm S H H1 := fun b o _ e t => x b o e t
theorem Frm.but {a : Addr} {H H1 : Hp} (x : But a H H1) : Frm (· = a) H H1 := fun b o n e _ => x b o n e
theorem tabs_same {T : List (Addr × Str)} {H H' : Hp} (t : LamX.Tabs T H) (h : Same H H') : LamX.Tabs T H' := t.ext h
theorem tabs_but {T : List (Addr × Str)} {H H' : Hp} {a : Addr} {xs : List V} (t : LamX.Tabs T H) (h : But a H H') (ha : H a = some (.lst xs)) : LamX.Tabs T H' :=
  Tabs.keep t fun b o e => ⟨fun u q => h b o (fun z => by rw [z, ha, q] at e; cases e) e, fun ps q => h b o (fun z => by rw [z, ha, q] at e; cases e) e⟩
theorem AnyV.but {H H' : Hp} {v : V} {a : Addr} (h : AnyV H v) (n : v ≠ .ref a) (e : But a H H') : AnyV H' v := by
  cases h with
  | non => exact .non
  | bl b => exact .bl b
  | int i => exact .int i
  | str x => exact .str x
  | lst z => exact .lst (e _ _ (fun q => n (by rw [q])) z)
  | tup z => exact .tup (e _ _ (fun q => n (by rw [q])) z)
  | dK z => exact .dK (e _ _ (fun q => n (by rw [q])) z)
theorem AnyV.frm {H H' : Hp} {v : V} {a : Addr} (h : AnyV H v) (n : v ≠ .ref a) (e : Frm (· = a) H H') : AnyV H' v := by
  cases h with
  | non => exact .non
  | bl b => exact .bl b
  | int i => exact .int i
  | str x => exact .str x
  | lst z => exact .lst (e _ _ (fun q => n (by rw [q])) z (fun _ q => by cases q))
  | tup z => exact .tup (e _ _ (fun q => n (by rw [q])) z (fun _ q => by cases q))
  | dK z => exact .dK (e _ _ (fun q => n (by rw [q])) z (fun _ q => by cases q))
theorem AnyV.ext {H H' : Hp} {v : V} (h : AnyV H v) (e : LamX.ExtN H H') : AnyV H' v := by
  cases h with
  | non => exact .non
  | bl b => exact .bl b
  | int i => exact .int i
  | str x => exact .str x
  | lst z => exact .lst (e _ _ z (fun _ q => by cases q))
  | tup z => exact .tup (e _ _ z (fun _ q => by cases q))
  | dK z => exact .dK (e _ _ z (fun _ q => by cases q))
section
variable {P : Program} {w : World} {K : PySem.W.Frag} {mg : Str → Option Value} {base : Heap} {A : Adr}
theorem wnew {H : Hp} {a p : Addr} {B : Nat} {o : HO} (h : WellAt H a B) (hp : H p = none) : WellAt (upd H p o) a B := by
  obtain ⟨xs, hx⟩ := h.lst
  exact h.same (upd_ne (ne_of_none hx hp))
theorem wne {H : Hp} {a p : Addr} {B : Nat} (h : WellAt H a B) (hp : H p = none) : p ≠ a := by
  obtain ⟨xs, hx⟩ := h.lst
  exact (ne_of_none hx hp).symm
/-- the names of the invalid parameters, as the law collects them -/
def badV (fr sl st : V) : List V :=
  (if (!(okP 64 1 fr)) = true then [V.str "frames"] else []) ++ (if (!(okP 256 0 sl)) = true then [V.str "slots"] else []) ++ (if decide (isB st = false ∨ (st = .bl true ∧ (fr = .non ∨ sl = .non))) = true then [V.str "strict"] else [])
theorem badV_none {fr sl st : V} (h : badP fr sl st = none) : badV fr sl st = [] := by
  unfold badP at h
  unfold badV
  by_cases h1 : okP 64 1 fr = false
  · rw [if_pos h1] at h; cases h
  · rw [if_neg h1] at h
    by_cases h2 : okP 256 0 sl = false
    · rw [if_pos h2] at h; cases h
    · rw [if_neg h2] at h
      by_cases h3 : isB st = false ∨ (st = .bl true ∧ (fr = .non ∨ sl = .non))
      · rw [if_pos h3] at h; cases h
      · have e1 : okP 64 1 fr = true := by simpa using h1
        have e2 : okP 256 0 sl = true := by simpa using h2
        rw [e1, e2, decide_eq_false h3]
        rfl
theorem badV_some {fr sl st : V} {pt : Str} (h : badP fr sl st = some pt) : ∃ r, badV fr sl st = .str pt :: r ∧ r.length ≤ 2 ∧ PyData.strOk pt = true ∧ ∀ v ∈ r, ∃ z, v = .str z ∧ PyData.strOk z = true := by
  unfold badP at h
  unfold badV
  by_cases h1 : okP 64 1 fr = false
  · rw [if_pos h1] at h
    cases h
    rw [h1]
    refine ⟨_, rfl, ?_, by decide +kernel, ?_⟩
    · split <;> split <;> decide
    · intro v hv
      split at hv <;> split at hv <;> simp at hv
      · rcases hv with rfl | rfl <;> exact ⟨_, rfl, by decide +kernel⟩
      · exact ⟨_, hv, by decide +kernel⟩
      · exact ⟨_, hv, by decide +kernel⟩
  · have e1 : okP 64 1 fr = true := by simpa using h1
    rw [if_neg h1] at h
    rw [e1]
    by_cases h2 : okP 256 0 sl = false
    · rw [if_pos h2] at h
      cases h
      rw [h2]
      refine ⟨_, rfl, ?_, by decide +kernel, ?_⟩
      · split <;> decide
      · intro v hv
        split at hv <;> simp at hv
        exact ⟨_, hv, by decide +kernel⟩
    · have e2 : okP 256 0 sl = true := by simpa using h2
      rw [if_neg h2] at h
      rw [e2]
      by_cases h3 : isB st = false ∨ (st = .bl true ∧ (fr = .non ∨ sl = .non))
      · rw [if_pos h3] at h
        cases h
        rw [decide_eq_true h3]
        exact ⟨_, rfl, Nat.zero_le _, by decide +kernel, fun v hv => (nomatch hv)⟩
      · rw [if_neg h3] at h; cases h
theorem if_app {K : PySem.W.Frag} {c : TT} {D : Ends} {σ : St} {H : Hp} {i : Nat} {l : Addr} {xs : List V} {v : V} (b : Bool) (hi : σ[i]? = some (some (.ref l))) (hl : H l = some (.lst xs)) (hx : xs.length < 100)
    (hc : ∀ Q : Bool → Hp → Prop, Q b H → c σ H Q) (k : ∀ H', But l H H' → H' l = some (.lst (xs ++ if b = true then [v] else [])) → D.nx σ H') :
    tIfS c (tDrop (tBM K "list" rAppend (tVar i) (tCons (tC v) tNil))) tNext D σ H := by
  refine if_raise b hc (fun e => ?_) (fun e => ?_)
  · refine ⟨_, hi, .inl ⟨rfl, _, SqL.of hl⟩, l, xs, v, rfl, rfl, hl, Nat.lt_of_lt_of_le hx (by decide), k _ But.up ?_⟩
    rw [upd_same, if_pos e]
  · refine k H (fun _ _ _ q => q) ?_
    rw [if_neg (by rw [e]; decide), List.append_nil]
    exact hl
/-- the three tests -/
theorem test_ok {E : XK} {σ : St} {H : Hp} {i : Nat} {v : V} {lo hi : Int} (h0 : σ[i]? = some (some v)) (hv : AnyV H v) (Q : Bool → Hp → Prop) (q : Q (!(okP hi lo v)) H) :
    tAnd (tTest (tOp (fun x y H Q => y = V.non ∧ Q (V.bl !decide (x = V.non)) H) (tVar i) (tC V.non))) (tNot (tB (tCall spIn [] E (tCons (tVar i) (tCons (tC (.int lo)) (tCons (tC (.int hi)) tNil)))))) σ H Q := by
  refine ⟨_, h0, rfl, _, rfl, ?_⟩
  by_cases c : v = .non
  · rw [decide_eq_true c]
    refine iteF ?_
    have z : okP hi lo v = true := by unfold okP; rw [decide_eq_true c]; rfl
    rw [z] at q
    exact q
  · rw [decide_eq_false c]
    refine iteT ⟨_, h0, v, lo, hi, rfl, hv, _, rfl, ?_⟩
    have z : okP hi lo v = inR lo hi v := by unfold okP; rw [decide_eq_false c]; rfl
    rw [z] at q
    exact q
theorem test_st {K : PySem.W.Frag} {σ : St} {H : Hp} {i j k : Nat} {fr sl st : V} (h0 : σ[i]? = some (some st)) (h1 : σ[j]? = some (some fr)) (h2 : σ[k]? = some (some sl)) (ht : AnyV H st)
    (Q : Bool → Hp → Prop) (q : Q (decide (isB st = false ∨ (st = .bl true ∧ (fr = .non ∨ sl = .non)))) H) :
    tOr (tNot (tB (tCB (rIsi K) (tCons (tVar i) (tCons (tC (.ty "bool")) tNil))))) (tAnd (tB (tVar i)) (tOr (tTest (tOp (fun x y H Q => y = V.non ∧ Q (V.bl (decide (x = V.non))) H) (tVar j) (tC V.non))) (tTest (tOp (fun x y H Q => y = V.non ∧ Q (V.bl (decide (x = V.non))) H) (tVar k) (tC V.non))))) σ H Q := by
  obtain ⟨ty, q1, q2, q3, _⟩ := ht.ty (K := K)
  refine ⟨_, h0, st, .ty "bool", _, _, _, rfl, .ty "bool", q1, q3, _, rfl, ?_⟩
  cases cb : isB st with
  | false =>
    refine iteT ?_
    have z : decide (isB st = false ∨ (st = .bl true ∧ (fr = .non ∨ sl = .non))) = true := decide_eq_true (.inl cb)
    rw [z] at q
    exact q
  | true =>
    refine iteF ?_
    obtain ⟨b, rfl⟩ : ∃ b, st = V.bl b := by cases st <;> first | exact ⟨_, rfl⟩ | (cases cb; done)
    refine ⟨_, h0, _, rfl, ?_⟩
    cases b with
    | false =>
      refine iteF ?_
      have z : decide (isB (.bl false) = false ∨ (V.bl false = .bl true ∧ (fr = .non ∨ sl = .non))) = false := decide_eq_false (by simp [isB])
      rw [z] at q
      exact q
    | true =>
      refine iteT ⟨_, h1, rfl, _, rfl, ?_⟩
      by_cases c : fr = .non
      · rw [decide_eq_true c]
        refine iteT ?_
        have z : decide (isB (.bl true) = false ∨ (V.bl true = .bl true ∧ (fr = .non ∨ sl = .non))) = true := decide_eq_true (by simp [c])
        rw [z] at q
        exact q
      · rw [decide_eq_false c]
        refine iteF ⟨_, h2, rfl, _, rfl, ?_⟩
        have z : decide (isB (.bl true) = false ∨ (V.bl true = .bl true ∧ (fr = .non ∨ sl = .non))) = decide (sl = .non) := by simp [isB, c]
        rw [z] at q
        exact q
def spRight (A : Adr) : Sp := fun vs H Q _ => ∃ (a : Addr) (B : Nat), vs = [.ref a] ∧ WellAt H a B ∧ B + 20 ≤ 1000000000 ∧ LamX.Tabs (TS A) H ∧
  ∀ H', Frm (· = a) H H' → LamX.Tabs (TS A) H' → WellAt H' a (B + 5) → Q (.bl true) H'
theorem ok__law_system_right (G : Txt K mg A) (TB : Tb2 base mg A) : FnOk P w K mg base CX0 7 A.a__law_system_right A.fd__law_system_right p__law_system_right (spRight A) := by
  obtain ⟨mv, hKB⟩ := init_kbinds G
  obtain ⟨ocS, odS, kvS, docS, pmS, anS, cdS, ctS, oslS, hfd, lkS, hcS⟩ := G.f__law_said.ex
  have hbS := G.bi__law_said
  rw [hfd] at lkS hbS
  refine G.fl__law_system_right.ok sc__law_system_right (fun vs H Q E h => ?_) (fun A' outer s H vs Q E hr h => ?_)
  · obtain ⟨a, B, rfl, _⟩ := h
    rfl
  · obtain ⟨a, B, rfl, hw, hB, hT, k⟩ := h
    refine ⟨_, (pss_cons (ps_set (i := 1) sc__law_system_right.nd rfl (Or.inr rfl) (pe_call (ok__law_one G) (hr.mono (by decide)) rfl G.g__law_one G.k__law_one G.bi__law_one .nil pass0 (pa_cons (pv 0) (pa_cons (pe_lst (pa_cons pe_non (pa_cons pe_int (pa_cons pe_int (pa_cons pe_int (pa_cons pe_int (pa_cons (pe_un un_neg pe_int) (pa_cons pe_str (pa_cons (pe_cmpR op_eq pe_int pe_int (nomark _)) (pa_cons (pe_lst pa_nil) (pa_cons pe_dnewK (pa_cons (pe_op op_add pe_int (pe_call (ok__law_draw G) (hr.mono (by decide)) rfl G.g__law_draw G.k__law_draw G.bi__law_draw .nil pass0 (pa_cons (pv 0) (pa_cons pe_int pa_nil)))) pa_nil)))))))))))) pa_nil))))
  (pss_cons (ps_set (i := 2) sc__law_system_right.nd rfl (Or.inr rfl) (pe_call (ok__law_one G) (hr.mono (by decide)) rfl G.g__law_one G.k__law_one G.bi__law_one .nil pass0 (pa_cons (pv 0) (pa_cons (pe_lst (pa_cons pe_non (pa_cons pe_int (pa_cons pe_int (pa_cons pe_int (pa_cons (pe_un un_neg pe_int) (pa_cons pe_str (pa_cons (pe_cmpR op_eq pe_int pe_int (nomark _)) (pa_cons (pe_lst pa_nil) (pa_cons pe_dnewK (pa_cons (pe_call (ok__law_draw G) (hr.mono (by decide)) rfl G.g__law_draw G.k__law_draw G.bi__law_draw .nil pass0 (pa_cons (pv 0) (pa_cons pe_int pa_nil))) pa_nil))))))))))) pa_nil))))
  (pss_cons (ps_set (i := 3) sc__law_system_right.nd rfl (Or.inr rfl) (pe_call (ok__law_one G) (hr.mono (by decide)) rfl G.g__law_one G.k__law_one G.bi__law_one .nil pass0 (pa_cons (pv 0) (pa_cons (pe_lst (pa_cons (pe_cmpR op_eq pe_int pe_int (nomark _)) (pa_cons (pe_cmpR op_eq pe_int pe_int (nomark _)) (pa_cons (pe_cmpR op_eq pe_int pe_int (nomark _)) (pa_cons pe_non (pa_cons pe_int (pa_cons pe_int (pa_cons pe_str (pa_cons (pe_lst pa_nil) (pa_cons pe_dnewK pa_nil)))))))))) pa_nil))))
  (pss_cons (ps_set (i := 4) sc__law_system_right.nd rfl (Or.inl rfl) (pe_lst pa_nil))
  (pss_cons (ps_if (PW.pt (pw_and (pt_cmpR op_notN (pv 1) pe_non (nomark _)) (pw_and1 (pt_not (pt_val (pe_call (ok__law_is_number G) (hr.mono (by decide)) rfl G.g__law_is_number G.k__law_is_number G.bi__law_is_number .nil pass0 (pa_cons (pv 1) (pa_cons pe_int (pa_cons pe_int pa_nil))))))))) (pss_one (ps_expr (pe_bm PySem.F.plainAttrs_list PySem.F.slot_list_append PySem.F.type_list_append mt_append (pv 4) (pa_cons pe_str pa_nil)))) pss_nil)
  (pss_cons (ps_if (PW.pt (pw_and (pt_cmpR op_notN (pv 2) pe_non (nomark _)) (pw_and1 (pt_not (pt_val (pe_call (ok__law_is_number G) (hr.mono (by decide)) rfl G.g__law_is_number G.k__law_is_number G.bi__law_is_number .nil pass0 (pa_cons (pv 2) (pa_cons pe_int (pa_cons pe_int pa_nil))))))))) (pss_one (ps_expr (pe_bm PySem.F.plainAttrs_list PySem.F.slot_list_append PySem.F.type_list_append mt_append (pv 4) (pa_cons pe_str pa_nil)))) pss_nil)
  (pss_cons (ps_if (PW.pt (pw_or (pt_not (pt_val (pe_callB call_isi (by rfl) G.b_isinstance (by decide +kernel) (pa_cons (pv 3) (pa_cons (pe_bltn (v := .ty "bool") (u := .type "bool") (by rfl) G.b_bool (by decide +kernel) rfl) pa_nil))))) (pw_or1 (PW.pt (pw_and (pt_val (pv 3)) (pw_and1 (PW.pt (pw_or (pt_cmpR op_isN (pv 1) pe_non (nomark _)) (pw_or1 (pt_cmpR op_isN (pv 2) pe_non (nomark _))))))))))) (pss_one (ps_expr (pe_bm PySem.F.plainAttrs_list PySem.F.slot_list_append PySem.F.type_list_append mt_append (pv 4) (pa_cons pe_str pa_nil)))) pss_nil)
  (pss_cons (ps_set (i := 5) sc__law_system_right.nd rfl (Or.inl rfl) (LamX.pe_lamcall (T := TS A) (TT := TTs A) (k := 4) rfl G.g__law_said G.k__law_said lkS hcS hbS sc__law_said rfl (Or.inl rfl) (said_gives G) TB.r rfl (List.mem_cons_of_mem _ (List.mem_singleton.mpr rfl)) (TS_r TB) (hr.mono (by decide)) (LamX.lamS_by (sc := defScope s__law_system_right) (by decide +kernel)) rfl (fun _ _ _ _ _ => rfl) (fun A2 outer2 s2 H2 E2 f2 c2 hr => by exact (pe_makeK0 G.mk_System (ok_System_init G) (hr.mono (by decide)) rfl G.g_System hKB (passes_call (takes_of rfl rfl rfl rfl) (fun _ _ _ _ z => z)) (pk_cons (pv 1) (pk_cons (pv 2) (pk_cons (pv 3) pk_nil)))))))
  (pss_cons (ps_if (pt_cmpR (op_neD (hu64 hr)) (pv 4) (pe_lst pa_nil) (nomark _)) (pss_one (ps_ret (pe_cmpR (op_eqTupS (hu0 hr)) (pv 5) (pe_tup (pa_cons pe_str (pa_cons (pe_ix ix_list (pv 4) pe_int (fun _ _ => rfl)) pa_nil))) (nomark _)))) pss_nil)
  (pss_one (ps_ret (pe_and (pe_cmpR (op_eqD (hu64 hr)) (pe_call (ok_processes G) (hr.mono (by decide)) rfl G.g_processes G.k_processes G.bi_processes .nil pass0 (pa_cons (pv 5) pa_nil)) (pe_lst pa_nil) (nomark _)) (pe_one (pe_cmpR op_eq (pe_call (ok_now G) (hr.mono (by decide)) rfl G.g_now G.k_now G.bi_now .nil pass0 (pa_cons (pv 5) pa_nil)) pe_int (nomark _))))))))))))))), ?_⟩
    obtain ⟨xw, hxw⟩ := hw.lst
    refine ⟨_, rfl, _, rfl, rfl, Nat.zero_le _, fun p1 hp1 => fun p2 hp2 => ⟨_, rfl, ?_⟩⟩
    have s1 : Same H (upd (upd H p1 (.lst [])) p2 (.dK [])) := (Same.new hp1).trans (Same.new hp2)
    have wa := wnew (o := .dK []) (wnew (o := .lst []) hw hp1) hp2
    refine ⟨a, 64, B, rfl, by decide, by decide, wa, by omega, fun d1 H1 _ _ f1 w1 => ⟨1, d1, rfl, rfl, (by show 11 ≤ sizeLine; decide), fun q1 hq1 => ?_⟩⟩
    refine ⟨a, q1, _, B + 1, rfl, upd_same, wne w1 hq1, (by show 0 < 11; decide), (by show 11 < 1000; decide), wnew w1 hq1, by omega, fun one H2 hone f2 w2 => ?_⟩
    have l1 : H1 p1 = some (.lst []) := f1 _ _ (wne hw hp1) (by rw [upd_ne (ne_of_none upd_same hp2), upd_same])
    have l2 : H1 p2 = some (.dK []) := f1 _ _ (wne (wnew (o := .lst []) hw hp1) hp2) upd_same
    have aone : AnyV H2 one ∧ one ≠ .ref a := by
      have n1 : V.ref p1 ≠ V.ref a := fun z => wne hw hp1 (V.ref.inj z)
      have n2 : V.ref p2 ≠ V.ref a := fun z => wne (wnew (o := .lst []) hw hp1) hp2 (V.ref.inj z)
      have g1 : H2 p1 = some (.lst []) := f2 _ _ (fun z => n1 (by rw [z])) (by rw [upd_ne (ne_of_none l1 hq1)]; exact l1)
      have g2 : H2 p2 = some (.dK []) := f2 _ _ (fun z => n2 (by rw [z])) (by rw [upd_ne (ne_of_none l2 hq1)]; exact l2)
      simp only [List.mem_cons, List.not_mem_nil, or_false] at hone
      rcases hone with rfl | rfl | rfl | rfl | rfl | rfl | rfl | rfl | rfl | rfl | rfl
      · exact ⟨.non, by simp⟩
      · exact ⟨.int _, by simp⟩
      · exact ⟨.int _, by simp⟩
      · exact ⟨.int _, by simp⟩
      · exact ⟨.int _, by simp⟩
      · exact ⟨.int _, by simp⟩
      · exact ⟨.str _, by simp⟩
      · exact ⟨.bl _, by simp⟩
      · exact ⟨.lst g1, n1⟩
      · exact ⟨.dK g2, n2⟩
      · exact ⟨.int _, by simp⟩
    have F1 : Frm (· = a) H H2 := (Frm.same s1).trans ((Frm.but f1).trans ((Frm.same (Same.new hq1)).trans (Frm.but f2)))
    have T1 : LamX.Tabs (TS A) H2 := by
      obtain ⟨x1, hx1⟩ := wa.lst
      obtain ⟨x2, hx2⟩ := (wnew (o := .lst [V.non, V.int 1, V.int 64, V.int 0, V.int 65, V.int (-1), V.str "4", V.bl (decide (V.int 1 = V.int 1)), V.ref p1, V.ref p2, V.int (1 + d1)]) w1 hq1).lst
      exact tabs_but (tabs_same (tabs_but (tabs_same hT s1) f1 hx1) (Same.new hq1)) f2 hx2
    clear hT s1 wa f1 w1 hq1 f2 l1 l2
    -- two
    refine ⟨_, rfl, _, rfl, rfl, Nat.zero_le _, fun p3 hp3 => fun p4 hp4 => ⟨_, rfl, ?_⟩⟩
    have s2 : Same H2 (upd (upd H2 p3 (.lst [])) p4 (.dK [])) := (Same.new hp3).trans (Same.new hp4)
    have wb := wnew (o := .dK []) (wnew (o := .lst []) w2 hp3) hp4
    refine ⟨a, 257, _, rfl, by decide, by decide, wb, by omega, fun d2 H3 _ _ f3 w3 => ⟨(by show 10 ≤ sizeLine; decide), fun q2 hq2 => ?_⟩⟩
    refine ⟨a, q2, _, _, rfl, upd_same, wne w3 hq2, (by show 0 < 10; decide), (by show 10 < 1000; decide), wnew w3 hq2, by omega, fun two H4 htwo f4 w4 => ?_⟩
    have l3 : H3 p3 = some (.lst []) := f3 _ _ (wne w2 hp3) (by rw [upd_ne (ne_of_none upd_same hp4), upd_same])
    have l4 : H3 p4 = some (.dK []) := f3 _ _ (wne (wnew (o := .lst []) w2 hp3) hp4) upd_same
    have atwo : AnyV H4 two ∧ two ≠ .ref a := by
      have n1 : V.ref p3 ≠ V.ref a := fun z => wne w2 hp3 (V.ref.inj z)
      have n2 : V.ref p4 ≠ V.ref a := fun z => wne (wnew (o := .lst []) w2 hp3) hp4 (V.ref.inj z)
      have g1 : H4 p3 = some (.lst []) := f4 _ _ (fun z => n1 (by rw [z])) (by rw [upd_ne (ne_of_none l3 hq2)]; exact l3)
      have g2 : H4 p4 = some (.dK []) := f4 _ _ (fun z => n2 (by rw [z])) (by rw [upd_ne (ne_of_none l4 hq2)]; exact l4)
      simp only [List.mem_cons, List.not_mem_nil, or_false] at htwo
      rcases htwo with rfl | rfl | rfl | rfl | rfl | rfl | rfl | rfl | rfl | rfl
      · exact ⟨.non, by simp⟩
      · exact ⟨.int _, by simp⟩
      · exact ⟨.int _, by simp⟩
      · exact ⟨.int _, by simp⟩
      · exact ⟨.int _, by simp⟩
      · exact ⟨.str _, by simp⟩
      · exact ⟨.bl _, by simp⟩
      · exact ⟨.lst g1, n1⟩
      · exact ⟨.dK g2, n2⟩
      · exact ⟨.int _, by simp⟩
    have F2 : Frm (· = a) H2 H4 := (Frm.same s2).trans ((Frm.but f3).trans ((Frm.same (Same.new hq2)).trans (Frm.but f4)))
    have T2 : LamX.Tabs (TS A) H4 := by
      obtain ⟨x1, hx1⟩ := wb.lst
      obtain ⟨x2, hx2⟩ := (wnew (o := .lst [V.non, V.int 0, V.int 256, V.int 257, V.int (-1), V.str "4", V.bl (decide (V.int 1 = V.int 0)), V.ref p3, V.ref p4, V.int d2]) w3 hq2).lst
      exact tabs_but (tabs_same (tabs_but (tabs_same T1 s2) f3 hx1) (Same.new hq2)) f4 hx2
    have aone2 : AnyV H4 one := aone.1.frm aone.2 F2
    clear T1 s2 wb f3 w3 hq2 f4 l3 l4
    -- three
    refine ⟨_, rfl, rfl, rfl, rfl, Nat.zero_le _, fun p5 hp5 => fun p6 hp6 => ⟨(by show 9 ≤ sizeLine; decide), fun q3 hq3 => ?_⟩⟩
    have s3 : Same H4 (upd (upd H4 p5 (.lst [])) p6 (.dK [])) := (Same.new hp5).trans (Same.new hp6)
    have wc := wnew (o := .dK []) (wnew (o := .lst []) w4 hp5) hp6
    refine ⟨a, q3, _, _, rfl, upd_same, wne wc hq3, (by show 0 < 9; decide), (by show 9 < 1000; decide), wnew wc hq3, by omega, fun thr H5 hthr f5 w5 => ?_⟩
    have athr : AnyV H5 thr ∧ thr ≠ .ref a := by
      have n1 : V.ref p5 ≠ V.ref a := fun z => wne w4 hp5 (V.ref.inj z)
      have n2 : V.ref p6 ≠ V.ref a := fun z => wne (wnew (o := .lst []) w4 hp5) hp6 (V.ref.inj z)
      have g1 : H5 p5 = some (.lst []) := f5 _ _ (fun z => n1 (by rw [z])) (Same.new hq3 _ _ (by rw [upd_ne (ne_of_none upd_same hp6), upd_same]))
      have g2 : H5 p6 = some (.dK []) := f5 _ _ (fun z => n2 (by rw [z])) (Same.new hq3 _ _ upd_same)
      simp only [List.mem_cons, List.not_mem_nil, or_false] at hthr
      rcases hthr with rfl | rfl | rfl | rfl | rfl | rfl | rfl | rfl | rfl
      · exact ⟨.bl _, by simp⟩
      · exact ⟨.bl _, by simp⟩
      · exact ⟨.bl _, by simp⟩
      · exact ⟨.non, by simp⟩
      · exact ⟨.int _, by simp⟩
      · exact ⟨.int _, by simp⟩
      · exact ⟨.str _, by simp⟩
      · exact ⟨.lst g1, n1⟩
      · exact ⟨.dK g2, n2⟩
    have F3 : Frm (· = a) H4 H5 := (Frm.same s3).trans ((Frm.same (Same.new hq3)).trans (Frm.but f5))
    have T3 : LamX.Tabs (TS A) H5 := by
      obtain ⟨x2, hx2⟩ := (wnew (o := .lst [V.bl (decide (V.int 1 = V.int 1)), V.bl (decide (V.int 1 = V.int 0)), V.bl (decide (V.int 1 = V.int 0)), V.non, V.int 0, V.int 1, V.str "", V.ref p5, V.ref p6]) wc hq3).lst
      exact tabs_but (tabs_same (tabs_same T2 s3) (Same.new hq3)) f5 hx2
    have aone3 : AnyV H5 one := aone2.frm aone.2 F3
    have atwo3 : AnyV H5 two := atwo.1.frm atwo.2 F3
    have F5 : Frm (· = a) H H5 := F1.trans (F2.trans F3)
    clear T2 s3 wc hq3 f5 aone2 F1 F2 F3
    generalize hN : B + 1 + 1 + 1 + 1 + 1 = N5 at w5
    obtain rfl : N5 = B + 5 := by omega
    -- bad = []
    refine ⟨Nat.zero_le _, fun pb hpb => ?_⟩
    have w6 := wnew (o := .lst []) w5 hpb
    refine if_app (!(okP 64 1 one)) rfl upd_same (by decide) (test_ok rfl (aone3.same (Same.new hpb))) (fun H6 f6 b6 => ?_)
    dsimp only
    have npa : pb ≠ a := wne w5 hpb
    have g6 : But pb H5 H6 := fun b o n e => f6 b o n (Same.new hpb b o e)
    have anyB : ∀ {H' : Hp} {v : V}, But pb H5 H' → AnyV H5 v → AnyV H' v := fun g h => h.but (fun z => by
      rw [z] at h
      cases h with
      | lst e => rw [hpb] at e; cases e
      | tup e => rw [hpb] at e; cases e
      | dK e => rw [hpb] at e; cases e) g
    have lenB : ∀ (b1 b2 : Bool) (u v : V), (([] ++ if b1 = true then [u] else []) ++ if b2 = true then [v] else []).length < 100 := fun b1 b2 u v => by cases b1 <;> cases b2 <;> (simp)
    refine if_app (!(okP 256 0 two)) rfl b6 (by cases (!okP 64 1 one) <;> simp) (test_ok rfl (anyB g6 atwo3)) (fun H7 f7 b7 => ?_)
    dsimp only
    have g7 : But pb H5 H7 := g6.trans f7
    refine if_app (decide (isB thr = false ∨ (thr = .bl true ∧ (one = .non ∨ two = .non)))) rfl b7 (lenB _ _ _ _) (test_st rfl rfl rfl (anyB g7 athr.1)) (fun H8 f8 b8 => ?_)
    dsimp only
    have g8 : But pb H5 H8 := g7.trans f8
    have b8 : H8 pb = some (.lst (badV one two thr)) := b8
    have w8 : WellAt H8 a (B + 5) := by
      obtain ⟨w0, w1, w2, h1, h2⟩ := w5
      exact ⟨w0, w1, w2, g8 _ _ (Ne.symm npa) h1, h2⟩
    have s8 : Same H5 H8 := fun b o e => g8 b o (ne_of_none e hpb) e
    have T8 : LamX.Tabs (TS A) H8 := tabs_same T3 s8
    clear T3 f6 f7 f8 g6 g7 g8 b6 b7 w6
    have F8 : Frm (· = a) H H8 := F5.trans (Frm.same s8)
    have fin : ∀ H', Frm (· = a) H8 H' → LamX.Tabs (TS A) H' → H' a = H8 a → Q (V.bl true) H' := fun H' f t e => k H' (F8.trans f) t (w8.same e)
    -- told = _law_said(lambda: ..)
    refine ⟨T8, fun H9 e9 T9 => ?_⟩
    obtain ⟨xa, hxa⟩ := w8.lst
    have a9 : H9 a = some (.lst xa) := e9 _ _ hxa (fun _ q => by cases q)
    have p9 : H9 pb = some (.lst (badV one two thr)) := e9 _ _ b8 (fun _ q => by cases q)
    refine ⟨_, rfl, _, rfl, _, rfl, rfl, rfl, fun x dx hx hdx hne => ?_⟩
    have sN : Same H9 (upd (upd H9 dx (.own x)) x (.ins A.c_System dx [])) := (Same.new hdx).trans (Same.new (by rw [upd_ne (Ne.symm hne)]; exact hx))
    have any9 : ∀ {v : V}, AnyV H5 v → AnyV (upd (upd H9 dx (.own x)) x (.ins A.c_System dx [])) v := fun h => ((h.same s8).ext e9).same sN
    have F9 : ∀ {H'}, Same H9 H' → Frm (· = a) H8 H' := fun z => (Frm.ext e9).trans (Frm.same z)
    have A9 : ∀ {H'}, Same H9 H' → H' a = H8 a := fun z => by rw [hxa]; exact z _ _ a9
    refine ⟨x, dx, one, two, thr, rfl, any9 aone3, any9 atwo3, any9 athr.1, upd_same, fun hb H10 wh τ f10 _ e10 t10 _ _ => ⟨rfl, ?_⟩, fun pt hp d H10 s10 d0 e10 => .inl ⟨rfl, d, .str pt, rfl, e10, fun p hp2 => ?_⟩⟩
    · have s10 : Same H9 H10 := fun b o e => f10 b o (ne_of_none e hx) (sN b o e)
      have p10 := s10 _ _ p9
      rw [badV_none hb] at p10
      refine ⟨_, rfl, Nat.zero_le _, fun e1 he1 => ?_⟩
      refine ⟨.list [], .list [], .lst (SqL.of (Same.new he1 _ _ p10)) .nil, .lst (SqL.of upd_same) .nil, rfl, rfl, _, rfl, iteF ?_⟩
      have sB := Same.new (o := .lst []) he1
      refine ⟨_, rfl, x, wh.dx, wh.t, sysG one two thr wh, [], fun _ => none, rfl, sB _ _ e10, rfl, sB _ _ t10, DI.nil, fun q ys hq _ hys => ⟨Nat.zero_le _, fun q2 hq2 => ?_⟩⟩
      obtain rfl : ys = [] := by
        cases ys with
        | nil => rfl
        | cons y r =>
          have := (hys y).mp List.mem_cons_self
          cases this
      refine ⟨.list [], .list [], .lst (SqL.of (Same.new hq2 _ _ upd_same)) .nil, .lst (SqL.of upd_same) .nil, rfl, rfl, _, rfl, iteT ?_⟩
      have sC := (Same.new (o := .lst (([] : List Int).map V.int)) hq).trans (Same.new (o := .lst []) hq2)
      have s12 := (s10.trans sB).trans sC
      exact ⟨_, rfl, x, wh.dx, sysG one two thr wh, .int 0, rfl, sC _ _ (sB _ _ e10), rfl, rfl, fin _ (F9 s12) (tabs_same T9 s12) (A9 s12)⟩
    · have s11 : Same H9 H10 := sN.trans s10
      have p11 := Same.new (o := .tup [.str "system", .str pt]) hp2 _ _ (s11 _ _ p9)
      obtain ⟨r, er, lr, ok0, hr2⟩ := badV_some hp
      rw [er] at p11
      refine ⟨_, rfl, Nat.zero_le _, fun e1 he1 => ?_⟩
      have p12 := Same.new (o := .lst []) he1 _ _ p11
      have dp : ∃ ds, DpAll K (upd (upd H10 p (.tup [.str "system", .str pt])) e1 (.lst [])) r ds ∧ SeqAt.shaped (.list (.str pt :: ds)) = true := by
        match r, lr, hr2 with
        | [], _, _ => exact ⟨[], .nil, by simp [SeqAt.shaped, PyData.canLay0, PyData.canLayAll0, PyData.depth, PyData.depthAll, ok0]⟩
        | [v], _, h =>
          obtain ⟨z, rfl, ok1⟩ := h v (by simp)
          exact ⟨_, .cons (.str z) .nil, by simp [SeqAt.shaped, PyData.canLay0, PyData.canLayAll0, PyData.depth, PyData.depthAll, ok0, ok1]⟩
        | [v, v2], _, h =>
          obtain ⟨z, rfl, ok1⟩ := h v (by simp)
          obtain ⟨z2, rfl, ok2⟩ := h v2 (by simp)
          exact ⟨_, .cons (.str z) (.cons (.str z2) .nil), by simp [SeqAt.shaped, PyData.canLay0, PyData.canLayAll0, PyData.depth, PyData.depthAll, ok0, ok1, ok2]⟩
      obtain ⟨ds, d1, d2⟩ := dp
      refine ⟨.list (.str pt :: ds), .list [], .lst (SqL.of p12) (.cons (.str pt) d1), .lst (SqL.of upd_same) .nil, d2, rfl, _, rfl, ?_⟩
      have z : (!PyData.eqv (.list (.str pt :: ds)) (.list [])) = true := rfl
      rw [z]
      refine iteT ?_
      refine ⟨_, rfl, _, rfl, pb, _, 0, .str pt, rfl, rfl, SqL.of p12, (by simp [atI, ixN]), (by show 2 ≤ sizeLine; decide), fun p2 hp3 => ?_⟩
      have s13 := ((s11.trans (Same.new (o := .tup [.str "system", .str pt]) hp2)).trans (Same.new (o := .lst []) he1)).trans (Same.new (o := .tup [.str "system", .str pt]) hp3)
      exact ⟨p, p2, _, rfl, rfl, SqT.of (Same.new hp3 _ _ (Same.new he1 _ _ upd_same)), SqT.of upd_same, rfl, fin _ (F9 s13) (tabs_same T9 s13) (A9 s13)⟩
end
end My
set_option Elab.async false
set_option linter.all false
set_option maxRecDepth 100000
set_option maxHeartbeats 4000000
namespace My
open PySem L2
local macro_rules | `(tactic| walk_at "ds") => `(tactic| dsimp only [tSeq, tIfS, tTest, tB, tAnd, tOr, tNot, tAndV, tOrV, tNotV, tIf, tIsN, tNotN, tOp, tUn, tChain, rI, rI0, rU, tC, tCB, tCons, tNil, tAsg, gName, gSub, tRet, tRetN, tNext, tDrop, tLst, tTup, rIxL, rIxT, rSetL, tVar, tFld, tCall, tDGet, tDIn, tDNotIn, tNever, L2.start, List.map, List.replicate, List.length, List.append, List.cons_append, List.nil_append, List.set, Nat.sub])
local macro_rules | `(tactic| walk_at "hp") => `(tactic| first | assumption | exact upd_same | (refine Eq.trans (upd_ne (by first | assumption | (apply Ne.symm; assumption))) ?_; walk_at "hp"))
local macro_rules | `(tactic| walk_at "sd") => `(tactic| first
  | (show (_ : Int) ≠ 0; omega)
  | (refine (show CDivN _ _ from ⟨?_, ?_⟩) <;> omega)
  | (show CPow _ _; refine ⟨by omega, by omega, by omega⟩)
  | (show CMul _ _; exact Or.inl ⟨by omega, by omega⟩)
  | (show CMul _ _; exact Or.inr ⟨by omega, by omega⟩))
local macro_rules | `(tactic| walk_at "st") => `(tactic| first
  | refine ⟨_, rfl, ?_⟩
  | refine ⟨_, _, rfl, rfl, (by walk_at "sd"), ?_⟩
  | refine ⟨_, _, rfl, rfl, ?_⟩
  | refine ⟨_, _, _, _, rfl, rfl, SqL.of (by walk_at "hp"), rfl, ?_⟩
  | refine ⟨_, _, _, _, rfl, rfl, (by walk_at "hp"), rfl, ?_⟩
  | refine .inl ⟨_, rfl, ?_⟩
  | refine ⟨_, _, _, _, _, rfl, (by walk_at "hp"), (by assumption), (by assumption), rfl, ?_⟩
  | refine ⟨_, _, rfl, .inl (SqL.of (by walk_at "hp")), ?_⟩)
local macro_rules | `(tactic| walk_at "go") => `(tactic| repeat (first | walk_at "st" | (walk_at "ds"; walk_at "st")))
local macro_rules | `(tactic| walk_at "ni") => `(tactic| dsimp (config := { proj := false }) only [tNil, List.cons_append, List.nil_append])
structure St3 (A : Adr) (a x : Addr) (wh : Wh) (H : Hp) (S : Sys) (τ : Tm) (B : Nat) : Prop where
  tb : LamX.Tabs (TS A) H
  wl : WellAt H a B
  sy : Sr A H x wh S τ
  ta : τ a = none
theorem kp_frm {CS CP CH : Addr} {H H' : Hp} {a x : Addr} {w : Wh} {S : Sys} {τ : Tm} {cnt : Int → Int → Nat} {xs : List V} (h : SyA CS CP CH H x w S τ cnt) (ta : τ a = none) (ha : H a = some (.lst xs)) (f : Frm (· = a) H H') : Kp τ H H' := fun b o e c => by
  refine f b o (fun z => ?_) e (fun ps z => ?_)
  · rcases c with c | c
    · exact c (by rw [z]; exact ta)
    · rw [z, ha] at e; cases e; cases c
  · subst z
    rcases c with c | c
    · cases eg : τ b with
      | none => exact c eg
      | some g =>
        rcases h.own b g eg with q | ⟨o', q1, q2⟩
        · rw [q, h.hx] at e; cases e
        · rw [e] at q1; cases q1; cases q2
    · cases c
section
variable {A : Adr} {a x : Addr} {wh : Wh} {H H' : Hp} {S : Sys} {τ : Tm} {B B' : Nat}
theorem St3.frm (h : St3 A a x wh H S τ B) (f : Frm (· = a) H H') (w : WellAt H' a B') (t : LamX.Tabs (TS A) H') : St3 A a x wh H' S τ B' := by
  obtain ⟨xs, hx⟩ := h.wl.lst
  exact ⟨t, w, h.sy.keep (kp_frm h.sy h.ta hx f), h.ta⟩
theorem St3.same (h : St3 A a x wh H S τ B) (s : Same H H') : St3 A a x wh H' S τ B := by
  obtain ⟨xs, hx⟩ := h.wl.lst
  exact h.frm (Frm.same s) (h.wl.same ((s _ _ hx).trans hx.symm)) (h.tb.ext s)
theorem St3.ext (h : St3 A a x wh H S τ B) (e : LamX.ExtN H H') (t : LamX.Tabs (TS A) H') : St3 A a x wh H' S τ B := by
  obtain ⟨xs, hx⟩ := h.wl.lst
  exact h.frm (Frm.ext e) (h.wl.same ((e _ _ hx (fun _ z => by cases z)).trans hx.symm)) t
theorem St3.draw (h : St3 A a x wh H S τ B) (e : But a H H') (w : WellAt H' a B') : St3 A a x wh H' S τ B' := by
  obtain ⟨xs, hx⟩ := h.wl.lst
  exact h.frm (Frm.but e) w (tabs_but h.tb e hx)
theorem St3.mono (h : St3 A a x wh H S τ B) (e : B ≤ B') (e2 : B' ≤ 1000000) : St3 A a x wh H S τ B' := ⟨h.tb, h.wl.mono e (by omega), h.sy, h.ta⟩
theorem St3.go {S' : Sys} {τ' : Tm} (h : St3 A a x wh H S τ B) (g : Go τ H τ' H') (s : Sr A H' x wh S' τ') : St3 A a x wh H' S' τ' B := by
  obtain ⟨xs, hx⟩ := h.wl.lst
  refine ⟨Tabs.keep h.tb fun b o e => ?_, h.wl.same ((g.fr _ _ h.ta hx).trans hx.symm), s, ?_⟩
  · have tn : (∀ o', H b = some o' → isBox o' = false → (∀ C d fs, o' ≠ .ins C d fs) → τ b = none) := fun o' e' n1 n2 => by
      cases eg : τ b with
      | none => rfl
      | some t =>
        rcases h.sy.own b t eg with q | ⟨o2, q1, q2⟩
        · rw [q, h.sy.hx] at e'; cases e'; exact absurd rfl (n2 _ _ _)
        · rw [e'] at q1; cases q1; rw [n1] at q2; cases q2
    exact ⟨fun u q => g.fr b o (tn o e (by rw [q]; rfl) (by rw [q]; intro C d fs z; cases z)) e, fun ps q => g.fr b o (tn o e (by rw [q]; rfl) (by rw [q]; intro C d fs z; cases z)) e⟩
  · rcases g.ex a with z | z
    · exact z.trans h.ta
    · rw [hx] at z; cases z.2
end
def RzD (A : Adr) (t : Str) (y : V) (H : Hp) (E : XK) : Prop := t = "process" → Rz A.c_NoProcess "process" y H E
section
variable {K : PySem.W.Frag} {A : Adr} {a x : Addr} {wh : Wh} {H : Hp} {S : Sys} {τ : Tm} {B B' : Nat} {T : Tb}
/-- an error that is told and compared with what is due -/
theorem told_St {t' : XK → TE} {te : TE} {σ : St} {t : Str} {y : V} {Q : Bool → Hp → Prop} (Z : St3 A a x wh H S τ B) (sv : selfEq y = true)
    (hte : ∀ (H' : Hp) (Q' : VK), Frm (· = a) H H' → (∀ q2 H'', Same H' H'' → H'' q2 = some (.tup [.str t, y]) → Q' (.ref q2) H'') → te σ H' Q')
    (ht : ∀ (E : XK) (H' : Hp) (Q' : VK), Frm (· = a) H H' → St3 A a x wh H' S τ B → (∀ H3, Frm (· = a) H' H3 → St3 A a x wh H3 S τ B' → RzD A t y H3 E) → t' E σ H' Q')
    (k : ∀ H', Frm (· = a) H H' → St3 A a x wh H' S τ B' → Q false H') : tTest (tOp (rTupS K false) (LamX.tLam (TS A) (TTs A) t') te) σ H Q := by
  refine ⟨Z.tb, fun H1 e1 T1 => ?_⟩
  have Z1 := Z.ext e1 T1
  have F1 : Frm (· = a) H H1 := Frm.ext e1
  refine ht _ H1 _ F1 Z1 fun H3 F3 Z3 => ?_
  have fin : ∀ (H2 : Hp) (q : Addr), Same H3 H2 → H2 q = none → te σ (upd H2 q (.tup [.str t, y])) fun u H' => rTupS K false (.ref q) u H' fun r H' => ∃ k, r = .bl k ∧ Q k H' := fun H2 q s2 hq => by
    have s3 := s2.trans (Same.new (o := .tup [.str t, y]) hq)
    refine hte _ _ ((F1.trans F3).trans (Frm.same s3)) fun q2 H4 s4 h3 => ?_
    exact ⟨q, q2, _, rfl, rfl, SqT.of (s4 _ _ upd_same), SqT.of h3, (by simp [sv]; rfl), _, rfl, k _ ((F1.trans F3).trans (Frm.same (s3.trans s4))) (Z3.same (s3.trans s4))⟩
  refine fun e d0 H2 s2 _ hd => .inr ⟨rfl, d0, y, rfl, hd, fun q hq => ?_⟩
  rw [← e]; exact fin _ _ s2 hq
end
theorem Frm.refl {S : Addr → Prop} {H : Hp} : Frm S H H := fun b o _ e _ => e
theorem dp_ints {K : PySem.W.Frag} {H : Hp} : ∀ ns : List Int, DpAll K H (ns.map V.int) (ns.map PyData.int)
  | [] => .nil
  | n :: ns => .cons (.int n) (dp_ints ns)
theorem shaped_ints (ns : List Int) : SeqAt.shaped (.list (ns.map PyData.int)) = true := by
  have h1 : ∀ ns : List Int, PyData.canLayAll0 (ns.map PyData.int) = true := fun ns => by
    induction ns with
    | nil => rfl
    | cons n ns ih => simp [PyData.canLayAll0, PyData.canLay0, ih]
  have h2 : ∀ ns : List Int, PyData.depthAll (ns.map PyData.int) = 0 := fun ns => by
    induction ns with
    | nil => rfl
    | cons n ns ih => simp [PyData.depthAll, PyData.depth, ih]
  unfold SeqAt.shaped
  simp [PyData.canLay0, PyData.depth, h1, h2]
theorem eqv_ints : ∀ ns ms : List Int, PyData.eqv (.list (ns.map PyData.int)) (.list (ms.map PyData.int)) = decide (ns = ms) := by
  have h : ∀ ns ms : List Int, PyData.eqvAll (ns.map PyData.int) (ms.map PyData.int) = decide (ns = ms) := fun ns => by
    induction ns with
    | nil => intro ms; cases ms <;> simp [PyData.eqvAll]
    | cons n ns ih => intro ms; cases ms with
      | nil => simp [PyData.eqvAll]
      | cons m ms => simp [PyData.eqvAll, PyData.eqv, ih, Bool.beq_eq_decide_eq]
  intro ns ms
  simp only [PyData.eqv, h]
/-- where the loop of the steps stands: the living are ys, the law's own list holds bl -/
structure Sta (A : Adr) (H : Hp) (q3 : Addr) (Ls : List V) (a la x : Addr) (wh : Wh) (S : Sys) (τ : Tm) (B : Nat) (i : Int) (ys bl : List Int) : Prop where
  st : St3 A a x wh H S τ B
  q : H q3 = some (.lst Ls)
  nqa : q3 ≠ a
  nql : q3 ≠ la
  ll : H la = some (.lst (bl.map V.int))
  nla : la ≠ a
  tla : τ la = none
  sn : S.n = i
  asc : ys.Pairwise (· < ·)
  al : ∀ j, j ∈ ys ↔ (S.tabs j).isSome = true
  bd : ∀ j ∈ ys, 1 ≤ j ∧ j ≤ S.p
  pi : S.p ≤ i
  few : ys.length ≤ 12
section
variable {A : Adr} {H H' : Hp} {q3 a la x : Addr} {wh : Wh} {S S' : Sys} {τ τ' : Tm} {Ls : List V} {B B' : Nat} {i i' : Int} {ys ys' bl bl' : List Int}
theorem Sta.frm (Z : Sta A H q3 Ls a la x wh S τ B i ys bl) (f : Frm (· = a) H H') (w : WellAt H' a B') (t : LamX.Tabs (TS A) H') : Sta A H' q3 Ls a la x wh S τ B' i ys bl :=
  ⟨Z.st.frm f w t, f _ _ Z.nqa Z.q (fun _ z => by cases z), Z.nqa, Z.nql, f _ _ Z.nla Z.ll (fun _ z => by cases z), Z.nla, Z.tla, Z.sn, Z.asc, Z.al, Z.bd, Z.pi, Z.few⟩
theorem Sta.same (Z : Sta A H q3 Ls a la x wh S τ B i ys bl) (s : Same H H') : Sta A H' q3 Ls a la x wh S τ B i ys bl := Z.frm (Frm.same s) (Z.st.same s).wl (Z.st.same s).tb
theorem Sta.draw (Z : Sta A H q3 Ls a la x wh S τ B i ys bl) (s : But a H H') (w : WellAt H' a B') : Sta A H' q3 Ls a la x wh S τ B' i ys bl := Z.frm (Frm.but s) w (Z.st.draw s w).tb
theorem Sta.mono (Z : Sta A H q3 Ls a la x wh S τ B i ys bl) (e : B ≤ B') (e2 : B' ≤ 1000000) : Sta A H q3 Ls a la x wh S τ B' i ys bl :=
  ⟨Z.st.mono e e2, Z.q, Z.nqa, Z.nql, Z.ll, Z.nla, Z.tla, Z.sn, Z.asc, Z.al, Z.bd, Z.pi, Z.few⟩
theorem Sta.list (Z : Sta A H q3 Ls a la x wh S τ B i ys bl) : Sta A (upd H la (.lst (bl'.map V.int))) q3 Ls a la x wh S τ B i ys bl' := by
  have kp : Kp τ H (upd H la (.lst (bl'.map V.int))) := fun b o e c => by
    rw [upd_ne (fun z => ?_)]
    · exact e
    · rcases c with c | c
      · exact c (by rw [z]; exact Z.tla)
      · rw [z, Z.ll] at e; cases e; cases c
  exact ⟨⟨tabs_but Z.st.tb But.up Z.ll, Z.st.wl.same (upd_ne (Ne.symm Z.nla)), Z.st.sy.keep kp, Z.st.ta⟩, by rw [upd_ne Z.nql]; exact Z.q, Z.nqa, Z.nql, upd_same, Z.nla, Z.tla, Z.sn, Z.asc, Z.al, Z.bd, Z.pi, Z.few⟩
theorem Sta.go (Z : Sta A H q3 Ls a la x wh S τ B i ys bl) (g : Go τ H τ' H') (s : Sr A H' x wh S' τ') (sn : S'.n = i') (asc : ys'.Pairwise (· < ·)) (al : ∀ j, j ∈ ys' ↔ (S'.tabs j).isSome = true) (bd : ∀ j ∈ ys', 1 ≤ j ∧ j ≤ S'.p) (pi : S'.p ≤ i') (few : ys'.length ≤ 12) :
    Sta A H' q3 Ls a la x wh S' τ' B i' ys' bl := by
  refine ⟨Z.st.go g s, g.ls _ _ Z.q, Z.nqa, Z.nql, g.ls _ _ Z.ll, Z.nla, ?_, sn, asc, al, bd, pi, few⟩
  rcases g.ex la with z | z
  · exact z.trans Z.tla
  · rw [Z.ll] at z; cases z.2
end
end My
set_option Elab.async false
set_option linter.all false
set_option maxRecDepth 100000
set_option maxHeartbeats 4000000
namespace My
open PySem L2
local macro_rules | `(tactic| walk_at "ds") => `(tactic| dsimp only [tSeq, tIfS, tTest, tB, tAnd, tOr, tNot, tAndV, tOrV, tNotV, tIf, tIsN, tNotN, tOp, tUn, tChain, rI, rI0, rU, tC, tCB, tCons, tNil, tAsg, gName, gSub, tRet, tRetN, tNext, tDrop, tLst, tTup, rIxL, rIxT, rSetL, tVar, tFld, tCall, tDGet, tDIn, tDNotIn, tNever, L2.start, List.map, List.replicate, List.length, List.append, List.cons_append, List.nil_append, List.set, Nat.sub])
local macro_rules | `(tactic| walk_at "hp") => `(tactic| first | assumption | exact upd_same | (refine Eq.trans (upd_ne (by first | assumption | (apply Ne.symm; assumption))) ?_; walk_at "hp"))
local macro_rules | `(tactic| walk_at "sd") => `(tactic| first
  | (show (_ : Int) ≠ 0; omega)
  | (refine (show CDivN _ _ from ⟨?_, ?_⟩) <;> omega)
  | (show CPow _ _; refine ⟨by omega, by omega, by omega⟩)
  | (show CMul _ _; exact Or.inl ⟨by omega, by omega⟩)
  | (show CMul _ _; exact Or.inr ⟨by omega, by omega⟩))
local macro_rules | `(tactic| walk_at "st") => `(tactic| first
  | refine ⟨_, rfl, ?_⟩
  | refine ⟨_, _, rfl, rfl, (by walk_at "sd"), ?_⟩
  | refine ⟨_, _, rfl, rfl, ?_⟩
  | refine ⟨_, _, _, _, rfl, rfl, SqL.of (by walk_at "hp"), rfl, ?_⟩
  | refine ⟨_, _, _, _, rfl, rfl, (by walk_at "hp"), rfl, ?_⟩
  | refine .inl ⟨_, rfl, ?_⟩
  | refine ⟨_, _, _, _, _, rfl, (by walk_at "hp"), (by assumption), (by assumption), rfl, ?_⟩
  | refine ⟨_, _, rfl, .inl (SqL.of (by walk_at "hp")), ?_⟩)
local macro_rules | `(tactic| walk_at "go") => `(tactic| repeat (first | walk_at "st" | (walk_at "ds"; walk_at "st")))
local macro_rules | `(tactic| walk_at "ni") => `(tactic| dsimp (config := { proj := false }) only [tNil, List.cons_append, List.nil_append])
theorem er_mem1 : ∀ (ys : List Int) (n : Nat) (y : Int), ys[n]? = some y → ys.Nodup → ∀ j, j ∈ ys.eraseIdx n ↔ j ∈ ys ∧ j ≠ y
  | [], _, _, h, _, _ => nomatch h
  | x :: xs, 0, y, h, nd, j => by
    obtain rfl : x = y := Option.some.inj h
    have := (List.nodup_cons.mp nd).1
    show j ∈ xs ↔ _
    rw [List.mem_cons]
    constructor
    · exact fun z => ⟨.inr z, fun e => this (e ▸ z)⟩
    · rintro ⟨z | z, e⟩
      · exact absurd z e
      · exact z
  | x :: xs, n + 1, y, h, nd, j => by
    obtain ⟨n1, n2⟩ := List.nodup_cons.mp nd
    have ih := er_mem1 xs n y h n2 j
    have hy : y ∈ xs := List.mem_of_getElem? h
    show j ∈ x :: xs.eraseIdx n ↔ _
    rw [List.mem_cons, List.mem_cons, ih]
    constructor
    · rintro (z | ⟨z, e⟩)
      · exact ⟨.inl z, fun e => n1 (by rw [← z, e]; exact hy)⟩
      · exact ⟨.inr z, e⟩
    · rintro ⟨z | z, e⟩
      · exact .inl z
      · exact .inr ⟨z, e⟩
theorem asc_eq : ∀ {xs ys : List Int}, xs.Pairwise (· < ·) → ys.Pairwise (· < ·) → (∀ i, i ∈ xs ↔ i ∈ ys) → xs = ys
  | [], [], _, _, _ => rfl
  | [], y :: ys, _, _, h => nomatch (h y).mpr List.mem_cons_self
  | x :: xs, [], _, _, h => nomatch (h x).mp List.mem_cons_self
  | x :: xs, y :: ys, hx, hy, h => by
    obtain ⟨x1, x2⟩ := List.pairwise_cons.mp hx
    obtain ⟨y1, y2⟩ := List.pairwise_cons.mp hy
    have e : x = y := by
      rcases List.mem_cons.mp ((h x).mp List.mem_cons_self) with z | z
      · exact z
      · rcases List.mem_cons.mp ((h y).mpr List.mem_cons_self) with u | u
        · exact u.symm
        · have := y1 x z
          have := x1 y u
          omega
    subst e
    refine congrArg _ (asc_eq x2 y2 fun i => ?_)
    constructor
    · intro z
      rcases List.mem_cons.mp ((h i).mp (List.mem_cons_of_mem _ z)) with u | u
      · have := x1 i z; omega
      · exact u
    · intro z
      rcases List.mem_cons.mp ((h i).mpr (List.mem_cons_of_mem _ z)) with u | u
      · have := y1 i z; omega
      · exact u
section
variable {K : PySem.W.Frag} {A : Adr} {H H' : Hp} {q3 a la x : Addr} {wh : Wh} {S S' : Sys} {τ τ' : Tm} {Ls : List V} {B B' : Nat} {i i' : Int} {ys ys' bl bl' : List Int} {Q : VK} {E : XK}
theorem procs_at (Z : Sta A H q3 Ls a la x wh S τ B i ys bl) (k : ∀ q H', Same H H' → H q = none → H' = upd H q (.lst (ys.map V.int)) → Q (.ref q) H') : spProcs A [.ref x] H Q E := by
  obtain ⟨kvs, f0, ht, _⟩ := id Z.st.sy.tabs
  obtain ⟨f, di, hf⟩ := Z.st.sy.tabKeys ht
  refine ⟨x, wh.dx, wh.t, _, kvs, f, rfl, Z.st.sy.hx, rfl, ht, di, fun q zs hq hp hz => ?_⟩
  have e : zs = ys := asc_eq hp Z.asc fun j => by rw [hz, hf, Z.al]
  rw [e]
  exact k q _ (Same.new hq) hq rfl
theorem now_at (Z : Sta A H q3 Ls a la x wh S τ B i ys bl) (k : Q (.int i) H) : spNow A [.ref x] H Q E := by
  refine ⟨x, wh.dx, _, .int S.n, rfl, Z.st.sy.hx, rfl, ?_⟩
  rw [Z.sn]
  exact k
/-- one more process -/
theorem Sta.more (Z : Sta A H q3 Ls a la x wh S τ B i ys bl) (g : Go τ H τ' H') (s : Sr A H' x wh S' τ') (n : S'.n = S.n + 1) (p : S'.p = S.p + 1) (t : ∀ j, (S'.tabs j).isSome = true ↔ j = S.p + 1 ∨ (S.tabs j).isSome = true) (few : ys.length < 12) :
    Sta A H' q3 Ls a la x wh S' τ' B (i + 1) (ys ++ [S.p + 1]) bl := by
  refine Z.go g s (by rw [n, Z.sn]) (List.pairwise_append.mpr ⟨Z.asc, List.pairwise_singleton _ _, fun u hu v hv => ?_⟩) (fun j => ?_) (fun j hj => ?_) (by have := Z.pi; omega) (by rw [List.length_append]; exact few)
  · rw [List.mem_singleton.mp hv]
    have := (Z.bd u hu).2
    omega
  · rw [t, List.mem_append, Z.al, List.mem_singleton]
    exact ⟨fun z => z.symm, fun z => z.symm⟩
  · have b0 := Z.st.sy.bp.1
    rcases List.mem_append.mp hj with u | u
    · have := Z.bd j u; omega
    · rw [List.mem_singleton.mp u]; omega
theorem spn_tabs (S : Sys) : ∀ j, ((spnS S).tabs j).isSome = true ↔ j = S.p + 1 ∨ (S.tabs j).isSome = true := fun j => by
  show ((if j = S.p + 1 then some fun _ => none else S.tabs j : Option Tb)).isSome = true ↔ _
  by_cases e : j = S.p + 1
  · rw [if_pos e]
    simp [e]
  · rw [if_neg e]
    simp [e]
theorem fork_tabs (S : Sys) (T : Tb) : ∀ j, ((forkS S T).tabs j).isSome = true ↔ j = S.p + 1 ∨ (S.tabs j).isSome = true := fun j => by
  show ((if j = S.p + 1 then some (childT T) else S.tabs j : Option Tb)).isSome = true ↔ _
  by_cases e : j = S.p + 1
  · rw [if_pos e]
    simp [e]
  · rw [if_neg e]
    simp [e]
/-- one process less -/
theorem Sta.less (Z : Sta A H q3 Ls a la x wh S τ B i ys bl) {n : Nat} {y : Int} (hn : ys[n]? = some y) (g : Go τ H τ' H') (s : Sr A H' x wh (endS S y) τ') : Sta A H' q3 Ls a la x wh (endS S y) τ' B (i + 1) (ys.eraseIdx n) bl := by
  have nd : ys.Nodup := Z.asc.imp fun h => by omega
  have hm := (er_mem1 ys n y hn nd)
  refine Z.go g s (by show S.n + 1 = _; rw [Z.sn]) (Z.asc.sublist (List.eraseIdx_sublist _ _)) (fun j => ?_) (fun j hj => Z.bd j (List.mem_of_mem_eraseIdx hj)) (by have := Z.pi; show S.p ≤ _; omega) (Nat.le_trans (List.eraseIdx_sublist _ _).length_le Z.few)
  show j ∈ ys.eraseIdx n ↔ ((if j = y then none else S.tabs j : Option Tb)).isSome = true
  rw [hm]
  by_cases e : j = y
  · rw [if_pos e]
    simp [e]
  · rw [if_neg e, ← Z.al]
    simp [e]
end
end My
set_option Elab.async false
set_option linter.all false
set_option maxRecDepth 100000
set_option maxHeartbeats 4000000
namespace My
open PySem L2
local macro_rules | `(tactic| walk_at "ds") => `(tactic| dsimp only [tSeq, tIfS, tTest, tB, tAnd, tOr, tNot, tAndV, tOrV, tNotV, tIf, tIsN, tNotN, tOp, tUn, tChain, rI, rI0, rU, tC, tCB, tCons, tNil, tAsg, gName, gSub, tRet, tRetN, tNext, tDrop, tLst, tTup, rIxL, rIxT, rSetL, tVar, tFld, tCall, tDGet, tDIn, tDNotIn, tNever, L2.start, List.map, List.replicate, List.length, List.append, List.cons_append, List.nil_append, List.set, Nat.sub])
local macro_rules | `(tactic| walk_at "hp") => `(tactic| first | assumption | exact upd_same | (refine Eq.trans (upd_ne (by first | assumption | (apply Ne.symm; assumption))) ?_; walk_at "hp"))
local macro_rules | `(tactic| walk_at "sd") => `(tactic| first
  | (show (_ : Int) ≠ 0; omega)
  | (refine (show CDivN _ _ from ⟨?_, ?_⟩) <;> omega)
  | (show CPow _ _; refine ⟨by omega, by omega, by omega⟩)
  | (show CMul _ _; exact Or.inl ⟨by omega, by omega⟩)
  | (show CMul _ _; exact Or.inr ⟨by omega, by omega⟩))
local macro_rules | `(tactic| walk_at "st") => `(tactic| first
  | refine ⟨_, rfl, ?_⟩
  | refine ⟨_, _, rfl, rfl, (by walk_at "sd"), ?_⟩
  | refine ⟨_, _, rfl, rfl, ?_⟩
  | refine ⟨_, _, _, _, rfl, rfl, SqL.of (by walk_at "hp"), rfl, ?_⟩
  | refine ⟨_, _, _, _, rfl, rfl, (by walk_at "hp"), rfl, ?_⟩
  | refine .inl ⟨_, rfl, ?_⟩
  | refine ⟨_, _, _, _, _, rfl, (by walk_at "hp"), (by assumption), (by assumption), rfl, ?_⟩
  | refine ⟨_, _, rfl, .inl (SqL.of (by walk_at "hp")), ?_⟩)
local macro_rules | `(tactic| walk_at "go") => `(tactic| repeat (first | walk_at "st" | (walk_at "ds"; walk_at "st")))
local macro_rules | `(tactic| walk_at "ni") => `(tactic| dsimp (config := { proj := false }) only [tNil, List.cons_append, List.nil_append])
section
variable {K : PySem.W.Frag} {A : Adr} {H H' : Hp} {q3 a la x : Addr} {wh : Wh} {S S' : Sys} {τ τ' : Tm} {Ls : List V} {B B' : Nat} {i i' : Int} {ys ys' bl bl' : List Int}
theorem post_step {D : Ends} {σ : St} (Z : Sta A H q3 Ls a la x wh S τ B (i + 1) ys ys) (h4 : σ[4]? = some (some (.ref x))) (h5 : σ[5]? = some (some (.ref la))) (h7 : σ[7]? = some (some (.int i)))
    (k : ∀ H', Sta A H' q3 Ls a la x wh S τ B (i + 1) ys ys → D.nx σ H') :
    tSeq (tIfS (tOr (tTest (tOp (rNeD K) (tCall (spProcs A) [] E0 (tCons (tVar 4) tNil)) (tVar 5))) (tTest (tOp rNe (tCall (spNow A) [] E0 (tCons (tVar 4) tNil)) (tOp (rI0 fun i j => V.int (i + j)) (tVar 7) (tC (.int 1)))))) (tRet (tC (.bl false))) tNext)
      (tDrop (tBM0 K "list" rClear (tCall (spProcs A) [] E0 (tCons (tVar 4) tNil)))) D σ H := by
  refine ⟨_, h4, ?_⟩
  dsimp only [tNil, List.cons_append, List.nil_append]
  refine procs_at Z fun q H1 s1 hq e1 => ⟨_, h5, ?_⟩
  have Z1 := Z.same s1
  refine ⟨_, _, .lst (SqL.of (by rw [e1, upd_same])) (dp_ints ys), .lst (SqL.of Z1.ll) (dp_ints ys), shaped_ints _, shaped_ints _, _, rfl, ?_⟩
  rw [eqv_ints, decide_eq_true rfl]
  refine iteF ⟨_, h4, ?_⟩
  dsimp only [tNil, List.cons_append, List.nil_append]
  refine now_at Z1 ⟨_, h7, _, _, rfl, rfl, rfl, _, rfl, ?_⟩
  rw [decide_eq_true rfl]
  refine iteF ⟨_, h4, ?_⟩
  dsimp only [tNil, List.cons_append, List.nil_append]
  refine procs_at Z1 fun q2 H2 s2 hq2 e2 => ?_
  subst e2
  refine ⟨.inl ⟨rfl, _, SqL.of upd_same⟩, q2, _, rfl, rfl, upd_same, ?_⟩
  rw [upd_upd]
  exact k _ (Z1.same (Same.new hq2))
theorem app_A {D : Ends} {σ : St} {p : Int} (Z : Sta A H q3 Ls a la x wh S τ B i (ys ++ [p]) ys) (h5 : σ[5]? = some (some (.ref la))) (h6 : σ[6]? = some (some (.int p))) (h9 : σ[9]? = some (some (.int p)))
    (k : ∀ H', Sta A H' q3 Ls a la x wh S τ B i (ys ++ [p]) (ys ++ [p]) → D.nx σ H') :
    tSeq (tDrop (tBM K "list" rAppend (tVar 5) (tCons (tVar 6) tNil))) (tIfS (tTest (tOp rNe (tVar 9) (tVar 6))) (tRet (tC (.bl false))) tNext) D σ H := by
  have hl : ys.length ≤ 12 := by have := Z.few; rw [List.length_append] at this; omega
  refine ⟨_, h5, .inl ⟨rfl, _, SqL.of Z.ll⟩, _, h6, la, _, _, rfl, rfl, Z.ll, Nat.lt_of_le_of_lt (by rw [List.length_map]; exact hl : _ ≤ 12) (by decide), ?_⟩
  refine ⟨_, h9, _, h6, rfl, _, rfl, ?_⟩
  rw [decide_eq_true rfl]
  have e : (ys.map V.int ++ [V.int p]) = (ys ++ [p]).map V.int := by rw [List.map_append]; rfl
  rw [e]
  exact iteF (k _ Z.list)
/-- alive == [], as a test -/
theorem eq_nil {σ : St} {Q : Bool → Hp → Prop} (Z : Sta A H q3 Ls a la x wh S τ B i ys ys) (h5 : σ[5]? = some (some (.ref la)))
    (q : ∀ H', Same H H' → Q (decide (ys = [])) H') : tTest (tOp (rEqD K) (tVar 5) (tLst tNil)) σ H Q := by
  refine ⟨_, h5, Nat.zero_le _, fun e he => ?_⟩
  refine ⟨.list (ys.map PyData.int), .list (([] : List Int).map PyData.int), .lst (SqL.of (Same.new he _ _ Z.ll)) (dp_ints _), .lst (SqL.of upd_same) .nil, shaped_ints _, shaped_ints _, _, rfl, ?_⟩
  rw [eqv_ints]
  exact q _ (Same.new he)
theorem ne_nil {σ : St} {Q : Bool → Hp → Prop} (Z : Sta A H q3 Ls a la x wh S τ B i ys ys) (h5 : σ[5]? = some (some (.ref la)))
    (q : ∀ H', Same H H' → Q (!decide (ys = [])) H') : tTest (tOp (rNeD K) (tVar 5) (tLst tNil)) σ H Q := by
  refine ⟨_, h5, Nat.zero_le _, fun e he => ?_⟩
  refine ⟨.list (ys.map PyData.int), .list (([] : List Int).map PyData.int), .lst (SqL.of (Same.new he _ _ Z.ll)) (dp_ints _), .lst (SqL.of upd_same) .nil, shaped_ints _, shaped_ints _, _, rfl, ?_⟩
  rw [eqv_ints]
  exact q _ (Same.new he)
theorem procs_ne {σ : St} {Q : Bool → Hp → Prop} (Z : Sta A H q3 Ls a la x wh S τ B i ys ys) (h4 : σ[4]? = some (some (.ref x))) (h5 : σ[5]? = some (some (.ref la)))
    (k : ∀ H', Same H H' → Q false H') : tTest (tOp (rNeD K) (tCall (spProcs A) [] E0 (tCons (tVar 4) tNil)) (tVar 5)) σ H Q := by
  refine ⟨_, h4, ?_⟩
  dsimp only [tNil, List.cons_append, List.nil_append]
  refine procs_at Z fun q H1 s1 hq e1 => ⟨_, h5, ?_⟩
  refine ⟨_, _, .lst (SqL.of (by rw [e1, upd_same])) (dp_ints ys), .lst (SqL.of (Z.same s1).ll) (dp_ints ys), shaped_ints _, shaped_ints _, _, rfl, ?_⟩
  rw [eqv_ints, decide_eq_true rfl]
  exact k _ s1
theorem else_step {D : Ends} {s0 s1 s3 s7 s8 s9 s10 s11 : Option V} (Z : Sta A H q3 Ls a la x wh S τ B i ys ys) (hB : B + 1 ≤ 1000000) (hi : i < 900)
    (k : ∀ H' S' τ' ys' s10', Sta A H' q3 Ls a la x wh S' τ' (B + 1) (i + 1) ys' ys' → D.nx [s0, s1, some (.ref a), s3, some (.ref x), some (.ref la), some (.int S'.p), s7, s8, s9, s10', s11] H') :
    tIfS (tTest (tOp (rNeD K) (tVar 5) (tLst tNil)))
      (tSeq (tAsg (tBM K "list" rPopAt (tVar 5) (tCons (tCall spDraw [] E0 (tCons (tVar 2) (tCons (tCB (fun xs H_1 Q => ∃ p ys, xs = [V.ref p] ∧ (SqL K H_1 p ys ∨ SqT K H_1 p ys) ∧ Q (V.int ys.length) H_1) (tCons (tVar 5) tNil)) tNil))) tNil)) (gName 10))
        (tDrop (tCall (spLeave A) [] E0 (tCons (tVar 4) (tCons (tVar 10) tNil)))))
      (tSeq (tDrop (tCall (spSpawn A) [] E0 (tCons (tVar 4) tNil))) (tSeq (tAsg (tOp (rI0 fun i j => V.int (i + j)) (tVar 6) (tC (V.int 1))) (gName 6)) (tDrop (tBM K "list" rAppend (tVar 5) (tCons (tVar 6) tNil)))))
      D [s0, s1, some (.ref a), s3, some (.ref x), some (.ref la), some (.int S.p), s7, s8, s9, s10, s11] H := by
  refine ne_nil Z rfl fun H1 s1 => ?_
  have Z1 := Z.same s1
  by_cases ce : ys = []
  · subst ce
    refine iteF ?_
    refine ⟨_, rfl, x, wh, S, τ, rfl, Z1.st.sy, by have := Z.pi; omega, fun H2 τ2 g2 y2 => ?_⟩
    have Z2 := Z1.more g2 y2 rfl rfl (spn_tabs S) (by decide)
    refine ⟨_, rfl, _, _, rfl, rfl, ?_⟩
    refine ⟨_, rfl, .inl ⟨rfl, _, SqL.of Z2.ll⟩, _, rfl, la, _, _, rfl, rfl, Z2.ll, by decide, ?_⟩
    exact k _ (spnS S) τ2 [S.p + 1] s10 ((Z2.list (bl' := [S.p + 1])).mono (by omega) hB)
  · rw [decide_eq_false ce]
    refine iteT ?_
    have hlen : 0 < ys.length := List.length_pos_iff.mpr ce
    have few := Z.few
    refine ⟨_, rfl, .inl ⟨rfl, _, SqL.of Z1.ll⟩, _, rfl, _, rfl, la, _, rfl, .inl (SqL.of Z1.ll), a, _, B, rfl, by rw [List.length_map]; omega, by rw [List.length_map]; omega, Z1.st.wl, by omega, fun j H2 j0 j1 f2 w2 => ?_⟩
    have Z2 := Z1.draw f2 w2
    rw [List.length_map] at j1
    obtain ⟨n, rfl⟩ : ∃ n : Nat, j = (n : Int) := ⟨j.toNat, (Int.toNat_of_nonneg j0).symm⟩
    have hn : n < ys.length := by omega
    have hget : (ys.map V.int)[n]? = some (V.int ys[n]) := by rw [List.getElem?_map, List.getElem?_eq_getElem hn]; rfl
    refine ⟨la, _, (n : Int), n, _, rfl, rfl, Z2.ll, by omega, by omega, ?_, hget, ?_⟩
    · exact (seqIndex_of (by omega) (by rw [List.length_map]; omega)).trans (by simp)
    have eer : (ys.map V.int).eraseIdx n = (ys.eraseIdx n).map V.int := by
      rw [List.eraseIdx_eq_take_drop_succ, List.eraseIdx_eq_take_drop_succ, List.map_append, List.map_take, List.map_drop]
    rw [eer]
    have Z3 := Z2.list (bl' := ys.eraseIdx n)
    obtain ⟨T, eT⟩ := Option.isSome_iff_exists.mp ((Z3.al ys[n]).mp (List.getElem_mem hn))
    refine ⟨_, rfl, _, rfl, ?_⟩
    dsimp only [tNil, List.cons_append, List.nil_append]
    refine use_leave Z3.st.sy eT fun H4 τ4 g4 y4 => ?_
    exact k _ (endS S ys[n]) τ4 _ _ (Z3.less (List.getElem?_eq_getElem hn) g4 y4)
end
end My
set_option Elab.async false
set_option linter.all false
set_option maxRecDepth 100000
set_option maxHeartbeats 4000000
namespace My
open PySem L2
local macro_rules | `(tactic| walk_at "ds") => `(tactic| dsimp only [tSeq, tIfS, tTest, tB, tAnd, tOr, tNot, tAndV, tOrV, tNotV, tIf, tIsN, tNotN, tOp, tUn, tChain, rI, rI0, rU, tC, tCB, tCons, tNil, tAsg, gName, gSub, tRet, tRetN, tNext, tDrop, tLst, tTup, rIxL, rIxT, rSetL, tVar, tFld, tCall, tDGet, tDIn, tDNotIn, tNever, L2.start, List.map, List.replicate, List.length, List.append, List.cons_append, List.nil_append, List.set, Nat.sub])
local macro_rules | `(tactic| walk_at "hp") => `(tactic| first | assumption | exact upd_same | (refine Eq.trans (upd_ne (by first | assumption | (apply Ne.symm; assumption))) ?_; walk_at "hp"))
local macro_rules | `(tactic| walk_at "sd") => `(tactic| first
  | (show (_ : Int) ≠ 0; omega)
  | (refine (show CDivN _ _ from ⟨?_, ?_⟩) <;> omega)
  | (show CPow _ _; refine ⟨by omega, by omega, by omega⟩)
  | (show CMul _ _; exact Or.inl ⟨by omega, by omega⟩)
  | (show CMul _ _; exact Or.inr ⟨by omega, by omega⟩))
local macro_rules | `(tactic| walk_at "st") => `(tactic| first
  | refine ⟨_, rfl, ?_⟩
  | refine ⟨_, _, rfl, rfl, (by walk_at "sd"), ?_⟩
  | refine ⟨_, _, rfl, rfl, ?_⟩
  | refine ⟨_, _, _, _, rfl, rfl, SqL.of (by walk_at "hp"), rfl, ?_⟩
  | refine ⟨_, _, _, _, rfl, rfl, (by walk_at "hp"), rfl, ?_⟩
  | refine .inl ⟨_, rfl, ?_⟩
  | refine ⟨_, _, _, _, _, rfl, (by walk_at "hp"), (by assumption), (by assumption), rfl, ?_⟩
  | refine ⟨_, _, rfl, .inl (SqL.of (by walk_at "hp")), ?_⟩)
local macro_rules | `(tactic| walk_at "go") => `(tactic| repeat (first | walk_at "st" | (walk_at "ds"; walk_at "st")))
local macro_rules | `(tactic| walk_at "ni") => `(tactic| dsimp (config := { proj := false }) only [tNil, List.cons_append, List.nil_append])
def spLaw (K : PySem.W.Frag) (A : Adr) : Sp := fun vs H Q _ => ∃ (a : Addr) (ns : List Int), vs = [.ref a] ∧ SqL K H a (ns.map V.int) ∧ ns.length ≤ 63 ∧ LamX.Tabs (TS A) H ∧ ∀ H', Q (.bl true) H'
section
variable {P : Program} {w : World} {K : PySem.W.Frag} {mg : Str → Option Value} {base : Heap} {A : Adr}
theorem ok_law (G : Txt K mg A) (TB : Tb2 base mg A) : FnOk P w K mg base CX0 10 A.a_law A.fd_law p_law (spLaw K A) := by
  obtain ⟨ds, hIV, hIB⟩ := init_binds G
  obtain ⟨ocS, odS, kvS, docS, pmS, anS, cdS, ctS, oslS, hfd, lkS, hcS⟩ := G.f__law_said.ex
  have hbS := G.bi__law_said
  rw [hfd] at lkS hbS
  refine G.fl_law.ok sc_law (fun vs H Q E h => ?_) (fun A' outer s H vs Q E hr h => ?_)
  · obtain ⟨a, ns, rfl, _⟩ := h
    rfl
  · obtain ⟨a0, ns, rfl, hS, hn, hT, k⟩ := h
    refine ⟨_, (pss_cons (ps_for PassesOwn.never rfl (pi_list (pe_op op_cat (pe_slice sl_list (pv 0) po_none (po_some pe_int)) (pe_lst (pa_cons pe_int (pa_cons pe_int pa_nil))))) (pg_name (i := 1) sc_law.nd rfl (Or.inl rfl)) (pss_cons (ps_set (i := 2) sc_law.nd rfl (Or.inl rfl) (pe_call (ok__law_well G) (hr.mono (by decide)) rfl G.g__law_well G.k__law_well G.bi__law_well .nil pass0 (pa_cons (pv 1) pa_nil)))
  (pss_cons (ps_for PassesOwn.never rfl (pi_range1 rfl G.b_range (pa_cons pe_int pa_nil)) (pg_name (i := 3) sc_law.nd rfl (Or.inl rfl)) (pss_one (ps_if (pt_not (pt_val (pe_call (ok__law_system_right G TB) (hr.mono (by decide)) rfl G.g__law_system_right G.k__law_system_right G.bi__law_system_right .nil pass0 (pa_cons (pv 2) pa_nil)))) (pss_one (ps_ret pe_bl)) pss_nil)))
  (pss_cons (ps_set (i := 4) sc_law.nd rfl (Or.inr rfl) (pe_make0 G.mk_System (ok_System_init G) (hr.mono (by decide)) rfl G.g_System hIB hIV passL))
  (pss_cons (ps_set (i := 5) sc_law.nd rfl (Or.inl rfl) (pe_lst pa_nil))
  (pss_cons (ps_set (i := 6) sc_law.nd rfl (Or.inl rfl) pe_int)
  (pss_cons (ps_for PassesOwn.never rfl (pi_range1 rfl G.b_range (pa_cons (pe_op op_add pe_int (pe_call (ok__law_draw G) (hr.mono (by decide)) rfl G.g__law_draw G.k__law_draw G.bi__law_draw .nil pass0 (pa_cons (pv 2) (pa_cons pe_int pa_nil)))) pa_nil)) (pg_name (i := 7) sc_law.nd rfl (Or.inl rfl)) (pss_cons (ps_set (i := 8) sc_law.nd rfl (Or.inl rfl) (pe_call (ok__law_draw G) (hr.mono (by decide)) rfl G.g__law_draw G.k__law_draw G.bi__law_draw .nil pass0 (pa_cons (pv 2) (pa_cons pe_int pa_nil))))
  (pss_cons (ps_if (PW.pt (pw_and (pt_cmpR op_lt (pv 8) pe_int (nomark _)) (pw_and1 (pt_cmpR op_lt (pe_callB call_len_seq (by rfl) G.b_len (by decide +kernel) (pa_cons (pv 5) pa_nil)) pe_int (nomark _))))) (pss_cons (ps_set (i := 6) sc_law.nd rfl (Or.inl rfl) (pe_op op_add (pv 6) pe_int))
  (pss_cons (ps_set (i := 9) sc_law.nd rfl (Or.inl rfl) (pe_ifExp (PW.pt (pw_or (pt_cmpR (op_eqD (hu64 hr)) (pv 5) (pe_lst pa_nil) (nomark _)) (pw_or1 (pt_cmpR op_eq (pv 8) pe_int (nomark _))))) (pe_call (ok_spawn G) (hr.mono (by decide)) rfl G.g_spawn G.k_spawn G.bi_spawn .nil pass0 (pa_cons (pv 4) pa_nil)) (pe_call (ok_fork G) (hr.mono (by decide)) rfl G.g_fork G.k_fork G.bi_fork .nil passL (pa_cons (pv 4) (pa_cons (pe_call (ok__law_one G) (hr.mono (by decide)) rfl G.g__law_one G.k__law_one G.bi__law_one .nil pass0 (pa_cons (pv 2) (pa_cons (pv 5) pa_nil))) pa_nil)))))
  (pss_cons (ps_expr (pe_bm PySem.F.plainAttrs_list PySem.F.slot_list_append PySem.F.type_list_append mt_append (pv 5) (pa_cons (pv 6) pa_nil)))
  (pss_one (ps_if (pt_cmpR op_ne (pv 9) (pv 6) (nomark _)) (pss_one (ps_ret pe_bl)) pss_nil))))) (pss_one (ps_if (pt_cmpR (op_neD (hu64 hr)) (pv 5) (pe_lst pa_nil) (nomark _)) (pss_cons (ps_set (i := 10) sc_law.nd rfl (Or.inl rfl) (pe_bm PySem.F.plainAttrs_list PySem.F.slot_list_pop PySem.F.type_list_pop mt_popAt (pv 5) (pa_cons (pe_call (ok__law_draw G) (hr.mono (by decide)) rfl G.g__law_draw G.k__law_draw G.bi__law_draw .nil pass0 (pa_cons (pv 2) (pa_cons (pe_callB call_len_seq (by rfl) G.b_len (by decide +kernel) (pa_cons (pv 5) pa_nil)) pa_nil))) pa_nil)))
  (pss_one (ps_expr (pe_call (ok_leave G) (hr.mono (by decide)) rfl G.g_leave G.k_leave G.bi_leave .nil passL (pa_cons (pv 4) (pa_cons (pv 10) pa_nil)))))) (pss_cons (ps_expr (pe_call (ok_spawn G) (hr.mono (by decide)) rfl G.g_spawn G.k_spawn G.bi_spawn .nil pass0 (pa_cons (pv 4) pa_nil)))
  (pss_cons (ps_set (i := 6) sc_law.nd rfl (Or.inl rfl) (pe_op op_add (pv 6) pe_int))
  (pss_one (ps_expr (pe_bm PySem.F.plainAttrs_list PySem.F.slot_list_append PySem.F.type_list_append mt_append (pv 5) (pa_cons (pv 6) pa_nil)))))))))
  (pss_cons (ps_if (PW.pt (pw_or (pt_cmpR (op_neD (hu64 hr)) (pe_call (ok_processes G) (hr.mono (by decide)) rfl G.g_processes G.k_processes G.bi_processes .nil pass0 (pa_cons (pv 4) pa_nil)) (pv 5) (nomark _)) (pw_or1 (pt_cmpR op_ne (pe_call (ok_now G) (hr.mono (by decide)) rfl G.g_now G.k_now G.bi_now .nil pass0 (pa_cons (pv 4) pa_nil)) (pe_op op_add (pv 7) pe_int) (nomark _))))) (pss_one (ps_ret pe_bl)) pss_nil)
  (pss_one (ps_expr (pe_bm0 PySem.F.plainAttrs_list PySem.F.slot_list_clear PySem.F.type_list_clear mt_clear (pe_call (ok_processes G) (hr.mono (by decide)) rfl G.g_processes G.k_processes G.bi_processes .nil pass0 (pa_cons (pv 4) pa_nil)))))))))
  (pss_cons (ps_set (i := 11) sc_law.nd rfl (Or.inr rfl) (pe_call (ok__law_one G) (hr.mono (by decide)) rfl G.g__law_one G.k__law_one G.bi__law_one .nil pass0 (pa_cons (pv 2) (pa_cons (pe_lst (pa_cons pe_non (pa_cons pe_int (pa_cons (pe_un un_neg pe_int) (pa_cons (pe_op op_add (pv 6) pe_int) (pa_cons pe_str (pa_cons (pe_lst pa_nil) (pa_cons pe_dnewK (pa_cons (pe_tup (pa_cons pe_int pa_nil)) (pa_cons (pe_cmpR op_eq pe_int pe_int (nomark _)) (pa_cons (pe_cmpR op_eq pe_int pe_int (nomark _)) pa_nil))))))))))) pa_nil))))
  (pss_cons (ps_if (PW.pt (pw_or (pt_cmpR (op_neTupS (hu0 hr)) (LamX.pe_lamcall (T := TS A) (TT := TTs A) (k := 7) rfl G.g__law_said G.k__law_said lkS hcS hbS sc__law_said rfl (Or.inl rfl) (said_gives G) TB.l rfl List.mem_cons_self (TS_l TB) (hr.mono (by decide)) (LamX.lamS_by (sc := defScope s_law) (by decide +kernel)) rfl (fun _ _ _ _ _ => rfl) (fun A2 outer2 s2 H2 E2 f2 c2 hr => by exact (pe_call (ok_fork G) (hr.mono (by decide)) rfl G.g_fork G.k_fork G.bi_fork .nil (passes_call (takes_of rfl rfl rfl rfl) (fun _ _ _ _ z => z)) (pa_cons (pv 4) (pa_cons (pv 11) pa_nil))))) (pe_tup (pa_cons pe_str (pa_cons (pv 11) pa_nil))) (nomark _)) (pw_or1 (pt_cmpR (op_neD (hu64 hr)) (pe_call (ok_processes G) (hr.mono (by decide)) rfl G.g_processes G.k_processes G.bi_processes .nil pass0 (pa_cons (pv 4) pa_nil)) (pv 5) (nomark _))))) (pss_one (ps_ret pe_bl)) pss_nil)
  (pss_cons (ps_if (pt_cmpR (op_neTupS (hu0 hr)) (LamX.pe_lamcall (T := TS A) (TT := TTs A) (k := 6) rfl G.g__law_said G.k__law_said lkS hcS hbS sc__law_said rfl (Or.inl rfl) (said_gives G) TB.l rfl List.mem_cons_self (TS_l TB) (hr.mono (by decide)) (LamX.lamS_by (sc := defScope s_law) (by decide +kernel)) rfl (fun _ _ _ _ _ => rfl) (fun A2 outer2 s2 H2 E2 f2 c2 hr => by exact (pe_call (ok_leave G) (hr.mono (by decide)) rfl G.g_leave G.k_leave G.bi_leave .nil (passes_call (takes_of rfl rfl rfl rfl) (fun _ _ _ _ z => z)) (pa_cons (pv 4) (pa_cons (pv 11) pa_nil))))) (pe_tup (pa_cons pe_str (pa_cons (pv 11) pa_nil))) (nomark _)) (pss_one (ps_ret pe_bl)) pss_nil)
  (pss_one (ps_if (PW.pt (pw_or (pt_cmpR (op_neTupS (hu0 hr)) (LamX.pe_lamcall (T := TS A) (TT := TTs A) (k := 6) rfl G.g__law_said G.k__law_said lkS hcS hbS sc__law_said rfl (Or.inl rfl) (said_gives G) TB.l rfl List.mem_cons_self (TS_l TB) (hr.mono (by decide)) (LamX.lamS_by (sc := defScope s_law) (by decide +kernel)) rfl (fun _ _ _ _ _ => rfl) (fun A2 outer2 s2 H2 E2 f2 c2 hr => by exact (pe_call (ok_fresh G) (hr.mono (by decide)) rfl G.g_fresh G.k_fresh G.bi_fresh .nil (passes_call (takes_of rfl rfl rfl rfl) (fun _ _ _ _ z => z)) (pa_cons (pv 4) (pa_cons (pv 11) pa_nil))))) (pe_tup (pa_cons pe_str (pa_cons (pv 11) pa_nil))) (nomark _)) (pw_or1 (pt_cmpR op_ne (pe_call (ok_now G) (hr.mono (by decide)) rfl G.g_now G.k_now G.bi_now .nil pass0 (pa_cons (pv 4) pa_nil)) (pe_op op_add (pv 7) pe_int) (nomark _))))) (pss_one (ps_ret pe_bl)) pss_nil))))))))))))
  (pss_one (ps_ret pe_bl))), ?_⟩
    -- script[:8] + [0, 1]
    refine ⟨_, rfl, _, rfl, a0, _, rfl, hS, fun q1 hq1 => ⟨(by show 2 ≤ sizeLine; decide), fun q2 hq2 => ?_⟩⟩
    obtain ⟨ms, hms, hml⟩ : ∃ ms : List Int, cutV (ns.map V.int) none (some 8) = ms.map V.int ∧ ms.length ≤ 63 := by
      refine ⟨(ns.drop (HT.sIx (ns.map V.int).length 0 none)).take (HT.sIx (ns.map V.int).length (ns.map V.int).length (some 8) - HT.sIx (ns.map V.int).length 0 none), ?_, ?_⟩
      · unfold cutV
        rw [List.map_take, List.map_drop]
      · rw [List.length_take, List.length_drop]
        omega
    have u1 : (upd (upd H q1 (.lst (cutV (ns.map V.int) none (some 8)))) q2 (.lst [.int 0, .int 1])) q1 = some (.lst (ms.map V.int)) := by rw [upd_ne (ne_of_none upd_same hq2), upd_same, hms]
    refine ⟨q1, q2, _, _, rfl, rfl, u1, upd_same, (by rw [List.length_map]; show ms.length + 2 ≤ sizeLine; exact Nat.le_trans (Nat.add_le_add_right hml 2) (by decide)), fun q3 hq3 => ?_⟩
    have sA : Same H (upd (upd (upd H q1 (.lst (cutV (ns.map V.int) none (some 8)))) q2 (.lst [.int 0, .int 1])) q3 (.lst (ms.map V.int ++ [.int 0, .int 1]))) := ((Same.new hq1).trans (Same.new hq2)).trans (Same.new hq3)
    have TA := tabs_same hT sA
    generalize hHA : upd (upd (upd H q1 (.lst (cutV (ns.map V.int) none (some 8)))) q2 (.lst [.int 0, .int 1])) q3 (.lst (ms.map V.int ++ [.int 0, .int 1])) = HA at *
    have lA : HA q3 = some (.lst (ms.map V.int ++ [.int 0, .int 1])) := by rw [← hHA, upd_same]
    have hL0 : ∀ y ∈ ms.map V.int ++ [V.int 0, V.int 1], ∃ n, y = V.int n := fun y hy => by
      rcases List.mem_append.mp hy with z | z
      · obtain ⟨n, _, rfl⟩ := List.mem_map.mp z
        exact ⟨n, rfl⟩
      · simp at z
        rcases z with rfl | rfl <;> exact ⟨_, rfl⟩
    generalize hLs : ms.map V.int ++ [V.int 0, V.int 1] = Ls at *
    refine ⟨q3, rfl, ⟨_, SqL.of lA⟩, for_list (K := K) (a := q3) (xs := Ls)
      (fun _ σ H' => (∃ c1 c2 c3 c4 c5 c6 c7 c8 c9 c10 c11, σ = [some (.ref a0), c1, c2, c3, c4, c5, c6, c7, c8, c9, c10, c11]) ∧ LamX.Tabs (TS A) H' ∧ H' q3 = some (.lst Ls))
      ⟨⟨_, _, _, _, _, _, _, _, _, _, _, rfl⟩, TA, lA⟩ (fun _ σ H' _ hp => SqL.of hp.2.2) ?_ ?_⟩
    · rintro _ y σ H0 hy ⟨⟨c1, c2, c3, c4, c5, c6, c7, c8, c9, c10, c11, rfl⟩, T0, l0⟩
      obtain ⟨n, rfl⟩ := hL0 y (List.mem_of_getElem? hy)
      clear hL0 hHA lA TA sA u1 hq3 hq2 hq1 hS hT hy
      -- well
      refine ⟨_, rfl, n, rfl, fun a H1 ha s1 w1 => ?_⟩
      have T1 := tabs_same T0 s1
      have naq : q3 ≠ a := fun e => by rw [← e, l0] at ha; cases ha
      have l1 := s1 _ _ l0
      -- for turn in range(3)
      refine ⟨3, rfl, by decide, by decide, for_range (lo := 0) (n := 3) (fun i σ H' => (∃ c3, σ = [some (.ref a0), some (.int n), some (.ref a), c3, c4, c5, c6, c7, c8, c9, c10, c11]) ∧ H' q3 = some (.lst Ls) ∧ LamX.Tabs (TS A) H' ∧ WellAt H' a (5 * i))
        ⟨⟨_, rfl⟩, l1, T1, w1⟩ ?_ ?_⟩
      · rintro i σ H2 hi ⟨⟨c3, rfl⟩, k2, T2, w2⟩
        refine ⟨_, rfl, a, _, rfl, w2, by omega, T2, fun H3 f3 T3 w3 => ⟨_, rfl, iteF ?_⟩⟩
        have e : 5 * i + 5 = 5 * (i + 1) := by omega
        rw [e] at w3
        exact ⟨⟨_, rfl⟩, f3 _ _ naq k2 (fun _ z => by cases z), T3, w3⟩
      · rintro σ H2 ⟨⟨c3, rfl⟩, l2, T2, w2⟩
        -- system = System(); alive = []; last = 0
        dsimp only
        refine fun x dx hx hdx hne => ⟨x, dx, .non, .non, .bl false, rfl, .non, .non, .bl _, upd_same, fun _ H3 wh τ b3 t3 e3 tt3 S3' hfi => ⟨rfl, ?_⟩, fun pt hp => ?_⟩
        case refine_2 => exact absurd hp (by rw [show badP .non .non (.bl false) = none by decide]; simp)
        have S3 := S3' rfl rfl rfl
        refine ⟨Nat.zero_le _, fun la hla => ?_⟩
        obtain ⟨Z3, l3⟩ : St3 A a x wh H3 S0 τ 15 ∧ H3 q3 = some (.lst Ls) := by
          obtain ⟨xs, hxs⟩ := id w2.lst
          have sN : Same H2 (upd (upd H2 dx (.own x)) x (.ins A.c_System dx [])) := (Same.new hdx).trans (Same.new (by rw [upd_ne (Ne.symm hne)]; exact hx))
          have keep : Same H2 H3 := fun b o e => b3 _ _ (ne_of_none e hx) (sN _ _ e)
          have tn : ∀ {b : Addr} {o : HO}, H2 b = some o → τ b = none := fun {b o} e => by
            cases z : τ b with
            | none => rfl
            | some g =>
              rcases t3 b g z with y | y
              · exact absurd y (ne_of_none e hx)
              · rw [sN _ _ e] at y; cases y
          exact ⟨⟨T2.ext keep, w2.same ((keep _ _ hxs).trans hxs.symm), S3, tn hxs⟩, keep _ _ l2⟩
        have sl := Same.new (o := .lst []) hla
        have Z0 : Sta A (upd H3 la (.lst [])) q3 Ls a la x wh S0 τ 15 0 [] [] :=
          ⟨Z3.same sl, sl _ _ l3, naq, ne_of_none l3 hla, upd_same, wne Z3.wl hla, Z3.sy.fresh hla, rfl, List.Pairwise.nil, fun j => ⟨fun z => (nomatch z), fun z => (nomatch z)⟩, fun j hj => (nomatch hj), by decide, by decide⟩
        clear S3 S3' Z3 l3 b3 t3 e3 tt3 hfi sl hla hdx hne hx
        -- for k in range(1 + draw)
        refine ⟨_, rfl, a, 40, 15, rfl, by decide, by decide, Z0.st.wl, by decide, fun d H4 d0 d1 f4 w4 => ?_⟩
        have Z4 := Z0.draw f4 w4
        obtain ⟨m, rfl⟩ : ∃ m : Nat, d = (m : Int) := ⟨d.toNat, (Int.toNat_of_nonneg d0).symm⟩
        refine ⟨1, (m : Int), rfl, rfl, 1 + (m : Int), rfl, by omega, by omega, for_range (lo := 0) (n := (1 + (m : Int)).toNat)
          (fun i σ H' => ∃ c8 c9 c10 S τ ys, σ = [some (.ref a0), some (.int n), some (.ref a), c3, some (.ref x), some (.ref la), some (.int S.p), if i = 0 then c7 else some (.int ((i : Int) - 1)), c8, c9, c10, c11] ∧ Sta A H' q3 Ls a la x wh S τ (16 + 3 * i) i ys ys)
          ⟨_, _, _, S0, τ, [], rfl, Z4⟩ ?_ ?_⟩
        · rintro i σ H5 hi ⟨c8, c9, c10, S, τ', ys, rfl, Z5⟩
          have hi40 : i < 41 := by omega
          -- way = draw
          refine ⟨_, rfl, a, 4, _, rfl, by decide, by decide, Z5.st.wl, by omega, fun way H6 way0 way1 f6 w6 => ?_⟩
          have Z6 := Z5.draw f6 w6
          dsimp only [gName, List.set]
          have i0 : (0 : Int) + (i : Int) = i := Int.zero_add _
          have pI := Z6.pi
          have inv : ∀ {c8 c9 c10 : Option V} {S' : Sys} {τ'' : Tm} {ys' : List Int} {B' : Nat} {H' : Hp}, B' ≤ 16 + 3 * (i + 1) → Sta A H' q3 Ls a la x wh S' τ'' B' ((i : Int) + 1) ys' ys' →
              ∃ c8' c9' c10' S'' τ3 ys'', [some (.ref a0), some (.int n), some (.ref a), c3, some (.ref x), some (.ref la), some (.int S'.p), some (.int ((0 : Int) + (i : Int))), c8, c9, c10, c11] =
                [some (.ref a0), some (.int n), some (.ref a), c3, some (.ref x), some (.ref la), some (.int S''.p), if i + 1 = 0 then c7 else some (.int (((i + 1 : Nat) : Int) - 1)), c8', c9', c10', c11] ∧
                Sta A H' q3 Ls a la x wh S'' τ3 (16 + 3 * (i + 1)) ((i + 1 : Nat) : Int) ys'' ys'' := @fun c8 c9 c10 S' τ'' ys' B' H' hB Z => by
            refine ⟨c8, c9, c10, S', τ'', ys', ?_, Z.mono hB (by omega)⟩
            rw [if_neg (Nat.succ_ne_zero i), i0]
            have e : (((i + 1 : Nat) : Int) - 1) = (i : Int) := by omega
            rw [e]
          have hl12 := Z6.few
          -- way < 2 and len(alive) < 12
          refine ⟨_, rfl, _, _, rfl, rfl, _, rfl, iteD (fun cw => ?_) (fun cw => ?_)⟩
          · refine ⟨_, rfl, la, _, rfl, .inl (SqL.of Z6.ll), _, _, rfl, rfl, _, rfl, iteD (fun cl => ?_) (fun cl => ?_)⟩
            · rw [List.length_map] at cl
              have hl : ys.length < 12 := by omega
              -- last = last + 1; told = ..
              refine ⟨_, rfl, _, _, rfl, rfl, ?_⟩
              refine eq_nil Z6 rfl fun H7 s7 => ?_
              have Z7 := Z6.same s7
              refine iteD (fun ce => ?_) (fun ce => ?_)
              · refine iteT ⟨_, rfl, x, wh, S, τ', rfl, Z7.st.sy, by omega, fun H8 τ8 g8 y8 => ?_⟩
                exact app_A (Z7.more g8 y8 rfl rfl (spn_tabs S) hl) rfl rfl rfl fun H9 Z9 => post_step Z9 rfl rfl (by rw [i0]; rfl) fun H10 Z10 => inv (S' := spnS S) (by omega) Z10
              · refine ⟨_, rfl, rfl, _, rfl, ?_⟩
                by_cases c0 : way = 0
                · rw [decide_eq_true (by rw [c0])]
                  refine iteT ⟨_, rfl, x, wh, S, τ', rfl, Z7.st.sy, by omega, fun H8 τ8 g8 y8 => ?_⟩
                  exact app_A (Z7.more g8 y8 rfl rfl (spn_tabs S) hl) rfl rfl rfl fun H9 Z9 => post_step Z9 rfl rfl (by rw [i0]; rfl) fun H10 Z10 => inv (S' := spnS S) (by omega) Z10
                · rw [decide_eq_false (fun z => c0 (V.int.inj z))]
                  refine iteF ⟨_, rfl, _, rfl, _, rfl, a, la, _, _, rfl, Z7.ll, Z7.nla, ?_, ?_, Z7.st.wl, by omega, fun v H8 hv f8 w8 => ?_⟩
                  · rw [List.length_map]
                    exact List.length_pos_iff.mpr ce
                  · rw [List.length_map]
                    omega
                  have Z8 := Z7.draw f8 w8
                  obtain ⟨z, hz, rfl⟩ := List.mem_map.mp hv
                  obtain ⟨T, eT⟩ := Option.isSome_iff_exists.mp ((Z8.al z).mp hz)
                  dsimp only [tNil, List.cons_append, List.nil_append]
                  refine use_fork Z8.st.sy eT (by omega) fun H9 τ9 g9 y9 => ?_
                  exact app_A (Z8.more g9 y9 rfl rfl (fork_tabs S T) hl) rfl rfl rfl fun H10 Z10 => post_step Z10 rfl rfl (by rw [i0]; rfl) fun H11 Z11 => inv (S' := forkS S T) (by omega) Z11
            · exact else_step Z6 (by omega) (by omega) fun H7 S7 τ7 ys7 s10' Z7 => post_step Z7 rfl rfl (by rw [i0]; rfl) fun H8 Z8 => inv (by omega) Z8
          · exact else_step Z6 (by omega) (by omega) fun H7 S7 τ7 ys7 s10' Z7 => post_step Z7 rfl rfl (by rw [i0]; rfl) fun H8 Z8 => inv (by omega) Z8
        · rintro σ H5 ⟨c8, c9, c10, S, τ', ys, rfl, Z5⟩
          have em : (1 + (m : Int)).toNat = m + 1 := by omega
          rw [em] at Z5 ⊢
          rw [if_neg (Nat.succ_ne_zero m)]
          have em2 : (((m + 1 : Nat) : Int) - 1) = (m : Int) := by omega
          rw [em2]
          have m40 : m < 40 := by omega
          have pI := Z5.pi
          -- odd
          refine ⟨_, rfl, _, rfl, _, rfl, _, _, rfl, rfl, Nat.zero_le _, fun p1 hp1 => fun p2 hp2 => ⟨(by show 1 ≤ sizeLine; decide), fun p3 hp3 => ⟨rfl, rfl, (by show 10 ≤ sizeLine; decide), fun q hq => ?_⟩⟩⟩
          have sB := ((Same.new (o := .lst []) hp1).trans (Same.new (o := .dK []) hp2)).trans (Same.new (o := .tup [V.int 1]) hp3)
          have Z6 := (Z5.same sB).same (Same.new (o := .lst [V.non, V.int 0, V.int (-1), V.int (S.p + 1), V.str "1", V.ref p1, V.ref p2, V.ref p3, V.bl (decide (V.int 1 = V.int 1)), V.bl (decide (V.int 1 = V.int 0))]) hq)
          refine ⟨a, q, _, _, rfl, upd_same, wne (Z5.same sB).st.wl hq, (by show 0 < 10; decide), (by show 10 < 1000; decide), Z6.st.wl, by omega, fun v H6 hv f6 w6 => ?_⟩
          have Z7 := Z6.draw f6 w6
          have n1 : p1 ≠ a := wne Z5.st.wl hp1
          have n2 : p2 ≠ a := wne (Z5.same (Same.new (o := .lst []) hp1)).st.wl hp2
          have n3 : p3 ≠ a := wne ((Z5.same (Same.new (o := .lst []) hp1)).same (Same.new (o := .dK []) hp2)).st.wl hp3
          have g1 : H6 p1 = some (.lst []) := f6 _ _ n1 (Same.new hq _ _ (Same.new hp3 _ _ (Same.new hp2 _ _ upd_same)))
          have g2 : H6 p2 = some (.dK []) := f6 _ _ n2 (Same.new hq _ _ (Same.new hp3 _ _ upd_same))
          have g3 : H6 p3 = some (.tup [V.int 1]) := f6 _ _ n3 (Same.new hq _ _ upd_same)
          have nr : ∀ {b c : Addr}, b ≠ c → V.ref b ≠ V.ref c := fun z e => z (V.ref.inj e)
          have big : ∀ {j : Int} {T : Tb}, (j < 1 ∨ S.p < j) → S.tabs j = some T → False := fun {j T} hj e => by
            have := Z7.bd j ((Z7.al j).mpr (by rw [e]; rfl))
            omega
          have any : (AnyV H6 v ∧ v ≠ .ref a) ∧ ∀ j T, v = .int j → S.tabs j = some T → False := by
            simp only [List.mem_cons, List.not_mem_nil, or_false] at hv
            rcases hv with rfl | rfl | rfl | rfl | rfl | rfl | rfl | rfl | rfl | rfl
            · exact ⟨⟨.non, by simp⟩, fun j T e => (nomatch e)⟩
            · exact ⟨⟨.int _, by simp⟩, fun j T e => by cases e; exact big (by omega)⟩
            · exact ⟨⟨.int _, by simp⟩, fun j T e => by cases e; exact big (by omega)⟩
            · exact ⟨⟨.int _, by simp⟩, fun j T e => by cases e; exact big (by omega)⟩
            · exact ⟨⟨.str _, by simp⟩, fun j T e => (nomatch e)⟩
            · exact ⟨⟨.lst g1, nr n1⟩, fun j T e => (nomatch e)⟩
            · exact ⟨⟨.dK g2, nr n2⟩, fun j T e => (nomatch e)⟩
            · exact ⟨⟨.tup g3, nr n3⟩, fun j T e => (nomatch e)⟩
            · exact ⟨⟨.bl _, by simp⟩, fun j T e => (nomatch e)⟩
            · exact ⟨⟨.bl _, by simp⟩, fun j T e => (nomatch e)⟩
          obtain ⟨⟨av, an⟩, nv⟩ := any
          clear g1 g2 g3 n1 n2 n3 f6 w6 hq hp3 sB Z6
          dsimp only [gName, List.set]
          -- fork
          refine told_St (B' := _) (t := "process") (y := v) Z7.st av.selfEq (fun H' Q' F k' => ⟨_, rfl, (by show 2 ≤ sizeLine; decide), fun q hq => k' q _ (Same.new hq) upd_same⟩) (fun E' H' Q' F Z' rz => ⟨_, rfl, _, rfl, x, wh, S, τ', v, rfl, Z'.sy, av.frm an F, by omega, fun _ => rz H' Frm.refl Z' rfl, fun j T e1 e2 => (nv j T e1 e2).elim⟩) fun H7 F7 z8 => ?_
          have Z8 := Z7.frm F7 z8.wl z8.tb
          refine iteF (procs_ne Z8 rfl rfl fun H8 s9 => iteF ?_)
          have Z9 := Z8.same s9
          have av9 := av.frm an (F7.trans (Frm.same s9))
          -- leave
          refine told_St (B' := _) (t := "process") (y := v) Z9.st av.selfEq (fun H' Q' F k' => ⟨_, rfl, (by show 2 ≤ sizeLine; decide), fun q hq => k' q _ (Same.new hq) upd_same⟩) (fun E' H' Q' F Z' rz => ⟨_, rfl, _, rfl, x, wh, S, τ', v, rfl, Z'.sy, av9.frm an F, fun _ => rz H' Frm.refl Z' rfl, fun j T e1 e2 => (nv j T e1 e2).elim⟩) fun H9 F9 z10 => iteF ?_
          have Z10 := Z9.frm F9 z10.wl z10.tb
          have av10 := av9.frm an F9
          -- fresh
          refine told_St (B' := _) (t := "process") (y := v) Z10.st av.selfEq (fun H' Q' F k' => ⟨_, rfl, (by show 2 ≤ sizeLine; decide), fun q hq => k' q _ (Same.new hq) upd_same⟩) (fun E' H' Q' F Z' rz => ⟨_, rfl, _, rfl, x, wh, S, τ', v, rfl, Z'.sy, av10.frm an F, fun _ => rz H' Frm.refl Z' rfl, fun j T e1 e2 => (nv j T e1 e2).elim⟩) fun H10 F10 z11 => iteF ?_
          have Z11 := Z10.frm F10 z11.wl z11.tb
          refine ⟨_, rfl, ?_⟩
          dsimp only [tNil, List.cons_append, List.nil_append]
          refine now_at Z11 ⟨_, rfl, _, _, rfl, rfl, rfl, _, rfl, ?_⟩
          have e9 : V.int (((m + 1 : Nat) : Int)) = V.int ((m : Int) + 1) := by rw [show (((m + 1 : Nat) : Int)) = (m : Int) + 1 by omega]
          rw [decide_eq_true e9]
          exact iteF ⟨⟨_, _, _, _, _, _, _, _, _, _, _, rfl⟩, Z11.st.tb, Z11.q⟩
    · rintro σ H' ⟨⟨c1, c2, c3, c4, c5, c6, c7, c8, c9, c10, c11, rfl⟩, T0, l0⟩
      exact k _
end
end My
set_option Elab.async false
set_option linter.all false
set_option maxRecDepth 100000
set_option maxHeartbeats 4000000
namespace My
open PySem L2
local macro_rules | `(tactic| walk_at "ds") => `(tactic| dsimp only [tSeq, tIfS, tTest, tB, tAnd, tOr, tNot, tAndV, tOrV, tNotV, tIf, tIsN, tNotN, tOp, tUn, tChain, rI, rI0, rU, tC, tCB, tCons, tNil, tAsg, gName, gSub, tRet, tRetN, tNext, tDrop, tLst, tTup, rIxL, rIxT, rSetL, tVar, tFld, tCall, tDGet, tDIn, tDNotIn, tNever, L2.start, List.map, List.replicate, List.length, List.append, List.cons_append, List.nil_append, List.set, Nat.sub])
local macro_rules | `(tactic| walk_at "hp") => `(tactic| first | assumption | exact upd_same | (refine Eq.trans (upd_ne (by first | assumption | (apply Ne.symm; assumption))) ?_; walk_at "hp"))
local macro_rules | `(tactic| walk_at "sd") => `(tactic| first
  | (show (_ : Int) ≠ 0; omega)
  | (refine (show CDivN _ _ from ⟨?_, ?_⟩) <;> omega)
  | (show CPow _ _; refine ⟨by omega, by omega, by omega⟩)
  | (show CMul _ _; exact Or.inl ⟨by omega, by omega⟩)
  | (show CMul _ _; exact Or.inr ⟨by omega, by omega⟩))
local macro_rules | `(tactic| walk_at "st") => `(tactic| first
  | refine ⟨_, rfl, ?_⟩
  | refine ⟨_, _, rfl, rfl, (by walk_at "sd"), ?_⟩
  | refine ⟨_, _, rfl, rfl, ?_⟩
  | refine ⟨_, _, _, _, rfl, rfl, SqL.of (by walk_at "hp"), rfl, ?_⟩
  | refine ⟨_, _, _, _, rfl, rfl, (by walk_at "hp"), rfl, ?_⟩
  | refine .inl ⟨_, rfl, ?_⟩
  | refine ⟨_, _, _, _, _, rfl, (by walk_at "hp"), (by assumption), (by assumption), rfl, ?_⟩
  | refine ⟨_, _, rfl, .inl (SqL.of (by walk_at "hp")), ?_⟩)
local macro_rules | `(tactic| walk_at "go") => `(tactic| repeat (first | walk_at "st" | (walk_at "ds"; walk_at "st")))
local macro_rules | `(tactic| walk_at "ni") => `(tactic| dsimp (config := { proj := false }) only [tNil, List.cons_append, List.nil_append])
open PySem L2
theorem all_mk {K : PySem.W.Frag} {h : Heap} {mg : Str → Option Value} (X : K.In h) (G : h.Ns mainGlobals mg)
    {f_with_flags : Addr} {od_with_flags an_with_flags : Option Addr} {sl_with_flags : Array (Option Value)} {oc_with_flags dc_with_flags pm_with_flags ct_with_flags : Value} {cd_with_flags : Value}
    {kV_with_flags : Value}
    {f_with_lock : Addr} {od_with_lock an_with_lock : Option Addr} {sl_with_lock : Array (Option Value)} {oc_with_lock dc_with_lock pm_with_lock ct_with_lock : Value} {cd_with_lock : Value}
    {kV_with_lock : Value}
    {f_with_held : Addr} {od_with_held an_with_held : Option Addr} {sl_with_held : Array (Option Value)} {oc_with_held dc_with_held pm_with_held ct_with_held : Value} {cd_with_held : Value}
    {kV_with_held : Value}
    {f_with_stamp : Addr} {od_with_stamp an_with_stamp : Option Addr} {sl_with_stamp : Array (Option Value)} {oc_with_stamp dc_with_stamp pm_with_stamp ct_with_stamp : Value} {cd_with_stamp : Value}
    {kV_with_stamp : Value}
    {f_has_object : Addr} {od_has_object an_has_object : Option Addr} {sl_has_object : Array (Option Value)} {oc_has_object dc_has_object pm_has_object ct_has_object : Value} {cd_has_object : Value}
    {kV_has_object : Value}
    {f_arrange_locked : Addr} {od_arrange_locked an_arrange_locked : Option Addr} {sl_arrange_locked : Array (Option Value)} {oc_arrange_locked dc_arrange_locked pm_arrange_locked ct_arrange_locked : Value} {cd_arrange_locked : Value}
    {kV_arrange_locked : Value}
    {f_add_locked : Addr} {od_add_locked an_add_locked : Option Addr} {sl_add_locked : Array (Option Value)} {oc_add_locked dc_add_locked pm_add_locked ct_add_locked : Value} {cd_add_locked : Value}
    {kV_add_locked : Value}
    {f_this_step : Addr} {od_this_step an_this_step : Option Addr} {sl_this_step : Array (Option Value)} {oc_this_step dc_this_step pm_this_step ct_this_step : Value} {cd_this_step : Value}
    {kV_this_step : Value}
    {f_count_page : Addr} {od_count_page an_count_page : Option Addr} {sl_count_page : Array (Option Value)} {oc_count_page dc_count_page pm_count_page ct_count_page : Value} {cd_count_page : Value}
    {kV_count_page : Value}
    {f_discount_page : Addr} {od_discount_page an_discount_page : Option Addr} {sl_discount_page : Array (Option Value)} {oc_discount_page dc_discount_page pm_discount_page ct_discount_page : Value} {cd_discount_page : Value}
    {kV_discount_page : Value}
    {f_discount_user : Addr} {od_discount_user an_discount_user : Option Addr} {sl_discount_user : Array (Option Value)} {oc_discount_user dc_discount_user pm_discount_user ct_discount_user : Value} {cd_discount_user : Value}
    {kV_discount_user : Value}
    {f_replace_pages : Addr} {od_replace_pages an_replace_pages : Option Addr} {sl_replace_pages : Array (Option Value)} {oc_replace_pages dc_replace_pages pm_replace_pages ct_replace_pages : Value} {cd_replace_pages : Value}
    {kV_replace_pages : Value}
    {f_end_step : Addr} {od_end_step an_end_step : Option Addr} {sl_end_step : Array (Option Value)} {oc_end_step dc_end_step pm_end_step ct_end_step : Value} {cd_end_step : Value}
    {kV_end_step : Value}
    {f_is_integer : Addr} {od_is_integer an_is_integer : Option Addr} {sl_is_integer : Array (Option Value)} {oc_is_integer dc_is_integer pm_is_integer ct_is_integer : Value} {cd_is_integer : Value}
    {kV_is_integer : Value}
    {f_table_of : Addr} {od_table_of an_table_of : Option Addr} {sl_table_of : Array (Option Value)} {oc_table_of dc_table_of pm_table_of ct_table_of : Value} {cd_table_of : Value}
    {kV_table_of : Value}
    {f_require_charge : Addr} {od_require_charge an_require_charge : Option Addr} {sl_require_charge : Array (Option Value)} {oc_require_charge dc_require_charge pm_require_charge ct_require_charge : Value} {cd_require_charge : Value}
    {kV_require_charge : Value}
    {f_now : Addr} {od_now an_now : Option Addr} {sl_now : Array (Option Value)} {oc_now dc_now pm_now ct_now : Value} {cd_now : Value}
    {kV_now : Value}
    {f_new_process : Addr} {od_new_process an_new_process : Option Addr} {sl_new_process : Array (Option Value)} {oc_new_process dc_new_process pm_new_process ct_new_process : Value} {cd_new_process : Value}
    {kV_new_process : Value}
    {f_unmap_all : Addr} {od_unmap_all an_unmap_all : Option Addr} {sl_unmap_all : Array (Option Value)} {oc_unmap_all dc_unmap_all pm_unmap_all ct_unmap_all : Value} {cd_unmap_all : Value}
    {kV_unmap_all : Value}
    {f_end_process : Addr} {od_end_process an_end_process : Option Addr} {sl_end_process : Array (Option Value)} {oc_end_process dc_end_process pm_end_process ct_end_process : Value} {cd_end_process : Value}
    {kV_end_process : Value}
    {f_spawn : Addr} {od_spawn an_spawn : Option Addr} {sl_spawn : Array (Option Value)} {oc_spawn dc_spawn pm_spawn ct_spawn : Value} {cd_spawn : Value}
    {kV_spawn : Value}
    {f_child_page : Addr} {od_child_page an_child_page : Option Addr} {sl_child_page : Array (Option Value)} {oc_child_page dc_child_page pm_child_page ct_child_page : Value} {cd_child_page : Value}
    {kV_child_page : Value}
    {f_pages_of_child : Addr} {od_pages_of_child an_pages_of_child : Option Addr} {sl_pages_of_child : Array (Option Value)} {oc_pages_of_child dc_pages_of_child pm_pages_of_child ct_pages_of_child : Value} {cd_pages_of_child : Value}
    {kV_pages_of_child : Value}
    {f_fork : Addr} {od_fork an_fork : Option Addr} {sl_fork : Array (Option Value)} {oc_fork dc_fork pm_fork ct_fork : Value} {cd_fork : Value}
    {kV_fork : Value}
    {f_leave : Addr} {od_leave an_leave : Option Addr} {sl_leave : Array (Option Value)} {oc_leave dc_leave pm_leave ct_leave : Value} {cd_leave : Value}
    {kV_leave : Value}
    {f_fresh : Addr} {od_fresh an_fresh : Option Addr} {sl_fresh : Array (Option Value)} {oc_fresh dc_fresh pm_fresh ct_fresh : Value} {cd_fresh : Value}
    {kV_fresh : Value}
    {f_processes : Addr} {od_processes an_processes : Option Addr} {sl_processes : Array (Option Value)} {oc_processes dc_processes pm_processes ct_processes : Value} {cd_processes : Value}
    {kV_processes : Value}
    {f__law_well : Addr} {od__law_well an__law_well : Option Addr} {sl__law_well : Array (Option Value)} {oc__law_well dc__law_well pm__law_well ct__law_well : Value} {cd__law_well : Value}
    {kV__law_well : Value}
    {f__law_draw : Addr} {od__law_draw an__law_draw : Option Addr} {sl__law_draw : Array (Option Value)} {oc__law_draw dc__law_draw pm__law_draw ct__law_draw : Value} {cd__law_draw : Value}
    {kV__law_draw : Value}
    {f__law_one : Addr} {od__law_one an__law_one : Option Addr} {sl__law_one : Array (Option Value)} {oc__law_one dc__law_one pm__law_one ct__law_one : Value} {cd__law_one : Value}
    {kV__law_one : Value}
    {f__law_said : Addr} {od__law_said an__law_said : Option Addr} {sl__law_said : Array (Option Value)} {oc__law_said dc__law_said pm__law_said ct__law_said : Value} {cd__law_said : Value}
    {kV__law_said : Value}
    {f__law_is_number : Addr} {od__law_is_number an__law_is_number : Option Addr} {sl__law_is_number : Array (Option Value)} {oc__law_is_number dc__law_is_number pm__law_is_number ct__law_is_number : Value} {cd__law_is_number : Value}
    {kV__law_is_number : Value}
    {f__law_system_right : Addr} {od__law_system_right an__law_system_right : Option Addr} {sl__law_system_right : Array (Option Value)} {oc__law_system_right dc__law_system_right pm__law_system_right ct__law_system_right : Value} {co__law_system_right ta__law_system_right : Addr}
    {kV__law_system_right : Value}
    {f_law : Addr} {od_law an_law : Option Addr} {sl_law : Array (Option Value)} {oc_law dc_law pm_law ct_law : Value} {co_law ta_law : Addr}
    {kV_law : Value}
    {C_NoSystem : Addr}
    {C_NoProcess : Addr}
    {C_PageError : Addr}
    {C_System : Addr}
    {C_Page : Addr}
    {C_History : Addr}
    {f_NoSystem_init : Addr} {od_NoSystem_init an_NoSystem_init : Option Addr} {sl_NoSystem_init : Array (Option Value)} {oc_NoSystem_init dc_NoSystem_init pm_NoSystem_init ct_NoSystem_init : Value} {cd_NoSystem_init : Value}
    {kV_NoSystem_init : Value}
    {f_NoProcess_init : Addr} {od_NoProcess_init an_NoProcess_init : Option Addr} {sl_NoProcess_init : Array (Option Value)} {oc_NoProcess_init dc_NoProcess_init pm_NoProcess_init ct_NoProcess_init : Value} {cd_NoProcess_init : Value}
    {kV_NoProcess_init : Value}
    {f_Page_init : Addr} {od_Page_init an_Page_init : Option Addr} {sl_Page_init : Array (Option Value)} {oc_Page_init dc_Page_init pm_Page_init ct_Page_init : Value} {cd_Page_init : Value}
    {kV_Page_init : Value}
    {f_History_init : Addr} {od_History_init an_History_init : Option Addr} {sl_History_init : Array (Option Value)} {oc_History_init dc_History_init pm_History_init ct_History_init : Value} {cd_History_init : Value}
    {kV_History_init : Value}
    {f_System_init : Addr} {od_System_init an_System_init : Option Addr} {sl_System_init : Array (Option Value)} {oc_System_init dc_System_init pm_System_init ct_System_init : Value} {cd_System_init : Value}
    {kD_System_init : Addr}
    {nm_NoSystem q_NoSystem : Str} {N_NoSystem : Addr} {bs_NoSystem bm_NoSystem sub_NoSystem : List Value} {sn_NoSystem : List Str} {ab_NoSystem : Bool} {col_NoSystem : Option Bool} {dd_NoSystem : Option Addr} {m0_NoSystem m1_NoSystem m2_NoSystem m3_NoSystem m5_NoSystem : Option Value}
    {nm_NoProcess q_NoProcess : Str} {N_NoProcess : Addr} {bs_NoProcess bm_NoProcess sub_NoProcess : List Value} {sn_NoProcess : List Str} {ab_NoProcess : Bool} {col_NoProcess : Option Bool} {dd_NoProcess : Option Addr} {m0_NoProcess m1_NoProcess m2_NoProcess m3_NoProcess m5_NoProcess : Option Value}
    {nm_PageError q_PageError : Str} {N_PageError : Addr} {bs_PageError bm_PageError sub_PageError : List Value} {sn_PageError : List Str} {ab_PageError : Bool} {col_PageError : Option Bool} {dd_PageError : Option Addr} {m0_PageError m1_PageError m2_PageError m3_PageError m5_PageError : Option Value}
    {o_FLAGS : Addr}
    (h_with_flags : PySem.W.nsIn K mainGlobals "with_flags" = some (some (.ref f_with_flags)))
    (l_with_flags : K.lookup f_with_flags = some ⟨oc_with_flags, od_with_flags, .func (PySem.W.fnOf "with_flags" "with_flags" (defArgs s_with_flags) (defBody s_with_flags) (defScope s_with_flags) .none kV_with_flags dc_with_flags pm_with_flags an_with_flags cd_with_flags ct_with_flags), sl_with_flags⟩)
    (c_with_flags : PySem.W.codeIn K cd_with_flags "with_flags" = true)
    (k_with_flags : PySem.W.keepIn K (.ref f_with_flags) = true)
    (h_with_lock : PySem.W.nsIn K mainGlobals "with_lock" = some (some (.ref f_with_lock)))
    (l_with_lock : K.lookup f_with_lock = some ⟨oc_with_lock, od_with_lock, .func (PySem.W.fnOf "with_lock" "with_lock" (defArgs s_with_lock) (defBody s_with_lock) (defScope s_with_lock) .none kV_with_lock dc_with_lock pm_with_lock an_with_lock cd_with_lock ct_with_lock), sl_with_lock⟩)
    (c_with_lock : PySem.W.codeIn K cd_with_lock "with_lock" = true)
    (k_with_lock : PySem.W.keepIn K (.ref f_with_lock) = true)
    (h_with_held : PySem.W.nsIn K mainGlobals "with_held" = some (some (.ref f_with_held)))
    (l_with_held : K.lookup f_with_held = some ⟨oc_with_held, od_with_held, .func (PySem.W.fnOf "with_held" "with_held" (defArgs s_with_held) (defBody s_with_held) (defScope s_with_held) .none kV_with_held dc_with_held pm_with_held an_with_held cd_with_held ct_with_held), sl_with_held⟩)
    (c_with_held : PySem.W.codeIn K cd_with_held "with_held" = true)
    (k_with_held : PySem.W.keepIn K (.ref f_with_held) = true)
    (h_with_stamp : PySem.W.nsIn K mainGlobals "with_stamp" = some (some (.ref f_with_stamp)))
    (l_with_stamp : K.lookup f_with_stamp = some ⟨oc_with_stamp, od_with_stamp, .func (PySem.W.fnOf "with_stamp" "with_stamp" (defArgs s_with_stamp) (defBody s_with_stamp) (defScope s_with_stamp) .none kV_with_stamp dc_with_stamp pm_with_stamp an_with_stamp cd_with_stamp ct_with_stamp), sl_with_stamp⟩)
    (c_with_stamp : PySem.W.codeIn K cd_with_stamp "with_stamp" = true)
    (k_with_stamp : PySem.W.keepIn K (.ref f_with_stamp) = true)
    (h_has_object : PySem.W.nsIn K mainGlobals "has_object" = some (some (.ref f_has_object)))
    (l_has_object : K.lookup f_has_object = some ⟨oc_has_object, od_has_object, .func (PySem.W.fnOf "has_object" "has_object" (defArgs s_has_object) (defBody s_has_object) (defScope s_has_object) .none kV_has_object dc_has_object pm_has_object an_has_object cd_has_object ct_has_object), sl_has_object⟩)
    (c_has_object : PySem.W.codeIn K cd_has_object "has_object" = true)
    (k_has_object : PySem.W.keepIn K (.ref f_has_object) = true)
    (h_arrange_locked : PySem.W.nsIn K mainGlobals "arrange_locked" = some (some (.ref f_arrange_locked)))
    (l_arrange_locked : K.lookup f_arrange_locked = some ⟨oc_arrange_locked, od_arrange_locked, .func (PySem.W.fnOf "arrange_locked" "arrange_locked" (defArgs s_arrange_locked) (defBody s_arrange_locked) (defScope s_arrange_locked) .none kV_arrange_locked dc_arrange_locked pm_arrange_locked an_arrange_locked cd_arrange_locked ct_arrange_locked), sl_arrange_locked⟩)
    (c_arrange_locked : PySem.W.codeIn K cd_arrange_locked "arrange_locked" = true)
    (k_arrange_locked : PySem.W.keepIn K (.ref f_arrange_locked) = true)
    (h_add_locked : PySem.W.nsIn K mainGlobals "add_locked" = some (some (.ref f_add_locked)))
    (l_add_locked : K.lookup f_add_locked = some ⟨oc_add_locked, od_add_locked, .func (PySem.W.fnOf "add_locked" "add_locked" (defArgs s_add_locked) (defBody s_add_locked) (defScope s_add_locked) .none kV_add_locked dc_add_locked pm_add_locked an_add_locked cd_add_locked ct_add_locked), sl_add_locked⟩)
    (c_add_locked : PySem.W.codeIn K cd_add_locked "add_locked" = true)
    (k_add_locked : PySem.W.keepIn K (.ref f_add_locked) = true)
    (h_this_step : PySem.W.nsIn K mainGlobals "this_step" = some (some (.ref f_this_step)))
    (l_this_step : K.lookup f_this_step = some ⟨oc_this_step, od_this_step, .func (PySem.W.fnOf "this_step" "this_step" (defArgs s_this_step) (defBody s_this_step) (defScope s_this_step) .none kV_this_step dc_this_step pm_this_step an_this_step cd_this_step ct_this_step), sl_this_step⟩)
    (c_this_step : PySem.W.codeIn K cd_this_step "this_step" = true)
    (k_this_step : PySem.W.keepIn K (.ref f_this_step) = true)
    (h_count_page : PySem.W.nsIn K mainGlobals "count_page" = some (some (.ref f_count_page)))
    (l_count_page : K.lookup f_count_page = some ⟨oc_count_page, od_count_page, .func (PySem.W.fnOf "count_page" "count_page" (defArgs s_count_page) (defBody s_count_page) (defScope s_count_page) .none kV_count_page dc_count_page pm_count_page an_count_page cd_count_page ct_count_page), sl_count_page⟩)
    (c_count_page : PySem.W.codeIn K cd_count_page "count_page" = true)
    (k_count_page : PySem.W.keepIn K (.ref f_count_page) = true)
    (h_discount_page : PySem.W.nsIn K mainGlobals "discount_page" = some (some (.ref f_discount_page)))
    (l_discount_page : K.lookup f_discount_page = some ⟨oc_discount_page, od_discount_page, .func (PySem.W.fnOf "discount_page" "discount_page" (defArgs s_discount_page) (defBody s_discount_page) (defScope s_discount_page) .none kV_discount_page dc_discount_page pm_discount_page an_discount_page cd_discount_page ct_discount_page), sl_discount_page⟩)
    (c_discount_page : PySem.W.codeIn K cd_discount_page "discount_page" = true)
    (k_discount_page : PySem.W.keepIn K (.ref f_discount_page) = true)
    (h_discount_user : PySem.W.nsIn K mainGlobals "discount_user" = some (some (.ref f_discount_user)))
    (l_discount_user : K.lookup f_discount_user = some ⟨oc_discount_user, od_discount_user, .func (PySem.W.fnOf "discount_user" "discount_user" (defArgs s_discount_user) (defBody s_discount_user) (defScope s_discount_user) .none kV_discount_user dc_discount_user pm_discount_user an_discount_user cd_discount_user ct_discount_user), sl_discount_user⟩)
    (c_discount_user : PySem.W.codeIn K cd_discount_user "discount_user" = true)
    (k_discount_user : PySem.W.keepIn K (.ref f_discount_user) = true)
    (h_replace_pages : PySem.W.nsIn K mainGlobals "replace_pages" = some (some (.ref f_replace_pages)))
    (l_replace_pages : K.lookup f_replace_pages = some ⟨oc_replace_pages, od_replace_pages, .func (PySem.W.fnOf "replace_pages" "replace_pages" (defArgs s_replace_pages) (defBody s_replace_pages) (defScope s_replace_pages) .none kV_replace_pages dc_replace_pages pm_replace_pages an_replace_pages cd_replace_pages ct_replace_pages), sl_replace_pages⟩)
    (c_replace_pages : PySem.W.codeIn K cd_replace_pages "replace_pages" = true)
    (k_replace_pages : PySem.W.keepIn K (.ref f_replace_pages) = true)
    (h_end_step : PySem.W.nsIn K mainGlobals "end_step" = some (some (.ref f_end_step)))
    (l_end_step : K.lookup f_end_step = some ⟨oc_end_step, od_end_step, .func (PySem.W.fnOf "end_step" "end_step" (defArgs s_end_step) (defBody s_end_step) (defScope s_end_step) .none kV_end_step dc_end_step pm_end_step an_end_step cd_end_step ct_end_step), sl_end_step⟩)
    (c_end_step : PySem.W.codeIn K cd_end_step "end_step" = true)
    (k_end_step : PySem.W.keepIn K (.ref f_end_step) = true)
    (h_is_integer : PySem.W.nsIn K mainGlobals "is_integer" = some (some (.ref f_is_integer)))
    (l_is_integer : K.lookup f_is_integer = some ⟨oc_is_integer, od_is_integer, .func (PySem.W.fnOf "is_integer" "is_integer" (defArgs s_is_integer) (defBody s_is_integer) (defScope s_is_integer) .none kV_is_integer dc_is_integer pm_is_integer an_is_integer cd_is_integer ct_is_integer), sl_is_integer⟩)
    (c_is_integer : PySem.W.codeIn K cd_is_integer "is_integer" = true)
    (k_is_integer : PySem.W.keepIn K (.ref f_is_integer) = true)
    (h_table_of : PySem.W.nsIn K mainGlobals "table_of" = some (some (.ref f_table_of)))
    (l_table_of : K.lookup f_table_of = some ⟨oc_table_of, od_table_of, .func (PySem.W.fnOf "table_of" "table_of" (defArgs s_table_of) (defBody s_table_of) (defScope s_table_of) .none kV_table_of dc_table_of pm_table_of an_table_of cd_table_of ct_table_of), sl_table_of⟩)
    (c_table_of : PySem.W.codeIn K cd_table_of "table_of" = true)
    (k_table_of : PySem.W.keepIn K (.ref f_table_of) = true)
    (h_require_charge : PySem.W.nsIn K mainGlobals "require_charge" = some (some (.ref f_require_charge)))
    (l_require_charge : K.lookup f_require_charge = some ⟨oc_require_charge, od_require_charge, .func (PySem.W.fnOf "require_charge" "require_charge" (defArgs s_require_charge) (defBody s_require_charge) (defScope s_require_charge) .none kV_require_charge dc_require_charge pm_require_charge an_require_charge cd_require_charge ct_require_charge), sl_require_charge⟩)
    (c_require_charge : PySem.W.codeIn K cd_require_charge "require_charge" = true)
    (k_require_charge : PySem.W.keepIn K (.ref f_require_charge) = true)
    (h_now : PySem.W.nsIn K mainGlobals "now" = some (some (.ref f_now)))
    (l_now : K.lookup f_now = some ⟨oc_now, od_now, .func (PySem.W.fnOf "now" "now" (defArgs s_now) (defBody s_now) (defScope s_now) .none kV_now dc_now pm_now an_now cd_now ct_now), sl_now⟩)
    (c_now : PySem.W.codeIn K cd_now "now" = true)
    (k_now : PySem.W.keepIn K (.ref f_now) = true)
    (h_new_process : PySem.W.nsIn K mainGlobals "new_process" = some (some (.ref f_new_process)))
    (l_new_process : K.lookup f_new_process = some ⟨oc_new_process, od_new_process, .func (PySem.W.fnOf "new_process" "new_process" (defArgs s_new_process) (defBody s_new_process) (defScope s_new_process) .none kV_new_process dc_new_process pm_new_process an_new_process cd_new_process ct_new_process), sl_new_process⟩)
    (c_new_process : PySem.W.codeIn K cd_new_process "new_process" = true)
    (k_new_process : PySem.W.keepIn K (.ref f_new_process) = true)
    (h_unmap_all : PySem.W.nsIn K mainGlobals "unmap_all" = some (some (.ref f_unmap_all)))
    (l_unmap_all : K.lookup f_unmap_all = some ⟨oc_unmap_all, od_unmap_all, .func (PySem.W.fnOf "unmap_all" "unmap_all" (defArgs s_unmap_all) (defBody s_unmap_all) (defScope s_unmap_all) .none kV_unmap_all dc_unmap_all pm_unmap_all an_unmap_all cd_unmap_all ct_unmap_all), sl_unmap_all⟩)
    (c_unmap_all : PySem.W.codeIn K cd_unmap_all "unmap_all" = true)
    (k_unmap_all : PySem.W.keepIn K (.ref f_unmap_all) = true)
    (h_end_process : PySem.W.nsIn K mainGlobals "end_process" = some (some (.ref f_end_process)))
    (l_end_process : K.lookup f_end_process = some ⟨oc_end_process, od_end_process, .func (PySem.W.fnOf "end_process" "end_process" (defArgs s_end_process) (defBody s_end_process) (defScope s_end_process) .none kV_end_process dc_end_process pm_end_process an_end_process cd_end_process ct_end_process), sl_end_process⟩)
    (c_end_process : PySem.W.codeIn K cd_end_process "end_process" = true)
    (k_end_process : PySem.W.keepIn K (.ref f_end_process) = true)
    (h_spawn : PySem.W.nsIn K mainGlobals "spawn" = some (some (.ref f_spawn)))
    (l_spawn : K.lookup f_spawn = some ⟨oc_spawn, od_spawn, .func (PySem.W.fnOf "spawn" "spawn" (defArgs s_spawn) (defBody s_spawn) (defScope s_spawn) .none kV_spawn dc_spawn pm_spawn an_spawn cd_spawn ct_spawn), sl_spawn⟩)
    (c_spawn : PySem.W.codeIn K cd_spawn "spawn" = true)
    (k_spawn : PySem.W.keepIn K (.ref f_spawn) = true)
    (h_child_page : PySem.W.nsIn K mainGlobals "child_page" = some (some (.ref f_child_page)))
    (l_child_page : K.lookup f_child_page = some ⟨oc_child_page, od_child_page, .func (PySem.W.fnOf "child_page" "child_page" (defArgs s_child_page) (defBody s_child_page) (defScope s_child_page) .none kV_child_page dc_child_page pm_child_page an_child_page cd_child_page ct_child_page), sl_child_page⟩)
    (c_child_page : PySem.W.codeIn K cd_child_page "child_page" = true)
    (k_child_page : PySem.W.keepIn K (.ref f_child_page) = true)
    (h_pages_of_child : PySem.W.nsIn K mainGlobals "pages_of_child" = some (some (.ref f_pages_of_child)))
    (l_pages_of_child : K.lookup f_pages_of_child = some ⟨oc_pages_of_child, od_pages_of_child, .func (PySem.W.fnOf "pages_of_child" "pages_of_child" (defArgs s_pages_of_child) (defBody s_pages_of_child) (defScope s_pages_of_child) .none kV_pages_of_child dc_pages_of_child pm_pages_of_child an_pages_of_child cd_pages_of_child ct_pages_of_child), sl_pages_of_child⟩)
    (c_pages_of_child : PySem.W.codeIn K cd_pages_of_child "pages_of_child" = true)
    (k_pages_of_child : PySem.W.keepIn K (.ref f_pages_of_child) = true)
    (h_fork : PySem.W.nsIn K mainGlobals "fork" = some (some (.ref f_fork)))
    (l_fork : K.lookup f_fork = some ⟨oc_fork, od_fork, .func (PySem.W.fnOf "fork" "fork" (defArgs s_fork) (defBody s_fork) (defScope s_fork) .none kV_fork dc_fork pm_fork an_fork cd_fork ct_fork), sl_fork⟩)
    (c_fork : PySem.W.codeIn K cd_fork "fork" = true)
    (k_fork : PySem.W.keepIn K (.ref f_fork) = true)
    (h_leave : PySem.W.nsIn K mainGlobals "leave" = some (some (.ref f_leave)))
    (l_leave : K.lookup f_leave = some ⟨oc_leave, od_leave, .func (PySem.W.fnOf "leave" "leave" (defArgs s_leave) (defBody s_leave) (defScope s_leave) .none kV_leave dc_leave pm_leave an_leave cd_leave ct_leave), sl_leave⟩)
    (c_leave : PySem.W.codeIn K cd_leave "leave" = true)
    (k_leave : PySem.W.keepIn K (.ref f_leave) = true)
    (h_fresh : PySem.W.nsIn K mainGlobals "fresh" = some (some (.ref f_fresh)))
    (l_fresh : K.lookup f_fresh = some ⟨oc_fresh, od_fresh, .func (PySem.W.fnOf "fresh" "fresh" (defArgs s_fresh) (defBody s_fresh) (defScope s_fresh) .none kV_fresh dc_fresh pm_fresh an_fresh cd_fresh ct_fresh), sl_fresh⟩)
    (c_fresh : PySem.W.codeIn K cd_fresh "fresh" = true)
    (k_fresh : PySem.W.keepIn K (.ref f_fresh) = true)
    (h_processes : PySem.W.nsIn K mainGlobals "processes" = some (some (.ref f_processes)))
    (l_processes : K.lookup f_processes = some ⟨oc_processes, od_processes, .func (PySem.W.fnOf "processes" "processes" (defArgs s_processes) (defBody s_processes) (defScope s_processes) .none kV_processes dc_processes pm_processes an_processes cd_processes ct_processes), sl_processes⟩)
    (c_processes : PySem.W.codeIn K cd_processes "processes" = true)
    (k_processes : PySem.W.keepIn K (.ref f_processes) = true)
    (h__law_well : PySem.W.nsIn K mainGlobals "_law_well" = some (some (.ref f__law_well)))
    (l__law_well : K.lookup f__law_well = some ⟨oc__law_well, od__law_well, .func (PySem.W.fnOf "_law_well" "_law_well" (defArgs s__law_well) (defBody s__law_well) (defScope s__law_well) .none kV__law_well dc__law_well pm__law_well an__law_well cd__law_well ct__law_well), sl__law_well⟩)
    (c__law_well : PySem.W.codeIn K cd__law_well "_law_well" = true)
    (k__law_well : PySem.W.keepIn K (.ref f__law_well) = true)
    (h__law_draw : PySem.W.nsIn K mainGlobals "_law_draw" = some (some (.ref f__law_draw)))
    (l__law_draw : K.lookup f__law_draw = some ⟨oc__law_draw, od__law_draw, .func (PySem.W.fnOf "_law_draw" "_law_draw" (defArgs s__law_draw) (defBody s__law_draw) (defScope s__law_draw) .none kV__law_draw dc__law_draw pm__law_draw an__law_draw cd__law_draw ct__law_draw), sl__law_draw⟩)
    (c__law_draw : PySem.W.codeIn K cd__law_draw "_law_draw" = true)
    (k__law_draw : PySem.W.keepIn K (.ref f__law_draw) = true)
    (h__law_one : PySem.W.nsIn K mainGlobals "_law_one" = some (some (.ref f__law_one)))
    (l__law_one : K.lookup f__law_one = some ⟨oc__law_one, od__law_one, .func (PySem.W.fnOf "_law_one" "_law_one" (defArgs s__law_one) (defBody s__law_one) (defScope s__law_one) .none kV__law_one dc__law_one pm__law_one an__law_one cd__law_one ct__law_one), sl__law_one⟩)
    (c__law_one : PySem.W.codeIn K cd__law_one "_law_one" = true)
    (k__law_one : PySem.W.keepIn K (.ref f__law_one) = true)
    (h__law_said : PySem.W.nsIn K mainGlobals "_law_said" = some (some (.ref f__law_said)))
    (l__law_said : K.lookup f__law_said = some ⟨oc__law_said, od__law_said, .func (PySem.W.fnOf "_law_said" "_law_said" (defArgs s__law_said) (defBody s__law_said) (defScope s__law_said) .none kV__law_said dc__law_said pm__law_said an__law_said cd__law_said ct__law_said), sl__law_said⟩)
    (c__law_said : PySem.W.codeIn K cd__law_said "_law_said" = true)
    (k__law_said : PySem.W.keepIn K (.ref f__law_said) = true)
    (h__law_is_number : PySem.W.nsIn K mainGlobals "_law_is_number" = some (some (.ref f__law_is_number)))
    (l__law_is_number : K.lookup f__law_is_number = some ⟨oc__law_is_number, od__law_is_number, .func (PySem.W.fnOf "_law_is_number" "_law_is_number" (defArgs s__law_is_number) (defBody s__law_is_number) (defScope s__law_is_number) .none kV__law_is_number dc__law_is_number pm__law_is_number an__law_is_number cd__law_is_number ct__law_is_number), sl__law_is_number⟩)
    (c__law_is_number : PySem.W.codeIn K cd__law_is_number "_law_is_number" = true)
    (k__law_is_number : PySem.W.keepIn K (.ref f__law_is_number) = true)
    (h__law_system_right : PySem.W.nsIn K mainGlobals "_law_system_right" = some (some (.ref f__law_system_right)))
    (l__law_system_right : K.lookup f__law_system_right = some ⟨oc__law_system_right, od__law_system_right, .func (PySem.W.fnOf "_law_system_right" "_law_system_right" (defArgs s__law_system_right) (defBody s__law_system_right) (defScope s__law_system_right) .none kV__law_system_right dc__law_system_right pm__law_system_right an__law_system_right (.ref co__law_system_right) ct__law_system_right), sl__law_system_right⟩)
    (c__law_system_right : PySem.W.codeIn K (.ref co__law_system_right) "_law_system_right" = true)
    (k__law_system_right : PySem.W.keepIn K (.ref f__law_system_right) = true)
    (h_law : PySem.W.nsIn K mainGlobals "law" = some (some (.ref f_law)))
    (l_law : K.lookup f_law = some ⟨oc_law, od_law, .func (PySem.W.fnOf "law" "law" (defArgs s_law) (defBody s_law) (defScope s_law) .none kV_law dc_law pm_law an_law (.ref co_law) ct_law), sl_law⟩)
    (c_law : PySem.W.codeIn K (.ref co_law) "law" = true)
    (k_law : PySem.W.keepIn K (.ref f_law) = true)
    (h_NoSystem : PySem.W.nsIn K mainGlobals "NoSystem" = some (some (.ref C_NoSystem)))
    (h_NoProcess : PySem.W.nsIn K mainGlobals "NoProcess" = some (some (.ref C_NoProcess)))
    (h_PageError : PySem.W.nsIn K mainGlobals "PageError" = some (some (.ref C_PageError)))
    (h_System : PySem.W.nsIn K mainGlobals "System" = some (some (.ref C_System)))
    (h_Page : PySem.W.nsIn K mainGlobals "Page" = some (some (.ref C_Page)))
    (h_History : PySem.W.nsIn K mainGlobals "History" = some (some (.ref C_History)))
    (h_NoSystem_init : PySem.W.findIn K (.ref C_NoSystem) "__init__" = some (some (.ref f_NoSystem_init)))
    (l_NoSystem_init : K.lookup f_NoSystem_init = some ⟨oc_NoSystem_init, od_NoSystem_init, .func (PySem.W.fnOf "__init__" "NoSystem.__init__" (defArgs s_NoSystem_init) (defBody s_NoSystem_init) (defScope s_NoSystem_init) .none kV_NoSystem_init dc_NoSystem_init pm_NoSystem_init an_NoSystem_init cd_NoSystem_init ct_NoSystem_init), sl_NoSystem_init⟩)
    (c_NoSystem_init : PySem.W.codeIn K cd_NoSystem_init "NoSystem.__init__" = true)
    (k_NoSystem_init : PySem.W.keepIn K (.ref f_NoSystem_init) = true)
    (h_NoProcess_init : PySem.W.findIn K (.ref C_NoProcess) "__init__" = some (some (.ref f_NoProcess_init)))
    (l_NoProcess_init : K.lookup f_NoProcess_init = some ⟨oc_NoProcess_init, od_NoProcess_init, .func (PySem.W.fnOf "__init__" "NoProcess.__init__" (defArgs s_NoProcess_init) (defBody s_NoProcess_init) (defScope s_NoProcess_init) .none kV_NoProcess_init dc_NoProcess_init pm_NoProcess_init an_NoProcess_init cd_NoProcess_init ct_NoProcess_init), sl_NoProcess_init⟩)
    (c_NoProcess_init : PySem.W.codeIn K cd_NoProcess_init "NoProcess.__init__" = true)
    (k_NoProcess_init : PySem.W.keepIn K (.ref f_NoProcess_init) = true)
    (h_Page_init : PySem.W.findIn K (.ref C_Page) "__init__" = some (some (.ref f_Page_init)))
    (l_Page_init : K.lookup f_Page_init = some ⟨oc_Page_init, od_Page_init, .func (PySem.W.fnOf "__init__" "Page.__init__" (defArgs s_Page_init) (defBody s_Page_init) (defScope s_Page_init) .none kV_Page_init dc_Page_init pm_Page_init an_Page_init cd_Page_init ct_Page_init), sl_Page_init⟩)
    (c_Page_init : PySem.W.codeIn K cd_Page_init "Page.__init__" = true)
    (k_Page_init : PySem.W.keepIn K (.ref f_Page_init) = true)
    (h_History_init : PySem.W.findIn K (.ref C_History) "__init__" = some (some (.ref f_History_init)))
    (l_History_init : K.lookup f_History_init = some ⟨oc_History_init, od_History_init, .func (PySem.W.fnOf "__init__" "History.__init__" (defArgs s_History_init) (defBody s_History_init) (defScope s_History_init) .none kV_History_init dc_History_init pm_History_init an_History_init cd_History_init ct_History_init), sl_History_init⟩)
    (c_History_init : PySem.W.codeIn K cd_History_init "History.__init__" = true)
    (k_History_init : PySem.W.keepIn K (.ref f_History_init) = true)
    (h_System_init : PySem.W.findIn K (.ref C_System) "__init__" = some (some (.ref f_System_init)))
    (l_System_init : K.lookup f_System_init = some ⟨oc_System_init, od_System_init, .func (PySem.W.fnOf "__init__" "System.__init__" (defArgs s_System_init) (defBody s_System_init) (defScope s_System_init) .none (.ref kD_System_init) dc_System_init pm_System_init an_System_init cd_System_init ct_System_init), sl_System_init⟩)
    (c_System_init : PySem.W.codeIn K cd_System_init "System.__init__" = true)
    (k_System_init : PySem.W.keepIn K (.ref f_System_init) = true)
    (kd_System_init_frames : PySem.W.nsIn K kD_System_init "frames" = some (some .none))
    (kd_System_init_slots : PySem.W.nsIn K kD_System_init "slots" = some (some .none))
    (kd_System_init_strict : PySem.W.nsIn K kD_System_init "strict" = some (some (.bool false)))
    (xL_NoSystem : K.lookup C_NoSystem = some (excClassObj nm_NoSystem q_NoSystem C_NoSystem N_NoSystem bs_NoSystem bm_NoSystem true sn_NoSystem sub_NoSystem ab_NoSystem col_NoSystem dd_NoSystem m0_NoSystem m1_NoSystem m2_NoSystem m3_NoSystem m5_NoSystem "ValueError.__new__"))
    (xR_NoSystem : PySem.HandSPX.refsVE bm_NoSystem = true)
    (xS_NoSystem : PySem.W.findIn K (.ref C_NoSystem) "__setattr__" = some (some (.builtin "object.__setattr__")))
    (xE_NoSystem : PySem.W.subIn K (.ref C_NoSystem) (.type "BaseException") = some true)
    (xT_NoSystem : PySem.W.typeIn K (.ref C_NoSystem) = some (.type "type"))
    (xK_NoSystem : PySem.W.keepIn K (.ref C_NoSystem) = true)
    (xG_NoSystem : PySem.W.findIn K (.ref C_NoSystem) "__getattribute__" = some (some (.builtin "BaseException.__getattribute__")))
    (xH_NoSystem : PySem.W.findIn K (.ref C_NoSystem) "__getattr__" = some none)
    (xD_NoSystem : PySem.W.hasDictIn K C_NoSystem = true)
    (xC_NoSystem : PySem.W.isClsIn K C_NoSystem = true)
    (xN_NoSystem : PySem.W.findIn K (.ref C_NoSystem) "part" = some none)
    (xi_NoSystem : PySem.W.typeIn K (.ref f_NoSystem_init) = some (.type "function"))
    (xL_NoProcess : K.lookup C_NoProcess = some (excClassObj nm_NoProcess q_NoProcess C_NoProcess N_NoProcess bs_NoProcess bm_NoProcess true sn_NoProcess sub_NoProcess ab_NoProcess col_NoProcess dd_NoProcess m0_NoProcess m1_NoProcess m2_NoProcess m3_NoProcess m5_NoProcess "ValueError.__new__"))
    (xR_NoProcess : PySem.HandSPX.refsVE bm_NoProcess = true)
    (xS_NoProcess : PySem.W.findIn K (.ref C_NoProcess) "__setattr__" = some (some (.builtin "object.__setattr__")))
    (xE_NoProcess : PySem.W.subIn K (.ref C_NoProcess) (.type "BaseException") = some true)
    (xT_NoProcess : PySem.W.typeIn K (.ref C_NoProcess) = some (.type "type"))
    (xK_NoProcess : PySem.W.keepIn K (.ref C_NoProcess) = true)
    (xG_NoProcess : PySem.W.findIn K (.ref C_NoProcess) "__getattribute__" = some (some (.builtin "BaseException.__getattribute__")))
    (xH_NoProcess : PySem.W.findIn K (.ref C_NoProcess) "__getattr__" = some none)
    (xD_NoProcess : PySem.W.hasDictIn K C_NoProcess = true)
    (xC_NoProcess : PySem.W.isClsIn K C_NoProcess = true)
    (xN_NoProcess : PySem.W.findIn K (.ref C_NoProcess) "process" = some none)
    (xi_NoProcess : PySem.W.typeIn K (.ref f_NoProcess_init) = some (.type "function"))
    (xL_PageError : K.lookup C_PageError = some (excClassObj nm_PageError q_PageError C_PageError N_PageError bs_PageError bm_PageError true sn_PageError sub_PageError ab_PageError col_PageError dd_PageError m0_PageError m1_PageError m2_PageError m3_PageError m5_PageError "ValueError.__new__"))
    (xR_PageError : PySem.HandSPX.refsVE bm_PageError = true)
    (xS_PageError : PySem.W.findIn K (.ref C_PageError) "__setattr__" = some (some (.builtin "object.__setattr__")))
    (xE_PageError : PySem.W.subIn K (.ref C_PageError) (.type "BaseException") = some true)
    (xT_PageError : PySem.W.typeIn K (.ref C_PageError) = some (.type "type"))
    (xK_PageError : PySem.W.keepIn K (.ref C_PageError) = true)
    (xG_PageError : PySem.W.findIn K (.ref C_PageError) "__getattribute__" = some (some (.builtin "BaseException.__getattribute__")))
    (xH_PageError : PySem.W.findIn K (.ref C_PageError) "__getattr__" = some none)
    (xD_PageError : PySem.W.hasDictIn K C_PageError = true)
    (xC_PageError : PySem.W.isClsIn K C_PageError = true)
    (xx_NoSystem_NoSystem : PySem.W.subIn K (.ref C_NoSystem) (.ref C_NoSystem) = some true)
    (xx_NoProcess_NoSystem : PySem.W.subIn K (.ref C_NoProcess) (.ref C_NoSystem) = some false)
    (xx_NoProcess_NoProcess : PySem.W.subIn K (.ref C_NoProcess) (.ref C_NoProcess) = some true)
    (pg_System : PySem.W.plainGet K C_System Str.empty = true)
    (hd_System : PySem.W.hasDictIn K C_System = true)
    (po_System : PySem.W.plainOver K C_System = true)
    (sa_System : PySem.W.findIn K (.ref C_System) "__setattr__" = some (some (.builtin "object.__setattr__")))
    (mk_System : PySem.W.makesIn K C_System = true)
    (kc_System : PySem.W.keepIn K (.ref C_System) = true)
    (ii_System : PySem.W.isFn K (.ref f_System_init) = true)
    (na_System_frames : PySem.W.findIn K (.ref C_System) "frames" = some none)
    (na_System_slots : PySem.W.findIn K (.ref C_System) "slots" = some none)
    (na_System_strict : PySem.W.findIn K (.ref C_System) "strict" = some none)
    (na_System_steps_made : PySem.W.findIn K (.ref C_System) "steps_made" = some none)
    (na_System_processes_made : PySem.W.findIn K (.ref C_System) "processes_made" = some none)
    (na_System_objects_made : PySem.W.findIn K (.ref C_System) "objects_made" = some none)
    (na_System_tables : PySem.W.findIn K (.ref C_System) "tables" = some none)
    (na_System_objects : PySem.W.findIn K (.ref C_System) "objects" = some none)
    (na_System_object_pages : PySem.W.findIn K (.ref C_System) "object_pages" = some none)
    (na_System_files : PySem.W.findIn K (.ref C_System) "files" = some none)
    (na_System_classes : PySem.W.findIn K (.ref C_System) "classes" = some none)
    (na_System_locked_pages : PySem.W.findIn K (.ref C_System) "locked_pages" = some none)
    (na_System_memory : PySem.W.findIn K (.ref C_System) "memory" = some none)
    (na_System_swapped : PySem.W.findIn K (.ref C_System) "swapped" = some none)
    (na_System_faults : PySem.W.findIn K (.ref C_System) "faults" = some none)
    (na_System_swap_outs : PySem.W.findIn K (.ref C_System) "swap_outs" = some none)
    (na_System_write_backs : PySem.W.findIn K (.ref C_System) "write_backs" = some none)
    (na_System_history : PySem.W.findIn K (.ref C_System) "history" = some none)
    (pg_Page : PySem.W.plainGet K C_Page Str.empty = true)
    (hd_Page : PySem.W.hasDictIn K C_Page = true)
    (po_Page : PySem.W.plainOver K C_Page = true)
    (sa_Page : PySem.W.findIn K (.ref C_Page) "__setattr__" = some (some (.builtin "object.__setattr__")))
    (mk_Page : PySem.W.makesIn K C_Page = true)
    (kc_Page : PySem.W.keepIn K (.ref C_Page) = true)
    (ii_Page : PySem.W.isFn K (.ref f_Page_init) = true)
    (na_Page_rights : PySem.W.findIn K (.ref C_Page) "rights" = some none)
    (na_Page_shared : PySem.W.findIn K (.ref C_Page) "shared" = some none)
    (na_Page_source : PySem.W.findIn K (.ref C_Page) "source" = some none)
    (na_Page_index : PySem.W.findIn K (.ref C_Page) "index" = some none)
    (na_Page_flags : PySem.W.findIn K (.ref C_Page) "flags" = some none)
    (na_Page_held : PySem.W.findIn K (.ref C_Page) "held" = some none)
    (na_Page_stamp : PySem.W.findIn K (.ref C_Page) "stamp" = some none)
    (pg_History : PySem.W.plainGet K C_History Str.empty = true)
    (hd_History : PySem.W.hasDictIn K C_History = true)
    (po_History : PySem.W.plainOver K C_History = true)
    (sa_History : PySem.W.findIn K (.ref C_History) "__setattr__" = some (some (.builtin "object.__setattr__")))
    (mk_History : PySem.W.makesIn K C_History = true)
    (kc_History : PySem.W.keepIn K (.ref C_History) = true)
    (ii_History : PySem.W.isFn K (.ref f_History_init) = true)
    (na_History_row : PySem.W.findIn K (.ref C_History) "row" = some none)
    (na_History_holes : PySem.W.findIn K (.ref C_History) "holes" = some none)
    (na_History_locked : PySem.W.findIn K (.ref C_History) "locked" = some none)
    (na_History_classes : PySem.W.findIn K (.ref C_History) "classes" = some none)
    (na_History_touches : PySem.W.findIn K (.ref C_History) "touches" = some none)
    (na_History_distances : PySem.W.findIn K (.ref C_History) "distances" = some none)
    (na_History_swap_outs : PySem.W.findIn K (.ref C_History) "swap_outs" = some none)
    (na_History_write_backs : PySem.W.findIn K (.ref C_History) "write_backs" = some none)
    (na_History_most_slots : PySem.W.findIn K (.ref C_History) "most_slots" = some none)
    (na_History_saves : PySem.W.findIn K (.ref C_History) "saves" = some none)
    (na_History_lock_changes : PySem.W.findIn K (.ref C_History) "lock_changes" = some none)
    (na_History_most_locked : PySem.W.findIn K (.ref C_History) "most_locked" = some none)
    (na_History_crashed : PySem.W.findIn K (.ref C_History) "crashed" = some none)
    (na_History_merged : PySem.W.findIn K (.ref C_History) "merged" = some none)
    (b_int : PySem.W.nsIn K mainGlobals "int" = some none)
    (b_len : PySem.W.nsIn K mainGlobals "len" = some none)
    (b_isinstance : PySem.W.nsIn K mainGlobals "isinstance" = some none)
    (b_bool : PySem.W.nsIn K mainGlobals "bool" = some none)
    (b_str : PySem.W.nsIn K mainGlobals "str" = some none)
    (b_list : PySem.W.nsIn K mainGlobals "list" = some none)
    (b_range : PySem.W.nsIn K mainGlobals "range" = some none)
    (b_enumerate : PySem.W.nsIn K mainGlobals "enumerate" = some none)
    (b_sorted : PySem.W.nsIn K mainGlobals "sorted" = some none)
    (b_dict : PySem.W.nsIn K mainGlobals "dict" = some none)
    (b_tuple : PySem.W.nsIn K mainGlobals "tuple" = some none)
    (gF : PySem.W.nsIn K mainGlobals "FLAGS" = some (some (.ref o_FLAGS)))
    (rF : flagsIn K o_FLAGS = true) :
    Txt K mg { a_with_flags := f_with_flags, fd_with_flags := PySem.W.fnOf "with_flags" "with_flags" (defArgs s_with_flags) (defBody s_with_flags) (defScope s_with_flags) .none kV_with_flags dc_with_flags pm_with_flags an_with_flags cd_with_flags ct_with_flags, a_with_lock := f_with_lock, fd_with_lock := PySem.W.fnOf "with_lock" "with_lock" (defArgs s_with_lock) (defBody s_with_lock) (defScope s_with_lock) .none kV_with_lock dc_with_lock pm_with_lock an_with_lock cd_with_lock ct_with_lock, a_with_held := f_with_held, fd_with_held := PySem.W.fnOf "with_held" "with_held" (defArgs s_with_held) (defBody s_with_held) (defScope s_with_held) .none kV_with_held dc_with_held pm_with_held an_with_held cd_with_held ct_with_held, a_with_stamp := f_with_stamp, fd_with_stamp := PySem.W.fnOf "with_stamp" "with_stamp" (defArgs s_with_stamp) (defBody s_with_stamp) (defScope s_with_stamp) .none kV_with_stamp dc_with_stamp pm_with_stamp an_with_stamp cd_with_stamp ct_with_stamp, a_has_object := f_has_object, fd_has_object := PySem.W.fnOf "has_object" "has_object" (defArgs s_has_object) (defBody s_has_object) (defScope s_has_object) .none kV_has_object dc_has_object pm_has_object an_has_object cd_has_object ct_has_object, a_arrange_locked := f_arrange_locked, fd_arrange_locked := PySem.W.fnOf "arrange_locked" "arrange_locked" (defArgs s_arrange_locked) (defBody s_arrange_locked) (defScope s_arrange_locked) .none kV_arrange_locked dc_arrange_locked pm_arrange_locked an_arrange_locked cd_arrange_locked ct_arrange_locked, a_add_locked := f_add_locked, fd_add_locked := PySem.W.fnOf "add_locked" "add_locked" (defArgs s_add_locked) (defBody s_add_locked) (defScope s_add_locked) .none kV_add_locked dc_add_locked pm_add_locked an_add_locked cd_add_locked ct_add_locked, a_this_step := f_this_step, fd_this_step := PySem.W.fnOf "this_step" "this_step" (defArgs s_this_step) (defBody s_this_step) (defScope s_this_step) .none kV_this_step dc_this_step pm_this_step an_this_step cd_this_step ct_this_step, a_count_page := f_count_page, fd_count_page := PySem.W.fnOf "count_page" "count_page" (defArgs s_count_page) (defBody s_count_page) (defScope s_count_page) .none kV_count_page dc_count_page pm_count_page an_count_page cd_count_page ct_count_page, a_discount_page := f_discount_page, fd_discount_page := PySem.W.fnOf "discount_page" "discount_page" (defArgs s_discount_page) (defBody s_discount_page) (defScope s_discount_page) .none kV_discount_page dc_discount_page pm_discount_page an_discount_page cd_discount_page ct_discount_page, a_discount_user := f_discount_user, fd_discount_user := PySem.W.fnOf "discount_user" "discount_user" (defArgs s_discount_user) (defBody s_discount_user) (defScope s_discount_user) .none kV_discount_user dc_discount_user pm_discount_user an_discount_user cd_discount_user ct_discount_user, a_replace_pages := f_replace_pages, fd_replace_pages := PySem.W.fnOf "replace_pages" "replace_pages" (defArgs s_replace_pages) (defBody s_replace_pages) (defScope s_replace_pages) .none kV_replace_pages dc_replace_pages pm_replace_pages an_replace_pages cd_replace_pages ct_replace_pages, a_end_step := f_end_step, fd_end_step := PySem.W.fnOf "end_step" "end_step" (defArgs s_end_step) (defBody s_end_step) (defScope s_end_step) .none kV_end_step dc_end_step pm_end_step an_end_step cd_end_step ct_end_step, a_is_integer := f_is_integer, fd_is_integer := PySem.W.fnOf "is_integer" "is_integer" (defArgs s_is_integer) (defBody s_is_integer) (defScope s_is_integer) .none kV_is_integer dc_is_integer pm_is_integer an_is_integer cd_is_integer ct_is_integer, a_table_of := f_table_of, fd_table_of := PySem.W.fnOf "table_of" "table_of" (defArgs s_table_of) (defBody s_table_of) (defScope s_table_of) .none kV_table_of dc_table_of pm_table_of an_table_of cd_table_of ct_table_of, a_require_charge := f_require_charge, fd_require_charge := PySem.W.fnOf "require_charge" "require_charge" (defArgs s_require_charge) (defBody s_require_charge) (defScope s_require_charge) .none kV_require_charge dc_require_charge pm_require_charge an_require_charge cd_require_charge ct_require_charge, a_now := f_now, fd_now := PySem.W.fnOf "now" "now" (defArgs s_now) (defBody s_now) (defScope s_now) .none kV_now dc_now pm_now an_now cd_now ct_now, a_new_process := f_new_process, fd_new_process := PySem.W.fnOf "new_process" "new_process" (defArgs s_new_process) (defBody s_new_process) (defScope s_new_process) .none kV_new_process dc_new_process pm_new_process an_new_process cd_new_process ct_new_process, a_unmap_all := f_unmap_all, fd_unmap_all := PySem.W.fnOf "unmap_all" "unmap_all" (defArgs s_unmap_all) (defBody s_unmap_all) (defScope s_unmap_all) .none kV_unmap_all dc_unmap_all pm_unmap_all an_unmap_all cd_unmap_all ct_unmap_all, a_end_process := f_end_process, fd_end_process := PySem.W.fnOf "end_process" "end_process" (defArgs s_end_process) (defBody s_end_process) (defScope s_end_process) .none kV_end_process dc_end_process pm_end_process an_end_process cd_end_process ct_end_process, a_spawn := f_spawn, fd_spawn := PySem.W.fnOf "spawn" "spawn" (defArgs s_spawn) (defBody s_spawn) (defScope s_spawn) .none kV_spawn dc_spawn pm_spawn an_spawn cd_spawn ct_spawn, a_child_page := f_child_page, fd_child_page := PySem.W.fnOf "child_page" "child_page" (defArgs s_child_page) (defBody s_child_page) (defScope s_child_page) .none kV_child_page dc_child_page pm_child_page an_child_page cd_child_page ct_child_page, a_pages_of_child := f_pages_of_child, fd_pages_of_child := PySem.W.fnOf "pages_of_child" "pages_of_child" (defArgs s_pages_of_child) (defBody s_pages_of_child) (defScope s_pages_of_child) .none kV_pages_of_child dc_pages_of_child pm_pages_of_child an_pages_of_child cd_pages_of_child ct_pages_of_child, a_fork := f_fork, fd_fork := PySem.W.fnOf "fork" "fork" (defArgs s_fork) (defBody s_fork) (defScope s_fork) .none kV_fork dc_fork pm_fork an_fork cd_fork ct_fork, a_leave := f_leave, fd_leave := PySem.W.fnOf "leave" "leave" (defArgs s_leave) (defBody s_leave) (defScope s_leave) .none kV_leave dc_leave pm_leave an_leave cd_leave ct_leave, a_fresh := f_fresh, fd_fresh := PySem.W.fnOf "fresh" "fresh" (defArgs s_fresh) (defBody s_fresh) (defScope s_fresh) .none kV_fresh dc_fresh pm_fresh an_fresh cd_fresh ct_fresh, a_processes := f_processes, fd_processes := PySem.W.fnOf "processes" "processes" (defArgs s_processes) (defBody s_processes) (defScope s_processes) .none kV_processes dc_processes pm_processes an_processes cd_processes ct_processes, a__law_well := f__law_well, fd__law_well := PySem.W.fnOf "_law_well" "_law_well" (defArgs s__law_well) (defBody s__law_well) (defScope s__law_well) .none kV__law_well dc__law_well pm__law_well an__law_well cd__law_well ct__law_well, a__law_draw := f__law_draw, fd__law_draw := PySem.W.fnOf "_law_draw" "_law_draw" (defArgs s__law_draw) (defBody s__law_draw) (defScope s__law_draw) .none kV__law_draw dc__law_draw pm__law_draw an__law_draw cd__law_draw ct__law_draw, a__law_one := f__law_one, fd__law_one := PySem.W.fnOf "_law_one" "_law_one" (defArgs s__law_one) (defBody s__law_one) (defScope s__law_one) .none kV__law_one dc__law_one pm__law_one an__law_one cd__law_one ct__law_one, a__law_said := f__law_said, fd__law_said := PySem.W.fnOf "_law_said" "_law_said" (defArgs s__law_said) (defBody s__law_said) (defScope s__law_said) .none kV__law_said dc__law_said pm__law_said an__law_said cd__law_said ct__law_said, a__law_is_number := f__law_is_number, fd__law_is_number := PySem.W.fnOf "_law_is_number" "_law_is_number" (defArgs s__law_is_number) (defBody s__law_is_number) (defScope s__law_is_number) .none kV__law_is_number dc__law_is_number pm__law_is_number an__law_is_number cd__law_is_number ct__law_is_number, a__law_system_right := f__law_system_right, fd__law_system_right := PySem.W.fnOf "_law_system_right" "_law_system_right" (defArgs s__law_system_right) (defBody s__law_system_right) (defScope s__law_system_right) .none kV__law_system_right dc__law_system_right pm__law_system_right an__law_system_right (.ref co__law_system_right) ct__law_system_right, co__law_system_right := co__law_system_right, ta__law_system_right := ta__law_system_right, a_law := f_law, fd_law := PySem.W.fnOf "law" "law" (defArgs s_law) (defBody s_law) (defScope s_law) .none kV_law dc_law pm_law an_law (.ref co_law) ct_law, co_law := co_law, ta_law := ta_law, c_NoSystem := C_NoSystem, c_NoProcess := C_NoProcess, c_PageError := C_PageError, c_System := C_System, c_Page := C_Page, c_History := C_History, a_NoSystem_init := f_NoSystem_init, fd_NoSystem_init := PySem.W.fnOf "__init__" "NoSystem.__init__" (defArgs s_NoSystem_init) (defBody s_NoSystem_init) (defScope s_NoSystem_init) .none kV_NoSystem_init dc_NoSystem_init pm_NoSystem_init an_NoSystem_init cd_NoSystem_init ct_NoSystem_init, a_NoProcess_init := f_NoProcess_init, fd_NoProcess_init := PySem.W.fnOf "__init__" "NoProcess.__init__" (defArgs s_NoProcess_init) (defBody s_NoProcess_init) (defScope s_NoProcess_init) .none kV_NoProcess_init dc_NoProcess_init pm_NoProcess_init an_NoProcess_init cd_NoProcess_init ct_NoProcess_init, a_Page_init := f_Page_init, fd_Page_init := PySem.W.fnOf "__init__" "Page.__init__" (defArgs s_Page_init) (defBody s_Page_init) (defScope s_Page_init) .none kV_Page_init dc_Page_init pm_Page_init an_Page_init cd_Page_init ct_Page_init, a_History_init := f_History_init, fd_History_init := PySem.W.fnOf "__init__" "History.__init__" (defArgs s_History_init) (defBody s_History_init) (defScope s_History_init) .none kV_History_init dc_History_init pm_History_init an_History_init cd_History_init ct_History_init, a_System_init := f_System_init, fd_System_init := PySem.W.fnOf "__init__" "System.__init__" (defArgs s_System_init) (defBody s_System_init) (defScope s_System_init) .none (.ref kD_System_init) dc_System_init pm_System_init an_System_init cd_System_init ct_System_init, o_FLAGS := o_FLAGS } := {
    f_with_flags := fun_mk (st := s_with_flags) l_with_flags c_with_flags k_with_flags
    bi_with_flags := (fun_mk (st := s_with_flags) l_with_flags c_with_flags k_with_flags).binds (ps := p_with_flags) fun _ _ _ _ _ _ us hl => match us, hl with | [_, _], _ => rfl
    g_with_flags := PySem.W.mg_of X G h_with_flags
    k_with_flags := k_with_flags
    f_with_lock := fun_mk (st := s_with_lock) l_with_lock c_with_lock k_with_lock
    bi_with_lock := (fun_mk (st := s_with_lock) l_with_lock c_with_lock k_with_lock).binds (ps := p_with_lock) fun _ _ _ _ _ _ us hl => match us, hl with | [_, _], _ => rfl
    g_with_lock := PySem.W.mg_of X G h_with_lock
    k_with_lock := k_with_lock
    f_with_held := fun_mk (st := s_with_held) l_with_held c_with_held k_with_held
    bi_with_held := (fun_mk (st := s_with_held) l_with_held c_with_held k_with_held).binds (ps := p_with_held) fun _ _ _ _ _ _ us hl => match us, hl with | [_, _], _ => rfl
    g_with_held := PySem.W.mg_of X G h_with_held
    k_with_held := k_with_held
    f_with_stamp := fun_mk (st := s_with_stamp) l_with_stamp c_with_stamp k_with_stamp
    bi_with_stamp := (fun_mk (st := s_with_stamp) l_with_stamp c_with_stamp k_with_stamp).binds (ps := p_with_stamp) fun _ _ _ _ _ _ us hl => match us, hl with | [_, _], _ => rfl
    g_with_stamp := PySem.W.mg_of X G h_with_stamp
    k_with_stamp := k_with_stamp
    f_has_object := fun_mk (st := s_has_object) l_has_object c_has_object k_has_object
    bi_has_object := (fun_mk (st := s_has_object) l_has_object c_has_object k_has_object).binds (ps := p_has_object) fun _ _ _ _ _ _ us hl => match us, hl with | [_], _ => rfl
    g_has_object := PySem.W.mg_of X G h_has_object
    k_has_object := k_has_object
    f_arrange_locked := fun_mk (st := s_arrange_locked) l_arrange_locked c_arrange_locked k_arrange_locked
    bi_arrange_locked := (fun_mk (st := s_arrange_locked) l_arrange_locked c_arrange_locked k_arrange_locked).binds (ps := p_arrange_locked) fun _ _ _ _ _ _ us hl => match us, hl with | [_], _ => rfl
    g_arrange_locked := PySem.W.mg_of X G h_arrange_locked
    k_arrange_locked := k_arrange_locked
    f_add_locked := fun_mk (st := s_add_locked) l_add_locked c_add_locked k_add_locked
    bi_add_locked := (fun_mk (st := s_add_locked) l_add_locked c_add_locked k_add_locked).binds (ps := p_add_locked) fun _ _ _ _ _ _ us hl => match us, hl with | [_, _], _ => rfl
    g_add_locked := PySem.W.mg_of X G h_add_locked
    k_add_locked := k_add_locked
    f_this_step := fun_mk (st := s_this_step) l_this_step c_this_step k_this_step
    bi_this_step := (fun_mk (st := s_this_step) l_this_step c_this_step k_this_step).binds (ps := p_this_step) fun _ _ _ _ _ _ us hl => match us, hl with | [_], _ => rfl
    g_this_step := PySem.W.mg_of X G h_this_step
    k_this_step := k_this_step
    f_count_page := fun_mk (st := s_count_page) l_count_page c_count_page k_count_page
    bi_count_page := (fun_mk (st := s_count_page) l_count_page c_count_page k_count_page).binds (ps := p_count_page) fun _ _ _ _ _ _ us hl => match us, hl with | [_, _], _ => rfl
    g_count_page := PySem.W.mg_of X G h_count_page
    k_count_page := k_count_page
    f_discount_page := fun_mk (st := s_discount_page) l_discount_page c_discount_page k_discount_page
    bi_discount_page := (fun_mk (st := s_discount_page) l_discount_page c_discount_page k_discount_page).binds (ps := p_discount_page) fun _ _ _ _ _ _ us hl => match us, hl with | [_, _], _ => rfl
    g_discount_page := PySem.W.mg_of X G h_discount_page
    k_discount_page := k_discount_page
    f_discount_user := fun_mk (st := s_discount_user) l_discount_user c_discount_user k_discount_user
    bi_discount_user := (fun_mk (st := s_discount_user) l_discount_user c_discount_user k_discount_user).binds (ps := p_discount_user) fun _ _ _ _ _ _ us hl => match us, hl with | [_, _, _], _ => rfl
    g_discount_user := PySem.W.mg_of X G h_discount_user
    k_discount_user := k_discount_user
    f_replace_pages := fun_mk (st := s_replace_pages) l_replace_pages c_replace_pages k_replace_pages
    bi_replace_pages := (fun_mk (st := s_replace_pages) l_replace_pages c_replace_pages k_replace_pages).binds (ps := p_replace_pages) fun _ _ _ _ _ _ us hl => match us, hl with | [_, _, _], _ => rfl
    g_replace_pages := PySem.W.mg_of X G h_replace_pages
    k_replace_pages := k_replace_pages
    f_end_step := fun_mk (st := s_end_step) l_end_step c_end_step k_end_step
    bi_end_step := (fun_mk (st := s_end_step) l_end_step c_end_step k_end_step).binds (ps := p_end_step) fun _ _ _ _ _ _ us hl => match us, hl with | [_], _ => rfl
    g_end_step := PySem.W.mg_of X G h_end_step
    k_end_step := k_end_step
    f_is_integer := fun_mk (st := s_is_integer) l_is_integer c_is_integer k_is_integer
    bi_is_integer := (fun_mk (st := s_is_integer) l_is_integer c_is_integer k_is_integer).binds (ps := p_is_integer) fun _ _ _ _ _ _ us hl => match us, hl with | [_, _, _], _ => rfl
    g_is_integer := PySem.W.mg_of X G h_is_integer
    k_is_integer := k_is_integer
    f_table_of := fun_mk (st := s_table_of) l_table_of c_table_of k_table_of
    bi_table_of := (fun_mk (st := s_table_of) l_table_of c_table_of k_table_of).binds (ps := p_table_of) fun _ _ _ _ _ _ us hl => match us, hl with | [_, _], _ => rfl
    g_table_of := PySem.W.mg_of X G h_table_of
    k_table_of := k_table_of
    f_require_charge := fun_mk (st := s_require_charge) l_require_charge c_require_charge k_require_charge
    bi_require_charge := (fun_mk (st := s_require_charge) l_require_charge c_require_charge k_require_charge).binds (ps := p_require_charge) fun _ _ _ _ _ _ us hl => match us, hl with | [_, _, _], _ => rfl
    g_require_charge := PySem.W.mg_of X G h_require_charge
    k_require_charge := k_require_charge
    f_now := fun_mk (st := s_now) l_now c_now k_now
    bi_now := (fun_mk (st := s_now) l_now c_now k_now).binds (ps := p_now) fun _ _ _ _ _ _ us hl => match us, hl with | [_], _ => rfl
    g_now := PySem.W.mg_of X G h_now
    k_now := k_now
    f_new_process := fun_mk (st := s_new_process) l_new_process c_new_process k_new_process
    bi_new_process := (fun_mk (st := s_new_process) l_new_process c_new_process k_new_process).binds (ps := p_new_process) fun _ _ _ _ _ _ us hl => match us, hl with | [_], _ => rfl
    g_new_process := PySem.W.mg_of X G h_new_process
    k_new_process := k_new_process
    f_unmap_all := fun_mk (st := s_unmap_all) l_unmap_all c_unmap_all k_unmap_all
    bi_unmap_all := (fun_mk (st := s_unmap_all) l_unmap_all c_unmap_all k_unmap_all).binds (ps := p_unmap_all) fun _ _ _ _ _ _ us hl => match us, hl with | [_, _], _ => rfl
    g_unmap_all := PySem.W.mg_of X G h_unmap_all
    k_unmap_all := k_unmap_all
    f_end_process := fun_mk (st := s_end_process) l_end_process c_end_process k_end_process
    bi_end_process := (fun_mk (st := s_end_process) l_end_process c_end_process k_end_process).binds (ps := p_end_process) fun _ _ _ _ _ _ us hl => match us, hl with | [_, _], _ => rfl
    g_end_process := PySem.W.mg_of X G h_end_process
    k_end_process := k_end_process
    f_spawn := fun_mk (st := s_spawn) l_spawn c_spawn k_spawn
    bi_spawn := (fun_mk (st := s_spawn) l_spawn c_spawn k_spawn).binds (ps := p_spawn) fun _ _ _ _ _ _ us hl => match us, hl with | [_], _ => rfl
    g_spawn := PySem.W.mg_of X G h_spawn
    k_spawn := k_spawn
    f_child_page := fun_mk (st := s_child_page) l_child_page c_child_page k_child_page
    bi_child_page := (fun_mk (st := s_child_page) l_child_page c_child_page k_child_page).binds (ps := p_child_page) fun _ _ _ _ _ _ us hl => match us, hl with | [_, _], _ => rfl
    g_child_page := PySem.W.mg_of X G h_child_page
    k_child_page := k_child_page
    f_pages_of_child := fun_mk (st := s_pages_of_child) l_pages_of_child c_pages_of_child k_pages_of_child
    bi_pages_of_child := (fun_mk (st := s_pages_of_child) l_pages_of_child c_pages_of_child k_pages_of_child).binds (ps := p_pages_of_child) fun _ _ _ _ _ _ us hl => match us, hl with | [_, _], _ => rfl
    g_pages_of_child := PySem.W.mg_of X G h_pages_of_child
    k_pages_of_child := k_pages_of_child
    f_fork := fun_mk (st := s_fork) l_fork c_fork k_fork
    bi_fork := (fun_mk (st := s_fork) l_fork c_fork k_fork).binds (ps := p_fork) fun _ _ _ _ _ _ us hl => match us, hl with | [_, _], _ => rfl
    g_fork := PySem.W.mg_of X G h_fork
    k_fork := k_fork
    f_leave := fun_mk (st := s_leave) l_leave c_leave k_leave
    bi_leave := (fun_mk (st := s_leave) l_leave c_leave k_leave).binds (ps := p_leave) fun _ _ _ _ _ _ us hl => match us, hl with | [_, _], _ => rfl
    g_leave := PySem.W.mg_of X G h_leave
    k_leave := k_leave
    f_fresh := fun_mk (st := s_fresh) l_fresh c_fresh k_fresh
    bi_fresh := (fun_mk (st := s_fresh) l_fresh c_fresh k_fresh).binds (ps := p_fresh) fun _ _ _ _ _ _ us hl => match us, hl with | [_, _], _ => rfl
    g_fresh := PySem.W.mg_of X G h_fresh
    k_fresh := k_fresh
    f_processes := fun_mk (st := s_processes) l_processes c_processes k_processes
    bi_processes := (fun_mk (st := s_processes) l_processes c_processes k_processes).binds (ps := p_processes) fun _ _ _ _ _ _ us hl => match us, hl with | [_], _ => rfl
    g_processes := PySem.W.mg_of X G h_processes
    k_processes := k_processes
    f__law_well := fun_mk (st := s__law_well) l__law_well c__law_well k__law_well
    bi__law_well := (fun_mk (st := s__law_well) l__law_well c__law_well k__law_well).binds (ps := p__law_well) fun _ _ _ _ _ _ us hl => match us, hl with | [_], _ => rfl
    g__law_well := PySem.W.mg_of X G h__law_well
    k__law_well := k__law_well
    f__law_draw := fun_mk (st := s__law_draw) l__law_draw c__law_draw k__law_draw
    bi__law_draw := (fun_mk (st := s__law_draw) l__law_draw c__law_draw k__law_draw).binds (ps := p__law_draw) fun _ _ _ _ _ _ us hl => match us, hl with | [_, _], _ => rfl
    g__law_draw := PySem.W.mg_of X G h__law_draw
    k__law_draw := k__law_draw
    f__law_one := fun_mk (st := s__law_one) l__law_one c__law_one k__law_one
    bi__law_one := (fun_mk (st := s__law_one) l__law_one c__law_one k__law_one).binds (ps := p__law_one) fun _ _ _ _ _ _ us hl => match us, hl with | [_, _], _ => rfl
    g__law_one := PySem.W.mg_of X G h__law_one
    k__law_one := k__law_one
    f__law_said := fun_mk (st := s__law_said) l__law_said c__law_said k__law_said
    bi__law_said := (fun_mk (st := s__law_said) l__law_said c__law_said k__law_said).binds (ps := p__law_said) fun _ _ _ _ _ _ us hl => match us, hl with | [_], _ => rfl
    g__law_said := PySem.W.mg_of X G h__law_said
    k__law_said := k__law_said
    f__law_is_number := fun_mk (st := s__law_is_number) l__law_is_number c__law_is_number k__law_is_number
    bi__law_is_number := (fun_mk (st := s__law_is_number) l__law_is_number c__law_is_number k__law_is_number).binds (ps := p__law_is_number) fun _ _ _ _ _ _ us hl => match us, hl with | [_, _, _], _ => rfl
    g__law_is_number := PySem.W.mg_of X G h__law_is_number
    k__law_is_number := k__law_is_number
    f__law_system_right := fun_mk (st := s__law_system_right) l__law_system_right c__law_system_right k__law_system_right
    bi__law_system_right := (fun_mk (st := s__law_system_right) l__law_system_right c__law_system_right k__law_system_right).binds (ps := p__law_system_right) fun _ _ _ _ _ _ us hl => match us, hl with | [_], _ => rfl
    fl__law_system_right := ⟨⟨_, _, _, _, _, _, _, _, rfl, l__law_system_right, c__law_system_right⟩⟩
    g__law_system_right := PySem.W.mg_of X G h__law_system_right
    k__law_system_right := k__law_system_right
    f_law := fun_mk (st := s_law) l_law c_law k_law
    bi_law := (fun_mk (st := s_law) l_law c_law k_law).binds (ps := p_law) fun _ _ _ _ _ _ us hl => match us, hl with | [_], _ => rfl
    fl_law := ⟨⟨_, _, _, _, _, _, _, _, rfl, l_law, c_law⟩⟩
    g_law := PySem.W.mg_of X G h_law
    k_law := k_law
    g_NoSystem := PySem.W.mg_of X G h_NoSystem
    g_NoProcess := PySem.W.mg_of X G h_NoProcess
    g_PageError := PySem.W.mg_of X G h_PageError
    g_System := PySem.W.mg_of X G h_System
    g_Page := PySem.W.mg_of X G h_Page
    g_History := PySem.W.mg_of X G h_History
    f_NoSystem_init := fun_mk (st := s_NoSystem_init) l_NoSystem_init c_NoSystem_init k_NoSystem_init
    bi_NoSystem_init := (fun_mk (st := s_NoSystem_init) l_NoSystem_init c_NoSystem_init k_NoSystem_init).binds (ps := p_NoSystem_init) fun _ _ _ _ _ _ us hl => match us, hl with | [_, _], _ => rfl
    f_NoProcess_init := fun_mk (st := s_NoProcess_init) l_NoProcess_init c_NoProcess_init k_NoProcess_init
    bi_NoProcess_init := (fun_mk (st := s_NoProcess_init) l_NoProcess_init c_NoProcess_init k_NoProcess_init).binds (ps := p_NoProcess_init) fun _ _ _ _ _ _ us hl => match us, hl with | [_, _], _ => rfl
    f_Page_init := fun_mk (st := s_Page_init) l_Page_init c_Page_init k_Page_init
    bi_Page_init := (fun_mk (st := s_Page_init) l_Page_init c_Page_init k_Page_init).binds (ps := p_Page_init) fun _ _ _ _ _ _ us hl => match us, hl with | [_, _, _, _, _, _, _, _], _ => rfl
    f_History_init := fun_mk (st := s_History_init) l_History_init c_History_init k_History_init
    bi_History_init := (fun_mk (st := s_History_init) l_History_init c_History_init k_History_init).binds (ps := p_History_init) fun _ _ _ _ _ _ us hl => match us, hl with | [_], _ => rfl
    f_System_init := ⟨⟨_, _, _, _, _, _, _, _, _, _, rfl, l_System_init, c_System_init, .inl ⟨rfl, rfl⟩, .inr ⟨kD_System_init, rfl, by
      intro q hq
      simp only [kw_System_init, List.mem_cons, List.not_mem_nil, or_false] at hq
      rcases hq with h | h | h
      · subst h; exact ⟨_, kd_System_init_frames, rfl⟩
      · subst h; exact ⟨_, kd_System_init_slots, rfl⟩
      · subst h; exact ⟨_, kd_System_init_strict, rfl⟩⟩⟩, k_System_init⟩
    x_NoSystem := ⟨⟨_, _, _, _, _, _, _, _, _, _, _, _, _, _, _, xL_NoSystem, xR_NoSystem⟩, xS_NoSystem, xE_NoSystem, xT_NoSystem, xK_NoSystem⟩
    xf_NoSystem := ⟨xG_NoSystem, xH_NoSystem, xE_NoSystem, xD_NoSystem⟩
    xn_NoSystem := xN_NoSystem
    xi_NoSystem := h_NoSystem_init
    xt_NoSystem := xi_NoSystem
    x_NoProcess := ⟨⟨_, _, _, _, _, _, _, _, _, _, _, _, _, _, _, xL_NoProcess, xR_NoProcess⟩, xS_NoProcess, xE_NoProcess, xT_NoProcess, xK_NoProcess⟩
    xf_NoProcess := ⟨xG_NoProcess, xH_NoProcess, xE_NoProcess, xD_NoProcess⟩
    xn_NoProcess := xN_NoProcess
    xi_NoProcess := h_NoProcess_init
    xt_NoProcess := xi_NoProcess
    x_PageError := ⟨⟨_, _, _, _, _, _, _, _, _, _, _, _, _, _, _, xL_PageError, xR_PageError⟩, xS_PageError, xE_PageError, xT_PageError, xK_PageError⟩
    xf_PageError := ⟨xG_PageError, xH_PageError, xE_PageError, xD_PageError⟩
    e_NoSystem_NoSystem := exm_is xE_NoSystem xC_NoSystem xT_NoSystem xx_NoSystem_NoSystem
    e_NoProcess_NoSystem := exm_is xE_NoSystem xC_NoSystem xT_NoSystem xx_NoProcess_NoSystem
    e_NoProcess_NoProcess := exm_is xE_NoProcess xC_NoProcess xT_NoProcess xx_NoProcess_NoProcess
    cl_System := ⟨pg_System, hd_System, po_System, sa_System⟩
    mk_System := ⟨mk_System, h_System_init, ii_System, kc_System⟩
    n_System_frames := na_System_frames
    n_System_slots := na_System_slots
    n_System_strict := na_System_strict
    n_System_steps_made := na_System_steps_made
    n_System_processes_made := na_System_processes_made
    n_System_objects_made := na_System_objects_made
    n_System_tables := na_System_tables
    n_System_objects := na_System_objects
    n_System_object_pages := na_System_object_pages
    n_System_files := na_System_files
    n_System_classes := na_System_classes
    n_System_locked_pages := na_System_locked_pages
    n_System_memory := na_System_memory
    n_System_swapped := na_System_swapped
    n_System_faults := na_System_faults
    n_System_swap_outs := na_System_swap_outs
    n_System_write_backs := na_System_write_backs
    n_System_history := na_System_history
    cl_Page := ⟨pg_Page, hd_Page, po_Page, sa_Page⟩
    mk_Page := ⟨mk_Page, h_Page_init, ii_Page, kc_Page⟩
    n_Page_rights := na_Page_rights
    n_Page_shared := na_Page_shared
    n_Page_source := na_Page_source
    n_Page_index := na_Page_index
    n_Page_flags := na_Page_flags
    n_Page_held := na_Page_held
    n_Page_stamp := na_Page_stamp
    cl_History := ⟨pg_History, hd_History, po_History, sa_History⟩
    mk_History := ⟨mk_History, h_History_init, ii_History, kc_History⟩
    n_History_row := na_History_row
    n_History_holes := na_History_holes
    n_History_locked := na_History_locked
    n_History_classes := na_History_classes
    n_History_touches := na_History_touches
    n_History_distances := na_History_distances
    n_History_swap_outs := na_History_swap_outs
    n_History_write_backs := na_History_write_backs
    n_History_most_slots := na_History_most_slots
    n_History_saves := na_History_saves
    n_History_lock_changes := na_History_lock_changes
    n_History_most_locked := na_History_most_locked
    n_History_crashed := na_History_crashed
    n_History_merged := na_History_merged
    b_int := PySem.W.mg_none_of X G b_int
    b_len := PySem.W.mg_none_of X G b_len
    b_isinstance := PySem.W.mg_none_of X G b_isinstance
    b_bool := PySem.W.mg_none_of X G b_bool
    b_str := PySem.W.mg_none_of X G b_str
    b_list := PySem.W.mg_none_of X G b_list
    b_range := PySem.W.mg_none_of X G b_range
    b_enumerate := PySem.W.mg_none_of X G b_enumerate
    b_sorted := PySem.W.mg_none_of X G b_sorted
    b_dict := PySem.W.mg_none_of X G b_dict
    b_tuple := PySem.W.mg_none_of X G b_tuple
    g_FLAGS := PySem.W.mg_of X G gF
    r_FLAGS := rF }
theorem fin {l : PySem.W.OpenLaw} {w : World} {K : PySem.W.Frag} {mg : Str → Option Value} {fa : Addr} {h : Heap} {A : Adr} {e1 e2 : Value} {dd1 dd2 : Option Addr} {vs1 vs2 : Array Value} {sl1 sl2 : Array (Option Value)}
    (G : Txt K mg A) (KX : K.In h) (hmg : mg "law" = some (.ref fa))
    (lc1 : K.lookup A.co_law = some ⟨e1, dd1, .fields vs1, sl1⟩) (v1 : vs1[11]? = some (.ref A.ta_law)) (n1 : K.lookup A.ta_law = none) (d1 : PySem.W.codeHdIn K A.co_law A.ta_law = true)
    (t1 : h.get? A.ta_law = some { cls := .none, data := .fields #[] })
    (lc2 : K.lookup A.co__law_system_right = some ⟨e2, dd2, .fields vs2, sl2⟩) (v2 : vs2[11]? = some (.ref A.ta__law_system_right)) (n2 : K.lookup A.ta__law_system_right = none) (d2 : PySem.W.codeHdIn K A.co__law_system_right A.ta__law_system_right = true)
    (t2 : h.get? A.ta__law_system_right = some { cls := .none, data := .fields #[] }) (ne : A.ta_law ≠ A.ta__law_system_right) : LamX.LawAtS l w K CX0 10 63 "script" mg fa h := by
  have ea : A.a_law = fa := by
    have := G.g_law.symm.trans hmg
    cases this
    rfl
  obtain ⟨oc, od, kV, doc, pm, an, ct, osl, hfd, lk, hcd⟩ := G.fl_law.ex
  refine ⟨A.fd_law, [(A.co_law, A.ta_law), (A.co__law_system_right, A.ta__law_system_right)], spLaw K A, ?_, ?_, ?_, ?_, ?_, ?_⟩
  · intro p hp
    rcases List.mem_cons.mp hp with rfl | hp
    · exact t1
    · rw [List.mem_singleton.mp hp]; exact t2
  · intro p hp
    rcases List.mem_cons.mp hp with rfl | hp
    · exact n1
    · rw [List.mem_singleton.mp hp]; exact n2
  · intro p hp
    rcases List.mem_cons.mp hp with rfl | hp
    · exact PySem.W.codeHd_of_K KX d1
    · rw [List.mem_singleton.mp hp]; exact PySem.W.codeHd_of_K KX d2
  · intro s u
    rw [hfd]
    exact .of_eq rfl
  · intro H a ns hn _ hT hS
    refine ⟨a, ns, rfl, hS, hn, fun p hp => ?_, fun _ => rfl⟩
    rcases List.mem_cons.mp hp with rfl | hp
    · exact LamX.TabS.nil (hT _ List.mem_cons_self)
    · rw [List.mem_singleton.mp hp]; exact LamX.TabS.nil (hT (A.co__law_system_right, A.ta__law_system_right) (List.mem_cons_of_mem _ (List.mem_singleton.mpr rfl)))
  · intro base _ _ hB
    rw [← ea]
    exact ok_law G ⟨hB _ List.mem_cons_self, hB (A.co__law_system_right, A.ta__law_system_right) (List.mem_cons_of_mem _ (List.mem_singleton.mpr rfl)), ne⟩
end My
open PySem PySem.W PyProof.Rows
set_option maxRecDepth 100000 in
set_option maxHeartbeats 0 in
theorem PySem.Challenge.cw_pageclass_k01_systems_and_processes_holds : PySem.Challenge.rw_pageclass_k01_systems_and_processes.Holds := by
  w_on; o_law; k_head; (case hw => w_witness2)
  k_fill
  refine LamX.walk_ofTs (l := PySem.Challenge.rw_pageclass_k01_systems_and_processes) (CX := fun _ => L2.CX0) (k := 10) (n := 63) (x := "script") rfl (by decide) rfl ⟨rfl, by decide, by decide⟩ (fun w h Y => PySem.W.km_in_of Y) ?F (fun _ _ _ _ _ z => z)
  case F =>
    intro w mg fa h Y KX G hmg
    refine' My.fin (My.all_mk KX G ?h_with_flags ?l_with_flags ?c_with_flags ?k_with_flags ?h_with_lock ?l_with_lock ?c_with_lock ?k_with_lock ?h_with_held ?l_with_held ?c_with_held ?k_with_held ?h_with_stamp ?l_with_stamp ?c_with_stamp ?k_with_stamp ?h_has_object ?l_has_object ?c_has_object ?k_has_object ?h_arrange_locked ?l_arrange_locked ?c_arrange_locked ?k_arrange_locked ?h_add_locked ?l_add_locked ?c_add_locked ?k_add_locked ?h_this_step ?l_this_step ?c_this_step ?k_this_step ?h_count_page ?l_count_page ?c_count_page ?k_count_page ?h_discount_page ?l_discount_page ?c_discount_page ?k_discount_page ?h_discount_user ?l_discount_user ?c_discount_user ?k_discount_user ?h_replace_pages ?l_replace_pages ?c_replace_pages ?k_replace_pages ?h_end_step ?l_end_step ?c_end_step ?k_end_step ?h_is_integer ?l_is_integer ?c_is_integer ?k_is_integer ?h_table_of ?l_table_of ?c_table_of ?k_table_of ?h_require_charge ?l_require_charge ?c_require_charge ?k_require_charge ?h_now ?l_now ?c_now ?k_now ?h_new_process ?l_new_process ?c_new_process ?k_new_process ?h_unmap_all ?l_unmap_all ?c_unmap_all ?k_unmap_all ?h_end_process ?l_end_process ?c_end_process ?k_end_process ?h_spawn ?l_spawn ?c_spawn ?k_spawn ?h_child_page ?l_child_page ?c_child_page ?k_child_page ?h_pages_of_child ?l_pages_of_child ?c_pages_of_child ?k_pages_of_child ?h_fork ?l_fork ?c_fork ?k_fork ?h_leave ?l_leave ?c_leave ?k_leave ?h_fresh ?l_fresh ?c_fresh ?k_fresh ?h_processes ?l_processes ?c_processes ?k_processes ?h__law_well ?l__law_well ?c__law_well ?k__law_well ?h__law_draw ?l__law_draw ?c__law_draw ?k__law_draw ?h__law_one ?l__law_one ?c__law_one ?k__law_one ?h__law_said ?l__law_said ?c__law_said ?k__law_said ?h__law_is_number ?l__law_is_number ?c__law_is_number ?k__law_is_number ?h__law_system_right ?l__law_system_right ?c__law_system_right ?k__law_system_right ?h_law ?l_law ?c_law ?k_law ?h_NoSystem ?h_NoProcess ?h_PageError ?h_System ?h_Page ?h_History ?h_NoSystem_init ?l_NoSystem_init ?c_NoSystem_init ?k_NoSystem_init ?h_NoProcess_init ?l_NoProcess_init ?c_NoProcess_init ?k_NoProcess_init ?h_Page_init ?l_Page_init ?c_Page_init ?k_Page_init ?h_History_init ?l_History_init ?c_History_init ?k_History_init ?h_System_init ?l_System_init ?c_System_init ?k_System_init ?kd_System_init_frames ?kd_System_init_slots ?kd_System_init_strict ?xL_NoSystem ?xR_NoSystem ?xS_NoSystem ?xE_NoSystem ?xT_NoSystem ?xK_NoSystem ?xG_NoSystem ?xH_NoSystem ?xD_NoSystem ?xC_NoSystem ?xN_NoSystem ?xi_NoSystem ?xL_NoProcess ?xR_NoProcess ?xS_NoProcess ?xE_NoProcess ?xT_NoProcess ?xK_NoProcess ?xG_NoProcess ?xH_NoProcess ?xD_NoProcess ?xC_NoProcess ?xN_NoProcess ?xi_NoProcess ?xL_PageError ?xR_PageError ?xS_PageError ?xE_PageError ?xT_PageError ?xK_PageError ?xG_PageError ?xH_PageError ?xD_PageError ?xC_PageError ?xx_NoSystem_NoSystem ?xx_NoProcess_NoSystem ?xx_NoProcess_NoProcess ?pg_System ?hd_System ?po_System ?sa_System ?mk_System ?kc_System ?ii_System ?na_System_frames ?na_System_slots ?na_System_strict ?na_System_steps_made ?na_System_processes_made ?na_System_objects_made ?na_System_tables ?na_System_objects ?na_System_object_pages ?na_System_files ?na_System_classes ?na_System_locked_pages ?na_System_memory ?na_System_swapped ?na_System_faults ?na_System_swap_outs ?na_System_write_backs ?na_System_history ?pg_Page ?hd_Page ?po_Page ?sa_Page ?mk_Page ?kc_Page ?ii_Page ?na_Page_rights ?na_Page_shared ?na_Page_source ?na_Page_index ?na_Page_flags ?na_Page_held ?na_Page_stamp ?pg_History ?hd_History ?po_History ?sa_History ?mk_History ?kc_History ?ii_History ?na_History_row ?na_History_holes ?na_History_locked ?na_History_classes ?na_History_touches ?na_History_distances ?na_History_swap_outs ?na_History_write_backs ?na_History_most_slots ?na_History_saves ?na_History_lock_changes ?na_History_most_locked ?na_History_crashed ?na_History_merged ?b_int ?b_len ?b_isinstance ?b_bool ?b_str ?b_list ?b_range ?b_enumerate ?b_sorted ?b_dict ?b_tuple ?gF ?rF) KX hmg ?lc1 ?v1 ?n1 ?d1 ?t1 ?lc2 ?v2 ?n2 ?d2 ?t2 ?ne
    (case h_with_flags => k_is)
    (case l_with_flags => k_is)
    (case c_with_flags => k_is)
    (case k_with_flags => k_is)
    (case h_with_lock => k_is)
    (case l_with_lock => k_is)
    (case c_with_lock => k_is)
    (case k_with_lock => k_is)
    (case h_with_held => k_is)
    (case l_with_held => k_is)
    (case c_with_held => k_is)
    (case k_with_held => k_is)
    (case h_with_stamp => k_is)
    (case l_with_stamp => k_is)
    (case c_with_stamp => k_is)
    (case k_with_stamp => k_is)
    (case h_has_object => k_is)
    (case l_has_object => k_is)
    (case c_has_object => k_is)
    (case k_has_object => k_is)
    (case h_arrange_locked => k_is)
    (case l_arrange_locked => k_is)
    (case c_arrange_locked => k_is)
    (case k_arrange_locked => k_is)
    (case h_add_locked => k_is)
    (case l_add_locked => k_is)
    (case c_add_locked => k_is)
    (case k_add_locked => k_is)
    (case h_this_step => k_is)
    (case l_this_step => k_is)
    (case c_this_step => k_is)
    (case k_this_step => k_is)
    (case h_count_page => k_is)
    (case l_count_page => k_is)
    (case c_count_page => k_is)
    (case k_count_page => k_is)
    (case h_discount_page => k_is)
    (case l_discount_page => k_is)
    (case c_discount_page => k_is)
    (case k_discount_page => k_is)
    (case h_discount_user => k_is)
    (case l_discount_user => k_is)
    (case c_discount_user => k_is)
    (case k_discount_user => k_is)
    (case h_replace_pages => k_is)
    (case l_replace_pages => k_is)
    (case c_replace_pages => k_is)
    (case k_replace_pages => k_is)
    (case h_end_step => k_is)
    (case l_end_step => k_is)
    (case c_end_step => k_is)
    (case k_end_step => k_is)
    (case h_is_integer => k_is)
    (case l_is_integer => k_is)
    (case c_is_integer => k_is)
    (case k_is_integer => k_is)
    (case h_table_of => k_is)
    (case l_table_of => k_is)
    (case c_table_of => k_is)
    (case k_table_of => k_is)
    (case h_require_charge => k_is)
    (case l_require_charge => k_is)
    (case c_require_charge => k_is)
    (case k_require_charge => k_is)
    (case h_now => k_is)
    (case l_now => k_is)
    (case c_now => k_is)
    (case k_now => k_is)
    (case h_new_process => k_is)
    (case l_new_process => k_is)
    (case c_new_process => k_is)
    (case k_new_process => k_is)
    (case h_unmap_all => k_is)
    (case l_unmap_all => k_is)
    (case c_unmap_all => k_is)
    (case k_unmap_all => k_is)
    (case h_end_process => k_is)
    (case l_end_process => k_is)
    (case c_end_process => k_is)
    (case k_end_process => k_is)
    (case h_spawn => k_is)
    (case l_spawn => k_is)
    (case c_spawn => k_is)
    (case k_spawn => k_is)
    (case h_child_page => k_is)
    (case l_child_page => k_is)
    (case c_child_page => k_is)
    (case k_child_page => k_is)
    (case h_pages_of_child => k_is)
    (case l_pages_of_child => k_is)
    (case c_pages_of_child => k_is)
    (case k_pages_of_child => k_is)
    (case h_fork => k_is)
    (case l_fork => k_is)
    (case c_fork => k_is)
    (case k_fork => k_is)
    (case h_leave => k_is)
    (case l_leave => k_is)
    (case c_leave => k_is)
    (case k_leave => k_is)
    (case h_fresh => k_is)
    (case l_fresh => k_is)
    (case c_fresh => k_is)
    (case k_fresh => k_is)
    (case h_processes => k_is)
    (case l_processes => k_is)
    (case c_processes => k_is)
    (case k_processes => k_is)
    (case h__law_well => k_is)
    (case l__law_well => k_is)
    (case c__law_well => k_is)
    (case k__law_well => k_is)
    (case h__law_draw => k_is)
    (case l__law_draw => k_is)
    (case c__law_draw => k_is)
    (case k__law_draw => k_is)
    (case h__law_one => k_is)
    (case l__law_one => k_is)
    (case c__law_one => k_is)
    (case k__law_one => k_is)
    (case h__law_said => k_is)
    (case l__law_said => k_is)
    (case c__law_said => k_is)
    (case k__law_said => k_is)
    (case h__law_is_number => k_is)
    (case l__law_is_number => k_is)
    (case c__law_is_number => k_is)
    (case k__law_is_number => k_is)
    (case h__law_system_right => k_is)
    (case l__law_system_right => k_is)
    (case c__law_system_right => k_is)
    (case k__law_system_right => k_is)
    (case h_law => k_is)
    (case l_law => k_is)
    (case c_law => k_is)
    (case k_law => k_is)
    (case h_NoSystem => k_is)
    (case h_NoProcess => k_is)
    (case h_PageError => k_is)
    (case h_System => k_is)
    (case h_Page => k_is)
    (case h_History => k_is)
    (case h_NoSystem_init => k_is)
    (case l_NoSystem_init => k_is)
    (case c_NoSystem_init => k_is)
    (case k_NoSystem_init => k_is)
    (case h_NoProcess_init => k_is)
    (case l_NoProcess_init => k_is)
    (case c_NoProcess_init => k_is)
    (case k_NoProcess_init => k_is)
    (case h_Page_init => k_is)
    (case l_Page_init => k_is)
    (case c_Page_init => k_is)
    (case k_Page_init => k_is)
    (case h_History_init => k_is)
    (case l_History_init => k_is)
    (case c_History_init => k_is)
    (case k_History_init => k_is)
    (case h_System_init => k_is)
    (case l_System_init => k_is)
    (case c_System_init => k_is)
    (case k_System_init => k_is)
    (case kd_System_init_frames => k_is)
    (case kd_System_init_slots => k_is)
    (case kd_System_init_strict => k_is)
    (case xL_NoSystem => k_is)
    (case xR_NoSystem => first | k_is | rfl | decide +kernel)
    (case xS_NoSystem => k_is)
    (case xE_NoSystem => k_is)
    (case xT_NoSystem => k_is)
    (case xK_NoSystem => k_is)
    (case xG_NoSystem => k_is)
    (case xH_NoSystem => k_is)
    (case xD_NoSystem => k_is)
    (case xC_NoSystem => k_is)
    (case xN_NoSystem => k_is)
    (case xi_NoSystem => k_is)
    (case xL_NoProcess => k_is)
    (case xR_NoProcess => first | k_is | rfl | decide +kernel)
    (case xS_NoProcess => k_is)
    (case xE_NoProcess => k_is)
    (case xT_NoProcess => k_is)
    (case xK_NoProcess => k_is)
    (case xG_NoProcess => k_is)
    (case xH_NoProcess => k_is)
    (case xD_NoProcess => k_is)
    (case xC_NoProcess => k_is)
    (case xN_NoProcess => k_is)
    (case xi_NoProcess => k_is)
    (case xL_PageError => k_is)
    (case xR_PageError => first | k_is | rfl | decide +kernel)
    (case xS_PageError => k_is)
    (case xE_PageError => k_is)
    (case xT_PageError => k_is)
    (case xK_PageError => k_is)
    (case xG_PageError => k_is)
    (case xH_PageError => k_is)
    (case xD_PageError => k_is)
    (case xC_PageError => k_is)
    (case xx_NoSystem_NoSystem => first | rfl | k_is)
    (case xx_NoProcess_NoSystem => first | rfl | k_is)
    (case xx_NoProcess_NoProcess => first | rfl | k_is)
    (case pg_System => k_is)
    (case hd_System => k_is)
    (case po_System => k_is)
    (case sa_System => k_is)
    (case mk_System => k_is)
    (case kc_System => k_is)
    (case ii_System => k_is)
    (case na_System_frames => k_is)
    (case na_System_slots => k_is)
    (case na_System_strict => k_is)
    (case na_System_steps_made => k_is)
    (case na_System_processes_made => k_is)
    (case na_System_objects_made => k_is)
    (case na_System_tables => k_is)
    (case na_System_objects => k_is)
    (case na_System_object_pages => k_is)
    (case na_System_files => k_is)
    (case na_System_classes => k_is)
    (case na_System_locked_pages => k_is)
    (case na_System_memory => k_is)
    (case na_System_swapped => k_is)
    (case na_System_faults => k_is)
    (case na_System_swap_outs => k_is)
    (case na_System_write_backs => k_is)
    (case na_System_history => k_is)
    (case pg_Page => k_is)
    (case hd_Page => k_is)
    (case po_Page => k_is)
    (case sa_Page => k_is)
    (case mk_Page => k_is)
    (case kc_Page => k_is)
    (case ii_Page => k_is)
    (case na_Page_rights => k_is)
    (case na_Page_shared => k_is)
    (case na_Page_source => k_is)
    (case na_Page_index => k_is)
    (case na_Page_flags => k_is)
    (case na_Page_held => k_is)
    (case na_Page_stamp => k_is)
    (case pg_History => k_is)
    (case hd_History => k_is)
    (case po_History => k_is)
    (case sa_History => k_is)
    (case mk_History => k_is)
    (case kc_History => k_is)
    (case ii_History => k_is)
    (case na_History_row => k_is)
    (case na_History_holes => k_is)
    (case na_History_locked => k_is)
    (case na_History_classes => k_is)
    (case na_History_touches => k_is)
    (case na_History_distances => k_is)
    (case na_History_swap_outs => k_is)
    (case na_History_write_backs => k_is)
    (case na_History_most_slots => k_is)
    (case na_History_saves => k_is)
    (case na_History_lock_changes => k_is)
    (case na_History_most_locked => k_is)
    (case na_History_crashed => k_is)
    (case na_History_merged => k_is)
    (case b_int => k_is)
    (case b_len => k_is)
    (case b_isinstance => k_is)
    (case b_bool => k_is)
    (case b_str => k_is)
    (case b_list => k_is)
    (case b_range => k_is)
    (case b_enumerate => k_is)
    (case b_sorted => k_is)
    (case b_dict => k_is)
    (case b_tuple => k_is)
    (case gF => k_is)
    (case rF => first | rfl | decide +kernel)

    (case lc1 => k_is)
    (case v1 => rfl)
    (case n1 => first | rfl | decide +kernel)
    (case d1 => first | rfl | decide +kernel)
    (case t1 => exact PySem.W.km_tabs_of Y _ (by simp))
    (case lc2 => k_is)
    (case v2 => rfl)
    (case n2 => first | rfl | decide +kernel)
    (case d2 => first | rfl | decide +kernel)
    (case t2 => exact PySem.W.km_tabs_of Y _ (by simp))
    (case ne => decide)
