import PyProof.Rows.All
import Wide.All
import OpenK.AllK
import Wide.FinOn
import HandS.ForMost
import HandS.ForExc
import HandS.ExcField
import HandS.ExcInit
import HandS.DictComp
import HandS.Lambda
import HandS.IsInst
import HandS.MakeKwOnly
import HandS.EndTab
import HandS.EndOwn
import HandS.More
import PyProof.NeKinds
import PySem.Challenge.RW_pageclass_k01_systems_and_processes
set_option Elab.async false
set_option linter.all false
set_option maxRecDepth 100000
set_option maxHeartbeats 4000000
/-! own rules, over the hand layer -/
namespace L2
open PySem PySem.Spec PyProof.Rows
section
variable {X : Cx}
/-- an expression that no way reaches -/
theorem pe_nev {e : Expr} : PE X e (fun _ _ _ => False) := ⟨fun _ _ _ _ _ _ z => z.elim⟩
theorem pts_nev {es : List Expr} : PTs X es (fun _ _ _ => False) := ⟨fun _ _ _ _ _ _ z => z.elim⟩

/-! a name that a dict comprehension is given to -/
theorem sw_dict {kx vx : Expr} {gs : List Comprehension} {scope : Scope} {pos py : Pos} {y : Str} {l : Nat} {env : Env}
    (fk : env.scope.kind = .function) (fy : env.scope.names.lookup y = some .local) (fl : (py.line == pos.line) = true)
    (fa : (scope.names.any fun (n, k) => n == y && (k == .local || k == .cell)) = false) :
    swapsWith (.DictComp kx vx gs scope pos) (some (.Name y py)) l env = pure true := by
  have q1 : env.kindOf y = some .local := fy
  have q2 : env.blockKind = .function := by
    unfold Env.blockKind
    rw [fk]
    rfl
  unfold swapsWith
  simp only [q1, q2, fa, fl, Expr.pos]
  rfl
theorem ps_setDc {i : Nat} {y : Str} {py : Pos} {kx vx tg iter : Expr} {ifs : List Expr} {scope : Scope} {own : List (Str × Nat)} {pos spos : Pos}
    {wi : TI} {g : TG} {tt : TT} {tk tv : TE} (hc : X.calm = true) (hN : X.N.Nodup) (hy : X.N[i]? = some y)
    (hyl : X.env.scope.names.lookup y = some .local)
    (hsw : swapsWith (.DictComp kx vx [⟨tg, iter, ifs, 0⟩] scope pos) (some (.Name y py)) spos.line X.env = pure true)
    (hi : PI X tg iter wi) (ok : BlkOk X.N X.env.scope scope own)
    (hg : ∀ (s : Shared) (H : Hp) (C : Addr) (cl : List (Str × Addr)) (fp : List Addr),
      PG (X.blk s H scope (compEnvC scope cl C X.env) fp) tg g)
    (ht : ∀ (s : Shared) (H : Hp) (C : Addr) (cl : List (Str × Addr)) (fp : List Addr),
      PTs (X.blk s H scope (compEnvC scope cl C X.env) fp) ifs tt)
    (hk : ∀ (s : Shared) (H : Hp) (C : Addr) (cl : List (Str × Addr)) (fp : List Addr),
      PE (X.blk s H scope (compEnvC scope cl C X.env) fp) kx tk)
    (he : ∀ (s : Shared) (H : Hp) (C : Addr) (cl : List (Str × Addr)) (fp : List Addr),
      PE (X.blk s H scope (compEnvC scope cl C X.env) fp) vx tv)
    (hs : ∀ x, foldedSetIterable iter X.env x = pure x := by intro _; rfl) :
    PS X (.Assign [.Name y py] (.DictComp kx vx [⟨tg, iter, ifs, 0⟩] scope pos) spos)
      (tAsg (tDc wi g tt tk tv (own.map (·.2))) (gName i)) := by
  refine ⟨fun pins s σ H D I h => ?_⟩
  rw [exec_Assign_Name_used _ _ _ _ hsw]
  refine wpAny_bind (wpAny_standAt (wpAny_bind ?_))
  show wpAny _ X.A (do
    let _ ← comprehension (.DictComp kx vx [⟨tg, iter, ifs, 0⟩] scope pos) scope X.env (firstIterPos [⟨tg, iter, ifs, 0⟩] pos)
      newDict false (eval iter X.env) (some (assign (.Name y py) X.env))) _ _ s
  have h' : tDc wi g tt tk tv (own.map (·.2)) σ H (fun x H1 => gName i x σ H1 D.nx) := h
  refine wpAny_bind (thn (dc_core (Qf := fun _ s' => SP X pins D .next s') hc hN I hi ok hg ht hk he hs h'
    fun L C s' m H' J q hn f => ?_) fun _ s' hq => wpAny_pure (wpAny_pure hq))
  show wpAny _ _ (assign (.Name y py) X.env (.ref L)) _ _ _
  refine wpAny_assign_Name (store_ok2 (v := V.ref L) J hN hy (.inl hyl) rfl (fun s2 J2 ⟨a, sb, ha⟩ => ?_) (.inr hyl))
  obtain ⟨f0, f1, f2, f3, f4, f5⟩ := f
  have hne : C ≠ a := by
    rcases ha with z | z
    · rw [z]
      exact f1
    · exact fun e => f4 y a z e.symm
  exact ⟨m, hn.sameBut sb hne, fun h3 sb3 =>
    ⟨_, H', J2.turned (t' := s2.toks) (fun b o hb e => (sb3.2 b hb).trans e) f0 f1 f3 f4 f5, q⟩⟩
end
/-! ### several except clauses, each with or without a name -/
/-- the ends of a suite whose name is in slot i: behind it the slot is empty -/
def clr (i : Nat) (D : Ends) : Ends where
  nx := fun σ' H' => D.nx (σ'.set i none) H'
  rt := D.rt
  bk := fun σ' H' => D.bk (σ'.set i none) H'
  ct := fun σ' H' => D.ct (σ'.set i none) H'
/-- a clause: its class, the slot of its name, its suite -/
abbrev Cls1 := Value × Option Nat × (Addr → Value → Option Addr → TS)
def suiteT (c : Cls1) (a : Addr) (cls : Value) (d : Option Addr) : TS := fun D σ H => match c.2.1 with
  | none => c.2.2 a cls d D σ H
  | some i => c.2.2 a cls d (clr i D) (σ.set i (some (.ref a))) H
def wCls (K : PySem.W.Frag) (Wo : WX) (D : Ends) : List Cls1 → WX
  | [] => Wo
  | c :: r => fun cls d σ H => ∃ b, PySem.W.exmOne K cls c.1 = some b ∧
      (b = true → ∀ a, H a = none → suiteT c a cls d D σ H) ∧ (b = false → wCls K Wo D r cls d σ H)
inductive ClsOk (X : Cx) : List ExceptHandler → List Cls1 → Prop
  | nil : ClsOk X [] []
  | bare {x : Str} {c : Value} {ts : Addr → Value → Option Addr → TS} {b0 : Stmt} {su : List Stmt} {p1 p2 : Pos} {hs : List ExceptHandler} {l : List Cls1}
      (hc : Names X x c)
      (hsu : ∀ (a : Addr) (oe : Obj) (cls : Value) (d : Option Addr) (pn : List (Addr × Obj)), Zc cls d oe →
        (∃ vs, oe.data = .fields vs) → PSs (X.suite a ((a, oe) :: pn)) (b0 :: su) (ts a cls d)) (r : ClsOk X hs l) :
      ClsOk X (.ExceptHandler (some (.Name x p1)) none (b0 :: su) p2 :: hs) ((c, none, ts) :: l)
  | named {x n : Str} {i : Nat} {c : Value} {ts : Addr → Value → Option Addr → TS} {b0 : Stmt} {su : List Stmt} {p1 p2 : Pos} {hs : List ExceptHandler} {l : List Cls1}
      (hc : Names X x c) (hi : X.N[i]? = some n) (hl : X.env.kindOf n = some .local)
      (hsu : ∀ (a : Addr) (oe : Obj) (cls : Value) (d : Option Addr) (pn : List (Addr × Obj)), Zc cls d oe →
        (∃ vs, oe.data = .fields vs) → PSs (X.suite a ((a, oe) :: pn)) (b0 :: su) (ts a cls d)) (r : ClsOk X hs l) :
      ClsOk X (.ExceptHandler (some (.Name x p1)) (some n) (b0 :: su) p2 :: hs) ((c, some i, ts) :: l)
section
variable {X : Cx} {body : List Stmt} {h0 : ExceptHandler} {hds : List ExceptHandler} {l : List Cls1} {pos : Pos} {tb : WX → TS} {Wo : WX}
theorem ps_try_cls (hs : X.stack = X.env :: X.outer) (hf : X.env.frame = some X.env.locals) (hN : X.N.Nodup) (tk : Takes X Wo)
    (hb : ∀ (W : WX) (pn : List (Addr × Obj)) (xe : Value → Shared → Prop), Takes (X.tr pn xe) W →
      PassesOwn (model X.prog X.w) X.A X.env xe → PSs (X.tr pn xe) body (tb W))
    (hh : ClsOk X (h0 :: hds) l) :
    PS X (.Try body (h0 :: hds) [] [] pos) (fun D σ H => tb (wCls X.K Wo D l) D σ H) := by
  refine ⟨fun pins s σ H D I h => ?_⟩
  have okX := I.ok
  have fr : X.A.frames = some (X.env :: X.outer) := by rw [okX.frames, hs]
  refine wpAny_Try_except ?_
  refine wpAny_mono ((hb (wCls X.K Wo D l) (X.pn ++ pins)
    (fun e s1 => wpAny (model X.prog X.w) X.A (noteFrame e X.env)
      (fun _ s2 => wpAny (model X.prog X.w) X.A (setFlight e none)
        (fun _ s3 => wpAny (model X.prog X.w) X.A (handleBy e X.env (h0 :: hds)) (SP X pins D) X.xe s3) X.xe s2) X.xe s1)
    (fun u s' air => ?c1) PassesOwn.looking).run [] s σ H D (I.toTry _) h) (fun f s1 hsp => ?c2) (fun _ _ z => z)
  case c1 =>
    obtain ⟨a, B, sI, pq, σ', H', cls, d, rfl, Jt, nb, up, sky, na, os, ag, w⟩ := air
    have J : Inv X pins σ' H' sI := Jt.ofTry okX
    have sk : Sky B (X.env :: X.outer) a (Zc cls d) X.env.locals s'.heap := by
      rw [← hs]
      exact sky
    show wpAny (model X.prog X.w) X.A (noteFrame (.ref a) X.env) _ _ _
    refine Sky.land Zc.steady fr hf sk fun hA flA upA => ?_
    have JA : Inv X pins σ' H' { s' with heap := hA } := J.landed nb flA.1 (up.trans upA) os ag
    obtain ⟨oA, vA, atA, zA, dA⟩ := flA.there
    have far : a ∉ frs (X.env :: X.outer) := fun hm => by
      obtain ⟨_, o', e', hnf⟩ := flA.2.2.1.mem hm
      rw [atA] at e'
      cases e'
      exact hnf _ dA
    have nL : a ≠ X.env.locals := fun z => far (List.mem_filterMap.mpr ⟨X.env, List.mem_cons_self, by rw [hf, z]⟩)
    have nF : a ∉ X.fs := fun hm => by
      obtain ⟨e, he, q⟩ := List.mem_filterMap.mp hm
      exact far (List.mem_filterMap.mpr ⟨e, List.mem_cons_of_mem _ he, q⟩)
    have SA := JA.suite atA dA na nL nF
    -- the test of a clause
    have test : ∀ {x : Str} {c : Value} {np : Pos} {Q E : Value → Shared → Prop}, Names X x c → Q c { s' with heap := hA } →
        wpAny (model X.prog X.w) (X.A.mark (some (.ref a))) (eval (.Name x np) X.env) Q E { s' with heap := hA } := fun hc q => by
      obtain ⟨hg, hdbg, hm | ⟨hm, hv, hnn⟩⟩ := hc
      · exact ld_glob (X := X.suite a ((a, oA) :: (X.pn ++ pins))) SA hg hm q hdbg
      · exact ld_blt (X := X.suite a ((a, oA) :: (X.pn ++ pins))) SA hg hm hv q hnn hdbg
    have look : PySem.W.Looks (model X.prog X.w) hA (typeOf (.ref a)) cls := fun A Q E s k q =>
      wpAny_typeOf_ref (k _ _ atA) (by rw [zA.1]; exact q)
    have go : ∀ {hs' : List ExceptHandler} {l' : List Cls1}, ClsOk X hs' l' → wCls X.K Wo D l' cls d σ' H' →
        wpAny (model X.prog X.w) X.A (handleBy (.ref a) X.env hs') (SP X pins D) X.xe { s' with heap := hA } := by
      intro hs' l' hk
      induction hk with
      | nil =>
        intro w
        refine wpAny_handleBy_nil ?_
        obtain ⟨_, _, _, oe, vs, T, oT, ts', he, hz, hd, h1, hr⟩ := id flA
        unfold PySem.passOn
        refine wpAny_bind (wpAny_field he hd h1 ?_)
        rw [if_neg (show ¬ ((Value.ref T == Value.none) = true) by simp)]
        have fin : wpAny (model X.prog X.w) X.A (setFlight (.ref a) X.env.frame)
            (fun _ s4 => wpAny (model X.prog X.w) X.A (throw (.ref a) : Sem Flow) (SP X pins D) X.xe s4) X.xe { s' with heap := hA } := by
          rw [hf]
          exact HandSPX.setFlight_upZ flA fun h4 hh4 up4 => wpAny_throw (tk _ _
            ⟨a, B, sI, pins, σ', H', cls, d, rfl, J, nb, (up.trans upA).trans up4, .inr (.inr (by rw [hs]; exact hh4)), na, os, ag, w⟩)
        first
          | exact wpAny_bind (wpAny_pure (wpAny_bind fin))
          | exact wpAny_bind fin
      | @bare x c ts b0 su p1 p2 hs2 l2 hc hsu r ih =>
        intro w
        obtain ⟨b, m, yes, no⟩ := w
        refine wpAny_handleBy_cons (codeAny_handlers_test ?_) (by intro q; cases q)
        have LM := PySem.W.exm_one (M := model X.prog X.w) JA.kIn look m
        refine test hc (LM.here ?_)
        cases b with
        | false => exact ih (no rfl)
        | true =>
          refine codeAny_handlers_suite (HandSPX.lands_againZ flA fun hB flB upB => ?_)
          have JB : Inv X pins σ' H' { s' with heap := hB } := J.landed nb flB.1 ((up.trans upA).trans upB) os ag
          obtain ⟨oB, vB, atB, zB, dB⟩ := flB.there
          have SB := JB.suite atB dB na nL nF
          refine wpAny_mono ((hsu a oB cls d (X.pn ++ pins) zB ⟨_, dB⟩).run [] _ _ H' _ SB (yes rfl a na)) (fun f s6 hsp => ?_) (fun _ _ z => z.elim)
          cases f with
          | ret u =>
            obtain ⟨v6, σ6, H6, S6, r6, q6⟩ := hsp
            exact ⟨_, _, _, S6.unsuite okX, r6, q6⟩
          | next =>
            obtain ⟨σ6, H6, S6, q6⟩ := hsp
            exact ⟨_, _, S6.unsuite okX, q6⟩
          | brk =>
            obtain ⟨σ6, H6, S6, q6⟩ := hsp
            exact ⟨_, _, S6.unsuite okX, q6⟩
          | cont =>
            obtain ⟨σ6, H6, S6, q6⟩ := hsp
            exact ⟨_, _, S6.unsuite okX, q6⟩
      | @named x n i c ts b0 su p1 p2 hs2 l2 hc hi hl hsu r ih =>
        intro w
        obtain ⟨b, m, yes, no⟩ := w
        refine wpAny_handleBy_cons (codeAny_handlers_test ?_) (by intro q; cases q)
        have LM := PySem.W.exm_one (M := model X.prog X.w) JA.kIn look m
        refine test hc (LM.here ?_)
        cases b with
        | false => exact ih (no rfl)
        | true =>
          refine codeAny_handlers_suite_as (HandSPX.lands_againZ flA fun hB flB upB => ?_)
          have JB : Inv X pins σ' H' { s' with heap := hB } := J.landed nb flB.1 ((up.trans upA).trans upB) os ag
          obtain ⟨oB, vB, atB, zB, dB⟩ := flB.there
          have SB := JB.suite atB dB na nL nF
          refine store_ok (X := X.suite a ((a, oB) :: (X.pn ++ pins))) (v := .ref a) SB hN hi (.inl hl) rfl (fun s5 S5 => ?_) (.inr hl)
          refine wpAny_mono ((hsu a oB cls d (X.pn ++ pins) zB ⟨_, dB⟩).run [] s5 _ H' _ S5 (yes rfl a na)) (fun f s6 hsp => ?_) (fun _ _ z => z.elim)
          have off : ∀ {σ6 : St} {H6 : Hp} {Q : Shared → Prop}, Inv (X.suite a ((a, oB) :: (X.pn ++ pins))) [] σ6 H6 s6 →
              (∀ s7, Inv X pins (σ6.set i none) H6 s7 → Q s7) →
              wpAny (model X.prog X.w) X.A (do bindName X.env n .none; unbindBehindTheSuite X.env n p2) (fun _ s7 => Q s7) X.xe s6 :=
            fun S6 hq => gone_ok (S6.unsuite okX) hN hi hl hq
          cases f with
          | ret u =>
            obtain ⟨v6, σ6, H6, S6, r6, q6⟩ := hsp
            exact off S6 fun s7 J7 => ⟨_, _, _, J7, r6, q6⟩
          | next =>
            obtain ⟨σ6, H6, S6, q6⟩ := hsp
            exact off S6 fun s7 J7 => ⟨_, _, J7, q6⟩
          | brk =>
            obtain ⟨σ6, H6, S6, q6⟩ := hsp
            exact off S6 fun s7 J7 => ⟨_, _, J7, q6⟩
          | cont =>
            obtain ⟨σ6, H6, S6, q6⟩ := hsp
            exact off S6 fun s7 J7 => ⟨_, _, J7, q6⟩
    exact go hh w
  case c2 =>
    cases f with
    | ret u =>
      obtain ⟨v, σ', H', J', r, q⟩ := hsp
      exact ⟨v, σ', H', J'.ofTry okX, r, q⟩
    | next =>
      obtain ⟨σ', H', J', q⟩ := hsp
      exact wpAny_execs_nil ⟨σ', H', J'.ofTry okX, q⟩
    | brk =>
      obtain ⟨σ', H', J', q⟩ := hsp
      exact ⟨σ', H', J'.ofTry okX, q⟩
    | cont =>
      obtain ⟨σ', H', J', q⟩ := hsp
      exact ⟨σ', H', J'.ofTry okX, q⟩
end
/-! ### two tuples of the very same values -/
section
variable {X : Cx}
/-- a value of which == with itself is known: by value, or by the object -/
def selfEq : V → Bool
  | .ref _ => true
  | v => flatB v
theorem selfEq_at {A : Around} {s : Shared} {v : V} {u u' : Value} (r : RelV v u) (r' : RelV v u') (f : selfEq v = true) : SeqAt.EqAt A s u u' true := by
  cases v with
  | ref a =>
    cases (show u = Value.ref a from r)
    cases (show u' = Value.ref a from r')
    exact SeqAt.EqAt.same _
  | _ => exact eqAt_same r r' f
theorem selfEq_all {A : Around} {s : Shared} : ∀ {xs : List V} {us ws : List Value}, Vals xs us → Vals xs ws → xs.all selfEq = true →
    ∀ j (h1 : j < us.length) (h2 : j < ws.length), SeqAt.EqAt A s us[j] ws[j] true
  | _, _, _, .nil, .nil, _, j, h1, _ => absurd h1 (Nat.not_lt_zero j)
  | _, _, _, .cons a1 b1, .cons a2 b2, f, j, h1, h2 => by
    rw [List.all_cons, Bool.and_eq_true] at f
    cases j with
    | zero => exact selfEq_at a1 a2 f.1
    | succ j => exact selfEq_all b1 b2 f.2 j (Nat.lt_of_succ_lt_succ h1) (Nat.lt_of_succ_lt_succ h2)
def rTupS (K : PySem.W.Frag) (b : Bool) : R2 := fun x y H Q => ∃ p q xs, x = .ref p ∧ y = .ref q ∧ SqT K H p xs ∧ SqT K H q xs ∧ xs.all selfEq = true ∧ Q (.bl b) H
theorem op_neTupS (hu : X.A.units < cLine) : OpR X (compareOp .NotEq) (rTupS X.K false) := by
  intro pins s σ H x y v u Q I rx ry h
  obtain ⟨p, q, xs, rfl, rfl, h1, h2, f, z⟩ := h
  cases (show v = Value.ref p from rx)
  cases (show u = Value.ref q from ry)
  obtain ⟨us, r1, p1, _⟩ := I.tuple h1
  obtain ⟨ws, r2, p2, _⟩ := I.tuple h2
  have e := SeqAt.RcNeAt.tuples (A := X.A) (s := s) (e := fun _ => true) p1 p2 hu fun j a b => by
    have k := selfEq_all (A := X.A.in1) (s := s) r1 r2 f j (by simpa using a) (by simpa using b)
    simpa using k
  refine e X.prog X.w _ _ ?_
  have l : us.length = ws.length := r1.length.symm.trans r2.length
  have z' : (!((List.range (min us.toArray.size ws.toArray.size)).all (fun _ => true) && us.toArray.size == ws.toArray.size)) = false := by
    rw [show ((List.range (min us.toArray.size ws.toArray.size)).all fun _ => true) = true from List.all_eq_true.mpr fun _ _ => rfl]
    simp [l]
  rw [z']
  exact ⟨.bl false, H, I, rfl, z⟩
theorem op_eqTupS (hu : X.A.units < cLine) : OpR X (compareOp .Eq) (rTupS X.K true) := by
  intro pins s σ H x y v u Q I rx ry h
  obtain ⟨p, q, xs, rfl, rfl, h1, h2, f, z⟩ := h
  cases (show v = Value.ref p from rx)
  cases (show u = Value.ref q from ry)
  obtain ⟨us, r1, p1, _⟩ := I.tuple h1
  obtain ⟨ws, r2, p2, _⟩ := I.tuple h2
  have e := SeqAt.RcAt.tuples (A := X.A) (s := s) (e := fun _ => true) p1 p2 hu fun j a b => by
    have k := selfEq_all (A := X.A.in1) (s := s) r1 r2 f j (by simpa using a) (by simpa using b)
    simpa using k
  refine e X.prog X.w _ _ ?_
  have l : us.length = ws.length := r1.length.symm.trans r2.length
  have z' : ((List.range (min us.toArray.size ws.toArray.size)).all (fun _ => true) && us.toArray.size == ws.toArray.size) = true := by
    rw [show ((List.range (min us.toArray.size ws.toArray.size)).all fun _ => true) = true from List.all_eq_true.mpr fun _ _ => rfl]
    simp [l]
  rw [z']
  exact ⟨.bl true, H, I, rfl, z⟩
end
/-! ### a def whose code object is told (it makes lambdas) -/
structure FunC (K : PySem.W.Frag) (x qual : Str) (st : Stmt) (f : Addr) (fd : FuncData) (co : Addr) : Prop where
  ex : ∃ (oc : Value) (od : Option Addr) (kV doc pm : Value) (an : Option Addr) (ct : Value) (osl : Array (Option Value)),
    fd = PySem.W.fnOf x qual (defArgs st) (defBody st) (defScope st) .none kV doc pm an (.ref co) ct ∧
      K.lookup f = some ⟨oc, od, .func fd, osl⟩ ∧ PySem.W.codeIn K (.ref co) qual = true
theorem FunC.ok {P : Program} {w : World} {K : PySem.W.Frag} {mg : Str → Option Value} {base : Heap} {x qual : Str} {st : Stmt} {f co : Addr} {fd : FuncData} {N ps : List Str} {k : Nat} {sp : Sp}
    (F : FunC K x qual st f fd co) (S : FnScope N ps (defScope st)) (len : ∀ vs H Q E, sp vs H Q E → vs.length = ps.length)
    (hbody : ∀ (A : Around) (outer : List Env) (s : Shared) (H : Hp) (vs : List V) (Q : VK) (E : XK),
      Room k (A.deeper (envOfC qual (defScope st) s.heap.objs.size f (.ref co))) → sp vs H Q E →
      ∃ t, PSs (cxOf CX0 P w K mg base N qual (defScope st) f (.ref co) A outer s H E).nox (defBody st) t ∧
        t { nx := fun _ H' => Q .non H', rt := Q } (L2.start N vs) H) : FnOk P w K mg base CX0 (k + 1) f fd ps sp := by
  obtain ⟨oc, od, kV, doc, pm, an, ct, osl, rfl, lk, hcd⟩ := F.ex
  refine fn_of lk hcd S len fun A outer s H vs Q E hr hsp => ?_
  obtain ⟨t, h, q⟩ := hbody A outer s H vs Q E hr hsp
  exact ⟨t, h.nox, q⟩
/-! ### tables of code objects, kept -/
open LamX in
theorem Tabs.keep {T : List (Addr × Str)} {H H' : Hp} (t : Tabs T H) (h : ∀ b o, H b = some o → (∀ u, o = .ext u → H' b = some o) ∧ (∀ ps, o = .tbl ps → H' b = some o)) : Tabs T H' := fun p hp => by
  obtain ⟨ps, h1, h2, h3⟩ := t p hp
  refine ⟨ps, (h _ _ h1).2 _ rfl, h2, fun pos cv hc => ?_⟩
  obtain ⟨c, e1, e2⟩ := h3 pos cv hc
  exact ⟨c, e1, (h _ _ e2).1 _ rfl⟩
end L2

set_option Elab.async false
set_option linter.all false
set_option maxRecDepth 100000
set_option maxHeartbeats 4000000
namespace My
open PySem L2
local macro_rules | `(tactic| walk_at "ds") => `(tactic| dsimp only [tSeq, tIfS, tTest, tB, tAnd, tOr, tNot, tAndV, tOrV, tNotV, tIf, tIsN, tNotN, tOp, tUn, tChain, rI, rI0, rU, tC, tCB, tCons, tNil, tAsg, gName, gSub, tRet, tRetN, tNext, tDrop, tLst, tTup, rIxL, rIxT, rSetL, tVar, tFld, tCall, tDGet, tDIn, tDNotIn, tNever, L2.start, List.map, List.replicate, List.length, List.append, List.cons_append, List.nil_append, List.set, Nat.sub])
local macro_rules | `(tactic| walk_at "hp") => `(tactic| first | assumption | exact upd_same | (refine Eq.trans (upd_ne (by first | assumption | (apply Ne.symm; assumption))) ?_; walk_at "hp"))
local macro_rules | `(tactic| walk_at "sd") => `(tactic| first
  | (show (_ : Int) ≠ 0; omega)
  | (refine (show CDivN _ _ from ⟨?_, ?_⟩) <;> omega)
  | (show CPow _ _; refine ⟨by omega, by omega, by omega⟩)
  | (show CMul _ _; exact Or.inl ⟨by omega, by omega⟩)
  | (show CMul _ _; exact Or.inr ⟨by omega, by omega⟩))
local macro_rules | `(tactic| walk_at "st") => `(tactic| first
  | refine ⟨_, rfl, ?_⟩
  | refine ⟨_, _, rfl, rfl, (by walk_at "sd"), ?_⟩
  | refine ⟨_, _, rfl, rfl, ?_⟩
  | refine ⟨_, _, _, _, rfl, rfl, SqL.of (by walk_at "hp"), rfl, ?_⟩
  | refine ⟨_, _, _, _, rfl, rfl, (by walk_at "hp"), rfl, ?_⟩
  | refine .inl ⟨_, rfl, ?_⟩
  | refine ⟨_, _, _, _, _, rfl, (by walk_at "hp"), (by assumption), (by assumption), rfl, ?_⟩
  | refine ⟨_, _, rfl, .inl (SqL.of (by walk_at "hp")), ?_⟩)
local macro_rules | `(tactic| walk_at "go") => `(tactic| repeat (first | walk_at "st" | (walk_at "ds"; walk_at "st")))

def top (i : Nat) : Stmt := PySem.Challenge.pw_pageclass_k01_systems_and_processes.main.body.getD i (.Pass ⟨0, 0, 0, 0⟩)
abbrev s_NoSystem_init : Stmt := inClass (top 2) 0
abbrev n_NoSystem_init : List Str := ["self", "part"]
abbrev p_NoSystem_init : List Str := ["self", "part"]
theorem sc_NoSystem_init : FnScope n_NoSystem_init p_NoSystem_init (defScope s_NoSystem_init) := ⟨rfl, rfl, rfl, by decide +kernel, rfl, by decide +kernel, by decide +kernel⟩
abbrev s_NoProcess_init : Stmt := inClass (top 3) 0
abbrev n_NoProcess_init : List Str := ["self", "process"]
abbrev p_NoProcess_init : List Str := ["self", "process"]
theorem sc_NoProcess_init : FnScope n_NoProcess_init p_NoProcess_init (defScope s_NoProcess_init) := ⟨rfl, rfl, rfl, by decide +kernel, rfl, by decide +kernel, by decide +kernel⟩
abbrev s_System_init : Stmt := inClass (top 27) 0
abbrev n_System_init : List Str := ["self", "frames", "slots", "strict"]
abbrev p_System_init : List Str := ["self", "frames", "slots", "strict"]
theorem sc_System_init : FnScope n_System_init p_System_init (defScope s_System_init) := ⟨rfl, rfl, rfl, by decide +kernel, rfl, by decide +kernel, by decide +kernel⟩
abbrev s_replace_pages : Stmt := top 17
abbrev n_replace_pages : List Str := ["system", "process", "changes", "table", "replaced", "number", "page"]
abbrev p_replace_pages : List Str := ["system", "process", "changes"]
theorem sc_replace_pages : FnScope n_replace_pages p_replace_pages (defScope s_replace_pages) := ⟨rfl, rfl, rfl, by decide +kernel, rfl, by decide +kernel, by decide +kernel⟩
abbrev s_end_step : Stmt := top 18
abbrev n_end_step : List Str := ["system"]
abbrev p_end_step : List Str := ["system"]
theorem sc_end_step : FnScope n_end_step p_end_step (defScope s_end_step) := ⟨rfl, rfl, rfl, by decide +kernel, rfl, by decide +kernel, by decide +kernel⟩
abbrev s_is_integer : Stmt := top 20
abbrev n_is_integer : List Str := ["value", "low", "high"]
abbrev p_is_integer : List Str := ["value", "low", "high"]
theorem sc_is_integer : FnScope n_is_integer p_is_integer (defScope s_is_integer) := ⟨rfl, rfl, rfl, by decide +kernel, rfl, by decide +kernel, by decide +kernel⟩
abbrev s_table_of : Stmt := top 21
abbrev n_table_of : List Str := ["system", "process"]
abbrev p_table_of : List Str := ["system", "process"]
theorem sc_table_of : FnScope n_table_of p_table_of (defScope s_table_of) := ⟨rfl, rfl, rfl, by decide +kernel, rfl, by decide +kernel, by decide +kernel⟩
abbrev s_require_charge : Stmt := top 25
abbrev n_require_charge : List Str := ["system", "process", "table", "tables", "charge"]
abbrev p_require_charge : List Str := ["system", "process", "table"]
theorem sc_require_charge : FnScope n_require_charge p_require_charge (defScope s_require_charge) := ⟨rfl, rfl, rfl, by decide +kernel, rfl, by decide +kernel, by decide +kernel⟩
abbrev s_now : Stmt := top 28
abbrev n_now : List Str := ["system"]
abbrev p_now : List Str := ["system"]
theorem sc_now : FnScope n_now p_now (defScope s_now) := ⟨rfl, rfl, rfl, by decide +kernel, rfl, by decide +kernel, by decide +kernel⟩
abbrev s_new_process : Stmt := top 29
abbrev n_new_process : List Str := ["system"]
abbrev p_new_process : List Str := ["system"]
theorem sc_new_process : FnScope n_new_process p_new_process (defScope s_new_process) := ⟨rfl, rfl, rfl, by decide +kernel, rfl, by decide +kernel, by decide +kernel⟩
abbrev s_unmap_all : Stmt := top 30
abbrev n_unmap_all : List Str := ["system", "process", "number"]
abbrev p_unmap_all : List Str := ["system", "process"]
theorem sc_unmap_all : FnScope n_unmap_all p_unmap_all (defScope s_unmap_all) := ⟨rfl, rfl, rfl, by decide +kernel, rfl, by decide +kernel, by decide +kernel⟩
abbrev s_spawn : Stmt := top 31
abbrev n_spawn : List Str := ["system", "process"]
abbrev p_spawn : List Str := ["system"]
theorem sc_spawn : FnScope n_spawn p_spawn (defScope s_spawn) := ⟨rfl, rfl, rfl, by decide +kernel, rfl, by decide +kernel, by decide +kernel⟩
abbrev s_fork : Stmt := top 33
abbrev n_fork : List Str := ["system", "process", "table", "pages", "number", "page", "child"]
abbrev p_fork : List Str := ["system", "process"]
theorem sc_fork : FnScope n_fork p_fork (defScope s_fork) := ⟨rfl, rfl, rfl, by decide +kernel, rfl, by decide +kernel, by decide +kernel⟩
abbrev s_leave : Stmt := top 34
abbrev n_leave : List Str := ["system", "process"]
abbrev p_leave : List Str := ["system", "process"]
theorem sc_leave : FnScope n_leave p_leave (defScope s_leave) := ⟨rfl, rfl, rfl, by decide +kernel, rfl, by decide +kernel, by decide +kernel⟩
abbrev s_fresh : Stmt := top 35
abbrev n_fresh : List Str := ["system", "process"]
abbrev p_fresh : List Str := ["system", "process"]
theorem sc_fresh : FnScope n_fresh p_fresh (defScope s_fresh) := ⟨rfl, rfl, rfl, by decide +kernel, rfl, by decide +kernel, by decide +kernel⟩
abbrev s_processes : Stmt := top 36
abbrev n_processes : List Str := ["system"]
abbrev p_processes : List Str := ["system"]
theorem sc_processes : FnScope n_processes p_processes (defScope s_processes) := ⟨rfl, rfl, rfl, by decide +kernel, rfl, by decide +kernel, by decide +kernel⟩
abbrev s__law_well : Stmt := top 39
abbrev n__law_well : List Str := ["cell"]
abbrev p__law_well : List Str := ["cell"]
theorem sc__law_well : FnScope n__law_well p__law_well (defScope s__law_well) := ⟨rfl, rfl, rfl, by decide +kernel, rfl, by decide +kernel, by decide +kernel⟩
abbrev s__law_draw : Stmt := top 40
abbrev n__law_draw : List Str := ["well", "many", "digit", "prime", "number"]
abbrev p__law_draw : List Str := ["well", "many"]
theorem sc__law_draw : FnScope n__law_draw p__law_draw (defScope s__law_draw) := ⟨rfl, rfl, rfl, by decide +kernel, rfl, by decide +kernel, by decide +kernel⟩
abbrev s__law_one : Stmt := top 41
abbrev n__law_one : List Str := ["well", "some"]
abbrev p__law_one : List Str := ["well", "some"]
theorem sc__law_one : FnScope n__law_one p__law_one (defScope s__law_one) := ⟨rfl, rfl, rfl, by decide +kernel, rfl, by decide +kernel, by decide +kernel⟩
abbrev s__law_said : Stmt := top 42
abbrev n__law_said : List Str := ["ask", "e"]
abbrev p__law_said : List Str := ["ask"]
theorem sc__law_said : FnScope n__law_said p__law_said (defScope s__law_said) := ⟨rfl, rfl, rfl, by decide +kernel, rfl, by decide +kernel, by decide +kernel⟩
abbrev s__law_is_number : Stmt := top 43
abbrev n__law_is_number : List Str := ["thing", "low", "high"]
abbrev p__law_is_number : List Str := ["thing", "low", "high"]
theorem sc__law_is_number : FnScope n__law_is_number p__law_is_number (defScope s__law_is_number) := ⟨rfl, rfl, rfl, by decide +kernel, rfl, by decide +kernel, by decide +kernel⟩
abbrev s__law_system_right : Stmt := top 44
abbrev n__law_system_right : List Str := ["well", "one", "two", "three", "bad", "told"]
abbrev p__law_system_right : List Str := ["well"]
theorem sc__law_system_right : FnScope n__law_system_right p__law_system_right (defScope s__law_system_right) := ⟨rfl, rfl, rfl, by decide +kernel, rfl, by decide +kernel, by decide +kernel⟩
abbrev s_law : Stmt := top 45
abbrev n_law : List Str := ["script", "cell", "well", "turn", "system", "alive", "last", "k", "way", "told", "gone", "odd"]
abbrev p_law : List Str := ["script"]
theorem sc_law : FnScope n_law p_law (defScope s_law) := ⟨rfl, rfl, rfl, by decide +kernel, rfl, by decide +kernel, by decide +kernel⟩

abbrev kw_System_init : List (Str × V) := [("frames", .non), ("slots", .non), ("strict", .bl false)]
theorem exm_is {K : PySem.W.Frag} {T S : Addr} {b : Bool} (h1 : PySem.W.subIn K (.ref S) (.type "BaseException") = some true) (h2 : PySem.W.isClsIn K S = true) (h3 : PySem.W.typeIn K (.ref S) = some (.type "type")) (h4 : PySem.W.subIn K (.ref T) (.ref S) = some b) : PySem.W.exmOne K (.ref T) (.ref S) = some b := by
  have h2' : (PySem.W.clsIn K S).isSome = true := h2
  unfold PySem.W.exmOne PySem.W.kitCls
  rw [h1]
  simp only [h2', h3, h4, beq_self_eq_true, Bool.and_self, if_true]
/-- where the top stands -/
structure Adr where
  a_replace_pages : Addr
  fd_replace_pages : FuncData
  a_end_step : Addr
  fd_end_step : FuncData
  a_is_integer : Addr
  fd_is_integer : FuncData
  a_table_of : Addr
  fd_table_of : FuncData
  a_require_charge : Addr
  fd_require_charge : FuncData
  a_now : Addr
  fd_now : FuncData
  a_new_process : Addr
  fd_new_process : FuncData
  a_unmap_all : Addr
  fd_unmap_all : FuncData
  a_spawn : Addr
  fd_spawn : FuncData
  a_fork : Addr
  fd_fork : FuncData
  a_leave : Addr
  fd_leave : FuncData
  a_fresh : Addr
  fd_fresh : FuncData
  a_processes : Addr
  fd_processes : FuncData
  a__law_well : Addr
  fd__law_well : FuncData
  a__law_draw : Addr
  fd__law_draw : FuncData
  a__law_one : Addr
  fd__law_one : FuncData
  a__law_said : Addr
  fd__law_said : FuncData
  a__law_is_number : Addr
  fd__law_is_number : FuncData
  a__law_system_right : Addr
  fd__law_system_right : FuncData
  co__law_system_right : Addr
  ta__law_system_right : Addr
  a_law : Addr
  fd_law : FuncData
  co_law : Addr
  ta_law : Addr
  c_NoSystem : Addr
  c_NoProcess : Addr
  c_PageError : Addr
  c_System : Addr
  a_NoSystem_init : Addr
  fd_NoSystem_init : FuncData
  a_NoProcess_init : Addr
  fd_NoProcess_init : FuncData
  a_System_init : Addr
  fd_System_init : FuncData
/-- what the top has written -/
structure Txt (K : PySem.W.Frag) (mg : Str → Option Value) (A : Adr) : Prop where
  f_replace_pages : Fun K "replace_pages" "replace_pages" s_replace_pages A.a_replace_pages A.fd_replace_pages
  bi_replace_pages : L2.Binds K A.fd_replace_pages p_replace_pages []
  g_replace_pages : mg "replace_pages" = some (.ref A.a_replace_pages)
  k_replace_pages : PySem.W.keepIn K (.ref A.a_replace_pages) = true
  f_end_step : Fun K "end_step" "end_step" s_end_step A.a_end_step A.fd_end_step
  bi_end_step : L2.Binds K A.fd_end_step p_end_step []
  g_end_step : mg "end_step" = some (.ref A.a_end_step)
  k_end_step : PySem.W.keepIn K (.ref A.a_end_step) = true
  f_is_integer : Fun K "is_integer" "is_integer" s_is_integer A.a_is_integer A.fd_is_integer
  bi_is_integer : L2.Binds K A.fd_is_integer p_is_integer []
  g_is_integer : mg "is_integer" = some (.ref A.a_is_integer)
  k_is_integer : PySem.W.keepIn K (.ref A.a_is_integer) = true
  f_table_of : Fun K "table_of" "table_of" s_table_of A.a_table_of A.fd_table_of
  bi_table_of : L2.Binds K A.fd_table_of p_table_of []
  g_table_of : mg "table_of" = some (.ref A.a_table_of)
  k_table_of : PySem.W.keepIn K (.ref A.a_table_of) = true
  f_require_charge : Fun K "require_charge" "require_charge" s_require_charge A.a_require_charge A.fd_require_charge
  bi_require_charge : L2.Binds K A.fd_require_charge p_require_charge []
  g_require_charge : mg "require_charge" = some (.ref A.a_require_charge)
  k_require_charge : PySem.W.keepIn K (.ref A.a_require_charge) = true
  f_now : Fun K "now" "now" s_now A.a_now A.fd_now
  bi_now : L2.Binds K A.fd_now p_now []
  g_now : mg "now" = some (.ref A.a_now)
  k_now : PySem.W.keepIn K (.ref A.a_now) = true
  f_new_process : Fun K "new_process" "new_process" s_new_process A.a_new_process A.fd_new_process
  bi_new_process : L2.Binds K A.fd_new_process p_new_process []
  g_new_process : mg "new_process" = some (.ref A.a_new_process)
  k_new_process : PySem.W.keepIn K (.ref A.a_new_process) = true
  f_unmap_all : Fun K "unmap_all" "unmap_all" s_unmap_all A.a_unmap_all A.fd_unmap_all
  bi_unmap_all : L2.Binds K A.fd_unmap_all p_unmap_all []
  g_unmap_all : mg "unmap_all" = some (.ref A.a_unmap_all)
  k_unmap_all : PySem.W.keepIn K (.ref A.a_unmap_all) = true
  f_spawn : Fun K "spawn" "spawn" s_spawn A.a_spawn A.fd_spawn
  bi_spawn : L2.Binds K A.fd_spawn p_spawn []
  g_spawn : mg "spawn" = some (.ref A.a_spawn)
  k_spawn : PySem.W.keepIn K (.ref A.a_spawn) = true
  f_fork : Fun K "fork" "fork" s_fork A.a_fork A.fd_fork
  bi_fork : L2.Binds K A.fd_fork p_fork []
  g_fork : mg "fork" = some (.ref A.a_fork)
  k_fork : PySem.W.keepIn K (.ref A.a_fork) = true
  f_leave : Fun K "leave" "leave" s_leave A.a_leave A.fd_leave
  bi_leave : L2.Binds K A.fd_leave p_leave []
  g_leave : mg "leave" = some (.ref A.a_leave)
  k_leave : PySem.W.keepIn K (.ref A.a_leave) = true
  f_fresh : Fun K "fresh" "fresh" s_fresh A.a_fresh A.fd_fresh
  bi_fresh : L2.Binds K A.fd_fresh p_fresh []
  g_fresh : mg "fresh" = some (.ref A.a_fresh)
  k_fresh : PySem.W.keepIn K (.ref A.a_fresh) = true
  f_processes : Fun K "processes" "processes" s_processes A.a_processes A.fd_processes
  bi_processes : L2.Binds K A.fd_processes p_processes []
  g_processes : mg "processes" = some (.ref A.a_processes)
  k_processes : PySem.W.keepIn K (.ref A.a_processes) = true
  f__law_well : Fun K "_law_well" "_law_well" s__law_well A.a__law_well A.fd__law_well
  bi__law_well : L2.Binds K A.fd__law_well p__law_well []
  g__law_well : mg "_law_well" = some (.ref A.a__law_well)
  k__law_well : PySem.W.keepIn K (.ref A.a__law_well) = true
  f__law_draw : Fun K "_law_draw" "_law_draw" s__law_draw A.a__law_draw A.fd__law_draw
  bi__law_draw : L2.Binds K A.fd__law_draw p__law_draw []
  g__law_draw : mg "_law_draw" = some (.ref A.a__law_draw)
  k__law_draw : PySem.W.keepIn K (.ref A.a__law_draw) = true
  f__law_one : Fun K "_law_one" "_law_one" s__law_one A.a__law_one A.fd__law_one
  bi__law_one : L2.Binds K A.fd__law_one p__law_one []
  g__law_one : mg "_law_one" = some (.ref A.a__law_one)
  k__law_one : PySem.W.keepIn K (.ref A.a__law_one) = true
  f__law_said : Fun K "_law_said" "_law_said" s__law_said A.a__law_said A.fd__law_said
  bi__law_said : L2.Binds K A.fd__law_said p__law_said []
  g__law_said : mg "_law_said" = some (.ref A.a__law_said)
  k__law_said : PySem.W.keepIn K (.ref A.a__law_said) = true
  f__law_is_number : Fun K "_law_is_number" "_law_is_number" s__law_is_number A.a__law_is_number A.fd__law_is_number
  bi__law_is_number : L2.Binds K A.fd__law_is_number p__law_is_number []
  g__law_is_number : mg "_law_is_number" = some (.ref A.a__law_is_number)
  k__law_is_number : PySem.W.keepIn K (.ref A.a__law_is_number) = true
  f__law_system_right : Fun K "_law_system_right" "_law_system_right" s__law_system_right A.a__law_system_right A.fd__law_system_right
  bi__law_system_right : L2.Binds K A.fd__law_system_right p__law_system_right []
  fl__law_system_right : FunC K "_law_system_right" "_law_system_right" s__law_system_right A.a__law_system_right A.fd__law_system_right A.co__law_system_right
  g__law_system_right : mg "_law_system_right" = some (.ref A.a__law_system_right)
  k__law_system_right : PySem.W.keepIn K (.ref A.a__law_system_right) = true
  f_law : Fun K "law" "law" s_law A.a_law A.fd_law
  bi_law : L2.Binds K A.fd_law p_law []
  fl_law : FunC K "law" "law" s_law A.a_law A.fd_law A.co_law
  g_law : mg "law" = some (.ref A.a_law)
  k_law : PySem.W.keepIn K (.ref A.a_law) = true
  g_NoSystem : mg "NoSystem" = some (.ref A.c_NoSystem)
  g_NoProcess : mg "NoProcess" = some (.ref A.c_NoProcess)
  g_PageError : mg "PageError" = some (.ref A.c_PageError)
  g_System : mg "System" = some (.ref A.c_System)
  f_NoSystem_init : Fun K "__init__" "NoSystem.__init__" s_NoSystem_init A.a_NoSystem_init A.fd_NoSystem_init
  bi_NoSystem_init : L2.Binds K A.fd_NoSystem_init p_NoSystem_init []
  f_NoProcess_init : Fun K "__init__" "NoProcess.__init__" s_NoProcess_init A.a_NoProcess_init A.fd_NoProcess_init
  bi_NoProcess_init : L2.Binds K A.fd_NoProcess_init p_NoProcess_init []
  f_System_init : FunD K "__init__" "System.__init__" (defArgs s_System_init) (defBody s_System_init) (defScope s_System_init) [] kw_System_init A.a_System_init A.fd_System_init
  x_NoSystem : OexC K A.c_NoSystem
  xf_NoSystem : XfC K A.c_NoSystem
  xn_NoSystem : PySem.W.findIn K (.ref A.c_NoSystem) "part" = some none
  xi_NoSystem : PySem.W.findIn K (.ref A.c_NoSystem) "__init__" = some (some (.ref A.a_NoSystem_init))
  xt_NoSystem : PySem.W.typeIn K (.ref A.a_NoSystem_init) = some (.type "function")
  x_NoProcess : OexC K A.c_NoProcess
  xf_NoProcess : XfC K A.c_NoProcess
  xn_NoProcess : PySem.W.findIn K (.ref A.c_NoProcess) "process" = some none
  xi_NoProcess : PySem.W.findIn K (.ref A.c_NoProcess) "__init__" = some (some (.ref A.a_NoProcess_init))
  xt_NoProcess : PySem.W.typeIn K (.ref A.a_NoProcess_init) = some (.type "function")
  x_PageError : OexC K A.c_PageError
  xf_PageError : XfC K A.c_PageError
  e_NoSystem_NoSystem : PySem.W.exmOne K (.ref A.c_NoSystem) (.ref A.c_NoSystem) = some true
  e_NoProcess_NoSystem : PySem.W.exmOne K (.ref A.c_NoProcess) (.ref A.c_NoSystem) = some false
  e_NoProcess_NoProcess : PySem.W.exmOne K (.ref A.c_NoProcess) (.ref A.c_NoProcess) = some true
  cl_System : Cls K A.c_System
  mk_System : Mk K A.c_System A.a_System_init
  n_System_frames : NoAttr K A.c_System "frames"
  n_System_slots : NoAttr K A.c_System "slots"
  n_System_strict : NoAttr K A.c_System "strict"
  n_System_steps_made : NoAttr K A.c_System "steps_made"
  n_System_processes_made : NoAttr K A.c_System "processes_made"
  n_System_objects_made : NoAttr K A.c_System "objects_made"
  n_System_tables : NoAttr K A.c_System "tables"
  n_System_objects : NoAttr K A.c_System "objects"
  n_System_object_pages : NoAttr K A.c_System "object_pages"
  n_System_files : NoAttr K A.c_System "files"
  n_System_classes : NoAttr K A.c_System "classes"
  n_System_touches : NoAttr K A.c_System "touches"
  b_int : mg "int" = none
  b_len : mg "len" = none
  b_isinstance : mg "isinstance" = none
  b_bool : mg "bool" = none
  b_sorted : mg "sorted" = none
  b_range : mg "range" = none

theorem iteD {p : Prop} [Decidable p] {A B : Prop} (h1 : p → A) (h2 : ¬ p → B) : if decide p = true then A else B := by
  by_cases h : p
  · rw [decide_eq_true h, if_pos rfl]
    exact h1 h
  · rw [decide_eq_false h, if_neg Bool.false_ne_true]
    exact h2 h
theorem upd_none {H : Hp} {a p : Addr} {o : HO} (h : upd H a o p = none) : p ≠ a ∧ H p = none := by
  by_cases e : p = a
  · subst e; rw [upd_same] at h; cases h
  · rw [upd_ne e] at h; exact ⟨e, h⟩
/-- all but what is at a stays -/
def But (a : Addr) (H H' : Hp) : Prop := ∀ b o, b ≠ a → H b = some o → H' b = some o
theorem Same.new {H : Hp} {p : Addr} {o : HO} (h : H p = none) : Same H (upd H p o) := fun b u e => by rw [upd_ne (ne_of_none e h)]; exact e
theorem But.of {a : Addr} {H H' : Hp} (h : Same H H') : But a H H' := fun b o _ e => h b o e
theorem But.up {a : Addr} {H : Hp} {o : HO} : But a H (upd H a o) := fun b u n e => by rw [upd_ne n]; exact e
theorem But.trans {a : Addr} {H H1 H2 : Hp} (x : But a H H1) (y : But a H1 H2) : But a H H2 := fun b o n e => y b o n (x b o n e)
/-! ### the draws -/
def WellAt (H : Hp) (a : Addr) (B : Nat) : Prop := ∃ w0 w1 w2 : Int, H a = some (.lst [.int w0, .int w1, .int w2]) ∧ 0 ≤ w0 ∧ 0 ≤ w1 ∧ w1 < 2147483647 ∧ 0 ≤ w2 ∧ w2 ≤ B ∧ B ≤ 1000000000
theorem WellAt.same {H H' : Hp} {a : Addr} {B : Nat} (h : WellAt H a B) (e : H' a = H a) : WellAt H' a B := by
  obtain ⟨w0, w1, w2, h1, h2⟩ := h
  exact ⟨w0, w1, w2, e.trans h1, h2⟩
theorem at7 {i : Int} (h0 : 0 ≤ i) (h1 : i < 7) : ∃ v : Int, atI [V.int 2147483647, V.int 2147483629, V.int 2147483587, V.int 2147483579, V.int 2147483563, V.int 2147483549, V.int 2147483543] i = some (V.int v) ∧ 2147483543 ≤ v ∧ v ≤ 2147483647 := by
  have h : i = 0 ∨ i = 1 ∨ i = 2 ∨ i = 3 ∨ i = 4 ∨ i = 5 ∨ i = 6 := by omega
  rcases h with h | h | h | h | h | h | h <;> subst h <;> exact ⟨_, rfl, by decide, by decide⟩
theorem fm {x m : Int} (h : 0 < m) : 0 ≤ x.fmod m ∧ x.fmod m < m := ⟨Int.fmod_nonneg_of_pos x h, Int.fmod_lt_of_pos x h⟩
theorem fdv {x m : Int} (h : 0 < m) (hx : 0 ≤ x) : 0 ≤ x.fdiv m ∧ x.fdiv m ≤ x := by
  rw [Int.fdiv_eq_ediv_of_nonneg _ (by omega)]
  exact ⟨Int.ediv_nonneg hx (by omega), Int.ediv_le_self _ hx⟩
def spDraw : Sp := fun vs H Q _ => ∃ (a : Addr) (m : Int) (B : Nat), vs = [.ref a, .int m] ∧ 0 < m ∧ m < 1000000 ∧ WellAt H a B ∧ B < 1000000000 ∧
  ∀ (d : Int) (H' : Hp), 0 ≤ d → d < m → But a H H' → WellAt H' a (B + 1) → Q (.int d) H'
section
variable {P : Program} {w : World} {K : PySem.W.Frag} {mg : Str → Option Value} {base : Heap} {A : Adr}
theorem ok__law_draw (G : Txt K mg A) : FnOk P w K mg base CX0 1 A.a__law_draw A.fd__law_draw p__law_draw spDraw := by
  refine G.f__law_draw.ok sc__law_draw (fun vs H Q E h => ?_) (fun cdv A' outer s H vs Q E hr h => ?_)
  · obtain ⟨a, m, B, rfl, _⟩ := h
    rfl
  · obtain ⟨a, m, B, rfl, hm0, hm1, ⟨w0, w1, w2, hw, h0, h1, h1', h2, h2', hB⟩, hB', k⟩ := h
    refine ⟨_, (pss_cons (ps_if (pt_cmpR op_gt (pe_ix ix_list (pv 0) pe_int (fun _ _ => rfl)) pe_int (nomark _)) (pss_cons (ps_set (i := 2) sc__law_draw.nd rfl (Or.inl rfl) (pe_op op_modN (pe_callTy call_int1 (by rfl) G.b_int (by decide +kernel) (pa_cons (pe_ix ix_list (pv 0) pe_int (fun _ _ => rfl)) pa_nil)) (pv 1)))
  (pss_cons (ps_asg (pe_op op_fdivN (pe_ix ix_list (pv 0) pe_int (fun _ _ => rfl)) (pv 1)) (pg_sub (pv 0) pe_int set_list))
  (pss_one (ps_ret (pv 2))))) pss_nil)
  (pss_cons (ps_asg (pe_op op_add (pe_ix ix_list (pv 0) pe_int (fun _ _ => rfl)) pe_int) (pg_sub (pv 0) pe_int set_list))
  (pss_cons (ps_set (i := 3) sc__law_draw.nd rfl (Or.inl rfl) (pe_ix ix_list (pe_lst (pa_cons pe_int (pa_cons pe_int (pa_cons pe_int (pa_cons pe_int (pa_cons pe_int (pa_cons pe_int (pa_cons pe_int pa_nil)))))))) (pe_op op_modN (pe_callTy call_int1 (by rfl) G.b_int (by decide +kernel) (pa_cons (pe_ix ix_list (pv 0) pe_int (fun _ _ => rfl)) pa_nil)) pe_int) (fun _ _ => rfl)))
  (pss_cons (ps_set (i := 4) sc__law_draw.nd rfl (Or.inl rfl) (pe_op op_modN (pe_callTy call_int1 (by rfl) G.b_int (by decide +kernel) (pa_cons (pe_op op_pow (pe_op op_add (pe_op op_add (pe_ix ix_list (pv 0) pe_int (fun _ _ => rfl)) (pe_op op_mul pe_int (pe_ix ix_list (pv 0) pe_int (fun _ _ => rfl)))) pe_int) pe_int) pa_nil)) (pv 3)))
  (pss_cons (ps_set (i := 4) sc__law_draw.nd rfl (Or.inl rfl) (pe_op op_modN (pe_callTy call_int1 (by rfl) G.b_int (by decide +kernel) (pa_cons (pe_op op_mul (pe_op op_add (pv 4) (pe_ix ix_list (pv 0) pe_int (fun _ _ => rfl))) (pe_op op_add (pe_op op_fdivN (pv 4) pe_int) pe_int)) pa_nil)) (pv 3)))
  (pss_one (ps_ret (pe_op op_modN (pe_callTy call_int1 (by rfl) G.b_int (by decide +kernel) (pa_cons (pe_op op_fdivN (pv 4) pe_int) pa_nil)) (pv 1))))))))), ?_⟩
    walk_at "go"
    refine iteD (fun c => ?_) (fun c => ?_)
    · walk_at "go"
      have e1 := fm (x := w0) hm0
      have e2 := fdv hm0 h0
      refine k _ _ e1.1 e1.2 (fun b o hb ho => by rw [upd_ne hb]; exact ho) ⟨_, _, _, upd_same, e2.1, h1, h1', h2, by omega, by omega⟩
    · walk_at "go"
      walk_at "ds"
      refine ⟨by decide, fun p hp => ?_⟩
      obtain ⟨npa, hp0⟩ := upd_none hp
      walk_at "go"
      try walk_at "ds"
      have e7 := fm (x := w2 + 1) (m := 7) (by decide)
      obtain ⟨v, hv, hv1, hv2⟩ := at7 e7.1 e7.2
      refine ⟨_, _, _, _, rfl, rfl, SqL.of upd_same, hv, ?_⟩
      walk_at "go"
      have e1 := fm (x := (w1 + 7919 * (w2 + 1) + 1) ^ Int.toNat 5) (m := v) (by omega)
      generalize ((w1 + 7919 * (w2 + 1) + 1) ^ Int.toNat 5).fmod v = n1 at *
      refine ⟨Or.inl ⟨by omega, by omega⟩, ?_⟩
      walk_at "go"
      refine k _ _ (fm hm0).1 (fm hm0).2 (fun b o hb ho => ?_) ⟨_, _, _, Eq.trans (upd_ne (Ne.symm npa)) upd_same, h0, h1, h1', by omega, by omega, by omega⟩
      rw [upd_ne (ne_of_none ho hp0), upd_ne hb]
      exact ho
/-- one of some things: a list that is made just ahead -/
def spOne (K : PySem.W.Frag) : Sp := fun vs H Q _ => ∃ (a l : Addr) (xs : List V) (B : Nat), vs = [.ref a, .ref l] ∧ H l = some (.lst xs) ∧ l ≠ a ∧ 0 < xs.length ∧ xs.length < 1000 ∧ WellAt H a B ∧ B < 1000000000 ∧
  ∀ (v : V) (H' : Hp), v ∈ xs → But a H H' → WellAt H' a (B + 1) → Q v H'
theorem atI_in {xs : List V} {d : Int} (h0 : 0 ≤ d) (h1 : d < xs.length) : ∃ v, atI xs d = some v ∧ v ∈ xs := by
  refine ⟨xs[d.toNat]'(by omega), ?_, List.getElem_mem _⟩
  unfold atI ixN
  rw [if_pos h0, if_pos (by omega)]
  simp
theorem ok__law_one (G : Txt K mg A) : FnOk P w K mg base CX0 2 A.a__law_one A.fd__law_one p__law_one (spOne K) := by
  refine G.f__law_one.ok sc__law_one (fun vs H Q E h => ?_) (fun cdv A' outer s H vs Q E hr h => ?_)
  · obtain ⟨a, l, xs, B, rfl, _⟩ := h
    rfl
  · obtain ⟨a, l, xs, B, rfl, hl, hne, hx0, hx1, hw, hB, k⟩ := h
    refine ⟨_, (pss_one (ps_ret (pe_ix ix_list (pv 1) (pe_call (ok__law_draw G) (hr.mono (by decide)) rfl G.g__law_draw G.k__law_draw G.bi__law_draw .nil pass0 (pa_cons (pv 0) (pa_cons (pe_callB call_len_seq (by rfl) G.b_len (by decide +kernel) (pa_cons (pv 1) pa_nil)) pa_nil))) (fun _ _ => rfl)))), ?_⟩
    walk_at "go"
    refine ⟨a, xs.length, B, rfl, by omega, by omega, hw, hB, fun d H' d0 d1 kp hw' => ?_⟩
    obtain ⟨v, hv, hm⟩ := atI_in d0 d1
    exact ⟨_, _, _, _, rfl, rfl, SqL.of (kp _ _ hne hl), hv, k v H' hm kp hw'⟩
/-! ### what a value may be that a law draws -/
inductive AnyV (H : Hp) : V → Prop where
  | non : AnyV H .non
  | bl (b : Bool) : AnyV H (.bl b)
  | int (i : Int) : AnyV H (.int i)
  | str (x : Str) : AnyV H (.str x)
  | lst {a : Addr} {xs : List V} (e : H a = some (.lst xs)) : AnyV H (.ref a)
  | tup {a : Addr} {xs : List V} (e : H a = some (.tup xs)) : AnyV H (.ref a)
  | dK {a : Addr} {kvs : List (Key × V)} (e : H a = some (.dK kvs)) : AnyV H (.ref a)
def isI : V → Bool
  | .int _ => true
  | .bl _ => true
  | _ => false
def isB : V → Bool
  | .bl _ => true
  | _ => false
theorem AnyV.ty {H : Hp} {v : V} (h : AnyV H v) : ∃ t : String, TyX K H v (.type t) ∧ PySem.W.kitOne K (.type t) (.type "int") = some (isI v) ∧ PySem.W.kitOne K (.type t) (.type "bool") = some (isB v) := by
  cases h with
  | non => exact ⟨_, .base .non, kit_ty (r := false) (by decide +kernel), kit_ty (r := false) (by decide +kernel)⟩
  | bl b => exact ⟨_, .base (.bl b), kit_ty (r := true) (by decide +kernel), kit_ty (r := true) (by decide +kernel)⟩
  | int i => exact ⟨_, .base (.int i), kit_ty (r := true) (by decide +kernel), kit_ty (r := false) (by decide +kernel)⟩
  | str x => exact ⟨_, .base (.str x), kit_ty (r := false) (by decide +kernel), kit_ty (r := false) (by decide +kernel)⟩
  | lst e => exact ⟨_, .base (.lst e), kit_ty (r := false) (by decide +kernel), kit_ty (r := false) (by decide +kernel)⟩
  | tup e => exact ⟨_, .base (.tup e), kit_ty (r := false) (by decide +kernel), kit_ty (r := false) (by decide +kernel)⟩
  | dK e => exact ⟨_, .base (.dK e), kit_ty (r := false) (by decide +kernel), kit_ty (r := false) (by decide +kernel)⟩
theorem AnyV.same {H H' : Hp} {v : V} (h : AnyV H v) (e : Same H H') : AnyV H' v := by
  cases h with
  | non => exact .non
  | bl b => exact .bl b
  | int i => exact .int i
  | str x => exact .str x
  | lst z => exact .lst (e _ _ z)
  | tup z => exact .tup (e _ _ z)
  | dK z => exact .dK (e _ _ z)
theorem AnyV.selfEq {H : Hp} {v : V} (h : AnyV H v) : L2.selfEq v = true := by cases h <;> rfl
/-- whether a value is an integer from lo to hi -/
def inR (lo hi : Int) : V → Bool
  | .int i => decide (lo ≤ i ∧ i ≤ hi)
  | _ => false
def spIn : Sp := fun vs H Q _ => ∃ (v : V) (lo hi : Int), vs = [v, .int lo, .int hi] ∧ AnyV H v ∧ Q (.bl (inR lo hi v)) H
theorem ok_is_integer (G : Txt K mg A) : FnOk P w K mg base CX0 1 A.a_is_integer A.fd_is_integer p_is_integer spIn := by
  refine G.f_is_integer.ok sc_is_integer (fun vs H Q E h => ?_) (fun cdv A' outer s H vs Q E hr h => ?_)
  · obtain ⟨v, lo, hi, rfl, _⟩ := h
    rfl
  · obtain ⟨v, lo, hi, rfl, hv, k⟩ := h
    refine ⟨_, (pss_one (ps_ret (pe_and (pe_callB call_isi (by rfl) G.b_isinstance (by decide +kernel) (pa_cons (pv 0) (pa_cons (pe_bltn (v := .ty "int") (u := .type "int") (by rfl) G.b_int (by decide +kernel) rfl) pa_nil))) (pe_and (pe_not (pe_callB call_isi (by rfl) G.b_isinstance (by decide +kernel) (pa_cons (pv 0) (pa_cons (pe_bltn (v := .ty "bool") (u := .type "bool") (by rfl) G.b_bool (by decide +kernel) rfl) pa_nil)))) (pe_one (pe_chain op_le op_le (pv 1) (pv 0) (pv 2))))))), ?_⟩
    obtain ⟨t, h1, h2, h3⟩ := hv.ty (K := K)
    walk_at "go"
    walk_at "ds"
    refine ⟨v, .ty "int", .type t, .type "int", _, rfl, .ty "int", h1, h2, _, rfl, ?_⟩
    cases e : isI v with
    | false =>
      refine iteF ?_
      have q : inR lo hi v = false := by cases v <;> first | rfl | cases e
      rw [q] at k
      exact k
    | true =>
      refine iteT ⟨_, rfl, v, .ty "bool", .type t, .type "bool", _, rfl, .ty "bool", h1, h3, _, rfl, _, rfl, ?_⟩
      cases e2 : isB v with
      | true =>
        refine iteF ?_
        have q : inR lo hi v = false := by cases v <;> first | rfl | cases e2
        rw [q] at k
        exact k
      | false =>
        refine iteT ?_
        obtain ⟨i, rfl⟩ : ∃ i, v = V.int i := by cases v <;> first | exact ⟨_, rfl⟩ | (cases e; done) | (cases e2; done)
        refine ⟨_, rfl, _, rfl, _, _, rfl, rfl, _, rfl, ?_⟩
        refine iteD (fun c => ?_) (fun c => ?_)
        · refine ⟨_, rfl, _, _, rfl, rfl, ?_⟩
          have q : inR lo hi (V.int i) = decide (i ≤ hi) := by
            show decide (lo ≤ i ∧ i ≤ hi) = _
            simp [c]
          rw [q] at k
          exact k
        · have q : inR lo hi (V.int i) = false := by
            show decide (lo ≤ i ∧ i ≤ hi) = _
            simp [c]
          rw [q] at k
          exact k
/-! ### the errors' __init__: one field -/
def spXi (K : PySem.W.Frag) (f : Str) : Sp := fun vs H Q _ => ∃ (a C : Addr) (y : V), vs = [.ref a, y] ∧ OexC K C ∧ PySem.W.findIn K (.ref C) f = some none ∧ H a = some (exo a C none) ∧
  ∀ dx, H dx = none → dx ≠ a → Q .non (upd (upd H dx (exd dx [(f, y)])) a (exo a C (some dx)))
theorem ok_NoSystem_init (G : Txt K mg A) : FnOk P w K mg base CX0 1 A.a_NoSystem_init A.fd_NoSystem_init p_NoSystem_init (spXi K "part") := by
  refine G.f_NoSystem_init.ok sc_NoSystem_init (fun vs H Q E h => ?_) (fun cdv A' outer s H vs Q E hr h => ?_)
  · obtain ⟨a, C, y, rfl, _⟩ := h
    rfl
  · obtain ⟨a, C, y, rfl, hC, hn, ha, k⟩ := h
    exact ⟨_, pss_one (ps_ost (pv 0) (pv 1)), _, rfl, _, rfl, a, C, rfl, hC, hn, .inl ⟨ha, k⟩⟩
theorem ok_NoProcess_init (G : Txt K mg A) : FnOk P w K mg base CX0 1 A.a_NoProcess_init A.fd_NoProcess_init p_NoProcess_init (spXi K "process") := by
  refine G.f_NoProcess_init.ok sc_NoProcess_init (fun vs H Q E h => ?_) (fun cdv A' outer s H vs Q E hr h => ?_)
  · obtain ⟨a, C, y, rfl, _⟩ := h
    rfl
  · obtain ⟨a, C, y, rfl, hC, hn, ha, k⟩ := h
    exact ⟨_, pss_one (ps_ost (pv 0) (pv 1)), _, rfl, _, rfl, a, C, rfl, hC, hn, .inl ⟨ha, k⟩⟩
/-- what a raise of such an error needs of its promise -/
theorem xi_done {f : Str} {y : V} {a C : Addr} {H : Hp} {E : XK} (hC : OexC K C) (hn : PySem.W.findIn K (.ref C) f = some none) (ha : H a = none)
    (k : ∀ d H', Same H H' → H d = none → H' d = some (.xd [(f, y)]) → E (.ref C) (some d) H') :
    spXi K f [.ref a, y] (upd H a (exo a C none)) (fun v H2 => v = .non ∧ ∃ (d : Addr) (fs : List (Str × V)), H2 a = some (exo a C (some d)) ∧ H2 d = some (exd d fs) ∧ H d = none ∧ E (.ref C) (some d) (upd (del H2 a) d (.xd fs))) (fun _ _ _ => False) := by
  refine ⟨a, C, y, rfl, hC, hn, upd_same, fun dx hx ne => ⟨rfl, dx, [(f, y)], upd_same, ?_, (upd_none hx).2, ?_⟩⟩
  · rw [upd_ne ne, upd_same]
  · refine k dx _ (fun b o e => ?_) (upd_none hx).2 upd_same
    rw [upd_ne (ne_of_none e (upd_none hx).2), del_ne (ne_of_none e ha), upd_ne (ne_of_none e ha), upd_ne (ne_of_none e (upd_none hx).2), upd_ne (ne_of_none e ha)]
    exact e
end
end My

set_option Elab.async false
set_option linter.all false
set_option maxRecDepth 100000
set_option maxHeartbeats 4000000
namespace My
open PySem L2
local macro_rules | `(tactic| walk_at "ds") => `(tactic| dsimp only [tSeq, tIfS, tTest, tB, tAnd, tOr, tNot, tAndV, tOrV, tNotV, tIf, tIsN, tNotN, tOp, tUn, tChain, rI, rI0, rU, tC, tCB, tCons, tNil, tAsg, gName, gSub, tRet, tRetN, tNext, tDrop, tLst, tTup, rIxL, rIxT, rSetL, tVar, tFld, tCall, tDGet, tDIn, tDNotIn, tNever, L2.start, List.map, List.replicate, List.length, List.append, List.cons_append, List.nil_append, List.set, Nat.sub])
local macro_rules | `(tactic| walk_at "hp") => `(tactic| first | assumption | exact upd_same | (refine Eq.trans (upd_ne (by first | assumption | (apply Ne.symm; assumption))) ?_; walk_at "hp"))
local macro_rules | `(tactic| walk_at "sd") => `(tactic| first
  | (show (_ : Int) ≠ 0; omega)
  | (refine (show CDivN _ _ from ⟨?_, ?_⟩) <;> omega)
  | (show CPow _ _; refine ⟨by omega, by omega, by omega⟩)
  | (show CMul _ _; exact Or.inl ⟨by omega, by omega⟩)
  | (show CMul _ _; exact Or.inr ⟨by omega, by omega⟩))
local macro_rules | `(tactic| walk_at "st") => `(tactic| first
  | refine ⟨_, rfl, ?_⟩
  | refine ⟨_, _, rfl, rfl, (by walk_at "sd"), ?_⟩
  | refine ⟨_, _, rfl, rfl, ?_⟩
  | refine ⟨_, _, _, _, rfl, rfl, SqL.of (by walk_at "hp"), rfl, ?_⟩
  | refine ⟨_, _, _, _, rfl, rfl, (by walk_at "hp"), rfl, ?_⟩
  | refine .inl ⟨_, rfl, ?_⟩
  | refine ⟨_, _, _, _, _, rfl, (by walk_at "hp"), (by assumption), (by assumption), rfl, ?_⟩
  | refine ⟨_, _, rfl, .inl (SqL.of (by walk_at "hp")), ?_⟩)
local macro_rules | `(tactic| walk_at "go") => `(tactic| repeat (first | walk_at "st" | (walk_at "ds"; walk_at "st")))

/-! ### a system whose processes have no pages -/
/-- the fields of a system -/
def sysF (fr sl st : V) (n p o : Int) (t a b c d e : Addr) : List (Str × V) :=
  [("frames", fr), ("slots", sl), ("strict", st), ("steps_made", .int n), ("processes_made", .int p), ("objects_made", .int o), ("tables", .ref t), ("objects", .ref a), ("object_pages", .ref b), ("files", .ref c), ("classes", .ref d), ("touches", .ref e)]
def SysAt (C : Addr) (fr sl st : V) (H : Hp) (x t : Addr) (n p : Int) (al : List (Int × Addr)) : Prop :=
  (∃ dx a b c d e, H x = some (.ins C dx (sysF fr sl st n p 0 t a b c d e))) ∧ H t = some (.dK (al.map fun q => (Sum.inl q.1, V.ref q.2))) ∧
    (∀ q ∈ al, H q.2 = some (.dK [])) ∧ al.Pairwise (fun q r => q.1 < r.1) ∧ (∀ q ∈ al, 1 ≤ q.1 ∧ q.1 ≤ p) ∧ 0 ≤ p ∧ al.length ≤ 12
theorem SysAt.same {C : Addr} {fr sl st : V} {H H' : Hp} {x t : Addr} {n p : Int} {al : List (Int × Addr)} (h : SysAt C fr sl st H x t n p al) (e : Same H H') : SysAt C fr sl st H' x t n p al := by
  obtain ⟨⟨dx, a, b, c, d, f, h1⟩, h2, h3, h4⟩ := h
  exact ⟨⟨dx, a, b, c, d, f, e _ _ h1⟩, e _ _ h2, fun q hq => e _ _ (h3 q hq), h4⟩
section
variable {P : Program} {w : World} {K : PySem.W.Frag} {mg : Str → Option Value} {base : Heap} {A : Adr}
theorem Txt.sysN (G : Txt K mg A) : Cls K A.c_System ∧ NoAttr K A.c_System "frames" ∧ NoAttr K A.c_System "slots" ∧ NoAttr K A.c_System "strict" ∧ NoAttr K A.c_System "steps_made" ∧ NoAttr K A.c_System "processes_made" ∧ NoAttr K A.c_System "objects_made" ∧ NoAttr K A.c_System "tables" ∧ NoAttr K A.c_System "objects" ∧ NoAttr K A.c_System "object_pages" ∧ NoAttr K A.c_System "files" ∧ NoAttr K A.c_System "classes" ∧ NoAttr K A.c_System "touches" :=
  ⟨G.cl_System, G.n_System_frames, G.n_System_slots, G.n_System_strict, G.n_System_steps_made, G.n_System_processes_made, G.n_System_objects_made, G.n_System_tables, G.n_System_objects, G.n_System_object_pages, G.n_System_files, G.n_System_classes, G.n_System_touches⟩
def spNow (A : Adr) : Sp := fun vs H Q _ => ∃ (fr sl st : V) (x t : Addr) (n p : Int) (al : List (Int × Addr)), vs = [.ref x] ∧ SysAt A.c_System fr sl st H x t n p al ∧ Q (.int n) H
theorem ok_now (G : Txt K mg A) : FnOk P w K mg base CX0 1 A.a_now A.fd_now p_now (spNow A) := by
  refine G.f_now.ok sc_now (fun vs H Q E h => ?_) (fun cdv A' outer s H vs Q E hr h => ?_)
  · obtain ⟨fr, sl, st, x, t, n, p, al, rfl, _⟩ := h
    rfl
  · obtain ⟨fr, sl, st, x, t, n, p, al, rfl, ⟨⟨dx, a, b, c, d, e, h1⟩, _⟩, k⟩ := h
    refine ⟨_, (pss_one (ps_ret (pe_fld (pv 0) rfl))), ?_⟩
    exact ⟨_, rfl, x, _, dx, _, _, rfl, h1, G.cl_System, G.n_System_steps_made, rfl, k⟩
/-- a step is counted: x and nothing else changes -/
def spEnd (A : Adr) : Sp := fun vs H Q _ => ∃ (fr sl st : V) (x t : Addr) (n p : Int) (al : List (Int × Addr)), vs = [.ref x] ∧ SysAt A.c_System fr sl st H x t n p al ∧
  ∀ H', But x H H' → SysAt A.c_System fr sl st H' x t (n + 1) p al → Q .non H'
theorem SysAt.put {C : Addr} {fr sl st : V} {H : Hp} {x t : Addr} {n p n' p' : Int} {al : List (Int × Addr)} {dx a b c d e : Addr} (h : SysAt C fr sl st H x t n p al) (hp : p ≤ p') :
    SysAt C fr sl st (upd H x (.ins C dx (sysF fr sl st n' p' 0 t a b c d e))) x t n' p' al := by
  obtain ⟨⟨dx, a, b, c, d, f, h1⟩, h2, h3, h4, h5, h6, h7⟩ := h
  have nt : t ≠ x := ne_of h2 h1 (by intro z; cases z)
  refine ⟨⟨_, _, _, _, _, _, upd_same⟩, by rw [upd_ne nt]; exact h2, fun q hq => ?_, h4, fun q hq => ⟨(h5 q hq).1, Int.le_trans (h5 q hq).2 hp⟩, by omega, h7⟩
  have nq : q.2 ≠ x := ne_of (h3 q hq) h1 (by intro z; cases z)
  rw [upd_ne nq]
  exact h3 q hq
theorem ok_end_step (G : Txt K mg A) : FnOk P w K mg base CX0 1 A.a_end_step A.fd_end_step p_end_step (spEnd A) := by
  refine G.f_end_step.ok sc_end_step (fun vs H Q E h => ?_) (fun cdv A' outer s H vs Q E hr h => ?_)
  · obtain ⟨fr, sl, st, x, t, n, p, al, rfl, _⟩ := h
    rfl
  · obtain ⟨fr, sl, st, x, t, n, p, al, rfl, hS, k⟩ := h
    obtain ⟨⟨dx, a, b, c, d, e, h1⟩, _⟩ := id hS
    refine ⟨_, (pss_one (ps_fldaug (pv 0) pe_int in_add)), ?_⟩
    exact ⟨_, rfl, x, _, dx, _, _, rfl, h1, G.cl_System, G.n_System_steps_made, rfl, n, 1, rfl, rfl, dx, _, h1, (by show 12 < 1000; decide), k _ But.up (SysAt.put hS (Int.le_refl _))⟩
/-! table_of -/
theorem al_get {al : List (Int × Addr)} (h : al.Pairwise (fun q r => q.1 < r.1)) {i : Int} {d : Addr} (hm : (i, d) ∈ al) : valV (al.map fun q => ((Sum.inl q.1 : Key), V.ref q.2)) (Sum.inl i) = some (.ref d) := by
  induction al with
  | nil => cases hm
  | cons q r ih =>
    unfold valV at ih ⊢
    rw [List.map_cons, List.find?_cons]
    obtain ⟨h1, h2⟩ := List.pairwise_cons.mp h
    rcases List.mem_cons.mp hm with e | hm
    · subst e
      simp
    · have ne : ¬ ((Sum.inl q.1 : Key) = Sum.inl i) := fun z => by
        have := h1 _ hm
        have z' := Sum.inl.inj z
        simp only at this
        omega
      simp only [ne, decide_false]
      exact ih h2 hm
theorem al_none {al : List (Int × Addr)} {i : Int} (hm : ∀ d, (i, d) ∉ al) : valV (al.map fun q => ((Sum.inl q.1 : Key), V.ref q.2)) (Sum.inl i) = none := by
  unfold valV
  rw [List.find?_eq_none.mpr]
  · rfl
  · intro q hq
    obtain ⟨z, hz, rfl⟩ := List.mem_map.mp hq
    simp only [decide_eq_true_eq]
    intro e
    exact hm z.2 (by rw [← Sum.inl.inj e]; exact hz)
def spTable (A : Adr) : Sp := fun vs H Q E => ∃ (fr sl st : V) (x t : Addr) (n p : Int) (al : List (Int × Addr)) (v : V), vs = [.ref x, v] ∧ SysAt A.c_System fr sl st H x t n p al ∧ AnyV H v ∧
  (∀ i d, v = .int i → (i, d) ∈ al → Q (.ref d) H) ∧ ((∀ i d, v = .int i → (i, d) ∉ al) → ∀ d H', Same H H' → H d = none → H' d = some (.xd [("process", v)]) → E (.ref A.c_NoProcess) (some d) H')
theorem ok_table_of (G : Txt K mg A) : FnOk P w K mg base (L2.CX P w) 3 A.a_table_of A.fd_table_of p_table_of (spTable A) := by
  refine G.f_table_of.okX sc_table_of (fun vs H Q E h => ?_) (fun cdv A' outer s H vs Q E hr h => ?_)
  · obtain ⟨fr, sl, st, x, t, n, p, al, v, rfl, _⟩ := h
    rfl
  · obtain ⟨fr, sl, st, x, t, n, p, al, v, rfl, hS, hv, k1, k2⟩ := h
    obtain ⟨⟨dx, a, b, c, d, e, h1⟩, h2, h3, h4, h5, h6, h7⟩ := id hS
    refine ⟨_, (pss_cons (ps_if (PW.pt (pw_or (pt_not (pt_val (pe_call (ok_is_integer G) (hr.mono (by decide)) rfl G.g_is_integer G.k_is_integer G.bi_is_integer .nil pass0 (pa_cons (pv 1) (pa_cons pe_int (pa_cons (pe_fld (pv 0) rfl) pa_nil)))))) (pw_or1 (pt_cmp (pc_dnotin (hu_of hr) (pv 1) (pe_fld (pv 0) rfl)))))) (pss_one (ps_raise rfl (takes_of rfl rfl rfl rfl) (pmk_oex G.x_NoProcess G.xi_NoProcess G.xt_NoProcess (ok_NoProcess_init G) (hr.mono (by decide)) G.bi_NoProcess_init .nil pass0 rfl G.g_NoProcess (pa_cons (pv 1) pa_nil)))) pss_nil)
  (pss_one (ps_ret (pe_dget (hu_of hr) (pe_fld (pv 0) rfl) (pv 1) (fun _ _ => rfl))))), ?_⟩
    obtain ⟨cl, a1, a2, a3, a4, a5, a6, a7, a8, a9, a10, a11, a12⟩ := G.sysN
    have fin : (∀ i d, v = .int i → (i, d) ∉ al) → tMkO A.c_NoProcess (spXi K "process") [] (tCons (tVar 1) tNil) (L2.start n_table_of [V.ref x, v]) H (fun cls d H' => E cls d H') := fun hn => by
      refine ⟨_, rfl, (by show 1 ≤ 1000; decide), fun a ha => xi_done G.x_NoProcess G.xn_NoProcess ha fun d H' s0 d0 e0 => k2 hn d H' s0 d0 e0⟩
    walk_at "go"
    walk_at "ds"
    refine ⟨v, 1, p, rfl, hv, _, rfl, ?_⟩
    cases ei : inR 1 p v with
    | false =>
      refine iteT (iteT (fin fun i d e hm => ?_))
      subst e
      have := h5 _ hm
      simp only [inR, decide_eq_false_iff_not] at ei
      exact ei this
    | true =>
      refine iteF ?_
      obtain ⟨i, rfl⟩ : ∃ i, v = V.int i := by cases v <;> first | exact ⟨_, rfl⟩ | (cases ei; done)
      refine ⟨_, rfl, _, rfl, x, _, dx, _, _, rfl, h1, cl, a7, rfl, t, _, rfl, DGet.k (k := Sum.inl i) h2, _, rfl, ?_⟩
      by_cases hm : ∃ d, (i, d) ∈ al
      · obtain ⟨d, hm⟩ := hm
        have e1 := al_get h4 hm
        rw [e1]
        refine iteF ?_
        exact ⟨_, rfl, x, _, dx, _, _, rfl, h1, cl, a7, rfl, _, rfl, t, _, rfl, (by rw [← e1]; exact DGet.k (k := Sum.inl i) h2), k1 i d rfl hm⟩
      · have hn : ∀ d, (i, d) ∉ al := fun d q => hm ⟨d, q⟩
        rw [al_none hn]
        exact iteT (fin fun j d e => by rw [← V.int.inj e]; exact hn d)
/-! new_process, spawn -/
def spNewP (A : Adr) : Sp := fun vs H Q _ => ∃ (st : V) (fr sl : V) (x t : Addr) (n p : Int) (al : List (Int × Addr)), vs = [.ref x] ∧ SysAt A.c_System fr sl st H x t n p al ∧ al.length < 12 ∧
  ∀ H' d, (∀ b o, b ≠ x → b ≠ t → H b = some o → H' b = some o) → H d = none → SysAt A.c_System fr sl st H' x t n (p + 1) (al ++ [(p + 1, d)]) → Q (.int (p + 1)) H'
theorem putK_al {al : List (Int × Addr)} {i : Int} {d : Addr} (h : ∀ e, (i, e) ∉ al) : putK (al.map fun q => ((Sum.inl q.1 : Key), V.ref q.2)) (Sum.inl i) (.ref d) = (al ++ [(i, d)]).map fun q => ((Sum.inl q.1 : Key), V.ref q.2) := by
  rw [putK_new _ (al_none h), List.map_append]
  rfl
theorem ok_new_process (G : Txt K mg A) : FnOk P w K mg base CX0 1 A.a_new_process A.fd_new_process p_new_process (spNewP A) := by
  refine G.f_new_process.ok sc_new_process (fun vs H Q E h => ?_) (fun cdv A' outer s H vs Q E hr h => ?_)
  · obtain ⟨st, fr, sl, x, t, n, p, al, rfl, _⟩ := h
    rfl
  · obtain ⟨st, fr, sl, x, t, n, p, al, rfl, hS, hl, k⟩ := h
    obtain ⟨⟨dx, a, b, c, d, e, h1⟩, h2, h3, h4, h5, h6, h7⟩ := id hS
    obtain ⟨cl, a1, a2, a3, a4, a5, a6, a7, a8, a9, a10, a11, a12⟩ := G.sysN
    refine ⟨_, (pss_cons (ps_fldaug (pv 0) pe_int in_add)
  (pss_cons (ps_dput (hu_of hr) (pe_fld (pv 0) rfl) (pe_fld (pv 0) rfl) pe_dnewK rfl)
  (pss_one (ps_ret (pe_fld (pv 0) rfl))))), ?_⟩
    have nt : t ≠ x := ne_of h2 h1 (by intro z; cases z)
    refine ⟨_, rfl, x, _, dx, _, _, rfl, h1, cl, a5, rfl, p, 1, rfl, rfl, dx, _, h1, (by show 12 < 1000; decide), ?_⟩
    have hx' : (upd H x (.ins A.c_System dx (putF "processes_made" (.int (p + 1)) (sysF fr sl st n p 0 t a b c d e)))) x = some (.ins A.c_System dx (sysF fr sl st n (p + 1) 0 t a b c d e)) := upd_same
    intro q hq
    obtain ⟨nqx, hq0⟩ := upd_none hq
    have nqt : t ≠ q := ne_of_none h2 hq0
    have hno : ∀ e, (p + 1, e) ∉ al := fun e hm => by have := h5 _ hm; simp only at this; omega
    refine ⟨_, rfl, x, _, dx, _, _, rfl, (by rw [upd_ne (Ne.symm nqx)]; exact hx'), cl, a7, rfl, _, rfl, x, _, dx, _, _, rfl, (by rw [upd_ne (Ne.symm nqx)]; exact hx'), cl, a5, rfl, t, _, rfl,
      DPut.k (k := Sum.inl (p + 1)) (kvs := al.map fun q => (Sum.inl q.1, V.ref q.2)) (by rw [upd_ne nqt, upd_ne nt]; exact h2) (small1000 (by rw [List.length_map]; omega)), ?_⟩
    rw [putK_al hno]
    refine ⟨_, rfl, x, _, dx, _, _, rfl, (by rw [upd_ne (Ne.symm nt), upd_ne (Ne.symm nqx)]; exact hx'), cl, a5, rfl, k _ q (fun b o hb1 hb2 ho => ?_) hq0 ⟨⟨dx, a, b, c, d, e, ?_⟩, upd_same, fun z hz => ?_, ?_, fun z hz => ?_, by omega, by rw [List.length_append, List.length_singleton]; omega⟩⟩
    · rw [upd_ne hb2, upd_ne (ne_of_none ho hq0), upd_ne hb1]
      exact ho
    · rw [upd_ne (Ne.symm nt), upd_ne (Ne.symm nqx)]
      exact hx'
    · rcases List.mem_append.mp hz with hz | hz
      · have e1 := h3 z hz
        have ne2 : z.2 ≠ t := by
          intro e3
          rw [e3, h2] at e1
          have e4 := congrArg List.length (HO.dK.inj (Option.some.inj e1))
          rw [List.length_map] at e4
          have : al = [] := List.length_eq_zero_iff.mp e4
          rw [this] at hz
          cases hz
        rw [upd_ne ne2, upd_ne (ne_of_none e1 hq0), upd_ne (ne_of e1 h1 (by intro z; cases z))]
        exact e1
      · rw [List.mem_singleton.mp hz]
        rw [upd_ne (Ne.symm nqt), upd_same]
    · rw [List.pairwise_append]
      refine ⟨h4, List.pairwise_singleton _ _, fun u hu v hv => ?_⟩
      rw [List.mem_singleton.mp hv]
      have := h5 u hu
      simp only
      omega
    · rcases List.mem_append.mp hz with hz | hz
      · have := h5 z hz
        omega
      · rw [List.mem_singleton.mp hz]
        simp only
        omega
def spSpawn (A : Adr) : Sp := fun vs H Q _ => ∃ (st : V) (fr sl : V) (x t : Addr) (n p : Int) (al : List (Int × Addr)), vs = [.ref x] ∧ SysAt A.c_System fr sl st H x t n p al ∧ al.length < 12 ∧
  ∀ H' d, (∀ b o, b ≠ x → b ≠ t → H b = some o → H' b = some o) → H d = none → SysAt A.c_System fr sl st H' x t (n + 1) (p + 1) (al ++ [(p + 1, d)]) → Q (.int (p + 1)) H'
theorem ok_spawn (G : Txt K mg A) : FnOk P w K mg base CX0 2 A.a_spawn A.fd_spawn p_spawn (spSpawn A) := by
  refine G.f_spawn.ok sc_spawn (fun vs H Q E h => ?_) (fun cdv A' outer s H vs Q E hr h => ?_)
  · obtain ⟨st, fr, sl, x, t, n, p, al, rfl, _⟩ := h
    rfl
  · obtain ⟨st, fr, sl, x, t, n, p, al, rfl, hS, hl, k⟩ := h
    refine ⟨_, (pss_cons (ps_set (i := 1) sc_spawn.nd rfl (Or.inl rfl) (pe_call (ok_new_process G) (hr.mono (by decide)) rfl G.g_new_process G.k_new_process G.bi_new_process .nil pass0 (pa_cons (pv 0) pa_nil)))
  (pss_cons (ps_expr (pe_call (ok_end_step G) (hr.mono (by decide)) rfl G.g_end_step G.k_end_step G.bi_end_step .nil pass0 (pa_cons (pv 0) pa_nil)))
  (pss_one (ps_ret (pv 1))))), ?_⟩
    refine ⟨_, rfl, st, fr, sl, x, t, n, p, al, rfl, hS, hl, fun H1 d f1 d0 S1 => ?_⟩
    refine ⟨_, rfl, fr, sl, st, x, t, n, _, _, rfl, S1, fun H2 f2 S2 => ?_⟩
    exact ⟨_, rfl, k H2 d (fun b o b1 b2 ho => f2 _ _ b1 (f1 _ _ b1 b2 ho)) d0 S2⟩
/-! processes -/
def spProcs (A : Adr) : Sp := fun vs H Q _ => ∃ (fr sl st : V) (x t : Addr) (n p : Int) (al : List (Int × Addr)), vs = [.ref x] ∧ SysAt A.c_System fr sl st H x t n p al ∧
  ∀ q, H q = none → Q (.ref q) (upd H q (.lst (al.map fun z => V.int z.1)))
theorem perm_sorted {xs ys : List Int} (h : ys.Perm xs) (h1 : ys.Pairwise (· ≤ ·)) (h2 : xs.Pairwise (· < ·)) : ys = xs :=
  h.eq_of_pairwise (le := fun a b : Int => a ≤ b) (fun a b _ _ h1 h2 => Int.le_antisymm h1 h2) h1 (h2.imp fun h => Int.le_of_lt h)
theorem ok_processes (G : Txt K mg A) : FnOk P w K mg base CX0 1 A.a_processes A.fd_processes p_processes (spProcs A) := by
  refine G.f_processes.ok sc_processes (fun vs H Q E h => ?_) (fun cdv A' outer s H vs Q E hr h => ?_)
  · obtain ⟨fr, sl, st, x, t, n, p, al, rfl, _⟩ := h
    rfl
  · obtain ⟨fr, sl, st, x, t, n, p, al, rfl, hS, k⟩ := h
    obtain ⟨⟨dx, a, b, c, d, e, h1⟩, h2, h3, h4, h5, h6, h7⟩ := id hS
    obtain ⟨cl, a1, a2, a3, a4, a5, a6, a7, a8, a9, a10, a11, a12⟩ := G.sysN
    refine ⟨_, (pss_one (ps_ret (pe_callB (call_sortedDI rfl) (by rfl) G.b_sorted (by decide +kernel) (pa_cons (pe_fld (pv 0) rfl) pa_nil)))), ?_⟩
    refine ⟨_, rfl, x, _, dx, _, _, rfl, h1, cl, a7, rfl, t, _, al.map (·.1), rfl, .inl h2, by rw [List.map_map, List.map_map]; rfl, by rw [List.length_map]; omega, fun ys q hp hs hq => ?_⟩
    have e1 : ys = al.map (·.1) := perm_sorted hp hs (List.pairwise_map.mpr h4)
    rw [e1, List.map_map]
    exact k q hq
/-! replace_pages, of nothing by nothing -/
theorem upd_id {H : Hp} {c : Addr} {u : HO} (h : H c = some u) : upd H c u = H := by
  funext b
  by_cases e : b = c
  · rw [e, upd_same, h]
  · rw [upd_ne e]
theorem unlock_id {H : Hp} {c : Addr} {u v : HO} (h : H c = some u) : upd (upd H c v) c u = H := by rw [upd_upd, upd_id h]
def spRepl (A : Adr) : Sp := fun vs H Q _ => ∃ (fr sl st : V) (x t : Addr) (n p : Int) (al : List (Int × Addr)) (i : Int) (d c : Addr), vs = [.ref x, .int i, .ref c] ∧ SysAt A.c_System fr sl st H x t n p al ∧ (i, d) ∈ al ∧ H c = some (.dK []) ∧
  ∀ H', Same H H' → Q .non H'
theorem ok_replace_pages (G : Txt K mg A) : FnOk P w K mg base CX0 1 A.a_replace_pages A.fd_replace_pages p_replace_pages (spRepl A) := by
  refine G.f_replace_pages.ok sc_replace_pages (fun vs H Q E h => ?_) (fun cdv A' outer s H vs Q E hr h => ?_)
  · obtain ⟨fr, sl, st, x, t, n, p, al, i, d, c, rfl, _⟩ := h
    rfl
  · obtain ⟨fr, sl, st, x, t, n, p, al, i, d, c, rfl, hS, hm, hc, k⟩ := h
    obtain ⟨⟨dx, a, b, c', d', e, h1⟩, h2, h3, h4, h5, h6, h7⟩ := id hS
    obtain ⟨cl, a1, a2, a3, a4, a5, a6, a7, a8, a9, a10, a11, a12⟩ := G.sysN
    refine ⟨_, (pss_cons (ps_set (i := 3) sc_replace_pages.nd rfl (Or.inr rfl) (pe_dget (hu_of hr) (pe_fld (pv 0) rfl) (pv 1) (fun _ _ => rfl)))
  (pss_cons (ps_lock (ps_setLc (i := 4) (own := [("number", 5)]) (g := gName 5) rfl sc_replace_pages.nd rfl rfl (sw_true rfl rfl rfl (by decide +kernel)) (pi_keys (pv 2)) (blkOk_by (own := [("number", 5)]) (N := n_replace_pages) (sc := defScope s_replace_pages) (by decide +kernel)) (fun _ _ _ _ _ => pg_name (i := 5) sc_replace_pages.nd rfl (Or.inl rfl)) (fun _ _ _ _ _ => pts_nev) (fun _ _ _ _ _ => pe_nev)))
  (pss_cons (ps_lock (ps_for PassesOwn.never rfl (pi_values (pv 2)) (pg_name (i := 6) sc_replace_pages.nd rfl (Or.inl rfl)) (pss_one ps_never)))
  (pss_cons (ps_for PassesOwn.never rfl (pi_list (pv 4)) (pg_name (i := 6) sc_replace_pages.nd rfl (Or.inl rfl)) (pss_one ps_never))
  (pss_one (ps_lock (ps_for PassesOwn.never rfl (pi_items (pv 2)) (pg_tup rfl (pgs_cons (pg_name (i := 5) sc_replace_pages.nd rfl (Or.inl rfl)) (pgs_cons (pg_name (i := 6) sc_replace_pages.nd rfl (Or.inl rfl)) pgs_nil))) (pss_one ps_never)))))))), ?_⟩
    have e1 := al_get h4 hm
    refine ⟨_, rfl, x, _, dx, _, _, rfl, h1, cl, a7, rfl, _, rfl, t, _, rfl, (by rw [← e1]; exact DGet.k (k := Sum.inl i) h2), ?_⟩
    refine ⟨c, _, hc, trivial, fun od => ?_⟩
    refine ⟨_, rfl, c, od, rfl, .inl ⟨[], upd_same, fun D hD => ?_⟩⟩
    obtain ⟨nDc, hD0⟩ := upd_none hD
    have q0 : (upd (upd H c (.frz od (.dK []))) D (.lst [])) c = some (.frz od (.dK [])) := by rw [upd_ne (Ne.symm nDc), upd_same]
    refine ⟨fun i _ Z => i = 0 ∧ Z = upd (upd H c (.frz od (.dK []))) D (.lst []), ⟨0, rfl, rfl⟩, ?_⟩
    rintro _ _ _ ⟨rfl, rfl⟩
    refine .inl ⟨⟨q0, Nat.le_refl _⟩, q0, ?_⟩
    generalize hH1 : upd (upd (upd H c (.frz od (.dK []))) D (.lst [])) c (.dK []) = H1
    have c1 : H1 c = some (.dK []) := by rw [← hH1, upd_same]
    have l1 : H1 D = some (.lst []) := by rw [← hH1, upd_ne nDc, upd_same]
    have s1 : Same H H1 := fun b o ho => by
      rw [← hH1]
      by_cases e : b = c
      · rw [e, upd_same, ← hc, ← e, ho]
      · rw [upd_ne e, upd_ne (ne_of_none ho hD0), upd_ne e]
        exact ho
    -- for page in changes.values()
    refine ⟨c, _, c1, trivial, fun od2 => ?_⟩
    refine ⟨_, rfl, c, od2, [], rfl, upd_same, ?_⟩
    refine ⟨fun k _ σ Z => k = 0 ∧ Z = upd H1 c (.frz od2 (.dK [])) ∧ σ = [some (.ref x), some (.int i), some (.ref c), some (.ref d), some (.ref D), none, none], ⟨0, rfl, rfl, rfl⟩, ?_⟩
    rintro _ _ _ _ ⟨rfl, rfl, rfl⟩
    refine .inl ⟨⟨upd_same, Nat.le_refl _⟩, upd_same, ?_⟩
    rw [unlock_id c1]
    -- for page in replaced
    refine ⟨_, rfl, D, rfl, ⟨_, SqL.of l1⟩, ?_⟩
    refine ⟨fun k _ σ Z => k = 0 ∧ Z = H1 ∧ σ = [some (.ref x), some (.int i), some (.ref c), some (.ref d), some (.ref D), none, none], ⟨0, rfl, rfl, rfl⟩, ?_⟩
    rintro k' _ σ' Z' ⟨e1, e2, e3⟩
    rw [e1, e2, e3]
    refine .inl ⟨⟨[], SqL.of l1, Nat.le_refl _⟩, ?_⟩
    -- for number, page in changes.items()
    refine ⟨c, _, c1, trivial, fun od3 => ?_⟩
    refine ⟨_, rfl, c, od3, [], rfl, upd_same, ?_⟩
    refine ⟨fun k _ σ Z => k = 0 ∧ Z = upd H1 c (.frz od3 (.dK [])) ∧ σ = [some (.ref x), some (.int i), some (.ref c), some (.ref d), some (.ref D), none, none], ⟨0, rfl, rfl, rfl⟩, ?_⟩
    rintro _ _ _ _ ⟨rfl, rfl, rfl⟩
    refine .inl ⟨⟨upd_same, Nat.le_refl _⟩, upd_same, ?_⟩
    rw [unlock_id c1]
    exact k _ s1
/-! unmap_all, leave, fresh, fork -/
def spUnall (A : Adr) : Sp := fun vs H Q _ => ∃ (fr sl st : V) (x t : Addr) (n p : Int) (al : List (Int × Addr)) (i : Int) (d : Addr), vs = [.ref x, .int i] ∧ SysAt A.c_System fr sl st H x t n p al ∧ (i, d) ∈ al ∧
  ∀ H', Same H H' → Q .non H'
theorem ok_unmap_all (G : Txt K mg A) : FnOk P w K mg base CX0 2 A.a_unmap_all A.fd_unmap_all p_unmap_all (spUnall A) := by
  refine G.f_unmap_all.ok sc_unmap_all (fun vs H Q E h => ?_) (fun cdv A' outer s H vs Q E hr h => ?_)
  · obtain ⟨fr, sl, st, x, t, n, p, al, i, d, rfl, _⟩ := h
    rfl
  · obtain ⟨fr, sl, st, x, t, n, p, al, i, d, rfl, hS, hm, k⟩ := h
    obtain ⟨⟨dx, a, b, c', d', e, h1⟩, h2, h3, h4, h5, h6, h7⟩ := id hS
    obtain ⟨cl, a1, a2, a3, a4, a5, a6, a7, a8, a9, a10, a11, a12⟩ := G.sysN
    refine ⟨_, (pss_one (ps_expr (pe_call (ok_replace_pages G) (hr.mono (by decide)) rfl G.g_replace_pages G.k_replace_pages G.bi_replace_pages .nil pass0 (pa_cons (pv 0) (pa_cons (pv 1) (pa_cons (pe_lock (pe_dc rfl sc_unmap_all.nd (pi_keys (pe_dget (hu_of hr) (pe_fld (pv 0) rfl) (pv 1) (fun _ _ => rfl))) (blkOk_by (own := [("number", 2)]) (N := n_unmap_all) (sc := defScope s_unmap_all) (by decide +kernel)) (fun _ _ _ _ _ => pg_name (i := 2) sc_unmap_all.nd rfl (Or.inl rfl)) (fun _ _ _ _ _ => pts_nil) (fun _ _ _ _ _ => pe_nev) (fun _ _ _ _ _ => pe_nev))) pa_nil)))))), ?_⟩
    have e1 := al_get h4 hm
    have hd := h3 _ hm
    have nx : x ≠ d := ne_of h1 hd (by intro z; cases z)
    refine ⟨_, rfl, _, rfl, d, _, hd, trivial, fun od => ?_⟩
    refine ⟨_, rfl, x, _, dx, _, _, rfl, (by rw [upd_ne nx]; exact h1), cl, a7, rfl, _, rfl, t, .ref d, rfl, ?_⟩
    have ntd : t ≠ d := fun e => by
      rw [e, hd] at h2
      have e4 := congrArg List.length (HO.dK.inj (Option.some.inj h2))
      rw [List.length_map] at e4
      have : al = [] := List.length_eq_zero_iff.mp e4.symm
      rw [this] at hm
      cases hm
    refine ⟨by rw [← e1]; exact DGet.k (k := Sum.inl i) (by rw [upd_ne ntd]; exact h2), ?_⟩
    refine ⟨d, od, rfl, .inl ⟨[], upd_same, fun D hD => ?_⟩⟩
    obtain ⟨nDd, hD0⟩ := upd_none hD
    have q0 : (upd (upd H d (.frz od (.dK []))) D (.dK [])) d = some (.frz od (.dK [])) := by rw [upd_ne (Ne.symm nDd), upd_same]
    refine ⟨fun i _ Z => i = 0 ∧ Z = upd (upd H d (.frz od (.dK []))) D (.dK []), ⟨0, rfl, rfl⟩, ?_⟩
    rintro _ _ _ ⟨rfl, rfl⟩
    refine .inl ⟨⟨q0, Nat.le_refl _⟩, q0, ?_⟩
    generalize hH1 : upd (upd (upd H d (.frz od (.dK []))) D (.dK [])) d (.dK []) = H1
    have l1 : H1 D = some (.dK []) := by rw [← hH1, upd_ne nDd, upd_same]
    have s1 : Same H H1 := fun b o ho => by
      rw [← hH1]
      by_cases e : b = d
      · rw [e, upd_same, ← hd, ← e, ho]
      · rw [upd_ne e, upd_ne (ne_of_none ho hD0), upd_ne e]
        exact ho
    exact ⟨fr, sl, st, x, t, n, p, al, i, d, D, rfl, hS.same s1, hm, l1, fun H' s2 => k _ (s1.trans s2)⟩
def spFresh (A : Adr) : Sp := fun vs H Q E => ∃ (fr sl st : V) (x t : Addr) (n p : Int) (al : List (Int × Addr)) (v : V), vs = [.ref x, v] ∧ SysAt A.c_System fr sl st H x t n p al ∧ AnyV H v ∧
  (∀ i d, v = .int i → (i, d) ∈ al → ∀ H', But x H H' → SysAt A.c_System fr sl st H' x t (n + 1) p al → Q .non H') ∧ ((∀ i d, v = .int i → (i, d) ∉ al) → ∀ d H', Same H H' → H d = none → H' d = some (.xd [("process", v)]) → E (.ref A.c_NoProcess) (some d) H')
theorem ok_fresh (G : Txt K mg A) : FnOk P w K mg base (L2.CX P w) 4 A.a_fresh A.fd_fresh p_fresh (spFresh A) := by
  refine G.f_fresh.okX sc_fresh (fun vs H Q E h => ?_) (fun cdv A' outer s H vs Q E hr h => ?_)
  · obtain ⟨fr, sl, st, x, t, n, p, al, v, rfl, _⟩ := h
    rfl
  · obtain ⟨fr, sl, st, x, t, n, p, al, v, rfl, hS, hv, k1, k2⟩ := h
    refine ⟨_, (pss_cons (ps_expr (pe_call (ok_table_of G) (hr.mono (by decide)) rfl G.g_table_of G.k_table_of G.bi_table_of .nil (passes_call (takes_of rfl rfl rfl rfl) (fun _ _ _ _ z => z)) (pa_cons (pv 0) (pa_cons (pv 1) pa_nil))))
  (pss_cons (ps_expr (pe_call (ok_unmap_all G) (hr.mono (by decide)) rfl G.g_unmap_all G.k_unmap_all G.bi_unmap_all .nil pass0 (pa_cons (pv 0) (pa_cons (pv 1) pa_nil))))
  (pss_one (ps_expr (pe_call (ok_end_step G) (hr.mono (by decide)) rfl G.g_end_step G.k_end_step G.bi_end_step .nil pass0 (pa_cons (pv 0) pa_nil)))))), ?_⟩
    refine ⟨_, rfl, _, rfl, fr, sl, st, x, t, n, p, al, v, rfl, hS, hv, fun i d e hm => ?_, k2⟩
    subst e
    refine ⟨_, rfl, _, rfl, fr, sl, st, x, t, n, p, al, i, d, rfl, hS, hm, fun H1 s1 => ?_⟩
    exact ⟨_, rfl, fr, sl, st, x, t, n, p, al, rfl, hS.same s1, fun H2 b2 S2 => k1 i d rfl hm H2 (fun b o hb ho => b2 b o hb (s1 b o ho)) S2⟩
def spLeave (A : Adr) : Sp := fun vs H Q E => ∃ (fr sl st : V) (x t : Addr) (n p : Int) (al : List (Int × Addr)) (v : V), vs = [.ref x, v] ∧ SysAt A.c_System fr sl st H x t n p al ∧ AnyV H v ∧
  (∀ i d l r, v = .int i → al = l ++ (i, d) :: r → ∀ H', (∀ b o, b ≠ x → b ≠ t → H b = some o → H' b = some o) → SysAt A.c_System fr sl st H' x t (n + 1) p (l ++ r) → Q .non H') ∧ ((∀ i d, v = .int i → (i, d) ∉ al) → ∀ d H', Same H H' → H d = none → H' d = some (.xd [("process", v)]) → E (.ref A.c_NoProcess) (some d) H')
theorem dropK_al {l r : List (Int × Addr)} {i : Int} {d : Addr} (h : (l ++ (i, d) :: r).Pairwise (fun q r => q.1 < r.1)) :
    dropK ((l ++ (i, d) :: r).map fun q => ((Sum.inl q.1 : Key), V.ref q.2)) (Sum.inl i) = (l ++ r).map fun q => ((Sum.inl q.1 : Key), V.ref q.2) := by
  rw [List.pairwise_append, List.pairwise_cons] at h
  obtain ⟨h1, ⟨h2, h3⟩, h4⟩ := h
  have key : ∀ m : List (Int × Addr), (∀ q ∈ m, q.1 ≠ i) → dropK (m.map fun q => ((Sum.inl q.1 : Key), V.ref q.2)) (Sum.inl i) = m.map fun q => ((Sum.inl q.1 : Key), V.ref q.2) := fun m hm => dropK_no fun z => by
    rw [List.map_map] at z
    obtain ⟨q, hq, e⟩ := List.mem_map.mp z
    exact hm q hq (Sum.inl.inj e)
  have e1 := key l fun q hq => by have := h4 q hq (i, d) List.mem_cons_self; simp only at this; omega
  have e2 := key r fun q hq => by have := h2 q hq; simp only at this; omega
  unfold dropK at e1 e2 ⊢
  rw [List.map_append, List.filter_append, List.map_cons, List.filter_cons, if_neg (by simp), e1, e2, List.map_append]
theorem al_split {al : List (Int × Addr)} {i : Int} {d : Addr} (h : (i, d) ∈ al) : ∃ l r, al = l ++ (i, d) :: r := List.append_of_mem h
theorem ok_leave (G : Txt K mg A) : FnOk P w K mg base (L2.CX P w) 4 A.a_leave A.fd_leave p_leave (spLeave A) := by
  refine G.f_leave.okX sc_leave (fun vs H Q E h => ?_) (fun cdv A' outer s H vs Q E hr h => ?_)
  · obtain ⟨fr, sl, st, x, t, n, p, al, v, rfl, _⟩ := h
    rfl
  · obtain ⟨fr, sl, st, x, t, n, p, al, v, rfl, hS, hv, k1, k2⟩ := h
    obtain ⟨cl, a1, a2, a3, a4, a5, a6, a7, a8, a9, a10, a11, a12⟩ := G.sysN
    refine ⟨_, (pss_cons (ps_expr (pe_call (ok_table_of G) (hr.mono (by decide)) rfl G.g_table_of G.k_table_of G.bi_table_of .nil (passes_call (takes_of rfl rfl rfl rfl) (fun _ _ _ _ z => z)) (pa_cons (pv 0) (pa_cons (pv 1) pa_nil))))
  (pss_cons (ps_expr (pe_call (ok_unmap_all G) (hr.mono (by decide)) rfl G.g_unmap_all G.k_unmap_all G.bi_unmap_all .nil pass0 (pa_cons (pv 0) (pa_cons (pv 1) pa_nil))))
  (pss_cons (ps_ddel (pe_fld (pv 0) rfl) (pv 1))
  (pss_one (ps_expr (pe_call (ok_end_step G) (hr.mono (by decide)) rfl G.g_end_step G.k_end_step G.bi_end_step .nil pass0 (pa_cons (pv 0) pa_nil))))))), ?_⟩
    refine ⟨_, rfl, _, rfl, fr, sl, st, x, t, n, p, al, v, rfl, hS, hv, fun i d e hm => ?_, k2⟩
    subst e
    obtain ⟨l, r, el⟩ := al_split hm
    refine ⟨_, rfl, _, rfl, fr, sl, st, x, t, n, p, al, i, d, rfl, hS, hm, fun H1 s1 => ?_⟩
    have S1 := hS.same s1
    obtain ⟨⟨dx, a, b, c', d', e, h1⟩, h2, h3, h4, h5, h6, h7⟩ := id S1
    have nt : t ≠ x := ne_of h2 h1 (by intro z; cases z)
    refine ⟨_, rfl, x, _, dx, _, _, rfl, h1, cl, a7, rfl, _, rfl, t, _, Sum.inl i, rfl, h2, rfl, (by rw [al_get h4 hm]; rfl), ?_⟩
    rw [el] at h4 h3 h5 h7 ⊢
    rw [dropK_al h4]
    have S2 : SysAt A.c_System fr sl st (upd H1 t (.dK ((l ++ r).map fun q => ((Sum.inl q.1 : Key), V.ref q.2)))) x t n p (l ++ r) := by
      have sub : ∀ q ∈ l ++ r, q ∈ l ++ (i, d) :: r := fun q hq => by
        rcases List.mem_append.mp hq with z | z
        · exact List.mem_append_left _ z
        · exact List.mem_append_right _ (List.mem_cons_of_mem _ z)
      refine ⟨⟨dx, a, b, c', d', e, by rw [upd_ne (Ne.symm nt)]; exact h1⟩, upd_same, fun q hq => ?_, h4.sublist (List.Sublist.append_left (List.sublist_cons_self _ _) _), fun q hq => h5 q (sub q hq), h6, ?_⟩
      · have e1 := h3 q (sub q hq)
        have ne2 : q.2 ≠ t := by
          intro e3
          rw [e3, h2, el] at e1
          have e4 := congrArg List.length (HO.dK.inj (Option.some.inj e1))
          rw [List.length_map, List.length_append, List.length_cons] at e4
          simp at e4
        rw [upd_ne ne2]
        exact e1
      · rw [List.length_append, List.length_cons] at h7
        rw [List.length_append]
        omega
    refine ⟨_, rfl, fr, sl, st, x, t, n, p, _, rfl, S2, fun H2 b2 S3 => k1 i d l r rfl el H2 (fun b o hb hb2 ho => b2 b o hb (by rw [upd_ne hb2]; exact s1 b o ho)) S3⟩
def spReq (A : Adr) : Sp := fun vs H Q E => ∃ (fr sl : V) (x t : Addr) (n p : Int) (al : List (Int × Addr)) (v w : V), vs = [.ref x, v, w] ∧ SysAt A.c_System fr sl (.bl false) H x t n p al ∧ Q .non H
theorem ok_require_charge (G : Txt K mg A) : FnOk P w K mg base (L2.CX P w) 1 A.a_require_charge A.fd_require_charge p_require_charge (spReq A) := by
  refine G.f_require_charge.okX sc_require_charge (fun vs H Q E h => ?_) (fun cdv A' outer s H vs Q E hr h => ?_)
  · obtain ⟨fr, sl, x, t, n, p, al, v, w, rfl, _⟩ := h
    rfl
  · obtain ⟨fr, sl, x, t, n, p, al, v, w, rfl, hS, k⟩ := h
    obtain ⟨⟨dx, a, b, c', d', e, h1⟩, h2, h3, h4, h5, h6, h7⟩ := id hS
    obtain ⟨cl, a1, a2, a3, a4, a5, a6, a7, a8, a9, a10, a11, a12⟩ := G.sysN
    refine ⟨_, (pss_cons (ps_if (pt_not (pt_val (pe_fld (pv 0) rfl))) (pss_one ps_retN) pss_nil)
  (pss_cons ps_never
  (pss_cons ps_never
  (pss_one ps_never)))), ?_⟩
    exact ⟨_, rfl, x, _, dx, _, _, rfl, h1, cl, a3, rfl, _, rfl, iteT k⟩
def spFork (A : Adr) : Sp := fun vs H Q E => ∃ (fr sl : V) (x t : Addr) (n p : Int) (al : List (Int × Addr)) (v : V), vs = [.ref x, v] ∧ SysAt A.c_System fr sl (.bl false) H x t n p al ∧ AnyV H v ∧
  (∀ i d, v = .int i → (i, d) ∈ al → al.length < 12 ∧ ∀ H' d', (∀ b o, b ≠ x → b ≠ t → H b = some o → H' b = some o) → H d' = none → SysAt A.c_System fr sl (.bl false) H' x t (n + 1) (p + 1) (al ++ [(p + 1, d')]) → Q (.int (p + 1)) H') ∧
    ((∀ i d, v = .int i → (i, d) ∉ al) → ∀ d H', Same H H' → H d = none → H' d = some (.xd [("process", v)]) → E (.ref A.c_NoProcess) (some d) H')
theorem ok_fork (G : Txt K mg A) : FnOk P w K mg base (L2.CX P w) 4 A.a_fork A.fd_fork p_fork (spFork A) := by
  refine G.f_fork.okX sc_fork (fun vs H Q E h => ?_) (fun cdv A' outer s H vs Q E hr h => ?_)
  · obtain ⟨fr, sl, x, t, n, p, al, v, rfl, _⟩ := h
    rfl
  · obtain ⟨fr, sl, x, t, n, p, al, v, rfl, hS, hv, k1, k2⟩ := h
    obtain ⟨cl, a1, a2, a3, a4, a5, a6, a7, a8, a9, a10, a11, a12⟩ := G.sysN
    refine ⟨_, (pss_cons (ps_set (i := 2) sc_fork.nd rfl (Or.inl rfl) (pe_call (ok_table_of G) (hr.mono (by decide)) rfl G.g_table_of G.k_table_of G.bi_table_of .nil (passes_call (takes_of rfl rfl rfl rfl) (fun _ _ _ _ z => z)) (pa_cons (pv 0) (pa_cons (pv 1) pa_nil))))
  (pss_cons (ps_lock (ps_setDc (i := 3) (own := [("number", 4), ("page", 5)]) (g := gTup K 2 (gCons (gName 4) (gCons (gName 5) gNil))) rfl sc_fork.nd rfl rfl (sw_dict rfl rfl rfl (by decide +kernel)) (pi_items (pv 2)) (blkOk_by (own := [("number", 4), ("page", 5)]) (N := n_fork) (sc := defScope s_fork) (by decide +kernel)) (fun _ _ _ _ _ => pg_tup rfl (pgs_cons (pg_name (i := 4) sc_fork.nd rfl (Or.inl rfl)) (pgs_cons (pg_name (i := 5) sc_fork.nd rfl (Or.inl rfl)) pgs_nil))) (fun _ _ _ _ _ => pts_nev) (fun _ _ _ _ _ => pe_nev) (fun _ _ _ _ _ => pe_nev)))
  (pss_cons (ps_expr (pe_call (ok_require_charge G) (hr.mono (by decide)) rfl G.g_require_charge G.k_require_charge G.bi_require_charge .nil (passes_call (takes_of rfl rfl rfl rfl) (fun _ _ _ _ z => z)) (pa_cons (pv 0) (pa_cons (pe_op op_add (pe_fld (pv 0) rfl) pe_int) (pa_cons (pv 3) pa_nil)))))
  (pss_cons (ps_set (i := 6) sc_fork.nd rfl (Or.inl rfl) (pe_call (ok_new_process G) (hr.mono (by decide)) rfl G.g_new_process G.k_new_process G.bi_new_process .nil pass0 (pa_cons (pv 0) pa_nil)))
  (pss_cons (ps_expr (pe_call (ok_replace_pages G) (hr.mono (by decide)) rfl G.g_replace_pages G.k_replace_pages G.bi_replace_pages .nil pass0 (pa_cons (pv 0) (pa_cons (pv 6) (pa_cons (pv 3) pa_nil)))))
  (pss_cons (ps_expr (pe_call (ok_end_step G) (hr.mono (by decide)) rfl G.g_end_step G.k_end_step G.bi_end_step .nil pass0 (pa_cons (pv 0) pa_nil)))
  (pss_one (ps_ret (pv 6))))))))), ?_⟩
    refine ⟨_, rfl, _, rfl, fr, sl, .bl false, x, t, n, p, al, v, rfl, hS, hv, fun i d e hm => ?_, k2⟩
    subst e
    obtain ⟨hl, k1⟩ := k1 i d rfl hm
    obtain ⟨⟨dx, a, b, c', d', e, h1⟩, h2, h3, h4, h5, h6, h7⟩ := id hS
    have hd : H d = some (.dK []) := h3 _ hm
    refine ⟨d, _, hd, trivial, fun od => ?_⟩
    refine ⟨_, rfl, d, od, [], rfl, upd_same, fun D hD => ?_⟩
    obtain ⟨nDd, hD0⟩ := upd_none hD
    have q0 : (upd (upd H d (.frz od (.dK []))) D (.dK [])) d = some (.frz od (.dK [])) := by rw [upd_ne (Ne.symm nDd), upd_same]
    refine ⟨fun i _ Z => i = 0 ∧ Z = upd (upd H d (.frz od (.dK []))) D (.dK []), ⟨0, rfl, rfl⟩, ?_⟩
    rintro _ _ _ ⟨rfl, rfl⟩
    refine .inl ⟨⟨q0, Nat.le_refl _⟩, q0, ?_⟩
    generalize hH1 : upd (upd (upd H d (.frz od (.dK []))) D (.dK [])) d (.dK []) = H1
    have l1 : H1 D = some (.dK []) := by rw [← hH1, upd_ne nDd, upd_same]
    have s1 : Same H H1 := fun b o ho => by
      rw [← hH1]
      by_cases e : b = d
      · rw [e, upd_same, ← hd, ← e, ho]
      · rw [upd_ne e, upd_ne (ne_of_none ho hD0), upd_ne e]
        exact ho
    have S1 := hS.same s1
    refine ⟨_, rfl, _, rfl, x, _, dx, _, _, rfl, s1 _ _ h1, cl, a5, rfl, p, 1, rfl, rfl, _, rfl, fr, sl, x, t, n, p, al, _, _, rfl, S1, ?_⟩
    refine ⟨_, rfl, .bl false, fr, sl, x, t, n, p, al, rfl, S1, hl, fun H2 d2 f2 hd2 S2 => ?_⟩
    have nDx : D ≠ x := ne_of l1 (s1 _ _ h1) (by intro z; cases z)
    have nDt : D ≠ t := fun e => by rw [← e] at h2; rw [h2] at hD0; cases hD0
    refine ⟨_, rfl, _, rfl, _, rfl, fr, sl, .bl false, x, t, n, p + 1, _, p + 1, d2, D, rfl, S2, List.mem_append_right _ (List.mem_singleton.mpr rfl), f2 _ _ nDx nDt l1, fun H3 s3 => ?_⟩
    refine ⟨_, rfl, fr, sl, .bl false, x, t, n, p + 1, _, rfl, S2.same s3, fun H4 b4 S4 => ?_⟩
    refine ⟨_, rfl, k1 H4 d2 (fun b o hb hb2 ho => b4 b o hb (s3 _ _ (f2 b o hb hb2 (s1 _ _ ho)))) ?_ S4⟩
    exact s1.free hd2
end
end My

set_option Elab.async false
set_option linter.all false
set_option maxRecDepth 100000
set_option maxHeartbeats 4000000
namespace My
open PySem L2
local macro_rules | `(tactic| walk_at "ds") => `(tactic| dsimp only [tSeq, tIfS, tTest, tB, tAnd, tOr, tNot, tAndV, tOrV, tNotV, tIf, tIsN, tNotN, tOp, tUn, tChain, rI, rI0, rU, tC, tCB, tCons, tNil, tAsg, gName, gSub, tRet, tRetN, tNext, tDrop, tLst, tTup, rIxL, rIxT, rSetL, tVar, tFld, tCall, tDGet, tDIn, tDNotIn, tNever, L2.start, List.map, List.replicate, List.length, List.append, List.cons_append, List.nil_append, List.set, Nat.sub])
local macro_rules | `(tactic| walk_at "hp") => `(tactic| first | assumption | exact upd_same | (refine Eq.trans (upd_ne (by first | assumption | (apply Ne.symm; assumption))) ?_; walk_at "hp"))
local macro_rules | `(tactic| walk_at "sd") => `(tactic| first
  | (show (_ : Int) ≠ 0; omega)
  | (refine (show CDivN _ _ from ⟨?_, ?_⟩) <;> omega)
  | (show CPow _ _; refine ⟨by omega, by omega, by omega⟩)
  | (show CMul _ _; exact Or.inl ⟨by omega, by omega⟩)
  | (show CMul _ _; exact Or.inr ⟨by omega, by omega⟩))
local macro_rules | `(tactic| walk_at "st") => `(tactic| first
  | refine ⟨_, rfl, ?_⟩
  | refine ⟨_, _, rfl, rfl, (by walk_at "sd"), ?_⟩
  | refine ⟨_, _, rfl, rfl, ?_⟩
  | refine ⟨_, _, _, _, rfl, rfl, SqL.of (by walk_at "hp"), rfl, ?_⟩
  | refine ⟨_, _, _, _, rfl, rfl, (by walk_at "hp"), rfl, ?_⟩
  | refine .inl ⟨_, rfl, ?_⟩
  | refine ⟨_, _, _, _, _, rfl, (by walk_at "hp"), (by assumption), (by assumption), rfl, ?_⟩
  | refine ⟨_, _, rfl, .inl (SqL.of (by walk_at "hp")), ?_⟩)
local macro_rules | `(tactic| walk_at "go") => `(tactic| repeat (first | walk_at "st" | (walk_at "ds"; walk_at "st")))

/-! ### System(..) -/
def okP (hi lo : Int) (v : V) : Bool := decide (v = .non) || inR lo hi v
def badP (fr sl st : V) : Option Str :=
  if okP 64 1 fr = false then some "frames" else if okP 256 0 sl = false then some "slots" else if isB st = false ∨ (st = .bl true ∧ (fr = .non ∨ sl = .non)) then some "strict" else none
section
variable {P : Program} {w : World} {K : PySem.W.Frag} {mg : Str → Option Value} {base : Heap} {A : Adr}
/-- self.f = e, the new fields written out -/
theorem sf_val {C x dx : Addr} {fs fs' : List (Str × V)} {H : Hp} {D : Ends} {σ : St} {f : Str} {y : V} {te : TE} (hte : ∀ Q : VK, Q y H → te σ H Q) (cl : Cls K C) (na : NoAttr K C f) (h0 : σ[0]? = some (some (.ref x)))
    (hx : H x = some (.ins C dx fs)) (hl : fs.length < 1000) (he : putF f y fs = fs') (k : ∀ H', But x H H' → (∀ b, b ≠ x → H' b = H b) → H' x = some (.ins C dx fs') → D.nx σ H') : sFld K (tVar 0) te f D σ H :=
  hte _ ⟨_, h0, x, C, dx, fs, rfl, hx, cl, na, hl, k _ But.up (fun b hb => upd_ne hb) (by rw [he, upd_same])⟩
theorem sf_dict {C x dx : Addr} {fs : List (Str × V)} {fs' : Addr → List (Str × V)} {H : Hp} {D : Ends} {σ : St} {f : Str} (cl : Cls K C) (na : NoAttr K C f) (h0 : σ[0]? = some (some (.ref x)))
    (hx : H x = some (.ins C dx fs)) (hl : fs.length < 1000) (he : ∀ q, putF f (.ref q) fs = fs' q) (k : ∀ q H', H q = none → But x H H' → H' q = some (.dK []) → H' x = some (.ins C dx (fs' q)) → D.nx σ H') : sFld K (tVar 0) tDNewK f D σ H := by
  intro q hq
  have nq : x ≠ q := ne_of_none hx hq
  refine ⟨_, h0, x, C, dx, fs, rfl, (by rw [upd_ne nq]; exact hx), cl, na, hl, k q _ hq (fun b o hb ho => ?_) ?_ (by rw [he, upd_same])⟩
  · rw [upd_ne hb, upd_ne (ne_of_none ho hq)]
    exact ho
  · rw [upd_ne (Ne.symm nq), upd_same]
theorem sf_list {C x dx : Addr} {fs : List (Str × V)} {fs' : Addr → List (Str × V)} {H : Hp} {D : Ends} {σ : St} {f : Str} (cl : Cls K C) (na : NoAttr K C f) (h0 : σ[0]? = some (some (.ref x)))
    (hx : H x = some (.ins C dx fs)) (hl : fs.length < 1000) (he : ∀ q, putF f (.ref q) fs = fs' q) (k : ∀ q H', H q = none → But x H H' → H' x = some (.ins C dx (fs' q)) → D.nx σ H') : sFld K (tVar 0) (tLst tNil) f D σ H := by
  refine ⟨Nat.zero_le _, fun q hq => ?_⟩
  have nq : x ≠ q := ne_of_none hx hq
  refine ⟨_, h0, x, C, dx, fs, rfl, (by rw [upd_ne nq]; exact hx), cl, na, hl, k q _ hq (fun b o hb ho => ?_) (by rw [he, upd_same])⟩
  rw [upd_ne hb, upd_ne (ne_of_none ho hq)]
  exact ho
theorem if_raise {c : TT} {t : TS} {D : Ends} {σ : St} {H : Hp} (b : Bool) (hc : ∀ Q : Bool → Hp → Prop, Q b H → c σ H Q) (h1 : b = true → t D σ H) (h2 : b = false → D.nx σ H) : tIfS c t tNext D σ H :=
  hc _ (by
    cases b with
    | true => exact iteT (h1 rfl)
    | false => exact iteF (h2 rfl))
def spInit (A : Adr) : Sp := fun vs H Q E => ∃ (x dx : Addr) (fr sl st : V), vs = [.ref x, fr, sl, st] ∧ AnyV H fr ∧ AnyV H sl ∧ AnyV H st ∧ H x = some (.ins A.c_System dx []) ∧
  (badP fr sl st = none → ∀ H' t, (∀ b o, b ≠ x → H b = some o → H' b = some o) → H t = none → SysAt A.c_System fr sl st H' x t 0 0 [] → Q .non H') ∧
  ∀ pt, badP fr sl st = some pt → ∀ d H', Same H H' → H d = none → H' d = some (.xd [("part", .str pt)]) → E (.ref A.c_NoSystem) (some d) H'
theorem ok_System_init (G : Txt K mg A) : FnOk P w K mg base (L2.CX P w) 3 A.a_System_init A.fd_System_init p_System_init (spInit A) := by
  refine G.f_System_init.ok sc_System_init (fun vs H Q E h => ?_) (fun cdv A' outer s H vs Q E hr h => ?_)
  · obtain ⟨x, dx, fr, sl, st, rfl, _⟩ := h
    rfl
  · obtain ⟨x, dx, fr, sl, st, rfl, hf, hs, ht, hx, k1, k2⟩ := h
    obtain ⟨cl, a1, a2, a3, a4, a5, a6, a7, a8, a9, a10, a11, a12⟩ := G.sysN
    refine ⟨_, (pss_cons (ps_if (PW.pt (pw_and (pt_cmpR op_notN (pv 1) pe_non (nomark _)) (pw_and1 (pt_not (pt_val (pe_call (ok_is_integer G) (hr.mono (by decide)) rfl G.g_is_integer G.k_is_integer G.bi_is_integer .nil pass0 (pa_cons (pv 1) (pa_cons pe_int (pa_cons pe_int pa_nil))))))))) (pss_one (ps_raise rfl (takes_of rfl rfl rfl rfl) (pmk_oex G.x_NoSystem G.xi_NoSystem G.xt_NoSystem (ok_NoSystem_init G) (hr.mono (by decide)) G.bi_NoSystem_init .nil pass0 rfl G.g_NoSystem (pa_cons pe_str pa_nil)))) pss_nil)
  (pss_cons (ps_if (PW.pt (pw_and (pt_cmpR op_notN (pv 2) pe_non (nomark _)) (pw_and1 (pt_not (pt_val (pe_call (ok_is_integer G) (hr.mono (by decide)) rfl G.g_is_integer G.k_is_integer G.bi_is_integer .nil pass0 (pa_cons (pv 2) (pa_cons pe_int (pa_cons pe_int pa_nil))))))))) (pss_one (ps_raise rfl (takes_of rfl rfl rfl rfl) (pmk_oex G.x_NoSystem G.xi_NoSystem G.xt_NoSystem (ok_NoSystem_init G) (hr.mono (by decide)) G.bi_NoSystem_init .nil pass0 rfl G.g_NoSystem (pa_cons pe_str pa_nil)))) pss_nil)
  (pss_cons (ps_if (PW.pt (pw_or (pt_not (pt_val (pe_callB call_isi (by rfl) G.b_isinstance (by decide +kernel) (pa_cons (pv 3) (pa_cons (pe_bltn (v := .ty "bool") (u := .type "bool") (by rfl) G.b_bool (by decide +kernel) rfl) pa_nil))))) (pw_or1 (PW.pt (pw_and (pt_val (pv 3)) (pw_and1 (PW.pt (pw_or (pt_cmpR op_isN (pv 1) pe_non (nomark _)) (pw_or1 (pt_cmpR op_isN (pv 2) pe_non (nomark _))))))))))) (pss_one (ps_raise rfl (takes_of rfl rfl rfl rfl) (pmk_oex G.x_NoSystem G.xi_NoSystem G.xt_NoSystem (ok_NoSystem_init G) (hr.mono (by decide)) G.bi_NoSystem_init .nil pass0 rfl G.g_NoSystem (pa_cons pe_str pa_nil)))) pss_nil)
  (pss_cons (ps_fld (pv 0) (pv 1) rfl)
  (pss_cons (ps_fld (pv 0) (pv 2) rfl)
  (pss_cons (ps_fld (pv 0) (pv 3) rfl)
  (pss_cons (ps_fld (pv 0) pe_int rfl)
  (pss_cons (ps_fld (pv 0) pe_int rfl)
  (pss_cons (ps_fld (pv 0) pe_int rfl)
  (pss_cons (ps_fld (pv 0) pe_dnewK rfl)
  (pss_cons (ps_fld (pv 0) pe_dnewK rfl)
  (pss_cons (ps_fld (pv 0) pe_dnewK rfl)
  (pss_cons (ps_fld (pv 0) pe_dnewK rfl)
  (pss_cons (ps_fld (pv 0) pe_dnewK rfl)
  (pss_one (ps_fld (pv 0) (pe_lst pa_nil) rfl)))))))))))))))), ?_⟩
    have fin : ∀ pt : Str, badP fr sl st = some pt → tMkO A.c_NoSystem (spXi K "part") [] (tCons (tC (.str pt)) tNil) (L2.start n_System_init [V.ref x, fr, sl, st]) H (fun cls d H' => E cls d H') := fun pt hp =>
      ⟨(by show 1 ≤ 1000; decide), fun a ha => xi_done G.x_NoSystem G.xn_NoSystem ha fun d H' s0 d0 e0 => k2 pt hp d H' s0 d0 e0⟩
    refine if_raise (!(okP 64 1 fr)) (fun Q q => ?_) (fun e => ?_) (fun e => ?_)
    · refine ⟨_, rfl, rfl, _, rfl, ?_⟩
      by_cases c : fr = .non
      · rw [decide_eq_true c]
        refine iteF ?_
        have z : okP 64 1 fr = true := by unfold okP; rw [decide_eq_true c]; rfl
        rw [z] at q
        exact q
      · rw [decide_eq_false c]
        refine iteT ⟨_, rfl, fr, 1, 64, rfl, hf, _, rfl, ?_⟩
        have z : okP 64 1 fr = inR 1 64 fr := by unfold okP; rw [decide_eq_false c]; rfl
        rw [z] at q
        exact q
    · exact fin _ (if_pos (by simpa using e))
    have eF : ¬ (okP 64 1 fr = false) := by simpa using e
    dsimp only
    refine if_raise (!(okP 256 0 sl)) (fun Q q => ?_) (fun e => ?_) (fun e => ?_)
    · refine ⟨_, rfl, rfl, _, rfl, ?_⟩
      by_cases c : sl = .non
      · rw [decide_eq_true c]
        refine iteF ?_
        have z : okP 256 0 sl = true := by unfold okP; rw [decide_eq_true c]; rfl
        rw [z] at q
        exact q
      · rw [decide_eq_false c]
        refine iteT ⟨_, rfl, sl, 0, 256, rfl, hs, _, rfl, ?_⟩
        have z : okP 256 0 sl = inR 0 256 sl := by unfold okP; rw [decide_eq_false c]; rfl
        rw [z] at q
        exact q
    · exact fin _ ((if_neg eF).trans (if_pos (by simpa using e)))
    have eS : ¬ (okP 256 0 sl = false) := by simpa using e
    obtain ⟨ty, q1, q2, q3⟩ := ht.ty (K := K)
    dsimp only
    refine if_raise (decide (isB st = false ∨ (st = .bl true ∧ (fr = .non ∨ sl = .non)))) (fun Q q => ?_) (fun e => ?_) (fun e => ?_)
    · refine ⟨_, rfl, st, .ty "bool", _, _, _, rfl, .ty "bool", q1, q3, _, rfl, ?_⟩
      cases cb : isB st with
      | false =>
        refine iteT ?_
        have z : decide (isB st = false ∨ (st = .bl true ∧ (fr = .non ∨ sl = .non))) = true := decide_eq_true (.inl cb)
        rw [z] at q
        exact q
      | true =>
        refine iteF ?_
        obtain ⟨k, rfl⟩ : ∃ k, st = V.bl k := by cases st <;> first | exact ⟨_, rfl⟩ | (cases cb; done)
        refine ⟨_, rfl, _, rfl, ?_⟩
        cases k with
        | false =>
          refine iteF ?_
          have z : decide (isB (.bl false) = false ∨ (V.bl false = .bl true ∧ (fr = .non ∨ sl = .non))) = false := decide_eq_false (by simp [isB])
          rw [z] at q
          exact q
        | true =>
          refine iteT ⟨_, rfl, rfl, _, rfl, ?_⟩
          by_cases c : fr = .non
          · rw [decide_eq_true c]
            refine iteT ?_
            have z : decide (isB (.bl true) = false ∨ (V.bl true = .bl true ∧ (fr = .non ∨ sl = .non))) = true := decide_eq_true (by simp [c])
            rw [z] at q
            exact q
          · rw [decide_eq_false c]
            refine iteF ⟨_, rfl, rfl, _, rfl, ?_⟩
            have z : decide (isB (.bl true) = false ∨ (V.bl true = .bl true ∧ (fr = .non ∨ sl = .non))) = decide (sl = .non) := by simp [isB, c]
            rw [z] at q
            exact q
    · exact fin _ ((if_neg eF).trans ((if_neg eS).trans (if_pos (of_decide_eq_true e))))
    have eT := of_decide_eq_false e
    have bad0 : badP fr sl st = none := (if_neg eF).trans ((if_neg eS).trans (if_neg eT))
    have k1 := k1 bad0
    have v1 : ∀ {j : Nat} {v : V} {H : Hp}, (L2.start n_System_init [V.ref x, fr, sl, st])[j]? = some (some v) → ∀ Q : VK, Q v H → tVar j (L2.start n_System_init [V.ref x, fr, sl, st]) H Q := fun h Q q => ⟨_, h, q⟩
    dsimp only
    refine sf_val (fs := []) (fs' := [("frames", fr)]) (v1 (j := 1) rfl) cl a1 rfl hx (by show 0 < 1000; decide) rfl (fun H1 b1 n1 e1 => ?_)
    dsimp only
    refine sf_val (fs := [("frames", fr)]) (fs' := [("frames", fr), ("slots", sl)]) (v1 (j := 2) rfl) cl a2 rfl e1 (by show 1 < 1000; decide) rfl (fun H2 b2 n2 e2 => ?_)
    dsimp only
    refine sf_val (fs := [("frames", fr), ("slots", sl)]) (fs' := [("frames", fr), ("slots", sl), ("strict", st)]) (v1 (j := 3) rfl) cl a3 rfl e2 (by show 2 < 1000; decide) rfl (fun H3 b3 n3 e3 => ?_)
    dsimp only
    refine sf_val (fs := [("frames", fr), ("slots", sl), ("strict", st)]) (fs' := [("frames", fr), ("slots", sl), ("strict", st), ("steps_made", .int 0)]) (fun Q q => q) cl a4 rfl e3 (by show 3 < 1000; decide) rfl (fun H4 b4 n4 e4 => ?_)
    dsimp only
    refine sf_val (fs := [("frames", fr), ("slots", sl), ("strict", st), ("steps_made", .int 0)]) (fs' := [("frames", fr), ("slots", sl), ("strict", st), ("steps_made", .int 0), ("processes_made", .int 0)]) (fun Q q => q) cl a5 rfl e4 (by show 4 < 1000; decide) rfl (fun H5 b5 n5 e5 => ?_)
    dsimp only
    refine sf_val (fs := [("frames", fr), ("slots", sl), ("strict", st), ("steps_made", .int 0), ("processes_made", .int 0)]) (fs' := [("frames", fr), ("slots", sl), ("strict", st), ("steps_made", .int 0), ("processes_made", .int 0), ("objects_made", .int 0)]) (fun Q q => q) cl a6 rfl e5 (by show 5 < 1000; decide) rfl (fun H6 b6 n6 e6 => ?_)
    dsimp only
    refine sf_dict (fs := [("frames", fr), ("slots", sl), ("strict", st), ("steps_made", .int 0), ("processes_made", .int 0), ("objects_made", .int 0)]) (fs' := fun q6 => [("frames", fr), ("slots", sl), ("strict", st), ("steps_made", .int 0), ("processes_made", .int 0), ("objects_made", .int 0), ("tables", .ref q6)]) cl a7 rfl e6 (by show 6 < 1000; decide) (fun _ => rfl) (fun q6 H7 z7 b7 d7 e7 => ?_)
    dsimp only
    refine sf_dict (fs := [("frames", fr), ("slots", sl), ("strict", st), ("steps_made", .int 0), ("processes_made", .int 0), ("objects_made", .int 0), ("tables", .ref q6)]) (fs' := fun q7 => [("frames", fr), ("slots", sl), ("strict", st), ("steps_made", .int 0), ("processes_made", .int 0), ("objects_made", .int 0), ("tables", .ref q6), ("objects", .ref q7)]) cl a8 rfl e7 (by show 7 < 1000; decide) (fun _ => rfl) (fun q7 H8 z8 b8 d8 e8 => ?_)
    dsimp only
    refine sf_dict (fs := [("frames", fr), ("slots", sl), ("strict", st), ("steps_made", .int 0), ("processes_made", .int 0), ("objects_made", .int 0), ("tables", .ref q6), ("objects", .ref q7)]) (fs' := fun q8 => [("frames", fr), ("slots", sl), ("strict", st), ("steps_made", .int 0), ("processes_made", .int 0), ("objects_made", .int 0), ("tables", .ref q6), ("objects", .ref q7), ("object_pages", .ref q8)]) cl a9 rfl e8 (by show 8 < 1000; decide) (fun _ => rfl) (fun q8 H9 z9 b9 d9 e9 => ?_)
    dsimp only
    refine sf_dict (fs := [("frames", fr), ("slots", sl), ("strict", st), ("steps_made", .int 0), ("processes_made", .int 0), ("objects_made", .int 0), ("tables", .ref q6), ("objects", .ref q7), ("object_pages", .ref q8)]) (fs' := fun q9 => [("frames", fr), ("slots", sl), ("strict", st), ("steps_made", .int 0), ("processes_made", .int 0), ("objects_made", .int 0), ("tables", .ref q6), ("objects", .ref q7), ("object_pages", .ref q8), ("files", .ref q9)]) cl a10 rfl e9 (by show 9 < 1000; decide) (fun _ => rfl) (fun q9 H10 z10 b10 d10 e10 => ?_)
    dsimp only
    refine sf_dict (fs := [("frames", fr), ("slots", sl), ("strict", st), ("steps_made", .int 0), ("processes_made", .int 0), ("objects_made", .int 0), ("tables", .ref q6), ("objects", .ref q7), ("object_pages", .ref q8), ("files", .ref q9)]) (fs' := fun q10 => [("frames", fr), ("slots", sl), ("strict", st), ("steps_made", .int 0), ("processes_made", .int 0), ("objects_made", .int 0), ("tables", .ref q6), ("objects", .ref q7), ("object_pages", .ref q8), ("files", .ref q9), ("classes", .ref q10)]) cl a11 rfl e10 (by show 10 < 1000; decide) (fun _ => rfl) (fun q10 H11 z11 b11 d11 e11 => ?_)
    dsimp only
    refine sf_list (fs := [("frames", fr), ("slots", sl), ("strict", st), ("steps_made", .int 0), ("processes_made", .int 0), ("objects_made", .int 0), ("tables", .ref q6), ("objects", .ref q7), ("object_pages", .ref q8), ("files", .ref q9), ("classes", .ref q10)]) (fs' := fun q11 => [("frames", fr), ("slots", sl), ("strict", st), ("steps_made", .int 0), ("processes_made", .int 0), ("objects_made", .int 0), ("tables", .ref q6), ("objects", .ref q7), ("object_pages", .ref q8), ("files", .ref q9), ("classes", .ref q10), ("touches", .ref q11)]) cl a12 rfl e11 (by show 11 < 1000; decide) (fun _ => rfl) (fun q11 H12 z12 b12 e12 => ?_)
    have t0 : H q6 = none := by
      have m6 : q6 ≠ x := (ne_of_none e6 z7).symm
      rw [← n1 _ m6, ← n2 _ m6, ← n3 _ m6, ← n4 _ m6, ← n5 _ m6, ← n6 _ m6]
      exact z7
    have m6 : q6 ≠ x := (ne_of_none e6 z7).symm
    have bb := b1.trans (b2.trans (b3.trans (b4.trans (b5.trans (b6.trans (b7.trans (b8.trans (b9.trans (b10.trans (b11.trans b12))))))))))
    exact k1 H12 q6 bb t0 ⟨⟨dx, q7, q8, q9, q10, q11, e12⟩, (b8.trans (b9.trans (b10.trans (b11.trans b12)))) _ _ m6 d7, fun q hq => (nomatch hq), .nil, fun q hq => (nomatch hq), Int.le_refl _, Nat.zero_le _⟩
/-! ### the law's helpers -/
def spWell : Sp := fun vs H Q _ => ∃ n : Int, vs = [.int n] ∧ ∀ (a : Addr) (H' : Hp), H a = none → Same H H' → WellAt H' a 0 → Q (.ref a) H'
theorem ok__law_well (G : Txt K mg A) : FnOk P w K mg base CX0 1 A.a__law_well A.fd__law_well p__law_well spWell := by
  refine G.f__law_well.ok sc__law_well (fun vs H Q E h => ?_) (fun cdv A' outer s H vs Q E hr h => ?_)
  · obtain ⟨n, rfl, _⟩ := h
    rfl
  · obtain ⟨n, rfl, k⟩ := h
    refine ⟨_, (pss_one (ps_ret (pe_lst (pa_cons (pe_op op_mul (pv 0) (pe_callTy call_int1 (by rfl) G.b_int (by decide +kernel) (pa_cons (pe_cmpR op_ge (pv 0) (pe_op op_pow pe_int pe_int) (nomark _)) pa_nil))) (pa_cons (pe_op op_modN (pe_callTy call_int1 (by rfl) G.b_int (by decide +kernel) (pa_cons (pv 0) pa_nil)) pe_int) (pa_cons pe_int pa_nil)))))), ?_⟩
    walk_at "go"
    walk_at "ds"
    refine .inr ⟨_, rfl, n, _, rfl, rfl, Or.inr (by split <;> decide), _, rfl, .inl ⟨_, rfl, _, _, rfl, rfl, by decide, by decide, fun p hp => ?_⟩⟩
    refine k p _ hp (Same.new hp) ⟨_, _, _, upd_same, ?_, (fm (by decide)).1, (fm (by decide)).2, Int.le_refl _, Int.le_refl _, by decide⟩
    by_cases c : (10 : Int) ^ Int.toNat 18 ≤ n
    · rw [decide_eq_true c, if_pos rfl, Int.mul_one]
      exact Int.le_trans (by decide) c
    · rw [decide_eq_false c, if_neg Bool.false_ne_true, Int.mul_zero]
      exact Int.le_refl _
theorem ok__law_is_number (G : Txt K mg A) : FnOk P w K mg base CX0 1 A.a__law_is_number A.fd__law_is_number p__law_is_number spIn := by
  refine G.f__law_is_number.ok sc__law_is_number (fun vs H Q E h => ?_) (fun cdv A' outer s H vs Q E hr h => ?_)
  · obtain ⟨v, lo, hi, rfl, _⟩ := h
    rfl
  · obtain ⟨v, lo, hi, rfl, hv, k⟩ := h
    refine ⟨_, (pss_one (ps_ret (pe_and (pe_callB call_isi (by rfl) G.b_isinstance (by decide +kernel) (pa_cons (pv 0) (pa_cons (pe_bltn (v := .ty "int") (u := .type "int") (by rfl) G.b_int (by decide +kernel) rfl) pa_nil))) (pe_and (pe_not (pe_callB call_isi (by rfl) G.b_isinstance (by decide +kernel) (pa_cons (pv 0) (pa_cons (pe_bltn (v := .ty "bool") (u := .type "bool") (by rfl) G.b_bool (by decide +kernel) rfl) pa_nil)))) (pe_one (pe_chain op_le op_le (pv 1) (pv 0) (pv 2))))))), ?_⟩
    obtain ⟨t, h1, h2, h3⟩ := hv.ty (K := K)
    walk_at "go"
    walk_at "ds"
    refine ⟨v, .ty "int", .type t, .type "int", _, rfl, .ty "int", h1, h2, _, rfl, ?_⟩
    cases e : isI v with
    | false =>
      refine iteF ?_
      have q : inR lo hi v = false := by cases v <;> first | rfl | cases e
      rw [q] at k
      exact k
    | true =>
      refine iteT ⟨_, rfl, v, .ty "bool", .type t, .type "bool", _, rfl, .ty "bool", h1, h3, _, rfl, _, rfl, ?_⟩
      cases e2 : isB v with
      | true =>
        refine iteF ?_
        have q : inR lo hi v = false := by cases v <;> first | rfl | cases e2
        rw [q] at k
        exact k
      | false =>
        refine iteT ?_
        obtain ⟨i, rfl⟩ : ∃ i, v = V.int i := by cases v <;> first | exact ⟨_, rfl⟩ | (cases e; done) | (cases e2; done)
        refine ⟨_, rfl, _, rfl, _, _, rfl, rfl, _, rfl, ?_⟩
        refine iteD (fun c => ?_) (fun c => ?_)
        · refine ⟨_, rfl, _, _, rfl, rfl, ?_⟩
          have q : inR lo hi (V.int i) = decide (i ≤ hi) := by
            show decide (lo ≤ i ∧ i ≤ hi) = _
            simp [c]
          rw [q] at k
          exact k
        · have q : inR lo hi (V.int i) = false := by
            show decide (lo ≤ i ∧ i ≤ hi) = _
            simp [c]
          rw [q] at k
          exact k
end
/-! ### what is said: a lambda that is asked, its error told as a tuple -/
theorem takes_len {X : Cx} {W : WX} (tk : Takes X W) : Takes X (fun c d σ H => σ.length = X.N.length → W c d σ H) := fun u s' air => by
  obtain ⟨a, B, sI, pins, σ, H, cls, d, e, I, nb, up, sky, na, os, ag, w⟩ := air
  exact tk u s' ⟨a, B, sI, pins, σ, H, cls, d, e, I, nb, up, sky, na, os, ag, w I.len⟩
/-- how an error of one field is told -/
def ToldBy (C : Addr) (f tag : Str) (Q : VK) (cls : Value) (d : Option Addr) (H : Hp) : Prop :=
  cls = .ref C ∧ ∃ (dd : Addr) (y : V), d = some dd ∧ H dd = some (.xd [(f, y)]) ∧ ∀ p, H p = none → Q (.ref p) (upd H p (.tup [.str tag, y]))
def TTs (A : Adr) : (XK → Hp → VK → Prop) → Hp → VK → Prop := fun tl H Q =>
  tl (fun cls d H' => ToldBy A.c_NoSystem "part" "system" Q cls d H' ∨ ToldBy A.c_NoProcess "process" "process" Q cls d H') H Q
section
variable {X : Cx} {A : Adr}
theorem said_gives {q : Str} {cdg : Value} (G : Txt X.K X.mg A) : LamX.GivesTo X n__law_said "_law_said" (defScope s__law_said) A.a__law_said cdg (defBody s__law_said) "ask" q (TTs A) := by
  intro f c' s H Q tl act hc h
  let Y : Cx := (cxOf C8.CX0 X.prog X.w X.K X.mg X.base n__law_said "_law_said" (defScope s__law_said) A.a__law_said cdg X.A X.stack s H C8.E0).nox
  refine ⟨_, pss_one (ps_try_cls (X := Y) (l := [(.ref A.c_NoSystem, some 1, fun a cls d => tRet (tTup (tCons (tC (.str "system")) (tCons (tXf a cls d A.c_NoSystem "part" (tVar 1)) tNil)))),
        (.ref A.c_NoProcess, some 1, fun a cls d => tRet (tTup (tCons (tC (.str "process")) (tCons (tXf a cls d A.c_NoProcess "process" (tVar 1)) tNil)))),
        (.ref A.c_PageError, none, fun _ _ _ => tRet (tTup (tCons (tC (.str "other")) (tCons (tC .non) tNil))))])
      (tb := fun W D σ H => ∃ Ech : XK, (∀ cls d σ' H', Ech cls d H' → σ'.length = n__law_said.length → W cls d σ' H') ∧ σ[0]? = some (some (.ref f)) ∧ H c' = some (LamX.CodeO c' q) ∧ tl Ech H D.rt)
      rfl rfl sc__law_said.nd takes0 (fun W pn xe tk _ => ?_)
      (.named ⟨rfl, by decide, .inl G.g_NoSystem⟩ rfl rfl (fun a oe cls d pn hz hf => pss_one (ps_ret (pe_tup (pa_cons pe_str (pa_cons (pe_xf G.xf_NoSystem G.xn_NoSystem hz hf (pv 1)) pa_nil)))))
      (.named ⟨rfl, by decide, .inl G.g_NoProcess⟩ rfl rfl (fun a oe cls d pn hz hf => pss_one (ps_ret (pe_tup (pa_cons pe_str (pa_cons (pe_xf G.xf_NoProcess G.xn_NoProcess hz hf (pv 1)) pa_nil)))))
      (.bare ⟨rfl, by decide, .inl G.g_PageError⟩ (fun a oe cls d pn hz hf => pss_one (ps_ret (pe_tup (pa_cons pe_str (pa_cons pe_non pa_nil))))) .nil)))), ?_⟩
  · refine ⟨fun pins s' σ H' D I h' => ?_⟩
    obtain ⟨Ech, hW, h1, h2, h3⟩ := h'
    exact (pss_one (ps_ret (act (fun c d σ H => σ.length = n__law_said.length → W c d σ H) pn xe Ech _ _ (takes_len tk) hW))).run pins s' σ H' D I ⟨h1, h2, h3⟩
  · refine ⟨_, fun cls d σ' H' hE hl => ?_, rfl, hc, h⟩
    have hl2 : 1 < σ'.length := by rw [hl]; decide
    rcases hE with ⟨rfl, dd, y, rfl, hd, k⟩ | ⟨rfl, dd, y, rfl, hd, k⟩
    · refine ⟨true, G.e_NoSystem_NoSystem, fun _ a ha => ?_, fun z => (nomatch z)⟩
      refine ⟨.ref a, List.getElem?_set_self hl2, rfl, rfl, dd, _, y, rfl, hd, ?_, (by show 2 ≤ sizeLine; decide), fun p hp => k p hp⟩
      simp [List.lookup]
    · refine ⟨false, G.e_NoProcess_NoSystem, fun z => (nomatch z), fun _ => ⟨true, G.e_NoProcess_NoProcess, fun _ a ha => ?_, fun z => (nomatch z)⟩⟩
      refine ⟨.ref a, List.getElem?_set_self hl2, rfl, rfl, dd, _, y, rfl, hd, ?_, (by show 2 ≤ sizeLine; decide), fun p hp => k p hp⟩
      simp [List.lookup]
end
end My

set_option Elab.async false
set_option linter.all false
set_option maxRecDepth 100000
set_option maxHeartbeats 4000000
namespace My
open PySem L2
local macro_rules | `(tactic| walk_at "ds") => `(tactic| dsimp only [tSeq, tIfS, tTest, tB, tAnd, tOr, tNot, tAndV, tOrV, tNotV, tIf, tIsN, tNotN, tOp, tUn, tChain, rI, rI0, rU, tC, tCB, tCons, tNil, tAsg, gName, gSub, tRet, tRetN, tNext, tDrop, tLst, tTup, rIxL, rIxT, rSetL, tVar, tFld, tCall, tDGet, tDIn, tDNotIn, tNever, L2.start, List.map, List.replicate, List.length, List.append, List.cons_append, List.nil_append, List.set, Nat.sub])
local macro_rules | `(tactic| walk_at "hp") => `(tactic| first | assumption | exact upd_same | (refine Eq.trans (upd_ne (by first | assumption | (apply Ne.symm; assumption))) ?_; walk_at "hp"))
local macro_rules | `(tactic| walk_at "sd") => `(tactic| first
  | (show (_ : Int) ≠ 0; omega)
  | (refine (show CDivN _ _ from ⟨?_, ?_⟩) <;> omega)
  | (show CPow _ _; refine ⟨by omega, by omega, by omega⟩)
  | (show CMul _ _; exact Or.inl ⟨by omega, by omega⟩)
  | (show CMul _ _; exact Or.inr ⟨by omega, by omega⟩))
local macro_rules | `(tactic| walk_at "st") => `(tactic| first
  | refine ⟨_, rfl, ?_⟩
  | refine ⟨_, _, rfl, rfl, (by walk_at "sd"), ?_⟩
  | refine ⟨_, _, rfl, rfl, ?_⟩
  | refine ⟨_, _, _, _, rfl, rfl, SqL.of (by walk_at "hp"), rfl, ?_⟩
  | refine ⟨_, _, _, _, rfl, rfl, (by walk_at "hp"), rfl, ?_⟩
  | refine .inl ⟨_, rfl, ?_⟩
  | refine ⟨_, _, _, _, _, rfl, (by walk_at "hp"), (by assumption), (by assumption), rfl, ?_⟩
  | refine ⟨_, _, rfl, .inl (SqL.of (by walk_at "hp")), ?_⟩)
local macro_rules | `(tactic| walk_at "go") => `(tactic| repeat (first | walk_at "st" | (walk_at "ds"; walk_at "st")))

section
variable {P : Program} {w : World} {K : PySem.W.Frag} {mg : Str → Option Value} {base : Heap} {A : Adr}
theorem init_binds (G : Txt K mg A) : ∃ ds, Vals (kw_System_init.map (·.2)) ds ∧ L2.Binds K A.fd_System_init p_System_init ds := by
  refine G.f_System_init.binds0 1 (by decide) rfl fun D doc pm an cdv ct us ks h1 h2 => ?_
  match us, h1, ks, h2 with
  | [u], _, [a, b, c], _ =>
    exact ⟨_, _, _, _, _, _, rfl, rfl, _, _, _, _, _, _, rfl, rfl, _, _, _, _, _, _, rfl, rfl, rfl⟩
theorem init_kbinds (G : Txt K mg A) : ∃ mv : List Value, KBn K A.fd_System_init p_System_init 1 ["frames", "slots", "strict"] (fun us ws => us ++ ws) (fun vs zs => vs ++ zs) := by
  refine G.f_System_init.kbinds0 1 ["frames", "slots", "strict"] [] (fun us _ ws => us ++ ws) (by decide) (by simp) (fun r1 _ r2 => r1.append r2) fun D doc pm an cdv ct us mv ws h1 h2 h3 => ?_
  match us, h1, mv, h2, ws, h3 with
  | [u], _, [], _, [a, b, c], _ => rfl
end
/-! ### the tables of the two defs that make lambdas -/
def qL : Str := (PyProof.Rows.envOfC "law" (defScope s_law) 0 0 .none).qual ++ "<lambda>"
def qR : Str := (PyProof.Rows.envOfC "_law_system_right" (defScope s__law_system_right) 0 0 .none).qual ++ "<lambda>"
def TS (A : Adr) : List (Addr × Str) := [(A.ta_law, qL), (A.ta__law_system_right, qR)]
structure Tb (base : Heap) (mg : Str → Option Value) (A : Adr) : Prop where
  l : LamX.TabB base mg A.co_law A.ta_law
  r : LamX.TabB base mg A.co__law_system_right A.ta__law_system_right
  ne : A.ta_law ≠ A.ta__law_system_right
theorem TS_l {base : Heap} {mg : Str → Option Value} {A : Adr} (T : Tb base mg A) : ∀ p ∈ TS A, p.1 = A.ta_law → p.2 = qL := fun p hp e => by
  rcases List.mem_cons.mp hp with h | h
  · rw [h]
  · rw [List.mem_singleton.mp h] at e
    exact absurd e.symm T.ne
theorem TS_r {base : Heap} {mg : Str → Option Value} {A : Adr} (T : Tb base mg A) : ∀ p ∈ TS A, p.1 = A.ta__law_system_right → p.2 = qR := fun p hp e => by
  rcases List.mem_cons.mp hp with h | h
  · rw [h] at e
    exact absurd e T.ne
  · rw [List.mem_singleton.mp h]
theorem hu64 {A : Around} {k : Nat} (hr : Room k A) : A.units + 64 < cLine := by have := hr.un; omega
theorem hu0 {A : Around} {k : Nat} (hr : Room k A) : A.units < cLine := by have := hr.un; omega
/-! frames -/
def Frm (S : Addr → Prop) (H H' : Hp) : Prop := ∀ b o, ¬ S b → H b = some o → (∀ ps, o ≠ .tbl ps) → H' b = some o
theorem Frm.trans {S : Addr → Prop} {H H1 H2 : Hp} (x : Frm S H H1) (y : Frm S H1 H2) : Frm S H H2 := fun b o n e t => y b o n (x b o n e t) t
theorem Frm.same {S : Addr → Prop} {H H1 : Hp} (x : Same H H1) : Frm S H H1 := fun b o _ e _ => x b o e
theorem Frm.ext {S : Addr → Prop} {H H1 : Hp} (x : LamX.ExtN H H1) : Frm S H H1 := fun b o _ e t => x b o e t
theorem Frm.but {a : Addr} {H H1 : Hp} (x : But a H H1) : Frm (· = a) H H1 := fun b o n e _ => x b o n e
theorem tabs_same {T : List (Addr × Str)} {H H' : Hp} (t : LamX.Tabs T H) (h : Same H H') : LamX.Tabs T H' := t.ext h
theorem tabs_but {T : List (Addr × Str)} {H H' : Hp} {a : Addr} {xs : List V} (t : LamX.Tabs T H) (h : But a H H') (ha : H a = some (.lst xs)) : LamX.Tabs T H' :=
  Tabs.keep t fun b o e => ⟨fun u q => h b o (fun z => by rw [z, ha, q] at e; cases e) e, fun ps q => h b o (fun z => by rw [z, ha, q] at e; cases e) e⟩
theorem WellAt.lst {H : Hp} {a : Addr} {B : Nat} (h : WellAt H a B) : ∃ xs, H a = some (.lst xs) := by
  obtain ⟨w0, w1, w2, h1, _⟩ := h
  exact ⟨_, h1⟩
theorem AnyV.but {H H' : Hp} {v : V} {a : Addr} (h : AnyV H v) (n : v ≠ .ref a) (e : But a H H') : AnyV H' v := by
  cases h with
  | non => exact .non
  | bl b => exact .bl b
  | int i => exact .int i
  | str x => exact .str x
  | lst z => exact .lst (e _ _ (fun q => n (by rw [q])) z)
  | tup z => exact .tup (e _ _ (fun q => n (by rw [q])) z)
  | dK z => exact .dK (e _ _ (fun q => n (by rw [q])) z)
theorem AnyV.frm {H H' : Hp} {v : V} {a : Addr} (h : AnyV H v) (n : v ≠ .ref a) (e : Frm (· = a) H H') : AnyV H' v := by
  cases h with
  | non => exact .non
  | bl b => exact .bl b
  | int i => exact .int i
  | str x => exact .str x
  | lst z => exact .lst (e _ _ (fun q => n (by rw [q])) z (fun _ q => by cases q))
  | tup z => exact .tup (e _ _ (fun q => n (by rw [q])) z (fun _ q => by cases q))
  | dK z => exact .dK (e _ _ (fun q => n (by rw [q])) z (fun _ q => by cases q))
theorem AnyV.ext {H H' : Hp} {v : V} (h : AnyV H v) (e : LamX.ExtN H H') : AnyV H' v := by
  cases h with
  | non => exact .non
  | bl b => exact .bl b
  | int i => exact .int i
  | str x => exact .str x
  | lst z => exact .lst (e _ _ z (fun _ q => by cases q))
  | tup z => exact .tup (e _ _ z (fun _ q => by cases q))
  | dK z => exact .dK (e _ _ z (fun _ q => by cases q))
section
variable {P : Program} {w : World} {K : PySem.W.Frag} {mg : Str → Option Value} {base : Heap} {A : Adr}
theorem wnew {H : Hp} {a p : Addr} {B : Nat} {o : HO} (h : WellAt H a B) (hp : H p = none) : WellAt (upd H p o) a B := by
  obtain ⟨xs, hx⟩ := h.lst
  exact h.same (upd_ne (ne_of_none hx hp))
theorem wne {H : Hp} {a p : Addr} {B : Nat} (h : WellAt H a B) (hp : H p = none) : p ≠ a := by
  obtain ⟨xs, hx⟩ := h.lst
  exact (ne_of_none hx hp).symm
/-- the names of the invalid parameters, as the law collects them -/
def badV (fr sl st : V) : List V :=
  (if (!(okP 64 1 fr)) = true then [V.str "frames"] else []) ++ (if (!(okP 256 0 sl)) = true then [V.str "slots"] else []) ++ (if decide (isB st = false ∨ (st = .bl true ∧ (fr = .non ∨ sl = .non))) = true then [V.str "strict"] else [])
theorem badV_none {fr sl st : V} (h : badP fr sl st = none) : badV fr sl st = [] := by
  unfold badP at h
  unfold badV
  by_cases h1 : okP 64 1 fr = false
  · rw [if_pos h1] at h; cases h
  · rw [if_neg h1] at h
    by_cases h2 : okP 256 0 sl = false
    · rw [if_pos h2] at h; cases h
    · rw [if_neg h2] at h
      by_cases h3 : isB st = false ∨ (st = .bl true ∧ (fr = .non ∨ sl = .non))
      · rw [if_pos h3] at h; cases h
      · have e1 : okP 64 1 fr = true := by simpa using h1
        have e2 : okP 256 0 sl = true := by simpa using h2
        rw [e1, e2, decide_eq_false h3]
        rfl
theorem badV_some {fr sl st : V} {pt : Str} (h : badP fr sl st = some pt) : ∃ r, badV fr sl st = .str pt :: r ∧ r.length ≤ 2 ∧ PyData.strOk pt = true ∧ ∀ v ∈ r, ∃ z, v = .str z ∧ PyData.strOk z = true := by
  unfold badP at h
  unfold badV
  by_cases h1 : okP 64 1 fr = false
  · rw [if_pos h1] at h
    cases h
    rw [h1]
    refine ⟨_, rfl, ?_, by decide +kernel, ?_⟩
    · split <;> split <;> decide
    · intro v hv
      split at hv <;> split at hv <;> simp at hv
      · rcases hv with rfl | rfl <;> exact ⟨_, rfl, by decide +kernel⟩
      · exact ⟨_, hv, by decide +kernel⟩
      · exact ⟨_, hv, by decide +kernel⟩
  · have e1 : okP 64 1 fr = true := by simpa using h1
    rw [if_neg h1] at h
    rw [e1]
    by_cases h2 : okP 256 0 sl = false
    · rw [if_pos h2] at h
      cases h
      rw [h2]
      refine ⟨_, rfl, ?_, by decide +kernel, ?_⟩
      · split <;> decide
      · intro v hv
        split at hv <;> simp at hv
        exact ⟨_, hv, by decide +kernel⟩
    · have e2 : okP 256 0 sl = true := by simpa using h2
      rw [if_neg h2] at h
      rw [e2]
      by_cases h3 : isB st = false ∨ (st = .bl true ∧ (fr = .non ∨ sl = .non))
      · rw [if_pos h3] at h
        cases h
        rw [decide_eq_true h3]
        exact ⟨_, rfl, Nat.zero_le _, by decide +kernel, fun v hv => (nomatch hv)⟩
      · rw [if_neg h3] at h; cases h
theorem if_app {K : PySem.W.Frag} {c : TT} {D : Ends} {σ : St} {H : Hp} {i : Nat} {l : Addr} {xs : List V} {v : V} (b : Bool) (hi : σ[i]? = some (some (.ref l))) (hl : H l = some (.lst xs)) (hx : xs.length < 100)
    (hc : ∀ Q : Bool → Hp → Prop, Q b H → c σ H Q) (k : ∀ H', But l H H' → H' l = some (.lst (xs ++ if b = true then [v] else [])) → D.nx σ H') :
    tIfS c (tDrop (tBM K "list" rAppend (tVar i) (tCons (tC v) tNil))) tNext D σ H := by
  refine if_raise b hc (fun e => ?_) (fun e => ?_)
  · refine ⟨_, hi, .inl ⟨rfl, _, SqL.of hl⟩, l, xs, v, rfl, rfl, hl, Nat.lt_of_lt_of_le hx (by decide), k _ But.up ?_⟩
    rw [upd_same, if_pos e]
  · refine k H (fun _ _ _ q => q) ?_
    rw [if_neg (by rw [e]; decide), List.append_nil]
    exact hl
/-- the three tests -/
theorem test_ok {E : XK} {σ : St} {H : Hp} {i : Nat} {v : V} {lo hi : Int} (h0 : σ[i]? = some (some v)) (hv : AnyV H v) (Q : Bool → Hp → Prop) (q : Q (!(okP hi lo v)) H) :
    tAnd (tTest (tOp (fun x y H Q => y = V.non ∧ Q (V.bl !decide (x = V.non)) H) (tVar i) (tC V.non))) (tNot (tB (tCall spIn [] E (tCons (tVar i) (tCons (tC (.int lo)) (tCons (tC (.int hi)) tNil)))))) σ H Q := by
  refine ⟨_, h0, rfl, _, rfl, ?_⟩
  by_cases c : v = .non
  · rw [decide_eq_true c]
    refine iteF ?_
    have z : okP hi lo v = true := by unfold okP; rw [decide_eq_true c]; rfl
    rw [z] at q
    exact q
  · rw [decide_eq_false c]
    refine iteT ⟨_, h0, v, lo, hi, rfl, hv, _, rfl, ?_⟩
    have z : okP hi lo v = inR lo hi v := by unfold okP; rw [decide_eq_false c]; rfl
    rw [z] at q
    exact q
theorem test_st {K : PySem.W.Frag} {σ : St} {H : Hp} {i j k : Nat} {fr sl st : V} (h0 : σ[i]? = some (some st)) (h1 : σ[j]? = some (some fr)) (h2 : σ[k]? = some (some sl)) (ht : AnyV H st)
    (Q : Bool → Hp → Prop) (q : Q (decide (isB st = false ∨ (st = .bl true ∧ (fr = .non ∨ sl = .non)))) H) :
    tOr (tNot (tB (tCB (rIsi K) (tCons (tVar i) (tCons (tC (.ty "bool")) tNil))))) (tAnd (tB (tVar i)) (tOr (tTest (tOp (fun x y H Q => y = V.non ∧ Q (V.bl (decide (x = V.non))) H) (tVar j) (tC V.non))) (tTest (tOp (fun x y H Q => y = V.non ∧ Q (V.bl (decide (x = V.non))) H) (tVar k) (tC V.non))))) σ H Q := by
  obtain ⟨ty, q1, q2, q3⟩ := ht.ty (K := K)
  refine ⟨_, h0, st, .ty "bool", _, _, _, rfl, .ty "bool", q1, q3, _, rfl, ?_⟩
  cases cb : isB st with
  | false =>
    refine iteT ?_
    have z : decide (isB st = false ∨ (st = .bl true ∧ (fr = .non ∨ sl = .non))) = true := decide_eq_true (.inl cb)
    rw [z] at q
    exact q
  | true =>
    refine iteF ?_
    obtain ⟨b, rfl⟩ : ∃ b, st = V.bl b := by cases st <;> first | exact ⟨_, rfl⟩ | (cases cb; done)
    refine ⟨_, h0, _, rfl, ?_⟩
    cases b with
    | false =>
      refine iteF ?_
      have z : decide (isB (.bl false) = false ∨ (V.bl false = .bl true ∧ (fr = .non ∨ sl = .non))) = false := decide_eq_false (by simp [isB])
      rw [z] at q
      exact q
    | true =>
      refine iteT ⟨_, h1, rfl, _, rfl, ?_⟩
      by_cases c : fr = .non
      · rw [decide_eq_true c]
        refine iteT ?_
        have z : decide (isB (.bl true) = false ∨ (V.bl true = .bl true ∧ (fr = .non ∨ sl = .non))) = true := decide_eq_true (by simp [c])
        rw [z] at q
        exact q
      · rw [decide_eq_false c]
        refine iteF ⟨_, h2, rfl, _, rfl, ?_⟩
        have z : decide (isB (.bl true) = false ∨ (V.bl true = .bl true ∧ (fr = .non ∨ sl = .non))) = decide (sl = .non) := by simp [isB, c]
        rw [z] at q
        exact q
def spRight (A : Adr) : Sp := fun vs H Q _ => ∃ (a : Addr) (B : Nat), vs = [.ref a] ∧ WellAt H a B ∧ B + 20 ≤ 1000000000 ∧ LamX.Tabs (TS A) H ∧
  ∀ H', Frm (· = a) H H' → LamX.Tabs (TS A) H' → WellAt H' a (B + 5) → Q (.bl true) H'
theorem ok__law_system_right (G : Txt K mg A) (TB : Tb base mg A) : FnOk P w K mg base CX0 7 A.a__law_system_right A.fd__law_system_right p__law_system_right (spRight A) := by
  obtain ⟨mv, hKB⟩ := init_kbinds G
  obtain ⟨ocS, odS, kvS, docS, pmS, anS, cdS, ctS, oslS, hfd, lkS, hcS⟩ := G.f__law_said.ex
  have hbS := G.bi__law_said
  rw [hfd] at lkS hbS
  refine G.fl__law_system_right.ok sc__law_system_right (fun vs H Q E h => ?_) (fun A' outer s H vs Q E hr h => ?_)
  · obtain ⟨a, B, rfl, _⟩ := h
    rfl
  · obtain ⟨a, B, rfl, hw, hB, hT, k⟩ := h
    refine ⟨_, (pss_cons (ps_set (i := 1) sc__law_system_right.nd rfl (Or.inr rfl) (pe_call (ok__law_one G) (hr.mono (by decide)) rfl G.g__law_one G.k__law_one G.bi__law_one .nil pass0 (pa_cons (pv 0) (pa_cons (pe_lst (pa_cons pe_non (pa_cons pe_int (pa_cons pe_int (pa_cons pe_int (pa_cons pe_int (pa_cons (pe_un un_neg pe_int) (pa_cons pe_str (pa_cons (pe_cmpR op_eq pe_int pe_int (nomark _)) (pa_cons (pe_lst pa_nil) (pa_cons pe_dnewK (pa_cons (pe_op op_add pe_int (pe_call (ok__law_draw G) (hr.mono (by decide)) rfl G.g__law_draw G.k__law_draw G.bi__law_draw .nil pass0 (pa_cons (pv 0) (pa_cons pe_int pa_nil)))) pa_nil)))))))))))) pa_nil))))
  (pss_cons (ps_set (i := 2) sc__law_system_right.nd rfl (Or.inr rfl) (pe_call (ok__law_one G) (hr.mono (by decide)) rfl G.g__law_one G.k__law_one G.bi__law_one .nil pass0 (pa_cons (pv 0) (pa_cons (pe_lst (pa_cons pe_non (pa_cons pe_int (pa_cons pe_int (pa_cons pe_int (pa_cons (pe_un un_neg pe_int) (pa_cons pe_str (pa_cons (pe_cmpR op_eq pe_int pe_int (nomark _)) (pa_cons (pe_lst pa_nil) (pa_cons pe_dnewK (pa_cons (pe_call (ok__law_draw G) (hr.mono (by decide)) rfl G.g__law_draw G.k__law_draw G.bi__law_draw .nil pass0 (pa_cons (pv 0) (pa_cons pe_int pa_nil))) pa_nil))))))))))) pa_nil))))
  (pss_cons (ps_set (i := 3) sc__law_system_right.nd rfl (Or.inr rfl) (pe_call (ok__law_one G) (hr.mono (by decide)) rfl G.g__law_one G.k__law_one G.bi__law_one .nil pass0 (pa_cons (pv 0) (pa_cons (pe_lst (pa_cons (pe_cmpR op_eq pe_int pe_int (nomark _)) (pa_cons (pe_cmpR op_eq pe_int pe_int (nomark _)) (pa_cons (pe_cmpR op_eq pe_int pe_int (nomark _)) (pa_cons pe_non (pa_cons pe_int (pa_cons pe_int (pa_cons pe_str (pa_cons (pe_lst pa_nil) (pa_cons pe_dnewK pa_nil)))))))))) pa_nil))))
  (pss_cons (ps_set (i := 4) sc__law_system_right.nd rfl (Or.inl rfl) (pe_lst pa_nil))
  (pss_cons (ps_if (PW.pt (pw_and (pt_cmpR op_notN (pv 1) pe_non (nomark _)) (pw_and1 (pt_not (pt_val (pe_call (ok__law_is_number G) (hr.mono (by decide)) rfl G.g__law_is_number G.k__law_is_number G.bi__law_is_number .nil pass0 (pa_cons (pv 1) (pa_cons pe_int (pa_cons pe_int pa_nil))))))))) (pss_one (ps_expr (pe_bm PySem.F.plainAttrs_list PySem.F.slot_list_append PySem.F.type_list_append mt_append (pv 4) (pa_cons pe_str pa_nil)))) pss_nil)
  (pss_cons (ps_if (PW.pt (pw_and (pt_cmpR op_notN (pv 2) pe_non (nomark _)) (pw_and1 (pt_not (pt_val (pe_call (ok__law_is_number G) (hr.mono (by decide)) rfl G.g__law_is_number G.k__law_is_number G.bi__law_is_number .nil pass0 (pa_cons (pv 2) (pa_cons pe_int (pa_cons pe_int pa_nil))))))))) (pss_one (ps_expr (pe_bm PySem.F.plainAttrs_list PySem.F.slot_list_append PySem.F.type_list_append mt_append (pv 4) (pa_cons pe_str pa_nil)))) pss_nil)
  (pss_cons (ps_if (PW.pt (pw_or (pt_not (pt_val (pe_callB call_isi (by rfl) G.b_isinstance (by decide +kernel) (pa_cons (pv 3) (pa_cons (pe_bltn (v := .ty "bool") (u := .type "bool") (by rfl) G.b_bool (by decide +kernel) rfl) pa_nil))))) (pw_or1 (PW.pt (pw_and (pt_val (pv 3)) (pw_and1 (PW.pt (pw_or (pt_cmpR op_isN (pv 1) pe_non (nomark _)) (pw_or1 (pt_cmpR op_isN (pv 2) pe_non (nomark _))))))))))) (pss_one (ps_expr (pe_bm PySem.F.plainAttrs_list PySem.F.slot_list_append PySem.F.type_list_append mt_append (pv 4) (pa_cons pe_str pa_nil)))) pss_nil)
  (pss_cons (ps_set (i := 5) sc__law_system_right.nd rfl (Or.inl rfl) (LamX.pe_lamcall (T := TS A) (TT := TTs A) (k := 4) rfl G.g__law_said G.k__law_said lkS hcS hbS sc__law_said rfl (Or.inl rfl) (said_gives G) TB.r rfl (List.mem_cons_of_mem _ (List.mem_singleton.mpr rfl)) (TS_r TB) (hr.mono (by decide)) (LamX.lamS_by (sc := defScope s__law_system_right) (by decide +kernel)) rfl (fun _ _ _ _ _ => rfl) (fun A2 outer2 s2 H2 E2 f2 c2 hr => by exact (pe_makeK0 G.mk_System (ok_System_init G) (hr.mono (by decide)) rfl G.g_System hKB (passes_call (takes_of rfl rfl rfl rfl) (fun _ _ _ _ z => z)) (pk_cons (pv 1) (pk_cons (pv 2) (pk_cons (pv 3) pk_nil)))))))
  (pss_cons (ps_if (pt_cmpR (op_neD (hu64 hr)) (pv 4) (pe_lst pa_nil) (nomark _)) (pss_one (ps_ret (pe_cmpR (op_eqTupS (hu0 hr)) (pv 5) (pe_tup (pa_cons pe_str (pa_cons (pe_ix ix_list (pv 4) pe_int (fun _ _ => rfl)) pa_nil))) (nomark _)))) pss_nil)
  (pss_one (ps_ret (pe_and (pe_cmpR (op_eqD (hu64 hr)) (pe_call (ok_processes G) (hr.mono (by decide)) rfl G.g_processes G.k_processes G.bi_processes .nil pass0 (pa_cons (pv 5) pa_nil)) (pe_lst pa_nil) (nomark _)) (pe_one (pe_cmpR op_eq (pe_call (ok_now G) (hr.mono (by decide)) rfl G.g_now G.k_now G.bi_now .nil pass0 (pa_cons (pv 5) pa_nil)) pe_int (nomark _))))))))))))))), ?_⟩
    obtain ⟨xw, hxw⟩ := hw.lst
    refine ⟨_, rfl, _, rfl, rfl, Nat.zero_le _, fun p1 hp1 => fun p2 hp2 => ⟨_, rfl, ?_⟩⟩
    have s1 : Same H (upd (upd H p1 (.lst [])) p2 (.dK [])) := (Same.new hp1).trans (Same.new hp2)
    have wa := wnew (o := .dK []) (wnew (o := .lst []) hw hp1) hp2
    refine ⟨a, 64, B, rfl, by decide, by decide, wa, by omega, fun d1 H1 _ _ f1 w1 => ⟨1, d1, rfl, rfl, (by show 11 ≤ sizeLine; decide), fun q1 hq1 => ?_⟩⟩
    refine ⟨a, q1, _, B + 1, rfl, upd_same, wne w1 hq1, (by show 0 < 11; decide), (by show 11 < 1000; decide), wnew w1 hq1, by omega, fun one H2 hone f2 w2 => ?_⟩
    have l1 : H1 p1 = some (.lst []) := f1 _ _ (wne hw hp1) (by rw [upd_ne (ne_of_none upd_same hp2), upd_same])
    have l2 : H1 p2 = some (.dK []) := f1 _ _ (wne (wnew (o := .lst []) hw hp1) hp2) upd_same
    have aone : AnyV H2 one ∧ one ≠ .ref a := by
      have n1 : V.ref p1 ≠ V.ref a := fun z => wne hw hp1 (V.ref.inj z)
      have n2 : V.ref p2 ≠ V.ref a := fun z => wne (wnew (o := .lst []) hw hp1) hp2 (V.ref.inj z)
      have g1 : H2 p1 = some (.lst []) := f2 _ _ (fun z => n1 (by rw [z])) (by rw [upd_ne (ne_of_none l1 hq1)]; exact l1)
      have g2 : H2 p2 = some (.dK []) := f2 _ _ (fun z => n2 (by rw [z])) (by rw [upd_ne (ne_of_none l2 hq1)]; exact l2)
      simp only [List.mem_cons, List.not_mem_nil, or_false] at hone
      rcases hone with rfl | rfl | rfl | rfl | rfl | rfl | rfl | rfl | rfl | rfl | rfl
      · exact ⟨.non, by simp⟩
      · exact ⟨.int _, by simp⟩
      · exact ⟨.int _, by simp⟩
      · exact ⟨.int _, by simp⟩
      · exact ⟨.int _, by simp⟩
      · exact ⟨.int _, by simp⟩
      · exact ⟨.str _, by simp⟩
      · exact ⟨.bl _, by simp⟩
      · exact ⟨.lst g1, n1⟩
      · exact ⟨.dK g2, n2⟩
      · exact ⟨.int _, by simp⟩
    have F1 : Frm (· = a) H H2 := (Frm.same s1).trans ((Frm.but f1).trans ((Frm.same (Same.new hq1)).trans (Frm.but f2)))
    have T1 : LamX.Tabs (TS A) H2 := by
      obtain ⟨x1, hx1⟩ := wa.lst
      obtain ⟨x2, hx2⟩ := (wnew (o := .lst [V.non, V.int 1, V.int 64, V.int 0, V.int 65, V.int (-1), V.str "4", V.bl (decide (V.int 1 = V.int 1)), V.ref p1, V.ref p2, V.int (1 + d1)]) w1 hq1).lst
      exact tabs_but (tabs_same (tabs_but (tabs_same hT s1) f1 hx1) (Same.new hq1)) f2 hx2
    clear hT s1 wa f1 w1 hq1 f2 l1 l2
    -- two
    refine ⟨_, rfl, _, rfl, rfl, Nat.zero_le _, fun p3 hp3 => fun p4 hp4 => ⟨_, rfl, ?_⟩⟩
    have s2 : Same H2 (upd (upd H2 p3 (.lst [])) p4 (.dK [])) := (Same.new hp3).trans (Same.new hp4)
    have wb := wnew (o := .dK []) (wnew (o := .lst []) w2 hp3) hp4
    refine ⟨a, 257, _, rfl, by decide, by decide, wb, by omega, fun d2 H3 _ _ f3 w3 => ⟨(by show 10 ≤ sizeLine; decide), fun q2 hq2 => ?_⟩⟩
    refine ⟨a, q2, _, _, rfl, upd_same, wne w3 hq2, (by show 0 < 10; decide), (by show 10 < 1000; decide), wnew w3 hq2, by omega, fun two H4 htwo f4 w4 => ?_⟩
    have l3 : H3 p3 = some (.lst []) := f3 _ _ (wne w2 hp3) (by rw [upd_ne (ne_of_none upd_same hp4), upd_same])
    have l4 : H3 p4 = some (.dK []) := f3 _ _ (wne (wnew (o := .lst []) w2 hp3) hp4) upd_same
    have atwo : AnyV H4 two ∧ two ≠ .ref a := by
      have n1 : V.ref p3 ≠ V.ref a := fun z => wne w2 hp3 (V.ref.inj z)
      have n2 : V.ref p4 ≠ V.ref a := fun z => wne (wnew (o := .lst []) w2 hp3) hp4 (V.ref.inj z)
      have g1 : H4 p3 = some (.lst []) := f4 _ _ (fun z => n1 (by rw [z])) (by rw [upd_ne (ne_of_none l3 hq2)]; exact l3)
      have g2 : H4 p4 = some (.dK []) := f4 _ _ (fun z => n2 (by rw [z])) (by rw [upd_ne (ne_of_none l4 hq2)]; exact l4)
      simp only [List.mem_cons, List.not_mem_nil, or_false] at htwo
      rcases htwo with rfl | rfl | rfl | rfl | rfl | rfl | rfl | rfl | rfl | rfl
      · exact ⟨.non, by simp⟩
      · exact ⟨.int _, by simp⟩
      · exact ⟨.int _, by simp⟩
      · exact ⟨.int _, by simp⟩
      · exact ⟨.int _, by simp⟩
      · exact ⟨.str _, by simp⟩
      · exact ⟨.bl _, by simp⟩
      · exact ⟨.lst g1, n1⟩
      · exact ⟨.dK g2, n2⟩
      · exact ⟨.int _, by simp⟩
    have F2 : Frm (· = a) H2 H4 := (Frm.same s2).trans ((Frm.but f3).trans ((Frm.same (Same.new hq2)).trans (Frm.but f4)))
    have T2 : LamX.Tabs (TS A) H4 := by
      obtain ⟨x1, hx1⟩ := wb.lst
      obtain ⟨x2, hx2⟩ := (wnew (o := .lst [V.non, V.int 0, V.int 256, V.int 257, V.int (-1), V.str "4", V.bl (decide (V.int 1 = V.int 0)), V.ref p3, V.ref p4, V.int d2]) w3 hq2).lst
      exact tabs_but (tabs_same (tabs_but (tabs_same T1 s2) f3 hx1) (Same.new hq2)) f4 hx2
    have aone2 : AnyV H4 one := aone.1.frm aone.2 F2
    clear T1 s2 wb f3 w3 hq2 f4 l3 l4
    -- three
    refine ⟨_, rfl, rfl, rfl, rfl, Nat.zero_le _, fun p5 hp5 => fun p6 hp6 => ⟨(by show 9 ≤ sizeLine; decide), fun q3 hq3 => ?_⟩⟩
    have s3 : Same H4 (upd (upd H4 p5 (.lst [])) p6 (.dK [])) := (Same.new hp5).trans (Same.new hp6)
    have wc := wnew (o := .dK []) (wnew (o := .lst []) w4 hp5) hp6
    refine ⟨a, q3, _, _, rfl, upd_same, wne wc hq3, (by show 0 < 9; decide), (by show 9 < 1000; decide), wnew wc hq3, by omega, fun thr H5 hthr f5 w5 => ?_⟩
    have athr : AnyV H5 thr ∧ thr ≠ .ref a := by
      have n1 : V.ref p5 ≠ V.ref a := fun z => wne w4 hp5 (V.ref.inj z)
      have n2 : V.ref p6 ≠ V.ref a := fun z => wne (wnew (o := .lst []) w4 hp5) hp6 (V.ref.inj z)
      have g1 : H5 p5 = some (.lst []) := f5 _ _ (fun z => n1 (by rw [z])) (Same.new hq3 _ _ (by rw [upd_ne (ne_of_none upd_same hp6), upd_same]))
      have g2 : H5 p6 = some (.dK []) := f5 _ _ (fun z => n2 (by rw [z])) (Same.new hq3 _ _ upd_same)
      simp only [List.mem_cons, List.not_mem_nil, or_false] at hthr
      rcases hthr with rfl | rfl | rfl | rfl | rfl | rfl | rfl | rfl | rfl
      · exact ⟨.bl _, by simp⟩
      · exact ⟨.bl _, by simp⟩
      · exact ⟨.bl _, by simp⟩
      · exact ⟨.non, by simp⟩
      · exact ⟨.int _, by simp⟩
      · exact ⟨.int _, by simp⟩
      · exact ⟨.str _, by simp⟩
      · exact ⟨.lst g1, n1⟩
      · exact ⟨.dK g2, n2⟩
    have F3 : Frm (· = a) H4 H5 := (Frm.same s3).trans ((Frm.same (Same.new hq3)).trans (Frm.but f5))
    have T3 : LamX.Tabs (TS A) H5 := by
      obtain ⟨x2, hx2⟩ := (wnew (o := .lst [V.bl (decide (V.int 1 = V.int 1)), V.bl (decide (V.int 1 = V.int 0)), V.bl (decide (V.int 1 = V.int 0)), V.non, V.int 0, V.int 1, V.str "", V.ref p5, V.ref p6]) wc hq3).lst
      exact tabs_but (tabs_same (tabs_same T2 s3) (Same.new hq3)) f5 hx2
    have aone3 : AnyV H5 one := aone2.frm aone.2 F3
    have atwo3 : AnyV H5 two := atwo.1.frm atwo.2 F3
    have F5 : Frm (· = a) H H5 := F1.trans (F2.trans F3)
    clear T2 s3 wc hq3 f5 aone2 F1 F2 F3
    generalize hN : B + 1 + 1 + 1 + 1 + 1 = N5 at w5
    obtain rfl : N5 = B + 5 := by omega
    -- bad = []
    refine ⟨Nat.zero_le _, fun pb hpb => ?_⟩
    have w6 := wnew (o := .lst []) w5 hpb
    refine if_app (!(okP 64 1 one)) rfl upd_same (by decide) (test_ok rfl (aone3.same (Same.new hpb))) (fun H6 f6 b6 => ?_)
    dsimp only
    have npa : pb ≠ a := wne w5 hpb
    have g6 : But pb H5 H6 := fun b o n e => f6 b o n (Same.new hpb b o e)
    have anyB : ∀ {H' : Hp} {v : V}, But pb H5 H' → AnyV H5 v → AnyV H' v := fun g h => h.but (fun z => by
      rw [z] at h
      cases h with
      | lst e => rw [hpb] at e; cases e
      | tup e => rw [hpb] at e; cases e
      | dK e => rw [hpb] at e; cases e) g
    have lenB : ∀ (b1 b2 : Bool) (u v : V), (([] ++ if b1 = true then [u] else []) ++ if b2 = true then [v] else []).length < 100 := fun b1 b2 u v => by cases b1 <;> cases b2 <;> (simp)
    refine if_app (!(okP 256 0 two)) rfl b6 (by cases (!okP 64 1 one) <;> simp) (test_ok rfl (anyB g6 atwo3)) (fun H7 f7 b7 => ?_)
    dsimp only
    have g7 : But pb H5 H7 := g6.trans f7
    refine if_app (decide (isB thr = false ∨ (thr = .bl true ∧ (one = .non ∨ two = .non)))) rfl b7 (lenB _ _ _ _) (test_st rfl rfl rfl (anyB g7 athr.1)) (fun H8 f8 b8 => ?_)
    dsimp only
    have g8 : But pb H5 H8 := g7.trans f8
    have b8 : H8 pb = some (.lst (badV one two thr)) := b8
    have w8 : WellAt H8 a (B + 5) := by
      obtain ⟨w0, w1, w2, h1, h2⟩ := w5
      exact ⟨w0, w1, w2, g8 _ _ (Ne.symm npa) h1, h2⟩
    have s8 : Same H5 H8 := fun b o e => g8 b o (ne_of_none e hpb) e
    have T8 : LamX.Tabs (TS A) H8 := tabs_same T3 s8
    clear T3 f6 f7 f8 g6 g7 g8 b6 b7 w6
    have F8 : Frm (· = a) H H8 := F5.trans (Frm.same s8)
    have fin : ∀ H', Frm (· = a) H8 H' → LamX.Tabs (TS A) H' → H' a = H8 a → Q (V.bl true) H' := fun H' f t e => k H' (F8.trans f) t (w8.same e)
    -- told = _law_said(lambda: ..)
    refine ⟨T8, fun H9 e9 T9 => ?_⟩
    obtain ⟨xa, hxa⟩ := w8.lst
    have a9 : H9 a = some (.lst xa) := e9 _ _ hxa (fun _ q => by cases q)
    have p9 : H9 pb = some (.lst (badV one two thr)) := e9 _ _ b8 (fun _ q => by cases q)
    refine ⟨_, rfl, _, rfl, _, rfl, rfl, rfl, fun x dx hx hdx hne => ?_⟩
    have sN : Same H9 (upd (upd H9 dx (.own x)) x (.ins A.c_System dx [])) := (Same.new hdx).trans (Same.new (by rw [upd_ne (Ne.symm hne)]; exact hx))
    have any9 : ∀ {v : V}, AnyV H5 v → AnyV (upd (upd H9 dx (.own x)) x (.ins A.c_System dx [])) v := fun h => ((h.same s8).ext e9).same sN
    have F9 : ∀ {H'}, Same H9 H' → Frm (· = a) H8 H' := fun z => (Frm.ext e9).trans (Frm.same z)
    have A9 : ∀ {H'}, Same H9 H' → H' a = H8 a := fun z => by rw [hxa]; exact z _ _ a9
    refine ⟨x, dx, one, two, thr, rfl, any9 aone3, any9 atwo3, any9 athr.1, upd_same, fun hb H10 t f10 t0 S10 => ⟨rfl, ?_⟩, fun pt hp d H10 s10 d0 e10 => .inl ⟨rfl, d, .str pt, rfl, e10, fun p hp2 => ?_⟩⟩
    · have s10 : Same H9 H10 := fun b o e => f10 b o (ne_of_none e hx) (sN b o e)
      have p10 := s10 _ _ p9
      rw [badV_none hb] at p10
      refine ⟨_, rfl, Nat.zero_le _, fun e1 he1 => ?_⟩
      refine ⟨.list [], .list [], .lst (SqL.of (Same.new he1 _ _ p10)) .nil, .lst (SqL.of upd_same) .nil, rfl, rfl, _, rfl, iteF ?_⟩
      have S11 := S10.same (Same.new (o := .lst []) he1)
      refine ⟨_, rfl, one, two, thr, x, t, 0, 0, [], rfl, S11, fun q hq => ⟨Nat.zero_le _, fun q2 hq2 => ?_⟩⟩
      refine ⟨.list [], .list [], .lst (SqL.of (Same.new hq2 _ _ upd_same)) .nil, .lst (SqL.of upd_same) .nil, rfl, rfl, _, rfl, iteT ?_⟩
      have S12 := (S11.same (Same.new (o := .lst (([] : List (Int × Addr)).map fun z => V.int z.1)) hq)).same (Same.new (o := .lst []) hq2)
      have s12 := ((s10.trans (Same.new (o := .lst []) he1)).trans (Same.new (o := .lst (([] : List (Int × Addr)).map fun z => V.int z.1)) hq)).trans (Same.new (o := .lst []) hq2)
      exact ⟨_, rfl, one, two, thr, x, t, 0, 0, [], rfl, S12, rfl, fin _ (F9 s12) (tabs_same T9 s12) (A9 s12)⟩
    · have s11 : Same H9 H10 := sN.trans s10
      have p11 := Same.new (o := .tup [.str "system", .str pt]) hp2 _ _ (s11 _ _ p9)
      obtain ⟨r, er, lr, ok0, hr2⟩ := badV_some hp
      rw [er] at p11
      refine ⟨_, rfl, Nat.zero_le _, fun e1 he1 => ?_⟩
      have p12 := Same.new (o := .lst []) he1 _ _ p11
      have dp : ∃ ds, DpAll K (upd (upd H10 p (.tup [.str "system", .str pt])) e1 (.lst [])) r ds ∧ SeqAt.shaped (.list (.str pt :: ds)) = true := by
        match r, lr, hr2 with
        | [], _, _ => exact ⟨[], .nil, by simp [SeqAt.shaped, PyData.canLay0, PyData.canLayAll0, PyData.depth, PyData.depthAll, ok0]⟩
        | [v], _, h =>
          obtain ⟨z, rfl, ok1⟩ := h v (by simp)
          exact ⟨_, .cons (.str z) .nil, by simp [SeqAt.shaped, PyData.canLay0, PyData.canLayAll0, PyData.depth, PyData.depthAll, ok0, ok1]⟩
        | [v, v2], _, h =>
          obtain ⟨z, rfl, ok1⟩ := h v (by simp)
          obtain ⟨z2, rfl, ok2⟩ := h v2 (by simp)
          exact ⟨_, .cons (.str z) (.cons (.str z2) .nil), by simp [SeqAt.shaped, PyData.canLay0, PyData.canLayAll0, PyData.depth, PyData.depthAll, ok0, ok1, ok2]⟩
      obtain ⟨ds, d1, d2⟩ := dp
      refine ⟨.list (.str pt :: ds), .list [], .lst (SqL.of p12) (.cons (.str pt) d1), .lst (SqL.of upd_same) .nil, d2, rfl, _, rfl, ?_⟩
      have z : (!PyData.eqv (.list (.str pt :: ds)) (.list [])) = true := rfl
      rw [z]
      refine iteT ?_
      refine ⟨_, rfl, _, rfl, pb, _, 0, .str pt, rfl, rfl, SqL.of p12, (by simp [atI, ixN]), (by show 2 ≤ sizeLine; decide), fun p2 hp3 => ?_⟩
      have s13 := ((s11.trans (Same.new (o := .tup [.str "system", .str pt]) hp2)).trans (Same.new (o := .lst []) he1)).trans (Same.new (o := .tup [.str "system", .str pt]) hp3)
      exact ⟨p, p2, _, rfl, rfl, SqT.of (Same.new hp3 _ _ (Same.new he1 _ _ upd_same)), SqT.of upd_same, rfl, fin _ (F9 s13) (tabs_same T9 s13) (A9 s13)⟩
end
end My

set_option Elab.async false
set_option linter.all false
set_option maxRecDepth 100000
set_option maxHeartbeats 4000000
namespace My
open PySem L2
local macro_rules | `(tactic| walk_at "ds") => `(tactic| dsimp only [tSeq, tIfS, tTest, tB, tAnd, tOr, tNot, tAndV, tOrV, tNotV, tIf, tIsN, tNotN, tOp, tUn, tChain, rI, rI0, rU, tC, tCB, tCons, tNil, tAsg, gName, gSub, tRet, tRetN, tNext, tDrop, tLst, tTup, rIxL, rIxT, rSetL, tVar, tFld, tCall, tDGet, tDIn, tDNotIn, tNever, L2.start, List.map, List.replicate, List.length, List.append, List.cons_append, List.nil_append, List.set, Nat.sub])
local macro_rules | `(tactic| walk_at "hp") => `(tactic| first | assumption | exact upd_same | (refine Eq.trans (upd_ne (by first | assumption | (apply Ne.symm; assumption))) ?_; walk_at "hp"))
local macro_rules | `(tactic| walk_at "sd") => `(tactic| first
  | (show (_ : Int) ≠ 0; omega)
  | (refine (show CDivN _ _ from ⟨?_, ?_⟩) <;> omega)
  | (show CPow _ _; refine ⟨by omega, by omega, by omega⟩)
  | (show CMul _ _; exact Or.inl ⟨by omega, by omega⟩)
  | (show CMul _ _; exact Or.inr ⟨by omega, by omega⟩))
local macro_rules | `(tactic| walk_at "st") => `(tactic| first
  | refine ⟨_, rfl, ?_⟩
  | refine ⟨_, _, rfl, rfl, (by walk_at "sd"), ?_⟩
  | refine ⟨_, _, rfl, rfl, ?_⟩
  | refine ⟨_, _, _, _, rfl, rfl, SqL.of (by walk_at "hp"), rfl, ?_⟩
  | refine ⟨_, _, _, _, rfl, rfl, (by walk_at "hp"), rfl, ?_⟩
  | refine .inl ⟨_, rfl, ?_⟩
  | refine ⟨_, _, _, _, _, rfl, (by walk_at "hp"), (by assumption), (by assumption), rfl, ?_⟩
  | refine ⟨_, _, rfl, .inl (SqL.of (by walk_at "hp")), ?_⟩)
local macro_rules | `(tactic| walk_at "go") => `(tactic| repeat (first | walk_at "st" | (walk_at "ds"; walk_at "st")))

section
variable {P : Program} {w : World} {K : PySem.W.Frag} {mg : Str → Option Value} {base : Heap} {A : Adr}
/-- all that stood at H0, but the tables, stands -/
def Kp (H0 H : Hp) : Prop := ∀ b o, H0 b = some o → (∀ ps, o ≠ .tbl ps) → H b = some o
/-- nothing of H0, but a table perhaps, stands at x -/
def Fr1 (H0 : Hp) (x : Addr) : Prop := ∀ b o, H0 b = some o → (∀ ps, o ≠ .tbl ps) → b ≠ x
theorem fr_of {H0 H : Hp} {x : Addr} (k : Kp H0 H) (h : H x = none) : Fr1 H0 x := fun b o q n e => by
  rw [← e, k b o q n] at h
  cases h
theorem dp_ints {K : PySem.W.Frag} {H : Hp} : ∀ ns : List Int, DpAll K H (ns.map V.int) (ns.map PyData.int)
  | [] => .nil
  | n :: ns => .cons (.int n) (dp_ints ns)
theorem shaped_ints (ns : List Int) : SeqAt.shaped (.list (ns.map PyData.int)) = true := by
  have h1 : ∀ ns : List Int, PyData.canLayAll0 (ns.map PyData.int) = true := fun ns => by
    induction ns with
    | nil => rfl
    | cons n ns ih => simp [PyData.canLayAll0, PyData.canLay0, ih]
  have h2 : ∀ ns : List Int, PyData.depthAll (ns.map PyData.int) = 0 := fun ns => by
    induction ns with
    | nil => rfl
    | cons n ns ih => simp [PyData.depthAll, PyData.depth, ih]
  unfold SeqAt.shaped
  simp [PyData.canLay0, PyData.depth, h1, h2]
theorem eqv_ints : ∀ ns ms : List Int, PyData.eqv (.list (ns.map PyData.int)) (.list (ms.map PyData.int)) = decide (ns = ms) := by
  have h : ∀ ns ms : List Int, PyData.eqvAll (ns.map PyData.int) (ms.map PyData.int) = decide (ns = ms) := fun ns => by
    induction ns with
    | nil => intro ms; cases ms <;> simp [PyData.eqvAll]
    | cons n ns ih => intro ms; cases ms with
      | nil => simp [PyData.eqvAll]
      | cons m ms => simp [PyData.eqvAll, PyData.eqv, ih, Bool.beq_eq_decide_eq]
  intro ns ms
  simp only [PyData.eqv, h]
/-- where the loop of the steps stands -/
structure Sta (A : Adr) (H0 H : Hp) (a la x t : Addr) (B : Nat) (i p : Int) (al : List (Int × Addr)) (bl : List V) : Prop where
  kp : Kp H0 H
  tb : LamX.Tabs (TS A) H
  wl : WellAt H a B
  ll : H la = some (.lst bl)
  sy : SysAt A.c_System .non .non (.bl false) H x t i p al
  a0 : Fr1 H0 a
  l0 : Fr1 H0 la
  x0 : Fr1 H0 x
  t0 : Fr1 H0 t
  ne : la ≠ a
section
variable {H0 H H' : Hp} {a la x t : Addr} {B B' : Nat} {i p i' p' : Int} {al al' : List (Int × Addr)} {bl bl' : List V}
theorem SysAt.but {C : Addr} {fr sl st : V} {xs : List V} (h : SysAt C fr sl st H x t i p al) (e : But a H H') (ha : H a = some (.lst xs)) : SysAt C fr sl st H' x t i p al := by
  obtain ⟨⟨dx, b, c, d, f, g, h1⟩, h2, h3, h4⟩ := h
  exact ⟨⟨dx, b, c, d, f, g, e _ _ (ne_of h1 ha (by intro z; cases z)) h1⟩, e _ _ (ne_of h2 ha (by intro z; cases z)) h2, fun q hq => e _ _ (ne_of (h3 q hq) ha (by intro z; cases z)) (h3 q hq), h4⟩
theorem Sta.same (S : Sta A H0 H a la x t B i p al bl) (e : Same H H') : Sta A H0 H' a la x t B i p al bl := by
  obtain ⟨xs, hx⟩ := S.wl.lst
  exact ⟨fun b o q n => e _ _ (S.kp b o q n), tabs_same S.tb e, S.wl.same ((e _ _ hx).trans hx.symm), e _ _ S.ll, S.sy.same e, S.a0, S.l0, S.x0, S.t0, S.ne⟩
theorem Sta.draw (S : Sta A H0 H a la x t B i p al bl) (e : But a H H') (w : WellAt H' a B') : Sta A H0 H' a la x t B' i p al bl := by
  obtain ⟨xs, hx⟩ := S.wl.lst
  exact ⟨fun b o q n => e _ _ (S.a0 _ _ q n) (S.kp b o q n), tabs_but S.tb e hx, w, e _ _ S.ne S.ll, S.sy.but e hx, S.a0, S.l0, S.x0, S.t0, S.ne⟩
theorem Sta.list (S : Sta A H0 H a la x t B i p al bl) : Sta A H0 (upd H la (.lst bl')) a la x t B i p al bl' := by
  have e : But la H (upd H la (.lst bl')) := But.up
  exact ⟨fun b o q n => e _ _ (S.l0 _ _ q n) (S.kp b o q n), tabs_but S.tb e S.ll, S.wl.same (upd_ne (Ne.symm S.ne)), upd_same, S.sy.but e S.ll, S.a0, S.l0, S.x0, S.t0, S.ne⟩
theorem Sta.sys (S : Sta A H0 H a la x t B i p al bl) (e : ∀ b o, b ≠ x → b ≠ t → H b = some o → H' b = some o) (s' : SysAt A.c_System .non .non (.bl false) H' x t i' p' al') : Sta A H0 H' a la x t B i' p' al' bl := by
  obtain ⟨⟨dx, b, c, d, f, g, h1⟩, h2, h3⟩ := S.sy
  obtain ⟨xs, hx⟩ := S.wl.lst
  have e' : ∀ b o, (∀ C dx fs, o ≠ .ins C dx fs) → (∀ k, o ≠ .dK k) → H b = some o → H' b = some o := fun b o n1 n2 q => e b o (ne_of q h1 (n1 _ _ _)) (ne_of q h2 (n2 _)) q
  refine ⟨fun b o q n => e b o (S.x0 _ _ q n) (S.t0 _ _ q n) (S.kp b o q n), Tabs.keep S.tb fun b o q => ⟨fun u z => ?_, fun ps z => ?_⟩, S.wl.same ((e' _ _ (by intros; intro z; cases z) (by intros; intro z; cases z) hx).trans hx.symm), e' _ _ (by intros; intro z; cases z) (by intros; intro z; cases z) S.ll, s', S.a0, S.l0, S.x0, S.t0, S.ne⟩
  · subst z; exact e' _ _ (by intros; intro z; cases z) (by intros; intro z; cases z) q
  · subst z; exact e' _ _ (by intros; intro z; cases z) (by intros; intro z; cases z) q
end
section
variable {H0 H : Hp} {a la x t : Addr} {B : Nat} {i p : Int} {al : List (Int × Addr)}
theorem ints_of (al : List (Int × Addr)) : (al.map fun z => V.int z.1) = (al.map (·.1)).map V.int := by rw [List.map_map]; rfl
theorem post_step {D : Ends} {σ : St} (S : Sta A H0 H a la x t B (i + 1) p al (al.map fun z => V.int z.1)) (h4 : σ[4]? = some (some (.ref x))) (h5 : σ[5]? = some (some (.ref la))) (h7 : σ[7]? = some (some (.int i)))
    (k : ∀ H', Sta A H0 H' a la x t B (i + 1) p al (al.map fun z => V.int z.1) → D.nx σ H') :
    tSeq (tIfS (tOr (tTest (tOp (rNeD K) (tCall (spProcs A) [] E0 (tCons (tVar 4) tNil)) (tVar 5))) (tTest (tOp rNe (tCall (spNow A) [] E0 (tCons (tVar 4) tNil)) (tOp (rI0 fun i j => V.int (i + j)) (tVar 7) (tC (.int 1)))))) (tRet (tC (.bl false))) tNext)
      (tDrop (tBM0 K "list" rClear (tCall (spProcs A) [] E0 (tCons (tVar 4) tNil)))) D σ H := by
  refine ⟨_, h4, .non, .non, .bl false, x, t, _, p, al, rfl, S.sy, fun q hq => ⟨_, h5, ?_⟩⟩
  have S1 := S.same (Same.new (o := .lst (al.map fun z => V.int z.1)) hq)
  have u1 : (upd H q (.lst (al.map fun z => V.int z.1))) q = some (.lst ((al.map (·.1)).map V.int)) := by rw [upd_same, ints_of]
  have u2 : (upd H q (.lst (al.map fun z => V.int z.1))) la = some (.lst ((al.map (·.1)).map V.int)) := S1.ll.trans (by rw [ints_of])
  refine ⟨_, _, .lst (SqL.of u1) (dp_ints _), .lst (SqL.of u2) (dp_ints _), shaped_ints _, shaped_ints _, _, rfl, ?_⟩
  rw [eqv_ints, decide_eq_true rfl]
  refine iteF ⟨_, h4, .non, .non, .bl false, x, t, _, p, al, rfl, S1.sy, _, h7, _, _, rfl, rfl, rfl, _, rfl, ?_⟩
  rw [decide_eq_true rfl]
  refine iteF ?_
  refine ⟨_, h4, .non, .non, .bl false, x, t, _, p, al, rfl, S1.sy, fun q2 hq2 => ⟨.inl ⟨rfl, _, SqL.of upd_same⟩, q2, _, rfl, rfl, upd_same, ?_⟩⟩
  rw [upd_upd]
  exact k _ (S1.same (Same.new hq2))
theorem app_A {D : Ends} {σ : St} {d : Addr} (S : Sta A H0 H a la x t B i p (al ++ [(p, d)]) (al.map fun z => V.int z.1)) (h5 : σ[5]? = some (some (.ref la))) (h6 : σ[6]? = some (some (.int p))) (h9 : σ[9]? = some (some (.int p))) (hl : al.length ≤ 12)
    (k : ∀ H', Sta A H0 H' a la x t B i p (al ++ [(p, d)]) ((al ++ [(p, d)]).map fun z => V.int z.1) → D.nx σ H') :
    tSeq (tDrop (tBM K "list" rAppend (tVar 5) (tCons (tVar 6) tNil))) (tIfS (tTest (tOp rNe (tVar 9) (tVar 6))) (tRet (tC (.bl false))) tNext) D σ H := by
  refine ⟨_, h5, .inl ⟨rfl, _, SqL.of S.ll⟩, _, h6, la, _, _, rfl, rfl, S.ll, small1000 (by rw [List.length_map]; omega), ?_⟩
  refine ⟨_, h9, _, h6, rfl, _, rfl, ?_⟩
  rw [decide_eq_true rfl]
  refine iteF (k _ ?_)
  rw [List.map_append]
  exact S.list
/-- alive == [], as a test -/
theorem eq_nil {K : PySem.W.Frag} {σ : St} {Q : Bool → Hp → Prop} (S : Sta A H0 H a la x t B i p al (al.map fun z => V.int z.1)) (h5 : σ[5]? = some (some (.ref la)))
    (q : ∀ H', Same H H' → Q (decide (al = [])) H') : tTest (tOp (rEqD K) (tVar 5) (tLst tNil)) σ H Q := by
  refine ⟨_, h5, Nat.zero_le _, fun e he => ?_⟩
  have u2 := Same.new (o := .lst []) he _ _ S.ll
  rw [ints_of al] at u2
  refine ⟨.list ((al.map (·.1)).map PyData.int), .list (([] : List Int).map PyData.int), .lst (SqL.of u2) (dp_ints _), .lst (SqL.of upd_same) .nil, shaped_ints _, shaped_ints _, _, rfl, ?_⟩
  rw [eqv_ints]
  have z : decide (al.map (·.1) = []) = decide (al = []) := by simp
  rw [z]
  exact q _ (Same.new he)
theorem ne_nil {K : PySem.W.Frag} {σ : St} {Q : Bool → Hp → Prop} (S : Sta A H0 H a la x t B i p al (al.map fun z => V.int z.1)) (h5 : σ[5]? = some (some (.ref la)))
    (q : ∀ H', Same H H' → Q (!decide (al = [])) H') : tTest (tOp (rNeD K) (tVar 5) (tLst tNil)) σ H Q := by
  refine ⟨_, h5, Nat.zero_le _, fun e he => ?_⟩
  have u2 := Same.new (o := .lst []) he _ _ S.ll
  rw [ints_of al] at u2
  refine ⟨.list ((al.map (·.1)).map PyData.int), .list (([] : List Int).map PyData.int), .lst (SqL.of u2) (dp_ints _), .lst (SqL.of upd_same) .nil, shaped_ints _, shaped_ints _, _, rfl, ?_⟩
  rw [eqv_ints]
  have z : decide (al.map (·.1) = []) = decide (al = []) := by simp
  rw [z]
  exact q _ (Same.new he)
theorem WellAt.mono {H : Hp} {a : Addr} {B B' : Nat} (h : WellAt H a B) (e : B ≤ B') (e2 : B' ≤ 1000000000) : WellAt H a B' := by
  obtain ⟨w0, w1, w2, h1, h2, h3, h4, h5, h6, h7⟩ := h
  exact ⟨w0, w1, w2, h1, h2, h3, h4, h5, by omega, e2⟩
theorem Sta.mono {B' : Nat} {bl : List V} (S : Sta A H0 H a la x t B i p al bl) (e : B ≤ B') (e2 : B' ≤ 1000000000) : Sta A H0 H a la x t B' i p al bl :=
  ⟨S.kp, S.tb, S.wl.mono e e2, S.ll, S.sy, S.a0, S.l0, S.x0, S.t0, S.ne⟩
theorem Sta.ext {H' : Hp} {bl : List V} (S : Sta A H0 H a la x t B i p al bl) (e : LamX.ExtN H H') (T : LamX.Tabs (TS A) H') : Sta A H0 H' a la x t B i p al bl := by
  obtain ⟨xs, hx⟩ := S.wl.lst
  obtain ⟨⟨dx, b, c, d, f, g, h1⟩, h2, h3, h4⟩ := S.sy
  exact ⟨fun b o q n => e _ _ (S.kp b o q n) n, T, S.wl.same ((e _ _ hx (fun _ z => by cases z)).trans hx.symm), e _ _ S.ll (fun _ z => by cases z),
    ⟨⟨dx, b, c, d, f, g, e _ _ h1 (fun _ z => by cases z)⟩, e _ _ h2 (fun _ z => by cases z), fun q hq => e _ _ (h3 q hq) (fun _ z => by cases z), h4⟩, S.a0, S.l0, S.x0, S.t0, S.ne⟩
theorem told_step {t' : XK → TE} {σ : St} {v : V} {bl : List V} {Q : Bool → Hp → Prop} (S : Sta A H0 H a la x t B i p al bl) (hv : AnyV H v) (h11 : σ[11]? = some (some v))
    (ht : ∀ (E : XK) (H' : Hp) (Q' : VK), Sta A H0 H' a la x t B i p al bl → AnyV H' v → (∀ d H'', Same H' H'' → H'' d = some (.xd [("process", v)]) → E (.ref A.c_NoProcess) (some d) H'') → t' E σ H' Q')
    (k : ∀ H', Sta A H0 H' a la x t B i p al bl → AnyV H' v → Q false H') :
    tTest (tOp (rTupS K false) (LamX.tLam (TS A) (TTs A) t') (tTup (tCons (tC (.str "process")) (tCons (tVar 11) tNil)))) σ H Q := by
  refine ⟨S.tb, fun H1 e1 T1 => ?_⟩
  have S1 := S.ext e1 T1
  have v1 := hv.ext e1
  refine ht _ H1 _ S1 v1 fun d H2 s2 hd => .inr ⟨rfl, d, v, rfl, hd, fun q hq => ?_⟩
  refine ⟨_, h11, (by show 2 ≤ sizeLine; decide), fun q2 hq2 => ?_⟩
  have s3 := (s2.trans (Same.new (o := .tup [.str "process", v]) hq)).trans (Same.new (o := .tup [.str "process", v]) hq2)
  exact ⟨q, q2, _, rfl, rfl, SqT.of (Same.new hq2 _ _ upd_same), SqT.of upd_same, (by simp [hv.selfEq]; rfl), _, rfl, k _ (S1.same s3) (v1.same s3)⟩
theorem procs_ne {σ : St} {Q : Bool → Hp → Prop} (S : Sta A H0 H a la x t B i p al (al.map fun z => V.int z.1)) (h4 : σ[4]? = some (some (.ref x))) (h5 : σ[5]? = some (some (.ref la)))
    (k : ∀ H', Same H H' → Q false H') : tTest (tOp (rNeD K) (tCall (spProcs A) [] E0 (tCons (tVar 4) tNil)) (tVar 5)) σ H Q := by
  refine ⟨_, h4, .non, .non, .bl false, x, t, _, p, al, rfl, S.sy, fun q hq => ⟨_, h5, ?_⟩⟩
  have S1 := S.same (Same.new (o := .lst (al.map fun z => V.int z.1)) hq)
  have u1 : (upd H q (.lst (al.map fun z => V.int z.1))) q = some (.lst ((al.map (·.1)).map V.int)) := by rw [upd_same, ints_of]
  have u2 : (upd H q (.lst (al.map fun z => V.int z.1))) la = some (.lst ((al.map (·.1)).map V.int)) := S1.ll.trans (by rw [ints_of])
  refine ⟨_, _, .lst (SqL.of u1) (dp_ints _), .lst (SqL.of u2) (dp_ints _), shaped_ints _, shaped_ints _, _, rfl, ?_⟩
  rw [eqv_ints, decide_eq_true rfl]
  exact k _ (Same.new hq)
theorem else_step {D : Ends} {s0 s1 s3 s7 s8 s9 s10 s11 : Option V} (S : Sta A H0 H a la x t B i p al (al.map fun z => V.int z.1)) (hB : B + 1 ≤ 1000000000)
    (k : ∀ H' p' al' s10', Sta A H0 H' a la x t (B + 1) (i + 1) p' al' (al'.map fun z => V.int z.1) → D.nx [s0, s1, some (.ref a), s3, some (.ref x), some (.ref la), some (.int p'), s7, s8, s9, s10', s11] H') :
    tIfS (tTest (tOp (rNeD K) (tVar 5) (tLst tNil)))
      (tSeq (tAsg (tBM K "list" rPopAt (tVar 5) (tCons (tCall spDraw [] E0 (tCons (tVar 2) (tCons (tCB (fun xs H_1 Q => ∃ p ys, xs = [V.ref p] ∧ (SqL K H_1 p ys ∨ SqT K H_1 p ys) ∧ Q (V.int ys.length) H_1) (tCons (tVar 5) tNil)) tNil))) tNil)) (gName 10))
        (tDrop (tCall (spLeave A) [] E0 (tCons (tVar 4) (tCons (tVar 10) tNil)))))
      (tSeq (tDrop (tCall (spSpawn A) [] E0 (tCons (tVar 4) tNil))) (tSeq (tAsg (tOp (rI0 fun i j => V.int (i + j)) (tVar 6) (tC (V.int 1))) (gName 6)) (tDrop (tBM K "list" rAppend (tVar 5) (tCons (tVar 6) tNil)))))
      D [s0, s1, some (.ref a), s3, some (.ref x), some (.ref la), some (.int p), s7, s8, s9, s10, s11] H := by
  obtain ⟨_, _, _, _, _, _, hl12⟩ := id S.sy
  refine ne_nil S rfl fun H1 s1 => ?_
  have S1 := S.same s1
  by_cases ce : al = []
  · subst ce
    refine iteF ?_
    refine ⟨_, rfl, .bl false, .non, .non, x, t, _, p, [], rfl, S1.sy, by decide, fun H2 d f2 _ Y2 => ?_⟩
    have S2 := S1.sys f2 Y2
    refine ⟨_, rfl, _, _, rfl, rfl, ?_⟩
    refine ⟨_, rfl, .inl ⟨rfl, _, SqL.of S2.ll⟩, _, rfl, la, _, _, rfl, rfl, S2.ll, by decide, ?_⟩
    exact k (upd H2 la (.lst [V.int (p + 1)])) (p + 1) [(p + 1, d)] s10 (S2.list.mono (by omega) hB)
  · rw [decide_eq_false ce]
    refine iteT ?_
    have hlen : 0 < al.length := List.length_pos_iff.mpr ce
    refine ⟨_, rfl, .inl ⟨rfl, _, SqL.of S1.ll⟩, _, rfl, _, rfl, la, _, rfl, .inl (SqL.of S1.ll), a, _, B, rfl, by rw [List.length_map]; omega, by rw [List.length_map]; omega, S1.wl, by omega, fun j H2 j0 j1 f2 w2 => ?_⟩
    have S2 := S1.draw f2 w2
    rw [List.length_map] at j1
    obtain ⟨n, rfl⟩ : ∃ n : Nat, j = (n : Int) := ⟨j.toNat, (Int.toNat_of_nonneg j0).symm⟩
    have hn : n < al.length := by omega
    have hget : (al.map fun z => V.int z.1)[n]? = some (V.int (al[n]).1) := by rw [List.getElem?_map, List.getElem?_eq_getElem hn]; rfl
    refine ⟨la, _, (n : Int), n, _, rfl, rfl, S2.ll, by omega, by omega, ?_, hget, ?_⟩
    · exact (seqIndex_of (by omega) (by rw [List.length_map]; omega)).trans (by simp)
    have esp : al = al.take n ++ (al[n].1, al[n].2) :: al.drop (n + 1) := by
      rw [← List.drop_eq_getElem_cons hn, List.take_append_drop]
    have eer : (al.map fun z => V.int z.1).eraseIdx n = (al.take n ++ al.drop (n + 1)).map fun z => V.int z.1 := by
      rw [List.eraseIdx_eq_take_drop_succ, List.map_append, List.map_take, List.map_drop]
    rw [eer]
    have S3 := S2.list (bl' := (al.take n ++ al.drop (n + 1)).map fun z => V.int z.1)
    refine ⟨_, rfl, _, rfl, .non, .non, .bl false, x, t, _, p, al, _, rfl, S3.sy, .int _, fun i' d l r ei el H4 f4 Y4 => ?_, fun hn2 => ?_⟩
    · have ei' := V.int.inj ei
      -- the same split
      have e2 := esp.symm.trans el
      have srt := S3.sy.2.2.2.1
      obtain ⟨e3, e4⟩ : al.take n = l ∧ al.drop (n + 1) = r := by
        have key : ∀ (l1 r1 l2 r2 : List (Int × Addr)) (q1 q2 : Int × Addr), (l1 ++ q1 :: r1).Pairwise (fun q r => q.1 < r.1) → q1.1 = q2.1 → l1 ++ q1 :: r1 = l2 ++ q2 :: r2 → l1 = l2 ∧ r1 = r2 := by
          intro l1
          induction l1 with
          | nil =>
            intro r1 l2 r2 q1 q2 hp hq he
            cases l2 with
            | nil => exact ⟨rfl, (List.cons.inj he).2⟩
            | cons u l2 =>
              obtain ⟨h1, h2⟩ := List.cons.inj he
              have := (List.pairwise_cons.mp hp).1 q2 (by rw [h2]; simp)
              omega
          | cons v l1 ih =>
            intro r1 l2 r2 q1 q2 hp hq he
            cases l2 with
            | nil =>
              obtain ⟨h1, h2⟩ := List.cons.inj he
              have := (List.pairwise_cons.mp hp).1 q1 (by simp)
              rw [h1] at this
              omega
            | cons u l2 =>
              obtain ⟨h1, h2⟩ := List.cons.inj he
              obtain ⟨h3, h4⟩ := ih r1 l2 r2 q1 q2 (List.pairwise_cons.mp hp).2 hq h2
              exact ⟨by rw [h1, h3], h4⟩
        exact key _ _ _ _ _ _ (by rw [← esp]; exact srt) ei' e2
      rw [← e3, ← e4] at Y4
      exact k _ _ _ _ (S3.sys f4 Y4)
    · exact absurd (List.getElem_mem hn) (hn2 _ _ rfl)
end
def spLaw (K : PySem.W.Frag) (A : Adr) : Sp := fun vs H Q _ => ∃ (a : Addr) (ns : List Int), vs = [.ref a] ∧ SqL K H a (ns.map V.int) ∧ ns.length ≤ 63 ∧ LamX.Tabs (TS A) H ∧ ∀ H', Q (.bl true) H'
theorem ok_law (G : Txt K mg A) (TB : Tb base mg A) : FnOk P w K mg base CX0 8 A.a_law A.fd_law p_law (spLaw K A) := by
  obtain ⟨ds, hIV, hIB⟩ := init_binds G
  obtain ⟨ocS, odS, kvS, docS, pmS, anS, cdS, ctS, oslS, hfd, lkS, hcS⟩ := G.f__law_said.ex
  have hbS := G.bi__law_said
  rw [hfd] at lkS hbS
  refine G.fl_law.ok sc_law (fun vs H Q E h => ?_) (fun A' outer s H vs Q E hr h => ?_)
  · obtain ⟨a, ns, rfl, _⟩ := h
    rfl
  · obtain ⟨a0, ns, rfl, hS, hn, hT, k⟩ := h
    refine ⟨_, (pss_cons (ps_for PassesOwn.never rfl (pi_list (pe_op op_cat (pe_slice sl_list (pv 0) po_none (po_some pe_int)) (pe_lst (pa_cons pe_int (pa_cons pe_int pa_nil))))) (pg_name (i := 1) sc_law.nd rfl (Or.inl rfl)) (pss_cons (ps_set (i := 2) sc_law.nd rfl (Or.inl rfl) (pe_call (ok__law_well G) (hr.mono (by decide)) rfl G.g__law_well G.k__law_well G.bi__law_well .nil pass0 (pa_cons (pv 1) pa_nil)))
  (pss_cons (ps_for PassesOwn.never rfl (pi_range1 rfl G.b_range (pa_cons pe_int pa_nil)) (pg_name (i := 3) sc_law.nd rfl (Or.inl rfl)) (pss_one (ps_if (pt_not (pt_val (pe_call (ok__law_system_right G TB) (hr.mono (by decide)) rfl G.g__law_system_right G.k__law_system_right G.bi__law_system_right .nil pass0 (pa_cons (pv 2) pa_nil)))) (pss_one (ps_ret pe_bl)) pss_nil)))
  (pss_cons (ps_set (i := 4) sc_law.nd rfl (Or.inr rfl) (pe_make0 G.mk_System (ok_System_init G) (hr.mono (by decide)) rfl G.g_System hIB hIV passL))
  (pss_cons (ps_set (i := 5) sc_law.nd rfl (Or.inl rfl) (pe_lst pa_nil))
  (pss_cons (ps_set (i := 6) sc_law.nd rfl (Or.inl rfl) pe_int)
  (pss_cons (ps_for PassesOwn.never rfl (pi_range1 rfl G.b_range (pa_cons (pe_op op_add pe_int (pe_call (ok__law_draw G) (hr.mono (by decide)) rfl G.g__law_draw G.k__law_draw G.bi__law_draw .nil pass0 (pa_cons (pv 2) (pa_cons pe_int pa_nil)))) pa_nil)) (pg_name (i := 7) sc_law.nd rfl (Or.inl rfl)) (pss_cons (ps_set (i := 8) sc_law.nd rfl (Or.inl rfl) (pe_call (ok__law_draw G) (hr.mono (by decide)) rfl G.g__law_draw G.k__law_draw G.bi__law_draw .nil pass0 (pa_cons (pv 2) (pa_cons pe_int pa_nil))))
  (pss_cons (ps_if (PW.pt (pw_and (pt_cmpR op_lt (pv 8) pe_int (nomark _)) (pw_and1 (pt_cmpR op_lt (pe_callB call_len_seq (by rfl) G.b_len (by decide +kernel) (pa_cons (pv 5) pa_nil)) pe_int (nomark _))))) (pss_cons (ps_set (i := 6) sc_law.nd rfl (Or.inl rfl) (pe_op op_add (pv 6) pe_int))
  (pss_cons (ps_set (i := 9) sc_law.nd rfl (Or.inl rfl) (pe_ifExp (PW.pt (pw_or (pt_cmpR (op_eqD (hu64 hr)) (pv 5) (pe_lst pa_nil) (nomark _)) (pw_or1 (pt_cmpR op_eq (pv 8) pe_int (nomark _))))) (pe_call (ok_spawn G) (hr.mono (by decide)) rfl G.g_spawn G.k_spawn G.bi_spawn .nil pass0 (pa_cons (pv 4) pa_nil)) (pe_call (ok_fork G) (hr.mono (by decide)) rfl G.g_fork G.k_fork G.bi_fork .nil passL (pa_cons (pv 4) (pa_cons (pe_call (ok__law_one G) (hr.mono (by decide)) rfl G.g__law_one G.k__law_one G.bi__law_one .nil pass0 (pa_cons (pv 2) (pa_cons (pv 5) pa_nil))) pa_nil)))))
  (pss_cons (ps_expr (pe_bm PySem.F.plainAttrs_list PySem.F.slot_list_append PySem.F.type_list_append mt_append (pv 5) (pa_cons (pv 6) pa_nil)))
  (pss_one (ps_if (pt_cmpR op_ne (pv 9) (pv 6) (nomark _)) (pss_one (ps_ret pe_bl)) pss_nil))))) (pss_one (ps_if (pt_cmpR (op_neD (hu64 hr)) (pv 5) (pe_lst pa_nil) (nomark _)) (pss_cons (ps_set (i := 10) sc_law.nd rfl (Or.inl rfl) (pe_bm PySem.F.plainAttrs_list PySem.F.slot_list_pop PySem.F.type_list_pop mt_popAt (pv 5) (pa_cons (pe_call (ok__law_draw G) (hr.mono (by decide)) rfl G.g__law_draw G.k__law_draw G.bi__law_draw .nil pass0 (pa_cons (pv 2) (pa_cons (pe_callB call_len_seq (by rfl) G.b_len (by decide +kernel) (pa_cons (pv 5) pa_nil)) pa_nil))) pa_nil)))
  (pss_one (ps_expr (pe_call (ok_leave G) (hr.mono (by decide)) rfl G.g_leave G.k_leave G.bi_leave .nil passL (pa_cons (pv 4) (pa_cons (pv 10) pa_nil)))))) (pss_cons (ps_expr (pe_call (ok_spawn G) (hr.mono (by decide)) rfl G.g_spawn G.k_spawn G.bi_spawn .nil pass0 (pa_cons (pv 4) pa_nil)))
  (pss_cons (ps_set (i := 6) sc_law.nd rfl (Or.inl rfl) (pe_op op_add (pv 6) pe_int))
  (pss_one (ps_expr (pe_bm PySem.F.plainAttrs_list PySem.F.slot_list_append PySem.F.type_list_append mt_append (pv 5) (pa_cons (pv 6) pa_nil)))))))))
  (pss_cons (ps_if (PW.pt (pw_or (pt_cmpR (op_neD (hu64 hr)) (pe_call (ok_processes G) (hr.mono (by decide)) rfl G.g_processes G.k_processes G.bi_processes .nil pass0 (pa_cons (pv 4) pa_nil)) (pv 5) (nomark _)) (pw_or1 (pt_cmpR op_ne (pe_call (ok_now G) (hr.mono (by decide)) rfl G.g_now G.k_now G.bi_now .nil pass0 (pa_cons (pv 4) pa_nil)) (pe_op op_add (pv 7) pe_int) (nomark _))))) (pss_one (ps_ret pe_bl)) pss_nil)
  (pss_one (ps_expr (pe_bm0 PySem.F.plainAttrs_list PySem.F.slot_list_clear PySem.F.type_list_clear mt_clear (pe_call (ok_processes G) (hr.mono (by decide)) rfl G.g_processes G.k_processes G.bi_processes .nil pass0 (pa_cons (pv 4) pa_nil)))))))))
  (pss_cons (ps_set (i := 11) sc_law.nd rfl (Or.inr rfl) (pe_call (ok__law_one G) (hr.mono (by decide)) rfl G.g__law_one G.k__law_one G.bi__law_one .nil pass0 (pa_cons (pv 2) (pa_cons (pe_lst (pa_cons pe_non (pa_cons pe_int (pa_cons (pe_un un_neg pe_int) (pa_cons (pe_op op_add (pv 6) pe_int) (pa_cons pe_str (pa_cons (pe_lst pa_nil) (pa_cons pe_dnewK (pa_cons (pe_tup (pa_cons pe_int pa_nil)) (pa_cons (pe_cmpR op_eq pe_int pe_int (nomark _)) (pa_cons (pe_cmpR op_eq pe_int pe_int (nomark _)) pa_nil))))))))))) pa_nil))))
  (pss_cons (ps_if (PW.pt (pw_or (pt_cmpR (op_neTupS (hu0 hr)) (LamX.pe_lamcall (T := TS A) (TT := TTs A) (k := 4) rfl G.g__law_said G.k__law_said lkS hcS hbS sc__law_said rfl (Or.inl rfl) (said_gives G) TB.l rfl List.mem_cons_self (TS_l TB) (hr.mono (by decide)) (LamX.lamS_by (sc := defScope s_law) (by decide +kernel)) rfl (fun _ _ _ _ _ => rfl) (fun A2 outer2 s2 H2 E2 f2 c2 hr => by exact (pe_call (ok_fork G) (hr.mono (by decide)) rfl G.g_fork G.k_fork G.bi_fork .nil (passes_call (takes_of rfl rfl rfl rfl) (fun _ _ _ _ z => z)) (pa_cons (pv 4) (pa_cons (pv 11) pa_nil))))) (pe_tup (pa_cons pe_str (pa_cons (pv 11) pa_nil))) (nomark _)) (pw_or1 (pt_cmpR (op_neD (hu64 hr)) (pe_call (ok_processes G) (hr.mono (by decide)) rfl G.g_processes G.k_processes G.bi_processes .nil pass0 (pa_cons (pv 4) pa_nil)) (pv 5) (nomark _))))) (pss_one (ps_ret pe_bl)) pss_nil)
  (pss_cons (ps_if (pt_cmpR (op_neTupS (hu0 hr)) (LamX.pe_lamcall (T := TS A) (TT := TTs A) (k := 4) rfl G.g__law_said G.k__law_said lkS hcS hbS sc__law_said rfl (Or.inl rfl) (said_gives G) TB.l rfl List.mem_cons_self (TS_l TB) (hr.mono (by decide)) (LamX.lamS_by (sc := defScope s_law) (by decide +kernel)) rfl (fun _ _ _ _ _ => rfl) (fun A2 outer2 s2 H2 E2 f2 c2 hr => by exact (pe_call (ok_leave G) (hr.mono (by decide)) rfl G.g_leave G.k_leave G.bi_leave .nil (passes_call (takes_of rfl rfl rfl rfl) (fun _ _ _ _ z => z)) (pa_cons (pv 4) (pa_cons (pv 11) pa_nil))))) (pe_tup (pa_cons pe_str (pa_cons (pv 11) pa_nil))) (nomark _)) (pss_one (ps_ret pe_bl)) pss_nil)
  (pss_one (ps_if (PW.pt (pw_or (pt_cmpR (op_neTupS (hu0 hr)) (LamX.pe_lamcall (T := TS A) (TT := TTs A) (k := 4) rfl G.g__law_said G.k__law_said lkS hcS hbS sc__law_said rfl (Or.inl rfl) (said_gives G) TB.l rfl List.mem_cons_self (TS_l TB) (hr.mono (by decide)) (LamX.lamS_by (sc := defScope s_law) (by decide +kernel)) rfl (fun _ _ _ _ _ => rfl) (fun A2 outer2 s2 H2 E2 f2 c2 hr => by exact (pe_call (ok_fresh G) (hr.mono (by decide)) rfl G.g_fresh G.k_fresh G.bi_fresh .nil (passes_call (takes_of rfl rfl rfl rfl) (fun _ _ _ _ z => z)) (pa_cons (pv 4) (pa_cons (pv 11) pa_nil))))) (pe_tup (pa_cons pe_str (pa_cons (pv 11) pa_nil))) (nomark _)) (pw_or1 (pt_cmpR op_ne (pe_call (ok_now G) (hr.mono (by decide)) rfl G.g_now G.k_now G.bi_now .nil pass0 (pa_cons (pv 4) pa_nil)) (pe_op op_add (pv 7) pe_int) (nomark _))))) (pss_one (ps_ret pe_bl)) pss_nil))))))))))))
  (pss_one (ps_ret pe_bl))), ?_⟩
    -- script[:8] + [0, 1]
    refine ⟨_, rfl, _, rfl, a0, _, rfl, hS, fun q1 hq1 => ⟨by decide, fun q2 hq2 => ?_⟩⟩
    obtain ⟨ms, hms, hml⟩ : ∃ ms : List Int, cutV (ns.map V.int) none (some 8) = ms.map V.int ∧ ms.length ≤ 63 := by
      refine ⟨(ns.drop (HT.sIx (ns.map V.int).length 0 none)).take (HT.sIx (ns.map V.int).length (ns.map V.int).length (some 8) - HT.sIx (ns.map V.int).length 0 none), ?_, ?_⟩
      · unfold cutV
        rw [List.map_take, List.map_drop]
      · rw [List.length_take, List.length_drop]
        omega
    have u1 : (upd (upd H q1 (.lst (cutV (ns.map V.int) none (some 8)))) q2 (.lst [.int 0, .int 1])) q1 = some (.lst (ms.map V.int)) := by rw [upd_ne (ne_of_none upd_same hq2), upd_same, hms]
    refine ⟨q1, q2, _, _, rfl, rfl, u1, upd_same, (by rw [List.length_map]; show ms.length + 2 ≤ sizeLine; exact Nat.le_trans (Nat.add_le_add_right hml 2) (by decide)), fun q3 hq3 => ?_⟩
    have sA : Same H (upd (upd (upd H q1 (.lst (cutV (ns.map V.int) none (some 8)))) q2 (.lst [.int 0, .int 1])) q3 (.lst (ms.map V.int ++ [.int 0, .int 1]))) := ((Same.new hq1).trans (Same.new hq2)).trans (Same.new hq3)
    have TA := tabs_same hT sA
    generalize hHA : upd (upd (upd H q1 (.lst (cutV (ns.map V.int) none (some 8)))) q2 (.lst [.int 0, .int 1])) q3 (.lst (ms.map V.int ++ [.int 0, .int 1])) = HA at *
    have lA : HA q3 = some (.lst (ms.map V.int ++ [.int 0, .int 1])) := by rw [← hHA, upd_same]
    refine ⟨q3, rfl, ⟨_, SqL.of lA⟩, for_list (K := K) (a := q3) (xs := ms.map V.int ++ [.int 0, .int 1])
      (fun _ σ H' => (∃ c1 c2 c3 c4 c5 c6 c7 c8 c9 c10 c11, σ = [some (.ref a0), c1, c2, c3, c4, c5, c6, c7, c8, c9, c10, c11]) ∧ LamX.Tabs (TS A) H' ∧ H' q3 = some (.lst (ms.map V.int ++ [.int 0, .int 1])))
      ⟨⟨_, _, _, _, _, _, _, _, _, _, _, rfl⟩, TA, lA⟩ (fun _ σ H' _ hp => SqL.of hp.2.2) ?_ ?_⟩
    · rintro _ y σ H0 hy ⟨⟨c1, c2, c3, c4, c5, c6, c7, c8, c9, c10, c11, rfl⟩, T0, l0⟩
      obtain ⟨n, rfl⟩ : ∃ n, y = V.int n := by
        have := List.mem_of_getElem? hy
        rcases List.mem_append.mp this with z | z
        · obtain ⟨n, _, rfl⟩ := List.mem_map.mp z
          exact ⟨n, rfl⟩
        · simp at z
          rcases z with rfl | rfl <;> exact ⟨_, rfl⟩
      -- well
      refine ⟨_, rfl, n, rfl, fun a H1 ha s1 w1 => ?_⟩
      have T1 := tabs_same T0 s1
      have k1 : Kp H0 H1 := fun b o e _ => s1 b o e
      -- for turn in range(3)
      refine ⟨3, rfl, by decide, by decide, for_range (lo := 0) (n := 3) (fun i σ H' => (∃ c3, σ = [some (.ref a0), some (.int n), some (.ref a), c3, c4, c5, c6, c7, c8, c9, c10, c11]) ∧ Kp H0 H' ∧ LamX.Tabs (TS A) H' ∧ WellAt H' a (5 * i))
        ⟨⟨_, rfl⟩, k1, T1, w1⟩ ?_ ?_⟩
      · rintro i σ H2 hi ⟨⟨c3, rfl⟩, k2, T2, w2⟩
        refine ⟨_, rfl, a, _, rfl, w2, by omega, T2, fun H3 f3 T3 w3 => ⟨_, rfl, iteF ?_⟩⟩
        have e : 5 * i + 5 = 5 * (i + 1) := by omega
        rw [e] at w3
        exact ⟨⟨_, rfl⟩, fun b o e nt => f3 b o (ne_of_none e ha).symm.symm (k2 b o e nt) nt, T3, w3⟩
      · rintro σ H2 ⟨⟨c3, rfl⟩, k2, T2, w2⟩
        -- system = System(); alive = []; last = 0
        dsimp only
        have fa : Fr1 H0 a := fr_of (fun _ _ q _ => q) ha
        refine fun x dx hx hdx hne => ⟨x, dx, .non, .non, .bl false, rfl, .non, .non, .bl _, upd_same, fun _ H3 t f3 t0 S3 => ⟨rfl, ?_⟩, fun pt hp => ?_⟩
        case refine_2 => exact absurd hp (by rw [show badP .non .non (.bl false) = none by decide]; simp)
        refine ⟨Nat.zero_le _, fun la hla => ?_⟩
        have sN : Same H2 (upd (upd H2 dx (.own x)) x (.ins A.c_System dx [])) := (Same.new hdx).trans (Same.new (by rw [upd_ne (Ne.symm hne)]; exact hx))
        have s3 : Same H2 (upd H3 la (.lst [])) := fun b o e => Same.new hla b o (f3 b o (ne_of_none e hx) (sN b o e))
        obtain ⟨xw, hxw⟩ := w2.lst
        have Kt : H2 t = none := by
          cases e : H2 t with
          | none => rfl
          | some o =>
            have := sN _ _ e
            rw [t0] at this
            cases this
        have Kl : H2 la = none := by
          cases e : H2 la with
          | none => rfl
          | some o =>
            have := f3 _ _ (ne_of_none e hx) (sN _ _ e)
            rw [hla] at this
            cases this
        have S0 : Sta A H0 (upd H3 la (.lst [])) a la x t 15 0 0 [] [] :=
          ⟨fun b o q n => s3 _ _ (k2 b o q n), tabs_same T2 s3, w2.same ((s3 _ _ hxw).trans hxw.symm), upd_same, S3.same (Same.new hla), fa, fr_of k2 Kl, fr_of k2 hx, fr_of k2 Kt, (ne_of_none hxw Kl).symm⟩
        clear S3 sN s3 hxw Kt Kl f3
        -- for k in range(1 + draw)
        refine ⟨_, rfl, a, 40, 15, rfl, by decide, by decide, S0.wl, by decide, fun d H4 d0 d1 f4 w4 => ?_⟩
        have S4 := S0.draw f4 w4
        obtain ⟨m, rfl⟩ : ∃ m : Nat, d = (m : Int) := ⟨d.toNat, (Int.toNat_of_nonneg d0).symm⟩
        refine ⟨1, (m : Int), rfl, rfl, 1 + (m : Int), rfl, by omega, by omega, for_range (lo := 0) (n := (1 + (m : Int)).toNat)
          (fun i σ H' => ∃ c8 c9 c10 p al, σ = [some (.ref a0), some (.int n), some (.ref a), c3, some (.ref x), some (.ref la), some (.int p), if i = 0 then c7 else some (.int ((i : Int) - 1)), c8, c9, c10, c11] ∧ Sta A H0 H' a la x t (16 + 3 * i) i p al (al.map fun z => V.int z.1))
          ⟨_, _, _, 0, [], rfl, S4⟩ ?_ ?_⟩
        · rintro i σ H5 hi ⟨c8, c9, c10, p, al, rfl, S5⟩
          -- way = draw
          refine ⟨_, rfl, a, 4, _, rfl, by decide, by decide, S5.wl, by omega, fun way H6 way0 way1 f6 w6 => ?_⟩
          have S6 := S5.draw f6 w6
          dsimp only [gName, List.set]
          have i0 : (0 : Int) + (i : Int) = i := Int.zero_add _
          have inv : ∀ {c8 c9 c10 : Option V} {p' : Int} {al' : List (Int × Addr)} {B' : Nat} {H' : Hp}, B' ≤ 16 + 3 * (i + 1) → Sta A H0 H' a la x t B' ((i : Int) + 1) p' al' (al'.map fun z => V.int z.1) →
              ∃ c8' c9' c10' p'' al'', [some (.ref a0), some (.int n), some (.ref a), c3, some (.ref x), some (.ref la), some (.int p'), some (.int ((0 : Int) + (i : Int))), c8, c9, c10, c11] =
                [some (.ref a0), some (.int n), some (.ref a), c3, some (.ref x), some (.ref la), some (.int p''), if i + 1 = 0 then c7 else some (.int (((i + 1 : Nat) : Int) - 1)), c8', c9', c10', c11] ∧
                Sta A H0 H' a la x t (16 + 3 * (i + 1)) ((i + 1 : Nat) : Int) p'' al'' (al''.map fun z => V.int z.1) := @fun c8 c9 c10 p' al' B' H' hB S => by
            refine ⟨c8, c9, c10, p', al', ?_, S.mono hB (by omega)⟩
            rw [if_neg (Nat.succ_ne_zero i), i0]
            have e : (((i + 1 : Nat) : Int) - 1) = (i : Int) := by omega
            rw [e]
          obtain ⟨_, _, _, _, _, _, hl12⟩ := id S6.sy
          -- way < 2 and len(alive) < 12
          refine ⟨_, rfl, _, _, rfl, rfl, _, rfl, iteD (fun cw => ?_) (fun cw => ?_)⟩
          · refine ⟨_, rfl, la, _, rfl, .inl (SqL.of S6.ll), _, _, rfl, rfl, _, rfl, iteD (fun cl => ?_) (fun cl => ?_)⟩
            · rw [List.length_map] at cl
              have hl : al.length < 12 := by omega
              -- last = last + 1; told = ..
              refine ⟨_, rfl, _, _, rfl, rfl, ?_⟩
              refine eq_nil S6 rfl fun H7 s7 => ?_
              have S7 := S6.same s7
              refine iteD (fun ce => ?_) (fun ce => ?_)
              · refine iteT ⟨_, rfl, .bl false, .non, .non, x, t, _, p, al, rfl, S7.sy, hl, fun H8 d f8 _ Y8 => ?_⟩
                exact app_A (S7.sys f8 Y8) rfl rfl rfl (by omega) fun H9 S9 => post_step S9 rfl rfl (by rw [i0]; rfl) fun H10 S10 => inv (by omega) S10
              · refine ⟨_, rfl, rfl, _, rfl, ?_⟩
                by_cases c0 : way = 0
                · rw [decide_eq_true (by rw [c0])]
                  refine iteT ⟨_, rfl, .bl false, .non, .non, x, t, _, p, al, rfl, S7.sy, hl, fun H8 d f8 _ Y8 => ?_⟩
                  exact app_A (S7.sys f8 Y8) rfl rfl rfl (by omega) fun H9 S9 => post_step S9 rfl rfl (by rw [i0]; rfl) fun H10 S10 => inv (by omega) S10
                · rw [decide_eq_false (fun z => c0 (V.int.inj z))]
                  refine iteF ⟨_, rfl, _, rfl, _, rfl, a, la, _, _, rfl, S7.ll, S7.ne, ?_, ?_, S7.wl, by omega, fun v H8 hv f8 w8 => ?_⟩
                  · rw [List.length_map]
                    exact List.length_pos_iff.mpr ce
                  · rw [List.length_map]
                    omega
                  have S8 := S7.draw f8 w8
                  obtain ⟨z, hz, rfl⟩ := List.mem_map.mp hv
                  refine ⟨.non, .non, x, t, _, p, al, .int z.1, rfl, S8.sy, .int _, fun j d ej hm => ⟨hl, fun H9 d' f9 _ Y9 => ?_⟩, fun hn => absurd hz (hn z.1 z.2 rfl)⟩
                  exact app_A (S8.sys f9 Y9) rfl rfl rfl (by omega) fun H10 S10 => post_step S10 rfl rfl (by rw [i0]; rfl) fun H11 S11 => inv (by omega) S11
            · exact else_step S6 (by omega) fun H7 p7 al7 s10' S7 => post_step S7 rfl rfl (by rw [i0]; rfl) fun H8 S8 => inv (by omega) S8
          · exact else_step S6 (by omega) fun H7 p7 al7 s10' S7 => post_step S7 rfl rfl (by rw [i0]; rfl) fun H8 S8 => inv (by omega) S8
        · rintro σ H5 ⟨c8, c9, c10, p, al, rfl, S5⟩
          have em : (1 + (m : Int)).toNat = m + 1 := by omega
          rw [em] at S5 ⊢
          rw [if_neg (Nat.succ_ne_zero m)]
          have em2 : (((m + 1 : Nat) : Int) - 1) = (m : Int) := by omega
          rw [em2]
          have m40 : m < 40 := by omega
          -- odd
          refine ⟨_, rfl, _, rfl, _, rfl, _, _, rfl, rfl, Nat.zero_le _, fun p1 hp1 => fun p2 hp2 => ⟨(by show 1 ≤ sizeLine; decide), fun p3 hp3 => ⟨rfl, rfl, (by show 10 ≤ sizeLine; decide), fun q hq => ?_⟩⟩⟩
          have sB := ((Same.new (o := .lst []) hp1).trans (Same.new (o := .dK []) hp2)).trans (Same.new (o := .tup [V.int 1]) hp3)
          have S6 := (S5.same sB).same (Same.new (o := .lst [V.non, V.int 0, V.int (-1), V.int (p + 1), V.str "1", V.ref p1, V.ref p2, V.ref p3, V.bl (decide (V.int 1 = V.int 1)), V.bl (decide (V.int 1 = V.int 0))]) hq)
          refine ⟨a, q, _, _, rfl, upd_same, wne (S5.same sB).wl hq, (by show 0 < 10; decide), (by show 10 < 1000; decide), S6.wl, by omega, fun v H6 hv f6 w6 => ?_⟩
          have S7 := S6.draw f6 w6
          have n1 : p1 ≠ a := wne S5.wl hp1
          have n2 : p2 ≠ a := wne (S5.same (Same.new (o := .lst []) hp1)).wl hp2
          have n3 : p3 ≠ a := wne ((S5.same (Same.new (o := .lst []) hp1)).same (Same.new (o := .dK []) hp2)).wl hp3
          have g1 : H6 p1 = some (.lst []) := f6 _ _ n1 (Same.new hq _ _ (Same.new hp3 _ _ (Same.new hp2 _ _ upd_same)))
          have g2 : H6 p2 = some (.dK []) := f6 _ _ n2 (Same.new hq _ _ (Same.new hp3 _ _ upd_same))
          have g3 : H6 p3 = some (.tup [V.int 1]) := f6 _ _ n3 (Same.new hq _ _ upd_same)
          obtain ⟨_, _, _, _, h5, hp0, _⟩ := id S7.sy
          have any : AnyV H6 v ∧ ∀ j d, v = .int j → (j, d) ∉ al := by
            have big : ∀ j d, (j < 1 ∨ p < j) → (j, d) ∉ al := fun j d hj hm => by have := h5 _ hm; simp only at this; omega
            simp only [List.mem_cons, List.not_mem_nil, or_false] at hv
            rcases hv with rfl | rfl | rfl | rfl | rfl | rfl | rfl | rfl | rfl | rfl
            · exact ⟨.non, fun j d e => by cases e⟩
            · exact ⟨.int _, fun j d e => by cases e; exact big _ _ (by omega)⟩
            · exact ⟨.int _, fun j d e => by cases e; exact big _ _ (by omega)⟩
            · exact ⟨.int _, fun j d e => by cases e; exact big _ _ (by omega)⟩
            · exact ⟨.str _, fun j d e => by cases e⟩
            · exact ⟨.lst g1, fun j d e => by cases e⟩
            · exact ⟨.dK g2, fun j d e => by cases e⟩
            · exact ⟨.tup g3, fun j d e => by cases e⟩
            · exact ⟨.bl _, fun j d e => by cases e⟩
            · exact ⟨.bl _, fun j d e => by cases e⟩
          obtain ⟨av, nv⟩ := any
          clear g1 g2 g3 n1 n2 n3 f6 w6 hq hp3 sB S6
          dsimp only [gName, List.set]
          -- fork
          refine told_step S7 av rfl (fun E H' Q' S' av' hE => ⟨_, rfl, _, rfl, .non, .non, x, t, _, p, al, v, rfl, S'.sy, av', fun j d e hm => absurd hm (nv j d e), fun _ d H'' s'' _ e'' => hE d H'' s'' e''⟩) fun H7 S8 av8 => ?_
          refine iteF (procs_ne S8 rfl rfl fun H8 s9 => iteF ?_)
          have S9 := S8.same s9
          -- leave
          refine told_step S9 (av8.same s9) rfl (fun E H' Q' S' av' hE => ⟨_, rfl, _, rfl, .non, .non, .bl false, x, t, _, p, al, v, rfl, S'.sy, av', fun j d l r e el => absurd (by rw [el]; simp) (nv j d e), fun _ d H'' s'' _ e'' => hE d H'' s'' e''⟩) fun H9 S10 av10 => iteF ?_
          -- fresh
          refine told_step S10 av10 rfl (fun E H' Q' S' av' hE => ⟨_, rfl, _, rfl, .non, .non, .bl false, x, t, _, p, al, v, rfl, S'.sy, av', fun j d e hm => absurd hm (nv j d e), fun _ d H'' s'' _ e'' => hE d H'' s'' e''⟩) fun H10 S11 av11 => iteF ?_
          refine ⟨_, rfl, .non, .non, .bl false, x, t, _, p, al, rfl, S11.sy, _, rfl, _, _, rfl, rfl, rfl, _, rfl, ?_⟩
          have e9 : V.int (((m + 1 : Nat) : Int)) = V.int ((m : Int) + 1) := by rw [show (((m + 1 : Nat) : Int)) = (m : Int) + 1 by omega]
          rw [decide_eq_true e9]
          refine iteF ⟨⟨_, _, _, _, _, _, _, _, _, _, _, rfl⟩, S11.tb, S11.kp _ _ l0 (fun _ z => by cases z)⟩
    · rintro σ H' ⟨⟨c1, c2, c3, c4, c5, c6, c7, c8, c9, c10, c11, rfl⟩, T0, l0⟩
      exact k _
end
end My

set_option Elab.async false
set_option linter.all false
set_option maxRecDepth 100000
set_option maxHeartbeats 4000000
namespace My
open PySem L2
theorem all_mk {K : PySem.W.Frag} {h : Heap} {mg : Str → Option Value} (X : K.In h) (G : h.Ns mainGlobals mg)
    {f_replace_pages : Addr} {od_replace_pages an_replace_pages : Option Addr} {sl_replace_pages : Array (Option Value)} {oc_replace_pages dc_replace_pages pm_replace_pages ct_replace_pages : Value} {cd_replace_pages : Value}
    {kV_replace_pages : Value}
    {f_end_step : Addr} {od_end_step an_end_step : Option Addr} {sl_end_step : Array (Option Value)} {oc_end_step dc_end_step pm_end_step ct_end_step : Value} {cd_end_step : Value}
    {kV_end_step : Value}
    {f_is_integer : Addr} {od_is_integer an_is_integer : Option Addr} {sl_is_integer : Array (Option Value)} {oc_is_integer dc_is_integer pm_is_integer ct_is_integer : Value} {cd_is_integer : Value}
    {kV_is_integer : Value}
    {f_table_of : Addr} {od_table_of an_table_of : Option Addr} {sl_table_of : Array (Option Value)} {oc_table_of dc_table_of pm_table_of ct_table_of : Value} {cd_table_of : Value}
    {kV_table_of : Value}
    {f_require_charge : Addr} {od_require_charge an_require_charge : Option Addr} {sl_require_charge : Array (Option Value)} {oc_require_charge dc_require_charge pm_require_charge ct_require_charge : Value} {cd_require_charge : Value}
    {kV_require_charge : Value}
    {f_now : Addr} {od_now an_now : Option Addr} {sl_now : Array (Option Value)} {oc_now dc_now pm_now ct_now : Value} {cd_now : Value}
    {kV_now : Value}
    {f_new_process : Addr} {od_new_process an_new_process : Option Addr} {sl_new_process : Array (Option Value)} {oc_new_process dc_new_process pm_new_process ct_new_process : Value} {cd_new_process : Value}
    {kV_new_process : Value}
    {f_unmap_all : Addr} {od_unmap_all an_unmap_all : Option Addr} {sl_unmap_all : Array (Option Value)} {oc_unmap_all dc_unmap_all pm_unmap_all ct_unmap_all : Value} {cd_unmap_all : Value}
    {kV_unmap_all : Value}
    {f_spawn : Addr} {od_spawn an_spawn : Option Addr} {sl_spawn : Array (Option Value)} {oc_spawn dc_spawn pm_spawn ct_spawn : Value} {cd_spawn : Value}
    {kV_spawn : Value}
    {f_fork : Addr} {od_fork an_fork : Option Addr} {sl_fork : Array (Option Value)} {oc_fork dc_fork pm_fork ct_fork : Value} {cd_fork : Value}
    {kV_fork : Value}
    {f_leave : Addr} {od_leave an_leave : Option Addr} {sl_leave : Array (Option Value)} {oc_leave dc_leave pm_leave ct_leave : Value} {cd_leave : Value}
    {kV_leave : Value}
    {f_fresh : Addr} {od_fresh an_fresh : Option Addr} {sl_fresh : Array (Option Value)} {oc_fresh dc_fresh pm_fresh ct_fresh : Value} {cd_fresh : Value}
    {kV_fresh : Value}
    {f_processes : Addr} {od_processes an_processes : Option Addr} {sl_processes : Array (Option Value)} {oc_processes dc_processes pm_processes ct_processes : Value} {cd_processes : Value}
    {kV_processes : Value}
    {f__law_well : Addr} {od__law_well an__law_well : Option Addr} {sl__law_well : Array (Option Value)} {oc__law_well dc__law_well pm__law_well ct__law_well : Value} {cd__law_well : Value}
    {kV__law_well : Value}
    {f__law_draw : Addr} {od__law_draw an__law_draw : Option Addr} {sl__law_draw : Array (Option Value)} {oc__law_draw dc__law_draw pm__law_draw ct__law_draw : Value} {cd__law_draw : Value}
    {kV__law_draw : Value}
    {f__law_one : Addr} {od__law_one an__law_one : Option Addr} {sl__law_one : Array (Option Value)} {oc__law_one dc__law_one pm__law_one ct__law_one : Value} {cd__law_one : Value}
    {kV__law_one : Value}
    {f__law_said : Addr} {od__law_said an__law_said : Option Addr} {sl__law_said : Array (Option Value)} {oc__law_said dc__law_said pm__law_said ct__law_said : Value} {cd__law_said : Value}
    {kV__law_said : Value}
    {f__law_is_number : Addr} {od__law_is_number an__law_is_number : Option Addr} {sl__law_is_number : Array (Option Value)} {oc__law_is_number dc__law_is_number pm__law_is_number ct__law_is_number : Value} {cd__law_is_number : Value}
    {kV__law_is_number : Value}
    {f__law_system_right : Addr} {od__law_system_right an__law_system_right : Option Addr} {sl__law_system_right : Array (Option Value)} {oc__law_system_right dc__law_system_right pm__law_system_right ct__law_system_right : Value} {co__law_system_right ta__law_system_right : Addr}
    {kV__law_system_right : Value}
    {f_law : Addr} {od_law an_law : Option Addr} {sl_law : Array (Option Value)} {oc_law dc_law pm_law ct_law : Value} {co_law ta_law : Addr}
    {kV_law : Value}
    {C_NoSystem : Addr}
    {C_NoProcess : Addr}
    {C_PageError : Addr}
    {C_System : Addr}
    {f_NoSystem_init : Addr} {od_NoSystem_init an_NoSystem_init : Option Addr} {sl_NoSystem_init : Array (Option Value)} {oc_NoSystem_init dc_NoSystem_init pm_NoSystem_init ct_NoSystem_init : Value} {cd_NoSystem_init : Value}
    {kV_NoSystem_init : Value}
    {f_NoProcess_init : Addr} {od_NoProcess_init an_NoProcess_init : Option Addr} {sl_NoProcess_init : Array (Option Value)} {oc_NoProcess_init dc_NoProcess_init pm_NoProcess_init ct_NoProcess_init : Value} {cd_NoProcess_init : Value}
    {kV_NoProcess_init : Value}
    {f_System_init : Addr} {od_System_init an_System_init : Option Addr} {sl_System_init : Array (Option Value)} {oc_System_init dc_System_init pm_System_init ct_System_init : Value} {cd_System_init : Value}
    {kD_System_init : Addr}
    {nm_NoSystem q_NoSystem : Str} {N_NoSystem : Addr} {bs_NoSystem bm_NoSystem sub_NoSystem : List Value} {sn_NoSystem : List Str} {ab_NoSystem : Bool} {col_NoSystem : Option Bool} {dd_NoSystem : Option Addr} {m0_NoSystem m1_NoSystem m2_NoSystem m3_NoSystem m5_NoSystem : Option Value}
    {nm_NoProcess q_NoProcess : Str} {N_NoProcess : Addr} {bs_NoProcess bm_NoProcess sub_NoProcess : List Value} {sn_NoProcess : List Str} {ab_NoProcess : Bool} {col_NoProcess : Option Bool} {dd_NoProcess : Option Addr} {m0_NoProcess m1_NoProcess m2_NoProcess m3_NoProcess m5_NoProcess : Option Value}
    {nm_PageError q_PageError : Str} {N_PageError : Addr} {bs_PageError bm_PageError sub_PageError : List Value} {sn_PageError : List Str} {ab_PageError : Bool} {col_PageError : Option Bool} {dd_PageError : Option Addr} {m0_PageError m1_PageError m2_PageError m3_PageError m5_PageError : Option Value}
    (h_replace_pages : PySem.W.nsIn K mainGlobals "replace_pages" = some (some (.ref f_replace_pages)))
    (l_replace_pages : K.lookup f_replace_pages = some ⟨oc_replace_pages, od_replace_pages, .func (PySem.W.fnOf "replace_pages" "replace_pages" (defArgs s_replace_pages) (defBody s_replace_pages) (defScope s_replace_pages) .none kV_replace_pages dc_replace_pages pm_replace_pages an_replace_pages cd_replace_pages ct_replace_pages), sl_replace_pages⟩)
    (c_replace_pages : PySem.W.codeIn K cd_replace_pages "replace_pages" = true)
    (k_replace_pages : PySem.W.keepIn K (.ref f_replace_pages) = true)
    (h_end_step : PySem.W.nsIn K mainGlobals "end_step" = some (some (.ref f_end_step)))
    (l_end_step : K.lookup f_end_step = some ⟨oc_end_step, od_end_step, .func (PySem.W.fnOf "end_step" "end_step" (defArgs s_end_step) (defBody s_end_step) (defScope s_end_step) .none kV_end_step dc_end_step pm_end_step an_end_step cd_end_step ct_end_step), sl_end_step⟩)
    (c_end_step : PySem.W.codeIn K cd_end_step "end_step" = true)
    (k_end_step : PySem.W.keepIn K (.ref f_end_step) = true)
    (h_is_integer : PySem.W.nsIn K mainGlobals "is_integer" = some (some (.ref f_is_integer)))
    (l_is_integer : K.lookup f_is_integer = some ⟨oc_is_integer, od_is_integer, .func (PySem.W.fnOf "is_integer" "is_integer" (defArgs s_is_integer) (defBody s_is_integer) (defScope s_is_integer) .none kV_is_integer dc_is_integer pm_is_integer an_is_integer cd_is_integer ct_is_integer), sl_is_integer⟩)
    (c_is_integer : PySem.W.codeIn K cd_is_integer "is_integer" = true)
    (k_is_integer : PySem.W.keepIn K (.ref f_is_integer) = true)
    (h_table_of : PySem.W.nsIn K mainGlobals "table_of" = some (some (.ref f_table_of)))
    (l_table_of : K.lookup f_table_of = some ⟨oc_table_of, od_table_of, .func (PySem.W.fnOf "table_of" "table_of" (defArgs s_table_of) (defBody s_table_of) (defScope s_table_of) .none kV_table_of dc_table_of pm_table_of an_table_of cd_table_of ct_table_of), sl_table_of⟩)
    (c_table_of : PySem.W.codeIn K cd_table_of "table_of" = true)
    (k_table_of : PySem.W.keepIn K (.ref f_table_of) = true)
    (h_require_charge : PySem.W.nsIn K mainGlobals "require_charge" = some (some (.ref f_require_charge)))
    (l_require_charge : K.lookup f_require_charge = some ⟨oc_require_charge, od_require_charge, .func (PySem.W.fnOf "require_charge" "require_charge" (defArgs s_require_charge) (defBody s_require_charge) (defScope s_require_charge) .none kV_require_charge dc_require_charge pm_require_charge an_require_charge cd_require_charge ct_require_charge), sl_require_charge⟩)
    (c_require_charge : PySem.W.codeIn K cd_require_charge "require_charge" = true)
    (k_require_charge : PySem.W.keepIn K (.ref f_require_charge) = true)
    (h_now : PySem.W.nsIn K mainGlobals "now" = some (some (.ref f_now)))
    (l_now : K.lookup f_now = some ⟨oc_now, od_now, .func (PySem.W.fnOf "now" "now" (defArgs s_now) (defBody s_now) (defScope s_now) .none kV_now dc_now pm_now an_now cd_now ct_now), sl_now⟩)
    (c_now : PySem.W.codeIn K cd_now "now" = true)
    (k_now : PySem.W.keepIn K (.ref f_now) = true)
    (h_new_process : PySem.W.nsIn K mainGlobals "new_process" = some (some (.ref f_new_process)))
    (l_new_process : K.lookup f_new_process = some ⟨oc_new_process, od_new_process, .func (PySem.W.fnOf "new_process" "new_process" (defArgs s_new_process) (defBody s_new_process) (defScope s_new_process) .none kV_new_process dc_new_process pm_new_process an_new_process cd_new_process ct_new_process), sl_new_process⟩)
    (c_new_process : PySem.W.codeIn K cd_new_process "new_process" = true)
    (k_new_process : PySem.W.keepIn K (.ref f_new_process) = true)
    (h_unmap_all : PySem.W.nsIn K mainGlobals "unmap_all" = some (some (.ref f_unmap_all)))
    (l_unmap_all : K.lookup f_unmap_all = some ⟨oc_unmap_all, od_unmap_all, .func (PySem.W.fnOf "unmap_all" "unmap_all" (defArgs s_unmap_all) (defBody s_unmap_all) (defScope s_unmap_all) .none kV_unmap_all dc_unmap_all pm_unmap_all an_unmap_all cd_unmap_all ct_unmap_all), sl_unmap_all⟩)
    (c_unmap_all : PySem.W.codeIn K cd_unmap_all "unmap_all" = true)
    (k_unmap_all : PySem.W.keepIn K (.ref f_unmap_all) = true)
    (h_spawn : PySem.W.nsIn K mainGlobals "spawn" = some (some (.ref f_spawn)))
    (l_spawn : K.lookup f_spawn = some ⟨oc_spawn, od_spawn, .func (PySem.W.fnOf "spawn" "spawn" (defArgs s_spawn) (defBody s_spawn) (defScope s_spawn) .none kV_spawn dc_spawn pm_spawn an_spawn cd_spawn ct_spawn), sl_spawn⟩)
    (c_spawn : PySem.W.codeIn K cd_spawn "spawn" = true)
    (k_spawn : PySem.W.keepIn K (.ref f_spawn) = true)
    (h_fork : PySem.W.nsIn K mainGlobals "fork" = some (some (.ref f_fork)))
    (l_fork : K.lookup f_fork = some ⟨oc_fork, od_fork, .func (PySem.W.fnOf "fork" "fork" (defArgs s_fork) (defBody s_fork) (defScope s_fork) .none kV_fork dc_fork pm_fork an_fork cd_fork ct_fork), sl_fork⟩)
    (c_fork : PySem.W.codeIn K cd_fork "fork" = true)
    (k_fork : PySem.W.keepIn K (.ref f_fork) = true)
    (h_leave : PySem.W.nsIn K mainGlobals "leave" = some (some (.ref f_leave)))
    (l_leave : K.lookup f_leave = some ⟨oc_leave, od_leave, .func (PySem.W.fnOf "leave" "leave" (defArgs s_leave) (defBody s_leave) (defScope s_leave) .none kV_leave dc_leave pm_leave an_leave cd_leave ct_leave), sl_leave⟩)
    (c_leave : PySem.W.codeIn K cd_leave "leave" = true)
    (k_leave : PySem.W.keepIn K (.ref f_leave) = true)
    (h_fresh : PySem.W.nsIn K mainGlobals "fresh" = some (some (.ref f_fresh)))
    (l_fresh : K.lookup f_fresh = some ⟨oc_fresh, od_fresh, .func (PySem.W.fnOf "fresh" "fresh" (defArgs s_fresh) (defBody s_fresh) (defScope s_fresh) .none kV_fresh dc_fresh pm_fresh an_fresh cd_fresh ct_fresh), sl_fresh⟩)
    (c_fresh : PySem.W.codeIn K cd_fresh "fresh" = true)
    (k_fresh : PySem.W.keepIn K (.ref f_fresh) = true)
    (h_processes : PySem.W.nsIn K mainGlobals "processes" = some (some (.ref f_processes)))
    (l_processes : K.lookup f_processes = some ⟨oc_processes, od_processes, .func (PySem.W.fnOf "processes" "processes" (defArgs s_processes) (defBody s_processes) (defScope s_processes) .none kV_processes dc_processes pm_processes an_processes cd_processes ct_processes), sl_processes⟩)
    (c_processes : PySem.W.codeIn K cd_processes "processes" = true)
    (k_processes : PySem.W.keepIn K (.ref f_processes) = true)
    (h__law_well : PySem.W.nsIn K mainGlobals "_law_well" = some (some (.ref f__law_well)))
    (l__law_well : K.lookup f__law_well = some ⟨oc__law_well, od__law_well, .func (PySem.W.fnOf "_law_well" "_law_well" (defArgs s__law_well) (defBody s__law_well) (defScope s__law_well) .none kV__law_well dc__law_well pm__law_well an__law_well cd__law_well ct__law_well), sl__law_well⟩)
    (c__law_well : PySem.W.codeIn K cd__law_well "_law_well" = true)
    (k__law_well : PySem.W.keepIn K (.ref f__law_well) = true)
    (h__law_draw : PySem.W.nsIn K mainGlobals "_law_draw" = some (some (.ref f__law_draw)))
    (l__law_draw : K.lookup f__law_draw = some ⟨oc__law_draw, od__law_draw, .func (PySem.W.fnOf "_law_draw" "_law_draw" (defArgs s__law_draw) (defBody s__law_draw) (defScope s__law_draw) .none kV__law_draw dc__law_draw pm__law_draw an__law_draw cd__law_draw ct__law_draw), sl__law_draw⟩)
    (c__law_draw : PySem.W.codeIn K cd__law_draw "_law_draw" = true)
    (k__law_draw : PySem.W.keepIn K (.ref f__law_draw) = true)
    (h__law_one : PySem.W.nsIn K mainGlobals "_law_one" = some (some (.ref f__law_one)))
    (l__law_one : K.lookup f__law_one = some ⟨oc__law_one, od__law_one, .func (PySem.W.fnOf "_law_one" "_law_one" (defArgs s__law_one) (defBody s__law_one) (defScope s__law_one) .none kV__law_one dc__law_one pm__law_one an__law_one cd__law_one ct__law_one), sl__law_one⟩)
    (c__law_one : PySem.W.codeIn K cd__law_one "_law_one" = true)
    (k__law_one : PySem.W.keepIn K (.ref f__law_one) = true)
    (h__law_said : PySem.W.nsIn K mainGlobals "_law_said" = some (some (.ref f__law_said)))
    (l__law_said : K.lookup f__law_said = some ⟨oc__law_said, od__law_said, .func (PySem.W.fnOf "_law_said" "_law_said" (defArgs s__law_said) (defBody s__law_said) (defScope s__law_said) .none kV__law_said dc__law_said pm__law_said an__law_said cd__law_said ct__law_said), sl__law_said⟩)
    (c__law_said : PySem.W.codeIn K cd__law_said "_law_said" = true)
    (k__law_said : PySem.W.keepIn K (.ref f__law_said) = true)
    (h__law_is_number : PySem.W.nsIn K mainGlobals "_law_is_number" = some (some (.ref f__law_is_number)))
    (l__law_is_number : K.lookup f__law_is_number = some ⟨oc__law_is_number, od__law_is_number, .func (PySem.W.fnOf "_law_is_number" "_law_is_number" (defArgs s__law_is_number) (defBody s__law_is_number) (defScope s__law_is_number) .none kV__law_is_number dc__law_is_number pm__law_is_number an__law_is_number cd__law_is_number ct__law_is_number), sl__law_is_number⟩)
    (c__law_is_number : PySem.W.codeIn K cd__law_is_number "_law_is_number" = true)
    (k__law_is_number : PySem.W.keepIn K (.ref f__law_is_number) = true)
    (h__law_system_right : PySem.W.nsIn K mainGlobals "_law_system_right" = some (some (.ref f__law_system_right)))
    (l__law_system_right : K.lookup f__law_system_right = some ⟨oc__law_system_right, od__law_system_right, .func (PySem.W.fnOf "_law_system_right" "_law_system_right" (defArgs s__law_system_right) (defBody s__law_system_right) (defScope s__law_system_right) .none kV__law_system_right dc__law_system_right pm__law_system_right an__law_system_right (.ref co__law_system_right) ct__law_system_right), sl__law_system_right⟩)
    (c__law_system_right : PySem.W.codeIn K (.ref co__law_system_right) "_law_system_right" = true)
    (k__law_system_right : PySem.W.keepIn K (.ref f__law_system_right) = true)
    (h_law : PySem.W.nsIn K mainGlobals "law" = some (some (.ref f_law)))
    (l_law : K.lookup f_law = some ⟨oc_law, od_law, .func (PySem.W.fnOf "law" "law" (defArgs s_law) (defBody s_law) (defScope s_law) .none kV_law dc_law pm_law an_law (.ref co_law) ct_law), sl_law⟩)
    (c_law : PySem.W.codeIn K (.ref co_law) "law" = true)
    (k_law : PySem.W.keepIn K (.ref f_law) = true)
    (h_NoSystem : PySem.W.nsIn K mainGlobals "NoSystem" = some (some (.ref C_NoSystem)))
    (h_NoProcess : PySem.W.nsIn K mainGlobals "NoProcess" = some (some (.ref C_NoProcess)))
    (h_PageError : PySem.W.nsIn K mainGlobals "PageError" = some (some (.ref C_PageError)))
    (h_System : PySem.W.nsIn K mainGlobals "System" = some (some (.ref C_System)))
    (h_NoSystem_init : PySem.W.findIn K (.ref C_NoSystem) "__init__" = some (some (.ref f_NoSystem_init)))
    (l_NoSystem_init : K.lookup f_NoSystem_init = some ⟨oc_NoSystem_init, od_NoSystem_init, .func (PySem.W.fnOf "__init__" "NoSystem.__init__" (defArgs s_NoSystem_init) (defBody s_NoSystem_init) (defScope s_NoSystem_init) .none kV_NoSystem_init dc_NoSystem_init pm_NoSystem_init an_NoSystem_init cd_NoSystem_init ct_NoSystem_init), sl_NoSystem_init⟩)
    (c_NoSystem_init : PySem.W.codeIn K cd_NoSystem_init "NoSystem.__init__" = true)
    (k_NoSystem_init : PySem.W.keepIn K (.ref f_NoSystem_init) = true)
    (h_NoProcess_init : PySem.W.findIn K (.ref C_NoProcess) "__init__" = some (some (.ref f_NoProcess_init)))
    (l_NoProcess_init : K.lookup f_NoProcess_init = some ⟨oc_NoProcess_init, od_NoProcess_init, .func (PySem.W.fnOf "__init__" "NoProcess.__init__" (defArgs s_NoProcess_init) (defBody s_NoProcess_init) (defScope s_NoProcess_init) .none kV_NoProcess_init dc_NoProcess_init pm_NoProcess_init an_NoProcess_init cd_NoProcess_init ct_NoProcess_init), sl_NoProcess_init⟩)
    (c_NoProcess_init : PySem.W.codeIn K cd_NoProcess_init "NoProcess.__init__" = true)
    (k_NoProcess_init : PySem.W.keepIn K (.ref f_NoProcess_init) = true)
    (h_System_init : PySem.W.findIn K (.ref C_System) "__init__" = some (some (.ref f_System_init)))
    (l_System_init : K.lookup f_System_init = some ⟨oc_System_init, od_System_init, .func (PySem.W.fnOf "__init__" "System.__init__" (defArgs s_System_init) (defBody s_System_init) (defScope s_System_init) .none (.ref kD_System_init) dc_System_init pm_System_init an_System_init cd_System_init ct_System_init), sl_System_init⟩)
    (c_System_init : PySem.W.codeIn K cd_System_init "System.__init__" = true)
    (k_System_init : PySem.W.keepIn K (.ref f_System_init) = true)
    (kd_System_init_frames : PySem.W.nsIn K kD_System_init "frames" = some (some .none))
    (kd_System_init_slots : PySem.W.nsIn K kD_System_init "slots" = some (some .none))
    (kd_System_init_strict : PySem.W.nsIn K kD_System_init "strict" = some (some (.bool false)))
    (xL_NoSystem : K.lookup C_NoSystem = some (excClassObj nm_NoSystem q_NoSystem C_NoSystem N_NoSystem bs_NoSystem bm_NoSystem true sn_NoSystem sub_NoSystem ab_NoSystem col_NoSystem dd_NoSystem m0_NoSystem m1_NoSystem m2_NoSystem m3_NoSystem m5_NoSystem "ValueError.__new__"))
    (xR_NoSystem : PySem.HandSPX.refsVE bm_NoSystem = true)
    (xS_NoSystem : PySem.W.findIn K (.ref C_NoSystem) "__setattr__" = some (some (.builtin "object.__setattr__")))
    (xE_NoSystem : PySem.W.subIn K (.ref C_NoSystem) (.type "BaseException") = some true)
    (xT_NoSystem : PySem.W.typeIn K (.ref C_NoSystem) = some (.type "type"))
    (xK_NoSystem : PySem.W.keepIn K (.ref C_NoSystem) = true)
    (xG_NoSystem : PySem.W.findIn K (.ref C_NoSystem) "__getattribute__" = some (some (.builtin "BaseException.__getattribute__")))
    (xH_NoSystem : PySem.W.findIn K (.ref C_NoSystem) "__getattr__" = some none)
    (xD_NoSystem : PySem.W.hasDictIn K C_NoSystem = true)
    (xC_NoSystem : PySem.W.isClsIn K C_NoSystem = true)
    (xN_NoSystem : PySem.W.findIn K (.ref C_NoSystem) "part" = some none)
    (xi_NoSystem : PySem.W.typeIn K (.ref f_NoSystem_init) = some (.type "function"))
    (xL_NoProcess : K.lookup C_NoProcess = some (excClassObj nm_NoProcess q_NoProcess C_NoProcess N_NoProcess bs_NoProcess bm_NoProcess true sn_NoProcess sub_NoProcess ab_NoProcess col_NoProcess dd_NoProcess m0_NoProcess m1_NoProcess m2_NoProcess m3_NoProcess m5_NoProcess "ValueError.__new__"))
    (xR_NoProcess : PySem.HandSPX.refsVE bm_NoProcess = true)
    (xS_NoProcess : PySem.W.findIn K (.ref C_NoProcess) "__setattr__" = some (some (.builtin "object.__setattr__")))
    (xE_NoProcess : PySem.W.subIn K (.ref C_NoProcess) (.type "BaseException") = some true)
    (xT_NoProcess : PySem.W.typeIn K (.ref C_NoProcess) = some (.type "type"))
    (xK_NoProcess : PySem.W.keepIn K (.ref C_NoProcess) = true)
    (xG_NoProcess : PySem.W.findIn K (.ref C_NoProcess) "__getattribute__" = some (some (.builtin "BaseException.__getattribute__")))
    (xH_NoProcess : PySem.W.findIn K (.ref C_NoProcess) "__getattr__" = some none)
    (xD_NoProcess : PySem.W.hasDictIn K C_NoProcess = true)
    (xC_NoProcess : PySem.W.isClsIn K C_NoProcess = true)
    (xN_NoProcess : PySem.W.findIn K (.ref C_NoProcess) "process" = some none)
    (xi_NoProcess : PySem.W.typeIn K (.ref f_NoProcess_init) = some (.type "function"))
    (xL_PageError : K.lookup C_PageError = some (excClassObj nm_PageError q_PageError C_PageError N_PageError bs_PageError bm_PageError true sn_PageError sub_PageError ab_PageError col_PageError dd_PageError m0_PageError m1_PageError m2_PageError m3_PageError m5_PageError "ValueError.__new__"))
    (xR_PageError : PySem.HandSPX.refsVE bm_PageError = true)
    (xS_PageError : PySem.W.findIn K (.ref C_PageError) "__setattr__" = some (some (.builtin "object.__setattr__")))
    (xE_PageError : PySem.W.subIn K (.ref C_PageError) (.type "BaseException") = some true)
    (xT_PageError : PySem.W.typeIn K (.ref C_PageError) = some (.type "type"))
    (xK_PageError : PySem.W.keepIn K (.ref C_PageError) = true)
    (xG_PageError : PySem.W.findIn K (.ref C_PageError) "__getattribute__" = some (some (.builtin "BaseException.__getattribute__")))
    (xH_PageError : PySem.W.findIn K (.ref C_PageError) "__getattr__" = some none)
    (xD_PageError : PySem.W.hasDictIn K C_PageError = true)
    (xC_PageError : PySem.W.isClsIn K C_PageError = true)
    (xx_NoSystem_NoSystem : PySem.W.subIn K (.ref C_NoSystem) (.ref C_NoSystem) = some true)
    (xx_NoProcess_NoSystem : PySem.W.subIn K (.ref C_NoProcess) (.ref C_NoSystem) = some false)
    (xx_NoProcess_NoProcess : PySem.W.subIn K (.ref C_NoProcess) (.ref C_NoProcess) = some true)
    (pg_System : PySem.W.plainGet K C_System Str.empty = true)
    (hd_System : PySem.W.hasDictIn K C_System = true)
    (po_System : PySem.W.plainOver K C_System = true)
    (sa_System : PySem.W.findIn K (.ref C_System) "__setattr__" = some (some (.builtin "object.__setattr__")))
    (mk_System : PySem.W.makesIn K C_System = true)
    (kc_System : PySem.W.keepIn K (.ref C_System) = true)
    (ii_System : PySem.W.isFn K (.ref f_System_init) = true)
    (na_System_frames : PySem.W.findIn K (.ref C_System) "frames" = some none)
    (na_System_slots : PySem.W.findIn K (.ref C_System) "slots" = some none)
    (na_System_strict : PySem.W.findIn K (.ref C_System) "strict" = some none)
    (na_System_steps_made : PySem.W.findIn K (.ref C_System) "steps_made" = some none)
    (na_System_processes_made : PySem.W.findIn K (.ref C_System) "processes_made" = some none)
    (na_System_objects_made : PySem.W.findIn K (.ref C_System) "objects_made" = some none)
    (na_System_tables : PySem.W.findIn K (.ref C_System) "tables" = some none)
    (na_System_objects : PySem.W.findIn K (.ref C_System) "objects" = some none)
    (na_System_object_pages : PySem.W.findIn K (.ref C_System) "object_pages" = some none)
    (na_System_files : PySem.W.findIn K (.ref C_System) "files" = some none)
    (na_System_classes : PySem.W.findIn K (.ref C_System) "classes" = some none)
    (na_System_touches : PySem.W.findIn K (.ref C_System) "touches" = some none)
    (b_int : PySem.W.nsIn K mainGlobals "int" = some none)
    (b_len : PySem.W.nsIn K mainGlobals "len" = some none)
    (b_isinstance : PySem.W.nsIn K mainGlobals "isinstance" = some none)
    (b_bool : PySem.W.nsIn K mainGlobals "bool" = some none)
    (b_sorted : PySem.W.nsIn K mainGlobals "sorted" = some none)
    (b_range : PySem.W.nsIn K mainGlobals "range" = some none) :
    Txt K mg { a_replace_pages := f_replace_pages, fd_replace_pages := PySem.W.fnOf "replace_pages" "replace_pages" (defArgs s_replace_pages) (defBody s_replace_pages) (defScope s_replace_pages) .none kV_replace_pages dc_replace_pages pm_replace_pages an_replace_pages cd_replace_pages ct_replace_pages, a_end_step := f_end_step, fd_end_step := PySem.W.fnOf "end_step" "end_step" (defArgs s_end_step) (defBody s_end_step) (defScope s_end_step) .none kV_end_step dc_end_step pm_end_step an_end_step cd_end_step ct_end_step, a_is_integer := f_is_integer, fd_is_integer := PySem.W.fnOf "is_integer" "is_integer" (defArgs s_is_integer) (defBody s_is_integer) (defScope s_is_integer) .none kV_is_integer dc_is_integer pm_is_integer an_is_integer cd_is_integer ct_is_integer, a_table_of := f_table_of, fd_table_of := PySem.W.fnOf "table_of" "table_of" (defArgs s_table_of) (defBody s_table_of) (defScope s_table_of) .none kV_table_of dc_table_of pm_table_of an_table_of cd_table_of ct_table_of, a_require_charge := f_require_charge, fd_require_charge := PySem.W.fnOf "require_charge" "require_charge" (defArgs s_require_charge) (defBody s_require_charge) (defScope s_require_charge) .none kV_require_charge dc_require_charge pm_require_charge an_require_charge cd_require_charge ct_require_charge, a_now := f_now, fd_now := PySem.W.fnOf "now" "now" (defArgs s_now) (defBody s_now) (defScope s_now) .none kV_now dc_now pm_now an_now cd_now ct_now, a_new_process := f_new_process, fd_new_process := PySem.W.fnOf "new_process" "new_process" (defArgs s_new_process) (defBody s_new_process) (defScope s_new_process) .none kV_new_process dc_new_process pm_new_process an_new_process cd_new_process ct_new_process, a_unmap_all := f_unmap_all, fd_unmap_all := PySem.W.fnOf "unmap_all" "unmap_all" (defArgs s_unmap_all) (defBody s_unmap_all) (defScope s_unmap_all) .none kV_unmap_all dc_unmap_all pm_unmap_all an_unmap_all cd_unmap_all ct_unmap_all, a_spawn := f_spawn, fd_spawn := PySem.W.fnOf "spawn" "spawn" (defArgs s_spawn) (defBody s_spawn) (defScope s_spawn) .none kV_spawn dc_spawn pm_spawn an_spawn cd_spawn ct_spawn, a_fork := f_fork, fd_fork := PySem.W.fnOf "fork" "fork" (defArgs s_fork) (defBody s_fork) (defScope s_fork) .none kV_fork dc_fork pm_fork an_fork cd_fork ct_fork, a_leave := f_leave, fd_leave := PySem.W.fnOf "leave" "leave" (defArgs s_leave) (defBody s_leave) (defScope s_leave) .none kV_leave dc_leave pm_leave an_leave cd_leave ct_leave, a_fresh := f_fresh, fd_fresh := PySem.W.fnOf "fresh" "fresh" (defArgs s_fresh) (defBody s_fresh) (defScope s_fresh) .none kV_fresh dc_fresh pm_fresh an_fresh cd_fresh ct_fresh, a_processes := f_processes, fd_processes := PySem.W.fnOf "processes" "processes" (defArgs s_processes) (defBody s_processes) (defScope s_processes) .none kV_processes dc_processes pm_processes an_processes cd_processes ct_processes, a__law_well := f__law_well, fd__law_well := PySem.W.fnOf "_law_well" "_law_well" (defArgs s__law_well) (defBody s__law_well) (defScope s__law_well) .none kV__law_well dc__law_well pm__law_well an__law_well cd__law_well ct__law_well, a__law_draw := f__law_draw, fd__law_draw := PySem.W.fnOf "_law_draw" "_law_draw" (defArgs s__law_draw) (defBody s__law_draw) (defScope s__law_draw) .none kV__law_draw dc__law_draw pm__law_draw an__law_draw cd__law_draw ct__law_draw, a__law_one := f__law_one, fd__law_one := PySem.W.fnOf "_law_one" "_law_one" (defArgs s__law_one) (defBody s__law_one) (defScope s__law_one) .none kV__law_one dc__law_one pm__law_one an__law_one cd__law_one ct__law_one, a__law_said := f__law_said, fd__law_said := PySem.W.fnOf "_law_said" "_law_said" (defArgs s__law_said) (defBody s__law_said) (defScope s__law_said) .none kV__law_said dc__law_said pm__law_said an__law_said cd__law_said ct__law_said, a__law_is_number := f__law_is_number, fd__law_is_number := PySem.W.fnOf "_law_is_number" "_law_is_number" (defArgs s__law_is_number) (defBody s__law_is_number) (defScope s__law_is_number) .none kV__law_is_number dc__law_is_number pm__law_is_number an__law_is_number cd__law_is_number ct__law_is_number, a__law_system_right := f__law_system_right, fd__law_system_right := PySem.W.fnOf "_law_system_right" "_law_system_right" (defArgs s__law_system_right) (defBody s__law_system_right) (defScope s__law_system_right) .none kV__law_system_right dc__law_system_right pm__law_system_right an__law_system_right (.ref co__law_system_right) ct__law_system_right, co__law_system_right := co__law_system_right, ta__law_system_right := ta__law_system_right, a_law := f_law, fd_law := PySem.W.fnOf "law" "law" (defArgs s_law) (defBody s_law) (defScope s_law) .none kV_law dc_law pm_law an_law (.ref co_law) ct_law, co_law := co_law, ta_law := ta_law, c_NoSystem := C_NoSystem, c_NoProcess := C_NoProcess, c_PageError := C_PageError, c_System := C_System, a_NoSystem_init := f_NoSystem_init, fd_NoSystem_init := PySem.W.fnOf "__init__" "NoSystem.__init__" (defArgs s_NoSystem_init) (defBody s_NoSystem_init) (defScope s_NoSystem_init) .none kV_NoSystem_init dc_NoSystem_init pm_NoSystem_init an_NoSystem_init cd_NoSystem_init ct_NoSystem_init, a_NoProcess_init := f_NoProcess_init, fd_NoProcess_init := PySem.W.fnOf "__init__" "NoProcess.__init__" (defArgs s_NoProcess_init) (defBody s_NoProcess_init) (defScope s_NoProcess_init) .none kV_NoProcess_init dc_NoProcess_init pm_NoProcess_init an_NoProcess_init cd_NoProcess_init ct_NoProcess_init, a_System_init := f_System_init, fd_System_init := PySem.W.fnOf "__init__" "System.__init__" (defArgs s_System_init) (defBody s_System_init) (defScope s_System_init) .none (.ref kD_System_init) dc_System_init pm_System_init an_System_init cd_System_init ct_System_init } := {
    f_replace_pages := fun_mk (st := s_replace_pages) l_replace_pages c_replace_pages k_replace_pages
    bi_replace_pages := (fun_mk (st := s_replace_pages) l_replace_pages c_replace_pages k_replace_pages).binds (ps := p_replace_pages) fun _ _ _ _ _ _ us hl => match us, hl with | [_, _, _], _ => rfl
    g_replace_pages := PySem.W.mg_of X G h_replace_pages
    k_replace_pages := k_replace_pages
    f_end_step := fun_mk (st := s_end_step) l_end_step c_end_step k_end_step
    bi_end_step := (fun_mk (st := s_end_step) l_end_step c_end_step k_end_step).binds (ps := p_end_step) fun _ _ _ _ _ _ us hl => match us, hl with | [_], _ => rfl
    g_end_step := PySem.W.mg_of X G h_end_step
    k_end_step := k_end_step
    f_is_integer := fun_mk (st := s_is_integer) l_is_integer c_is_integer k_is_integer
    bi_is_integer := (fun_mk (st := s_is_integer) l_is_integer c_is_integer k_is_integer).binds (ps := p_is_integer) fun _ _ _ _ _ _ us hl => match us, hl with | [_, _, _], _ => rfl
    g_is_integer := PySem.W.mg_of X G h_is_integer
    k_is_integer := k_is_integer
    f_table_of := fun_mk (st := s_table_of) l_table_of c_table_of k_table_of
    bi_table_of := (fun_mk (st := s_table_of) l_table_of c_table_of k_table_of).binds (ps := p_table_of) fun _ _ _ _ _ _ us hl => match us, hl with | [_, _], _ => rfl
    g_table_of := PySem.W.mg_of X G h_table_of
    k_table_of := k_table_of
    f_require_charge := fun_mk (st := s_require_charge) l_require_charge c_require_charge k_require_charge
    bi_require_charge := (fun_mk (st := s_require_charge) l_require_charge c_require_charge k_require_charge).binds (ps := p_require_charge) fun _ _ _ _ _ _ us hl => match us, hl with | [_, _, _], _ => rfl
    g_require_charge := PySem.W.mg_of X G h_require_charge
    k_require_charge := k_require_charge
    f_now := fun_mk (st := s_now) l_now c_now k_now
    bi_now := (fun_mk (st := s_now) l_now c_now k_now).binds (ps := p_now) fun _ _ _ _ _ _ us hl => match us, hl with | [_], _ => rfl
    g_now := PySem.W.mg_of X G h_now
    k_now := k_now
    f_new_process := fun_mk (st := s_new_process) l_new_process c_new_process k_new_process
    bi_new_process := (fun_mk (st := s_new_process) l_new_process c_new_process k_new_process).binds (ps := p_new_process) fun _ _ _ _ _ _ us hl => match us, hl with | [_], _ => rfl
    g_new_process := PySem.W.mg_of X G h_new_process
    k_new_process := k_new_process
    f_unmap_all := fun_mk (st := s_unmap_all) l_unmap_all c_unmap_all k_unmap_all
    bi_unmap_all := (fun_mk (st := s_unmap_all) l_unmap_all c_unmap_all k_unmap_all).binds (ps := p_unmap_all) fun _ _ _ _ _ _ us hl => match us, hl with | [_, _], _ => rfl
    g_unmap_all := PySem.W.mg_of X G h_unmap_all
    k_unmap_all := k_unmap_all
    f_spawn := fun_mk (st := s_spawn) l_spawn c_spawn k_spawn
    bi_spawn := (fun_mk (st := s_spawn) l_spawn c_spawn k_spawn).binds (ps := p_spawn) fun _ _ _ _ _ _ us hl => match us, hl with | [_], _ => rfl
    g_spawn := PySem.W.mg_of X G h_spawn
    k_spawn := k_spawn
    f_fork := fun_mk (st := s_fork) l_fork c_fork k_fork
    bi_fork := (fun_mk (st := s_fork) l_fork c_fork k_fork).binds (ps := p_fork) fun _ _ _ _ _ _ us hl => match us, hl with | [_, _], _ => rfl
    g_fork := PySem.W.mg_of X G h_fork
    k_fork := k_fork
    f_leave := fun_mk (st := s_leave) l_leave c_leave k_leave
    bi_leave := (fun_mk (st := s_leave) l_leave c_leave k_leave).binds (ps := p_leave) fun _ _ _ _ _ _ us hl => match us, hl with | [_, _], _ => rfl
    g_leave := PySem.W.mg_of X G h_leave
    k_leave := k_leave
    f_fresh := fun_mk (st := s_fresh) l_fresh c_fresh k_fresh
    bi_fresh := (fun_mk (st := s_fresh) l_fresh c_fresh k_fresh).binds (ps := p_fresh) fun _ _ _ _ _ _ us hl => match us, hl with | [_, _], _ => rfl
    g_fresh := PySem.W.mg_of X G h_fresh
    k_fresh := k_fresh
    f_processes := fun_mk (st := s_processes) l_processes c_processes k_processes
    bi_processes := (fun_mk (st := s_processes) l_processes c_processes k_processes).binds (ps := p_processes) fun _ _ _ _ _ _ us hl => match us, hl with | [_], _ => rfl
    g_processes := PySem.W.mg_of X G h_processes
    k_processes := k_processes
    f__law_well := fun_mk (st := s__law_well) l__law_well c__law_well k__law_well
    bi__law_well := (fun_mk (st := s__law_well) l__law_well c__law_well k__law_well).binds (ps := p__law_well) fun _ _ _ _ _ _ us hl => match us, hl with | [_], _ => rfl
    g__law_well := PySem.W.mg_of X G h__law_well
    k__law_well := k__law_well
    f__law_draw := fun_mk (st := s__law_draw) l__law_draw c__law_draw k__law_draw
    bi__law_draw := (fun_mk (st := s__law_draw) l__law_draw c__law_draw k__law_draw).binds (ps := p__law_draw) fun _ _ _ _ _ _ us hl => match us, hl with | [_, _], _ => rfl
    g__law_draw := PySem.W.mg_of X G h__law_draw
    k__law_draw := k__law_draw
    f__law_one := fun_mk (st := s__law_one) l__law_one c__law_one k__law_one
    bi__law_one := (fun_mk (st := s__law_one) l__law_one c__law_one k__law_one).binds (ps := p__law_one) fun _ _ _ _ _ _ us hl => match us, hl with | [_, _], _ => rfl
    g__law_one := PySem.W.mg_of X G h__law_one
    k__law_one := k__law_one
    f__law_said := fun_mk (st := s__law_said) l__law_said c__law_said k__law_said
    bi__law_said := (fun_mk (st := s__law_said) l__law_said c__law_said k__law_said).binds (ps := p__law_said) fun _ _ _ _ _ _ us hl => match us, hl with | [_], _ => rfl
    g__law_said := PySem.W.mg_of X G h__law_said
    k__law_said := k__law_said
    f__law_is_number := fun_mk (st := s__law_is_number) l__law_is_number c__law_is_number k__law_is_number
    bi__law_is_number := (fun_mk (st := s__law_is_number) l__law_is_number c__law_is_number k__law_is_number).binds (ps := p__law_is_number) fun _ _ _ _ _ _ us hl => match us, hl with | [_, _, _], _ => rfl
    g__law_is_number := PySem.W.mg_of X G h__law_is_number
    k__law_is_number := k__law_is_number
    f__law_system_right := fun_mk (st := s__law_system_right) l__law_system_right c__law_system_right k__law_system_right
    bi__law_system_right := (fun_mk (st := s__law_system_right) l__law_system_right c__law_system_right k__law_system_right).binds (ps := p__law_system_right) fun _ _ _ _ _ _ us hl => match us, hl with | [_], _ => rfl
    fl__law_system_right := ⟨⟨_, _, _, _, _, _, _, _, rfl, l__law_system_right, c__law_system_right⟩⟩
    g__law_system_right := PySem.W.mg_of X G h__law_system_right
    k__law_system_right := k__law_system_right
    f_law := fun_mk (st := s_law) l_law c_law k_law
    bi_law := (fun_mk (st := s_law) l_law c_law k_law).binds (ps := p_law) fun _ _ _ _ _ _ us hl => match us, hl with | [_], _ => rfl
    fl_law := ⟨⟨_, _, _, _, _, _, _, _, rfl, l_law, c_law⟩⟩
    g_law := PySem.W.mg_of X G h_law
    k_law := k_law
    g_NoSystem := PySem.W.mg_of X G h_NoSystem
    g_NoProcess := PySem.W.mg_of X G h_NoProcess
    g_PageError := PySem.W.mg_of X G h_PageError
    g_System := PySem.W.mg_of X G h_System
    f_NoSystem_init := fun_mk (st := s_NoSystem_init) l_NoSystem_init c_NoSystem_init k_NoSystem_init
    bi_NoSystem_init := (fun_mk (st := s_NoSystem_init) l_NoSystem_init c_NoSystem_init k_NoSystem_init).binds (ps := p_NoSystem_init) fun _ _ _ _ _ _ us hl => match us, hl with | [_, _], _ => rfl
    f_NoProcess_init := fun_mk (st := s_NoProcess_init) l_NoProcess_init c_NoProcess_init k_NoProcess_init
    bi_NoProcess_init := (fun_mk (st := s_NoProcess_init) l_NoProcess_init c_NoProcess_init k_NoProcess_init).binds (ps := p_NoProcess_init) fun _ _ _ _ _ _ us hl => match us, hl with | [_, _], _ => rfl
    f_System_init := ⟨⟨_, _, _, _, _, _, _, _, _, _, rfl, l_System_init, c_System_init, .inl ⟨rfl, rfl⟩, .inr ⟨kD_System_init, rfl, by
      intro q hq
      simp only [kw_System_init, List.mem_cons, List.not_mem_nil, or_false] at hq
      rcases hq with h | h | h
      · subst h; exact ⟨_, kd_System_init_frames, rfl⟩
      · subst h; exact ⟨_, kd_System_init_slots, rfl⟩
      · subst h; exact ⟨_, kd_System_init_strict, rfl⟩⟩⟩, k_System_init⟩
    x_NoSystem := ⟨⟨_, _, _, _, _, _, _, _, _, _, _, _, _, _, _, xL_NoSystem, xR_NoSystem⟩, xS_NoSystem, xE_NoSystem, xT_NoSystem, xK_NoSystem⟩
    xf_NoSystem := ⟨xG_NoSystem, xH_NoSystem, xE_NoSystem, xD_NoSystem⟩
    xn_NoSystem := xN_NoSystem
    xi_NoSystem := h_NoSystem_init
    xt_NoSystem := xi_NoSystem
    x_NoProcess := ⟨⟨_, _, _, _, _, _, _, _, _, _, _, _, _, _, _, xL_NoProcess, xR_NoProcess⟩, xS_NoProcess, xE_NoProcess, xT_NoProcess, xK_NoProcess⟩
    xf_NoProcess := ⟨xG_NoProcess, xH_NoProcess, xE_NoProcess, xD_NoProcess⟩
    xn_NoProcess := xN_NoProcess
    xi_NoProcess := h_NoProcess_init
    xt_NoProcess := xi_NoProcess
    x_PageError := ⟨⟨_, _, _, _, _, _, _, _, _, _, _, _, _, _, _, xL_PageError, xR_PageError⟩, xS_PageError, xE_PageError, xT_PageError, xK_PageError⟩
    xf_PageError := ⟨xG_PageError, xH_PageError, xE_PageError, xD_PageError⟩
    e_NoSystem_NoSystem := exm_is xE_NoSystem xC_NoSystem xT_NoSystem xx_NoSystem_NoSystem
    e_NoProcess_NoSystem := exm_is xE_NoSystem xC_NoSystem xT_NoSystem xx_NoProcess_NoSystem
    e_NoProcess_NoProcess := exm_is xE_NoProcess xC_NoProcess xT_NoProcess xx_NoProcess_NoProcess
    cl_System := ⟨pg_System, hd_System, po_System, sa_System⟩
    mk_System := ⟨mk_System, h_System_init, ii_System, kc_System⟩
    n_System_frames := na_System_frames
    n_System_slots := na_System_slots
    n_System_strict := na_System_strict
    n_System_steps_made := na_System_steps_made
    n_System_processes_made := na_System_processes_made
    n_System_objects_made := na_System_objects_made
    n_System_tables := na_System_tables
    n_System_objects := na_System_objects
    n_System_object_pages := na_System_object_pages
    n_System_files := na_System_files
    n_System_classes := na_System_classes
    n_System_touches := na_System_touches
    b_int := PySem.W.mg_none_of X G b_int
    b_len := PySem.W.mg_none_of X G b_len
    b_isinstance := PySem.W.mg_none_of X G b_isinstance
    b_bool := PySem.W.mg_none_of X G b_bool
    b_sorted := PySem.W.mg_none_of X G b_sorted
    b_range := PySem.W.mg_none_of X G b_range }

theorem fin {l : PySem.W.OpenLaw} {w : World} {K : PySem.W.Frag} {mg : Str → Option Value} {fa : Addr} {h : Heap} {A : Adr} {e1 e2 : Value} {dd1 dd2 : Option Addr} {vs1 vs2 : Array Value} {sl1 sl2 : Array (Option Value)}
    (G : Txt K mg A) (KX : K.In h) (hmg : mg "law" = some (.ref fa))
    (lc1 : K.lookup A.co_law = some ⟨e1, dd1, .fields vs1, sl1⟩) (v1 : vs1[11]? = some (.ref A.ta_law)) (n1 : K.lookup A.ta_law = none) (d1 : PySem.W.codeHdIn K A.co_law A.ta_law = true)
    (t1 : h.get? A.ta_law = some { cls := .none, data := .fields #[] })
    (lc2 : K.lookup A.co__law_system_right = some ⟨e2, dd2, .fields vs2, sl2⟩) (v2 : vs2[11]? = some (.ref A.ta__law_system_right)) (n2 : K.lookup A.ta__law_system_right = none) (d2 : PySem.W.codeHdIn K A.co__law_system_right A.ta__law_system_right = true)
    (t2 : h.get? A.ta__law_system_right = some { cls := .none, data := .fields #[] }) (ne : A.ta_law ≠ A.ta__law_system_right) : LamX.LawAtS l w K CX0 8 63 "script" mg fa h := by
  have ea : A.a_law = fa := by
    have := G.g_law.symm.trans hmg
    cases this
    rfl
  obtain ⟨oc, od, kV, doc, pm, an, ct, osl, hfd, lk, hcd⟩ := G.fl_law.ex
  refine ⟨A.fd_law, [(A.co_law, A.ta_law), (A.co__law_system_right, A.ta__law_system_right)], spLaw K A, ?_, ?_, ?_, ?_, ?_, ?_⟩
  · intro p hp
    rcases List.mem_cons.mp hp with rfl | hp
    · exact t1
    · rw [List.mem_singleton.mp hp]; exact t2
  · intro p hp
    rcases List.mem_cons.mp hp with rfl | hp
    · exact n1
    · rw [List.mem_singleton.mp hp]; exact n2
  · intro p hp
    rcases List.mem_cons.mp hp with rfl | hp
    · exact PySem.W.codeHd_of_K KX d1
    · rw [List.mem_singleton.mp hp]; exact PySem.W.codeHd_of_K KX d2
  · intro s u
    rw [hfd]
    exact .of_eq rfl
  · intro H a ns hn _ hT hS
    refine ⟨a, ns, rfl, hS, hn, fun p hp => ?_, fun _ => rfl⟩
    rcases List.mem_cons.mp hp with rfl | hp
    · exact LamX.TabS.nil (hT _ List.mem_cons_self)
    · rw [List.mem_singleton.mp hp]; exact LamX.TabS.nil (hT (A.co__law_system_right, A.ta__law_system_right) (List.mem_cons_of_mem _ (List.mem_singleton.mpr rfl)))
  · intro base _ _ hB
    rw [← ea]
    exact ok_law G ⟨hB _ List.mem_cons_self, hB (A.co__law_system_right, A.ta__law_system_right) (List.mem_cons_of_mem _ (List.mem_singleton.mpr rfl)), ne⟩
end My
open PySem PySem.W PyProof.Rows
set_option maxRecDepth 100000 in
set_option maxHeartbeats 0 in
theorem PySem.Challenge.cw_pageclass_k01_systems_and_processes_holds : PySem.Challenge.rw_pageclass_k01_systems_and_processes.Holds := by
  w_on; o_law; k_head; (case hw => w_witness2)
  k_fill
  refine LamX.walk_ofTs (l := PySem.Challenge.rw_pageclass_k01_systems_and_processes) (CX := fun _ => L2.CX0) (k := 8) (n := 63) (x := "script") rfl (by decide) rfl ⟨rfl, by decide, by decide⟩ (fun w h Y => PySem.W.km_in_of Y) ?F (fun _ _ _ _ _ z => z)
  case F =>
    intro w mg fa h Y KX G hmg
    refine' My.fin (My.all_mk KX G ?h_replace_pages ?l_replace_pages ?c_replace_pages ?k_replace_pages ?h_end_step ?l_end_step ?c_end_step ?k_end_step ?h_is_integer ?l_is_integer ?c_is_integer ?k_is_integer ?h_table_of ?l_table_of ?c_table_of ?k_table_of ?h_require_charge ?l_require_charge ?c_require_charge ?k_require_charge ?h_now ?l_now ?c_now ?k_now ?h_new_process ?l_new_process ?c_new_process ?k_new_process ?h_unmap_all ?l_unmap_all ?c_unmap_all ?k_unmap_all ?h_spawn ?l_spawn ?c_spawn ?k_spawn ?h_fork ?l_fork ?c_fork ?k_fork ?h_leave ?l_leave ?c_leave ?k_leave ?h_fresh ?l_fresh ?c_fresh ?k_fresh ?h_processes ?l_processes ?c_processes ?k_processes ?h__law_well ?l__law_well ?c__law_well ?k__law_well ?h__law_draw ?l__law_draw ?c__law_draw ?k__law_draw ?h__law_one ?l__law_one ?c__law_one ?k__law_one ?h__law_said ?l__law_said ?c__law_said ?k__law_said ?h__law_is_number ?l__law_is_number ?c__law_is_number ?k__law_is_number ?h__law_system_right ?l__law_system_right ?c__law_system_right ?k__law_system_right ?h_law ?l_law ?c_law ?k_law ?h_NoSystem ?h_NoProcess ?h_PageError ?h_System ?h_NoSystem_init ?l_NoSystem_init ?c_NoSystem_init ?k_NoSystem_init ?h_NoProcess_init ?l_NoProcess_init ?c_NoProcess_init ?k_NoProcess_init ?h_System_init ?l_System_init ?c_System_init ?k_System_init ?kd_System_init_frames ?kd_System_init_slots ?kd_System_init_strict ?xL_NoSystem ?xR_NoSystem ?xS_NoSystem ?xE_NoSystem ?xT_NoSystem ?xK_NoSystem ?xG_NoSystem ?xH_NoSystem ?xD_NoSystem ?xC_NoSystem ?xN_NoSystem ?xi_NoSystem ?xL_NoProcess ?xR_NoProcess ?xS_NoProcess ?xE_NoProcess ?xT_NoProcess ?xK_NoProcess ?xG_NoProcess ?xH_NoProcess ?xD_NoProcess ?xC_NoProcess ?xN_NoProcess ?xi_NoProcess ?xL_PageError ?xR_PageError ?xS_PageError ?xE_PageError ?xT_PageError ?xK_PageError ?xG_PageError ?xH_PageError ?xD_PageError ?xC_PageError ?xx_NoSystem_NoSystem ?xx_NoProcess_NoSystem ?xx_NoProcess_NoProcess ?pg_System ?hd_System ?po_System ?sa_System ?mk_System ?kc_System ?ii_System ?na_System_frames ?na_System_slots ?na_System_strict ?na_System_steps_made ?na_System_processes_made ?na_System_objects_made ?na_System_tables ?na_System_objects ?na_System_object_pages ?na_System_files ?na_System_classes ?na_System_touches ?b_int ?b_len ?b_isinstance ?b_bool ?b_sorted ?b_range) KX hmg ?lc1 ?v1 ?n1 ?d1 ?t1 ?lc2 ?v2 ?n2 ?d2 ?t2 ?ne
    (case h_replace_pages => k_is)
    (case l_replace_pages => k_is)
    (case c_replace_pages => k_is)
    (case k_replace_pages => k_is)
    (case h_end_step => k_is)
    (case l_end_step => k_is)
    (case c_end_step => k_is)
    (case k_end_step => k_is)
    (case h_is_integer => k_is)
    (case l_is_integer => k_is)
    (case c_is_integer => k_is)
    (case k_is_integer => k_is)
    (case h_table_of => k_is)
    (case l_table_of => k_is)
    (case c_table_of => k_is)
    (case k_table_of => k_is)
    (case h_require_charge => k_is)
    (case l_require_charge => k_is)
    (case c_require_charge => k_is)
    (case k_require_charge => k_is)
    (case h_now => k_is)
    (case l_now => k_is)
    (case c_now => k_is)
    (case k_now => k_is)
    (case h_new_process => k_is)
    (case l_new_process => k_is)
    (case c_new_process => k_is)
    (case k_new_process => k_is)
    (case h_unmap_all => k_is)
    (case l_unmap_all => k_is)
    (case c_unmap_all => k_is)
    (case k_unmap_all => k_is)
    (case h_spawn => k_is)
    (case l_spawn => k_is)
    (case c_spawn => k_is)
    (case k_spawn => k_is)
    (case h_fork => k_is)
    (case l_fork => k_is)
    (case c_fork => k_is)
    (case k_fork => k_is)
    (case h_leave => k_is)
    (case l_leave => k_is)
    (case c_leave => k_is)
    (case k_leave => k_is)
    (case h_fresh => k_is)
    (case l_fresh => k_is)
    (case c_fresh => k_is)
    (case k_fresh => k_is)
    (case h_processes => k_is)
    (case l_processes => k_is)
    (case c_processes => k_is)
    (case k_processes => k_is)
    (case h__law_well => k_is)
    (case l__law_well => k_is)
    (case c__law_well => k_is)
    (case k__law_well => k_is)
    (case h__law_draw => k_is)
    (case l__law_draw => k_is)
    (case c__law_draw => k_is)
    (case k__law_draw => k_is)
    (case h__law_one => k_is)
    (case l__law_one => k_is)
    (case c__law_one => k_is)
    (case k__law_one => k_is)
    (case h__law_said => k_is)
    (case l__law_said => k_is)
    (case c__law_said => k_is)
    (case k__law_said => k_is)
    (case h__law_is_number => k_is)
    (case l__law_is_number => k_is)
    (case c__law_is_number => k_is)
    (case k__law_is_number => k_is)
    (case h__law_system_right => k_is)
    (case l__law_system_right => k_is)
    (case c__law_system_right => k_is)
    (case k__law_system_right => k_is)
    (case h_law => k_is)
    (case l_law => k_is)
    (case c_law => k_is)
    (case k_law => k_is)
    (case h_NoSystem => k_is)
    (case h_NoProcess => k_is)
    (case h_PageError => k_is)
    (case h_System => k_is)
    (case h_NoSystem_init => k_is)
    (case l_NoSystem_init => k_is)
    (case c_NoSystem_init => k_is)
    (case k_NoSystem_init => k_is)
    (case h_NoProcess_init => k_is)
    (case l_NoProcess_init => k_is)
    (case c_NoProcess_init => k_is)
    (case k_NoProcess_init => k_is)
    (case h_System_init => k_is)
    (case l_System_init => k_is)
    (case c_System_init => k_is)
    (case k_System_init => k_is)
    (case kd_System_init_frames => k_is)
    (case kd_System_init_slots => k_is)
    (case kd_System_init_strict => k_is)
    (case xL_NoSystem => k_is)
    (case xR_NoSystem => first | k_is | rfl | decide +kernel)
    (case xS_NoSystem => k_is)
    (case xE_NoSystem => k_is)
    (case xT_NoSystem => k_is)
    (case xK_NoSystem => k_is)
    (case xG_NoSystem => k_is)
    (case xH_NoSystem => k_is)
    (case xD_NoSystem => k_is)
    (case xC_NoSystem => k_is)
    (case xN_NoSystem => k_is)
    (case xi_NoSystem => k_is)
    (case xL_NoProcess => k_is)
    (case xR_NoProcess => first | k_is | rfl | decide +kernel)
    (case xS_NoProcess => k_is)
    (case xE_NoProcess => k_is)
    (case xT_NoProcess => k_is)
    (case xK_NoProcess => k_is)
    (case xG_NoProcess => k_is)
    (case xH_NoProcess => k_is)
    (case xD_NoProcess => k_is)
    (case xC_NoProcess => k_is)
    (case xN_NoProcess => k_is)
    (case xi_NoProcess => k_is)
    (case xL_PageError => k_is)
    (case xR_PageError => first | k_is | rfl | decide +kernel)
    (case xS_PageError => k_is)
    (case xE_PageError => k_is)
    (case xT_PageError => k_is)
    (case xK_PageError => k_is)
    (case xG_PageError => k_is)
    (case xH_PageError => k_is)
    (case xD_PageError => k_is)
    (case xC_PageError => k_is)
    (case xx_NoSystem_NoSystem => first | rfl | k_is)
    (case xx_NoProcess_NoSystem => first | rfl | k_is)
    (case xx_NoProcess_NoProcess => first | rfl | k_is)
    (case pg_System => k_is)
    (case hd_System => k_is)
    (case po_System => k_is)
    (case sa_System => k_is)
    (case mk_System => k_is)
    (case kc_System => k_is)
    (case ii_System => k_is)
    (case na_System_frames => k_is)
    (case na_System_slots => k_is)
    (case na_System_strict => k_is)
    (case na_System_steps_made => k_is)
    (case na_System_processes_made => k_is)
    (case na_System_objects_made => k_is)
    (case na_System_tables => k_is)
    (case na_System_objects => k_is)
    (case na_System_object_pages => k_is)
    (case na_System_files => k_is)
    (case na_System_classes => k_is)
    (case na_System_touches => k_is)
    (case b_int => k_is)
    (case b_len => k_is)
    (case b_isinstance => k_is)
    (case b_bool => k_is)
    (case b_sorted => k_is)
    (case b_range => k_is)

    (case lc1 => k_is)
    (case v1 => rfl)
    (case n1 => first | rfl | decide +kernel)
    (case d1 => first | rfl | decide +kernel)
    (case t1 => exact PySem.W.km_tabs_of Y _ (by simp))
    (case lc2 => k_is)
    (case v2 => rfl)
    (case n2 => first | rfl | decide +kernel)
    (case d2 => first | rfl | decide +kernel)
    (case t2 => exact PySem.W.km_tabs_of Y _ (by simp))
    (case ne => decide)

