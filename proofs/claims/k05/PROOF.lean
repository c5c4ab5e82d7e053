import PyProof.Rows.All
import Wide.All
import OpenK.AllK
import Wide.FinOn
import HandS.ForMost
import HandS.ForExc
import HandS.ExcField
import HandS.ExcInit
import HandS.DictComp
import HandS.Lambda
import HandS.IsInst
import HandS.MakeKwOnly
import HandS.EndTab
import HandS.EndOwn
import HandS.More
import PyProof.NeKinds
import KE.KDictOf
import PyProof.DictUpdate
import PyProof.Tail
import HandS.Walk
import HandS.Conv
import PySem.Challenge.RW_pageclass_k05_gaps
set_option Elab.async false
set_option linter.all false
set_option maxRecDepth 100000
set_option maxHeartbeats 4000000
/-! own rules, over the hand layer -/
namespace L2
open PySem PySem.Spec PyProof.Rows
section
variable {X : Cx}
/-- an expression that no way reaches -/
theorem pe_nev {e : Expr} : PE X e (fun _ _ _ => False) := ⟨fun _ _ _ _ _ _ z => z.elim⟩
theorem pts_nev {es : List Expr} : PTs X es (fun _ _ _ => False) := ⟨fun _ _ _ _ _ _ z => z.elim⟩

/-! a name that a dict comprehension is given to -/
theorem sw_dict {kx vx : Expr} {gs : List Comprehension} {scope : Scope} {pos py : Pos} {y : Str} {l : Nat} {env : Env}
    (fk : env.scope.kind = .function) (fy : env.scope.names.lookup y = some .local) (fl : (py.line == pos.line) = true)
    (fa : (scope.names.any fun (n, k) => n == y && (k == .local || k == .cell)) = false) :
    swapsWith (.DictComp kx vx gs scope pos) (some (.Name y py)) l env = pure true := by
  have q1 : env.kindOf y = some .local := fy
  have q2 : env.blockKind = .function := by
    unfold Env.blockKind
    rw [fk]
    rfl
  unfold swapsWith
  simp only [q1, q2, fa, fl, Expr.pos]
  rfl
theorem ps_setDc {i : Nat} {y : Str} {py : Pos} {kx vx tg iter : Expr} {ifs : List Expr} {scope : Scope} {own : List (Str × Nat)} {pos spos : Pos}
    {wi : TI} {g : TG} {tt : TT} {tk tv : TE} (hc : X.calm = true) (hN : X.N.Nodup) (hy : X.N[i]? = some y)
    (hyl : X.env.scope.names.lookup y = some .local)
    (hsw : swapsWith (.DictComp kx vx [⟨tg, iter, ifs, 0⟩] scope pos) (some (.Name y py)) spos.line X.env = pure true)
    (hi : PI X tg iter wi) (ok : BlkOk X.N X.env.scope scope own)
    (hg : ∀ (s : Shared) (H : Hp) (C : Addr) (cl : List (Str × Addr)) (fp : List Addr),
      PG (X.blk s H scope (compEnvC scope cl C X.env) fp) tg g)
    (ht : ∀ (s : Shared) (H : Hp) (C : Addr) (cl : List (Str × Addr)) (fp : List Addr),
      PTs (X.blk s H scope (compEnvC scope cl C X.env) fp) ifs tt)
    (hk : ∀ (s : Shared) (H : Hp) (C : Addr) (cl : List (Str × Addr)) (fp : List Addr),
      PE (X.blk s H scope (compEnvC scope cl C X.env) fp) kx tk)
    (he : ∀ (s : Shared) (H : Hp) (C : Addr) (cl : List (Str × Addr)) (fp : List Addr),
      PE (X.blk s H scope (compEnvC scope cl C X.env) fp) vx tv)
    (hs : ∀ x, foldedSetIterable iter X.env x = pure x := by intro _; rfl) :
    PS X (.Assign [.Name y py] (.DictComp kx vx [⟨tg, iter, ifs, 0⟩] scope pos) spos)
      (tAsg (tDc wi g tt tk tv (own.map (·.2))) (gName i)) := by
  refine ⟨fun pins s σ H D I h => ?_⟩
  rw [exec_Assign_Name_used _ _ _ _ hsw]
  refine wpAny_bind (wpAny_standAt (wpAny_bind ?_))
  show wpAny _ X.A (do
    let _ ← comprehension (.DictComp kx vx [⟨tg, iter, ifs, 0⟩] scope pos) scope X.env (firstIterPos [⟨tg, iter, ifs, 0⟩] pos)
      newDict false (eval iter X.env) (some (assign (.Name y py) X.env))) _ _ s
  have h' : tDc wi g tt tk tv (own.map (·.2)) σ H (fun x H1 => gName i x σ H1 D.nx) := h
  refine wpAny_bind (thn (dc_core (Qf := fun _ s' => SP X pins D .next s') hc hN I hi ok hg ht hk he hs h'
    fun L C s' m H' J q hn f => ?_) fun _ s' hq => wpAny_pure (wpAny_pure hq))
  show wpAny _ _ (assign (.Name y py) X.env (.ref L)) _ _ _
  refine wpAny_assign_Name (store_ok2 (v := V.ref L) J hN hy (.inl hyl) rfl (fun s2 J2 ⟨a, sb, ha⟩ => ?_) (.inr hyl))
  obtain ⟨f0, f1, f2, f3, f4, f5⟩ := f
  have hne : C ≠ a := by
    rcases ha with z | z
    · rw [z]
      exact f1
    · exact fun e => f4 y a z e.symm
  exact ⟨m, hn.sameBut sb hne, fun h3 sb3 =>
    ⟨_, H', J2.turned (t' := s2.toks) (fun b o hb e => (sb3.2 b hb).trans e) f0 f1 f3 f4 f5, q⟩⟩
end
/-! ### several except clauses, each with or without a name -/
/-- the ends of a suite whose name is in slot i: behind it the slot is empty -/
def clr (i : Nat) (D : Ends) : Ends where
  nx := fun σ' H' => D.nx (σ'.set i none) H'
  rt := D.rt
  bk := fun σ' H' => D.bk (σ'.set i none) H'
  ct := fun σ' H' => D.ct (σ'.set i none) H'
/-- a clause: its class, the slot of its name, its suite -/
abbrev Cls1 := Value × Option Nat × (Addr → Value → Option Addr → TS)
def suiteT (c : Cls1) (a : Addr) (cls : Value) (d : Option Addr) : TS := fun D σ H => match c.2.1 with
  | none => c.2.2 a cls d D σ H
  | some i => c.2.2 a cls d (clr i D) (σ.set i (some (.ref a))) H
def wCls (K : PySem.W.Frag) (Wo : WX) (D : Ends) : List Cls1 → WX
  | [] => Wo
  | c :: r => fun cls d σ H => ∃ b, PySem.W.exmOne K cls c.1 = some b ∧
      (b = true → ∀ a, H a = none → suiteT c a cls d D σ H) ∧ (b = false → wCls K Wo D r cls d σ H)
inductive ClsOk (X : Cx) : List ExceptHandler → List Cls1 → Prop
  | nil : ClsOk X [] []
  | bare {x : Str} {c : Value} {ts : Addr → Value → Option Addr → TS} {b0 : Stmt} {su : List Stmt} {p1 p2 : Pos} {hs : List ExceptHandler} {l : List Cls1}
      (hc : Names X x c)
      (hsu : ∀ (a : Addr) (oe : Obj) (cls : Value) (d : Option Addr) (pn : List (Addr × Obj)), Zc cls d oe →
        (∃ vs, oe.data = .fields vs) → PSs (X.suite a ((a, oe) :: pn)) (b0 :: su) (ts a cls d)) (r : ClsOk X hs l) :
      ClsOk X (.ExceptHandler (some (.Name x p1)) none (b0 :: su) p2 :: hs) ((c, none, ts) :: l)
  | named {x n : Str} {i : Nat} {c : Value} {ts : Addr → Value → Option Addr → TS} {b0 : Stmt} {su : List Stmt} {p1 p2 : Pos} {hs : List ExceptHandler} {l : List Cls1}
      (hc : Names X x c) (hi : X.N[i]? = some n) (hl : X.env.kindOf n = some .local)
      (hsu : ∀ (a : Addr) (oe : Obj) (cls : Value) (d : Option Addr) (pn : List (Addr × Obj)), Zc cls d oe →
        (∃ vs, oe.data = .fields vs) → PSs (X.suite a ((a, oe) :: pn)) (b0 :: su) (ts a cls d)) (r : ClsOk X hs l) :
      ClsOk X (.ExceptHandler (some (.Name x p1)) (some n) (b0 :: su) p2 :: hs) ((c, some i, ts) :: l)
section
variable {X : Cx} {body : List Stmt} {h0 : ExceptHandler} {hds : List ExceptHandler} {l : List Cls1} {pos : Pos} {tb : WX → TS} {Wo : WX}
theorem ps_try_cls (hs : X.stack = X.env :: X.outer) (hf : X.env.frame = some X.env.locals) (hN : X.N.Nodup) (tk : Takes X Wo)
    (hb : ∀ (W : WX) (pn : List (Addr × Obj)) (xe : Value → Shared → Prop), Takes (X.tr pn xe) W →
      PassesOwn (model X.prog X.w) X.A X.env xe → PSs (X.tr pn xe) body (tb W))
    (hh : ClsOk X (h0 :: hds) l) :
    PS X (.Try body (h0 :: hds) [] [] pos) (fun D σ H => tb (wCls X.K Wo D l) D σ H) := by
  refine ⟨fun pins s σ H D I h => ?_⟩
  have okX := I.ok
  have fr : X.A.frames = some (X.env :: X.outer) := by rw [okX.frames, hs]
  refine wpAny_Try_except ?_
  refine wpAny_mono ((hb (wCls X.K Wo D l) (X.pn ++ pins)
    (fun e s1 => wpAny (model X.prog X.w) X.A (noteFrame e X.env)
      (fun _ s2 => wpAny (model X.prog X.w) X.A (setFlight e none)
        (fun _ s3 => wpAny (model X.prog X.w) X.A (handleBy e X.env (h0 :: hds)) (SP X pins D) X.xe s3) X.xe s2) X.xe s1)
    (fun u s' air => ?c1) PassesOwn.looking).run [] s σ H D (I.toTry _) h) (fun f s1 hsp => ?c2) (fun _ _ z => z)
  case c1 =>
    obtain ⟨a, B, sI, pq, σ', H', cls, d, rfl, Jt, nb, up, sky, na, os, ag, w⟩ := air
    have J : Inv X pins σ' H' sI := Jt.ofTry okX
    have sk : Sky B (X.env :: X.outer) a (Zc cls d) X.env.locals s'.heap := by
      rw [← hs]
      exact sky
    show wpAny (model X.prog X.w) X.A (noteFrame (.ref a) X.env) _ _ _
    refine Sky.land Zc.steady fr hf sk fun hA flA upA => ?_
    have JA : Inv X pins σ' H' { s' with heap := hA } := J.landed nb flA.1 (up.trans upA) os ag
    obtain ⟨oA, vA, atA, zA, dA⟩ := flA.there
    have far : a ∉ frs (X.env :: X.outer) := fun hm => by
      obtain ⟨_, o', e', hnf⟩ := flA.2.2.1.mem hm
      rw [atA] at e'
      cases e'
      exact hnf _ dA
    have nL : a ≠ X.env.locals := fun z => far (List.mem_filterMap.mpr ⟨X.env, List.mem_cons_self, by rw [hf, z]⟩)
    have nF : a ∉ X.fs := fun hm => by
      obtain ⟨e, he, q⟩ := List.mem_filterMap.mp hm
      exact far (List.mem_filterMap.mpr ⟨e, List.mem_cons_of_mem _ he, q⟩)
    have SA := JA.suite atA dA na nL nF
    -- the test of a clause
    have test : ∀ {x : Str} {c : Value} {np : Pos} {Q E : Value → Shared → Prop}, Names X x c → Q c { s' with heap := hA } →
        wpAny (model X.prog X.w) (X.A.mark (some (.ref a))) (eval (.Name x np) X.env) Q E { s' with heap := hA } := fun hc q => by
      obtain ⟨hg, hdbg, hm | ⟨hm, hv, hnn⟩⟩ := hc
      · exact ld_glob (X := X.suite a ((a, oA) :: (X.pn ++ pins))) SA hg hm q hdbg
      · exact ld_blt (X := X.suite a ((a, oA) :: (X.pn ++ pins))) SA hg hm hv q hnn hdbg
    have look : PySem.W.Looks (model X.prog X.w) hA (typeOf (.ref a)) cls := fun A Q E s k q =>
      wpAny_typeOf_ref (k _ _ atA) (by rw [zA.1]; exact q)
    have go : ∀ {hs' : List ExceptHandler} {l' : List Cls1}, ClsOk X hs' l' → wCls X.K Wo D l' cls d σ' H' →
        wpAny (model X.prog X.w) X.A (handleBy (.ref a) X.env hs') (SP X pins D) X.xe { s' with heap := hA } := by
      intro hs' l' hk
      induction hk with
      | nil =>
        intro w
        refine wpAny_handleBy_nil ?_
        obtain ⟨_, _, _, oe, vs, T, oT, ts', he, hz, hd, h1, hr⟩ := id flA
        unfold PySem.passOn
        refine wpAny_bind (wpAny_field he hd h1 ?_)
        rw [if_neg (show ¬ ((Value.ref T == Value.none) = true) by simp)]
        have fin : wpAny (model X.prog X.w) X.A (setFlight (.ref a) X.env.frame)
            (fun _ s4 => wpAny (model X.prog X.w) X.A (throw (.ref a) : Sem Flow) (SP X pins D) X.xe s4) X.xe { s' with heap := hA } := by
          rw [hf]
          exact HandSPX.setFlight_upZ flA fun h4 hh4 up4 => wpAny_throw (tk _ _
            ⟨a, B, sI, pins, σ', H', cls, d, rfl, J, nb, (up.trans upA).trans up4, .inr (.inr (by rw [hs]; exact hh4)), na, os, ag, w⟩)
        first
          | exact wpAny_bind (wpAny_pure (wpAny_bind fin))
          | exact wpAny_bind fin
      | @bare x c ts b0 su p1 p2 hs2 l2 hc hsu r ih =>
        intro w
        obtain ⟨b, m, yes, no⟩ := w
        refine wpAny_handleBy_cons (codeAny_handlers_test ?_) (by intro q; cases q)
        have LM := PySem.W.exm_one (M := model X.prog X.w) JA.kIn look m
        refine test hc (LM.here ?_)
        cases b with
        | false => exact ih (no rfl)
        | true =>
          refine codeAny_handlers_suite (HandSPX.lands_againZ flA fun hB flB upB => ?_)
          have JB : Inv X pins σ' H' { s' with heap := hB } := J.landed nb flB.1 ((up.trans upA).trans upB) os ag
          obtain ⟨oB, vB, atB, zB, dB⟩ := flB.there
          have SB := JB.suite atB dB na nL nF
          refine wpAny_mono ((hsu a oB cls d (X.pn ++ pins) zB ⟨_, dB⟩).run [] _ _ H' _ SB (yes rfl a na)) (fun f s6 hsp => ?_) (fun _ _ z => z.elim)
          cases f with
          | ret u =>
            obtain ⟨v6, σ6, H6, S6, r6, q6⟩ := hsp
            exact ⟨_, _, _, S6.unsuite okX, r6, q6⟩
          | next =>
            obtain ⟨σ6, H6, S6, q6⟩ := hsp
            exact ⟨_, _, S6.unsuite okX, q6⟩
          | brk =>
            obtain ⟨σ6, H6, S6, q6⟩ := hsp
            exact ⟨_, _, S6.unsuite okX, q6⟩
          | cont =>
            obtain ⟨σ6, H6, S6, q6⟩ := hsp
            exact ⟨_, _, S6.unsuite okX, q6⟩
      | @named x n i c ts b0 su p1 p2 hs2 l2 hc hi hl hsu r ih =>
        intro w
        obtain ⟨b, m, yes, no⟩ := w
        refine wpAny_handleBy_cons (codeAny_handlers_test ?_) (by intro q; cases q)
        have LM := PySem.W.exm_one (M := model X.prog X.w) JA.kIn look m
        refine test hc (LM.here ?_)
        cases b with
        | false => exact ih (no rfl)
        | true =>
          refine codeAny_handlers_suite_as (HandSPX.lands_againZ flA fun hB flB upB => ?_)
          have JB : Inv X pins σ' H' { s' with heap := hB } := J.landed nb flB.1 ((up.trans upA).trans upB) os ag
          obtain ⟨oB, vB, atB, zB, dB⟩ := flB.there
          have SB := JB.suite atB dB na nL nF
          refine store_ok (X := X.suite a ((a, oB) :: (X.pn ++ pins))) (v := .ref a) SB hN hi (.inl hl) rfl (fun s5 S5 => ?_) (.inr hl)
          refine wpAny_mono ((hsu a oB cls d (X.pn ++ pins) zB ⟨_, dB⟩).run [] s5 _ H' _ S5 (yes rfl a na)) (fun f s6 hsp => ?_) (fun _ _ z => z.elim)
          have off : ∀ {σ6 : St} {H6 : Hp} {Q : Shared → Prop}, Inv (X.suite a ((a, oB) :: (X.pn ++ pins))) [] σ6 H6 s6 →
              (∀ s7, Inv X pins (σ6.set i none) H6 s7 → Q s7) →
              wpAny (model X.prog X.w) X.A (do bindName X.env n .none; unbindBehindTheSuite X.env n p2) (fun _ s7 => Q s7) X.xe s6 :=
            fun S6 hq => gone_ok (S6.unsuite okX) hN hi hl hq
          cases f with
          | ret u =>
            obtain ⟨v6, σ6, H6, S6, r6, q6⟩ := hsp
            exact off S6 fun s7 J7 => ⟨_, _, _, J7, r6, q6⟩
          | next =>
            obtain ⟨σ6, H6, S6, q6⟩ := hsp
            exact off S6 fun s7 J7 => ⟨_, _, J7, q6⟩
          | brk =>
            obtain ⟨σ6, H6, S6, q6⟩ := hsp
            exact off S6 fun s7 J7 => ⟨_, _, J7, q6⟩
          | cont =>
            obtain ⟨σ6, H6, S6, q6⟩ := hsp
            exact off S6 fun s7 J7 => ⟨_, _, J7, q6⟩
    exact go hh w
  case c2 =>
    cases f with
    | ret u =>
      obtain ⟨v, σ', H', J', r, q⟩ := hsp
      exact ⟨v, σ', H', J'.ofTry okX, r, q⟩
    | next =>
      obtain ⟨σ', H', J', q⟩ := hsp
      exact wpAny_execs_nil ⟨σ', H', J'.ofTry okX, q⟩
    | brk =>
      obtain ⟨σ', H', J', q⟩ := hsp
      exact ⟨σ', H', J'.ofTry okX, q⟩
    | cont =>
      obtain ⟨σ', H', J', q⟩ := hsp
      exact ⟨σ', H', J'.ofTry okX, q⟩
end
/-! ### two tuples of the very same values -/
section
variable {X : Cx}
/-- a value of which == with itself is known: by value, or by the object -/
def selfEq : V → Bool
  | .ref _ => true
  | v => flatB v
theorem selfEq_at {A : Around} {s : Shared} {v : V} {u u' : Value} (r : RelV v u) (r' : RelV v u') (f : selfEq v = true) : SeqAt.EqAt A s u u' true := by
  cases v with
  | ref a =>
    cases (show u = Value.ref a from r)
    cases (show u' = Value.ref a from r')
    exact SeqAt.EqAt.same _
  | _ => exact eqAt_same r r' f
theorem selfEq_all {A : Around} {s : Shared} : ∀ {xs : List V} {us ws : List Value}, Vals xs us → Vals xs ws → xs.all selfEq = true →
    ∀ j (h1 : j < us.length) (h2 : j < ws.length), SeqAt.EqAt A s us[j] ws[j] true
  | _, _, _, .nil, .nil, _, j, h1, _ => absurd h1 (Nat.not_lt_zero j)
  | _, _, _, .cons a1 b1, .cons a2 b2, f, j, h1, h2 => by
    rw [List.all_cons, Bool.and_eq_true] at f
    cases j with
    | zero => exact selfEq_at a1 a2 f.1
    | succ j => exact selfEq_all b1 b2 f.2 j (Nat.lt_of_succ_lt_succ h1) (Nat.lt_of_succ_lt_succ h2)
def rTupS (K : PySem.W.Frag) (b : Bool) : R2 := fun x y H Q => ∃ p q xs, x = .ref p ∧ y = .ref q ∧ SqT K H p xs ∧ SqT K H q xs ∧ xs.all selfEq = true ∧ Q (.bl b) H
theorem op_neTupS (hu : X.A.units < cLine) : OpR X (compareOp .NotEq) (rTupS X.K false) := by
  intro pins s σ H x y v u Q I rx ry h
  obtain ⟨p, q, xs, rfl, rfl, h1, h2, f, z⟩ := h
  cases (show v = Value.ref p from rx)
  cases (show u = Value.ref q from ry)
  obtain ⟨us, r1, p1, _⟩ := I.tuple h1
  obtain ⟨ws, r2, p2, _⟩ := I.tuple h2
  have e := SeqAt.RcNeAt.tuples (A := X.A) (s := s) (e := fun _ => true) p1 p2 hu fun j a b => by
    have k := selfEq_all (A := X.A.in1) (s := s) r1 r2 f j (by simpa using a) (by simpa using b)
    simpa using k
  refine e X.prog X.w _ _ ?_
  have l : us.length = ws.length := r1.length.symm.trans r2.length
  have z' : (!((List.range (min us.toArray.size ws.toArray.size)).all (fun _ => true) && us.toArray.size == ws.toArray.size)) = false := by
    rw [show ((List.range (min us.toArray.size ws.toArray.size)).all fun _ => true) = true from List.all_eq_true.mpr fun _ _ => rfl]
    simp [l]
  rw [z']
  exact ⟨.bl false, H, I, rfl, z⟩
theorem op_eqTupS (hu : X.A.units < cLine) : OpR X (compareOp .Eq) (rTupS X.K true) := by
  intro pins s σ H x y v u Q I rx ry h
  obtain ⟨p, q, xs, rfl, rfl, h1, h2, f, z⟩ := h
  cases (show v = Value.ref p from rx)
  cases (show u = Value.ref q from ry)
  obtain ⟨us, r1, p1, _⟩ := I.tuple h1
  obtain ⟨ws, r2, p2, _⟩ := I.tuple h2
  have e := SeqAt.RcAt.tuples (A := X.A) (s := s) (e := fun _ => true) p1 p2 hu fun j a b => by
    have k := selfEq_all (A := X.A.in1) (s := s) r1 r2 f j (by simpa using a) (by simpa using b)
    simpa using k
  refine e X.prog X.w _ _ ?_
  have l : us.length = ws.length := r1.length.symm.trans r2.length
  have z' : ((List.range (min us.toArray.size ws.toArray.size)).all (fun _ => true) && us.toArray.size == ws.toArray.size) = true := by
    rw [show ((List.range (min us.toArray.size ws.toArray.size)).all fun _ => true) = true from List.all_eq_true.mpr fun _ _ => rfl]
    simp [l]
  rw [z']
  exact ⟨.bl true, H, I, rfl, z⟩
end
/-! ### a def whose code object is told (it makes lambdas) -/
structure FunC (K : PySem.W.Frag) (x qual : Str) (st : Stmt) (f : Addr) (fd : FuncData) (co : Addr) : Prop where
  ex : ∃ (oc : Value) (od : Option Addr) (kV doc pm : Value) (an : Option Addr) (ct : Value) (osl : Array (Option Value)),
    fd = PySem.W.fnOf x qual (defArgs st) (defBody st) (defScope st) .none kV doc pm an (.ref co) ct ∧
      K.lookup f = some ⟨oc, od, .func fd, osl⟩ ∧ PySem.W.codeIn K (.ref co) qual = true
theorem FunC.ok {P : Program} {w : World} {K : PySem.W.Frag} {mg : Str → Option Value} {base : Heap} {x qual : Str} {st : Stmt} {f co : Addr} {fd : FuncData} {N ps : List Str} {k : Nat} {sp : Sp}
    (F : FunC K x qual st f fd co) (S : FnScope N ps (defScope st)) (len : ∀ vs H Q E, sp vs H Q E → vs.length = ps.length)
    (hbody : ∀ (A : Around) (outer : List Env) (s : Shared) (H : Hp) (vs : List V) (Q : VK) (E : XK),
      Room k (A.deeper (envOfC qual (defScope st) s.heap.objs.size f (.ref co))) → sp vs H Q E →
      ∃ t, PSs (cxOf CX0 P w K mg base N qual (defScope st) f (.ref co) A outer s H E).nox (defBody st) t ∧
        t { nx := fun _ H' => Q .non H', rt := Q } (L2.start N vs) H) : FnOk P w K mg base CX0 (k + 1) f fd ps sp := by
  obtain ⟨oc, od, kV, doc, pm, an, ct, osl, rfl, lk, hcd⟩ := F.ex
  refine fn_of lk hcd S len fun A outer s H vs Q E hr hsp => ?_
  obtain ⟨t, h, q⟩ := hbody A outer s H vs Q E hr hsp
  exact ⟨t, h.nox, q⟩
/-! ### tables of code objects, kept -/
open LamX in
theorem Tabs.keep {T : List (Addr × Str)} {H H' : Hp} (t : Tabs T H) (h : ∀ b o, H b = some o → (∀ u, o = .ext u → H' b = some o) ∧ (∀ ps, o = .tbl ps → H' b = some o)) : Tabs T H' := fun p hp => by
  obtain ⟨ps, h1, h2, h3⟩ := t p hp
  refine ⟨ps, (h _ _ h1).2 _ rfl, h2, fun pos cv hc => ?_⟩
  obtain ⟨c, e1, e2⟩ := h3 pos cv hc
  exact ⟨c, e1, (h _ _ e2).1 _ rfl⟩
end L2

set_option Elab.async false
set_option linter.all false
set_option maxRecDepth 100000
set_option maxHeartbeats 4000000
/-! own rule: the display {**a, **b} -/
namespace L2
open PySem PySem.Spec PyProof.Rows
section
variable {prog : Program} {w : World} {A : Around} {E : Value → Shared → Prop} {s : Shared}
/-- one pair put -/
theorem put_one {d : Addr} {kvs : List (Key × Value)} {k : Key} {key v : Value} {Q : Unit → Shared → Prop} (isK : (mixKind prog w).is k key = true) (at_ : s.heap.DictOf (mixKind prog w) d kvs) (few : kvs.length ≤ sizeLine)
    (then_ : ∀ h', h'.DictOf (mixKind prog w) d (stored kvs k v) → Heap.SameBut d s.heap h' → Q () { s with heap := h' }) :
    wpAny (model prog w) A (dictPut d ((mixKind prog w).hash k) key v) Q E s := by
  rcases at_ with ⟨ob, ents, epoch, here, exact_, data, keys, pairs, nodup⟩
  have small : ents.size ≤ sizeLine := by
    have z := pairs.length
    rw [Array.length_toList] at z
    omega
  unfold dictPut
  refine wpAny_bind (wpAny_dictFind_of isK here data keys ?_)
  have same : (ents.findIdx? fun x => (mixKind prog w).is k x.key) = kvs.findIdx? fun kv => decide (kv.1 = k) := by
    rw [← pairs.findIdx k]
    cases ents
    simp
  cases found : ents.findIdx? fun x => (mixKind prog w).is k x.key with
  | some i =>
    have isIn := any_of_findIdx_some (same ▸ found)
    refine wpAny_updateDict here data (then_ _ ⟨_, _, epoch, Heap.get?_update_self _ here (Obj.isFreed_of_dict (Obj.data_mapDict data _)), exact_.mapDict _, Obj.data_mapDict data _, keys.modify _ _, ?_, ?_⟩ (Heap.SameBut.update ..))
    · have z : (ents.toList.findIdx? fun x => (mixKind prog w).is k x.key) = some i := by
        rw [← found]
        cases ents
        simp
      have y := pairs.modify nodup z v
      rw [stored, if_pos isIn]
      cases ents
      simpa using y
    · rw [stored, if_pos isIn, keys_map_store]
      exact nodup
  | none =>
    have out := not_mem_of_findIdx_none (same ▸ found)
    have isOut : ¬ (kvs.any fun kv => decide (kv.1 = k)) = true := fun z => by
      obtain ⟨kv, m, e⟩ := List.any_eq_true.mp z
      exact out (List.mem_map.mpr ⟨kv, m, of_decide_eq_true e⟩)
    refine wpAny_updateDictKeys (hz := small) here data (then_ _ ⟨_, _, epoch + 1, Heap.get?_update_self _ here (Obj.isFreed_of_dict (Obj.data_mapDictKeys data _)), exact_.mapDictKeys _, Obj.data_mapDictKeys data _, keys.push isK _, ?_, ?_⟩ (Heap.SameBut.update ..))
    · have y := pairs.append isK ((mixKind prog w).hash k) v
      rw [stored, if_neg isOut]
      cases ents
      simpa using y
    · rw [stored, if_neg isOut, List.map_append]
      refine List.nodup_append.mpr ⟨nodup, by simp, fun x hx y hy => ?_⟩
      have : y = k := by simpa using hy
      rw [this]
      exact fun z => out (z ▸ hx)
/-- all pairs of the dict at o put into the one at d -/
theorem merge_all {d o : Addr} {kvs more : List (Key × Value)} {Q : Unit → Shared → Prop} (ne : d ≠ o) (no : (o == sysModules) = false) (atD : s.heap.DictOf (mixKind prog w) d kvs) (atO : s.heap.DictOf (mixKind prog w) o more)
    (few : kvs.length + more.length ≤ sizeLine) (then_ : ∀ h', h'.DictOf (mixKind prog w) d (merged kvs more) → Heap.SameBut d s.heap h' → Q () { s with heap := h' }) :
    wpAny (model prog w) A (mergeMapping d (.ref o) false) Q E s := by
  rcases id atD with ⟨obD, entsD, epochD, hereD, exactD, dataD, keysD, pairsD, nodupD⟩
  rcases id atO with ⟨obO, entsO, epochO, hereO, exactO, dataO, keysO, pairsO, nodupO⟩
  have len : more.length = entsO.size := by
    rw [← pairsO.length]
    simp
  unfold mergeMapping
  refine wpAny_bind (wpAny_isInstance atO.typeIs isSubtype_dict_dict ?_)
  rw [if_pos rfl]
  refine wpAny_bind (wpAny_specialOf atO.typeIs F.slot_dict_iter.lookup ?_)
  refine wpAny_bind (wpAny_pure ?_)
  simp only [beq_self_eq_true]
  rw [if_neg (by rw [no]; exact Bool.false_ne_true)]
  refine wpAny_bind (wpAny_dictEntries hereD dataD ?_)
  -- the walk
  have walk : wpAny (model prog w) A (do
      let l ← dictEntries o
      let epoch ← dictEpoch o
      forIn (List.range l.size) PUnit.unit fun i (_ : PUnit) => (do
        let l' ← dictEntries o
        match l'[i]? with
          | some e => do
            holding [e.key, e.val] (dictPut d e.hash e.key e.val)
            let ep' ← dictEpoch o
            if (ep' != epoch) = true then do
                (unsupported "dict.changed-during-merge" : Sem PUnit)
                pure (ForInStep.yield PUnit.unit)
              else pure (ForInStep.yield PUnit.unit)
          | _ => do
            (unsupported "dict.changed-during-merge" : Sem PUnit)
            pure (ForInStep.yield PUnit.unit) : Sem (ForInStep PUnit))
      pure ()) Q E s := by
    refine wpAny_bind (wpAny_dictEntries hereO dataO (wpAny_bind (wpAny_dictEpoch hereO dataO (wpAny_bind ?_))))
    refine wpAny_forIn_list _
      (fun rest _ s' => ∃ h' i, s' = { s with heap := h' } ∧ rest = List.range' i (entsO.size - i) ∧ i ≤ entsO.size ∧ h'.DictOf (mixKind prog w) d (merged kvs (more.take i)) ∧ h'.get? o = some obO ∧ Heap.SameBut d s.heap h')
      _ ?_ ?_ _ _ ⟨s.heap, 0, rfl, by rw [List.range_eq_range', Nat.sub_zero], Nat.zero_le _, by simpa [merged] using atD, hereO, Heap.SameBut.refl _ _⟩
    · rintro x rest _ _ ⟨h', i, rfl, er, le, atD', hereO', sb⟩
      have lt : i < entsO.size := by
        by_cases z : i < entsO.size
        · exact z
        · rw [show entsO.size - i = 0 by omega] at er
          cases er
      rw [show entsO.size - i = (entsO.size - (i + 1)) + 1 by omega, List.range'_succ] at er
      injection er with e1 e2
      subst e1 e2
      refine wpAny_bind (wpAny_dictEntries hereO' dataO ?_)
      rw [Array.getElem?_eq_getElem lt]
      obtain ⟨⟨k, v⟩, pair⟩ : ∃ kv, more[x]? = some kv := ⟨more[x]'(by rw [len]; exact lt), List.getElem?_eq_getElem _⟩
      obtain ⟨isK, isV⟩ := pairsO.get? (e := entsO[x]) (by simp [lt]) pair
      obtain ⟨k', isK', hash⟩ := keysO entsO[x] (Array.getElem_mem lt)
      have ek : k' = k := (mixKind prog w).inj _ _ _ isK' isK
      subst ek
      show wpAny _ _ (holding [entsO[x].key, entsO[x].val] (dictPut d entsO[x].hash entsO[x].key entsO[x].val) >>= _) _ _ _
      rw [hash, isV]
      have few' : (merged kvs (more.take x)).length ≤ sizeLine := by
        have z := merged_length_le kvs (more.take x)
        rw [List.length_take] at z
        omega
      refine wpAny_bind (wpAny_holding (put_one isK atD' few' fun h'' atD'' sb' => ?_))
      have hereO'' := (sb'.2 o (Ne.symm ne)).trans hereO'
      refine wpAny_bind (wpAny_dictEpoch hereO'' dataO ?_)
      rw [if_neg (by simp)]
      exact wpAny_pure ⟨h'', x + 1, rfl, rfl, lt, by rw [merged_take_succ kvs more x (k', v) pair]; exact atD'', hereO'', sb.trans sb'⟩
    · rintro _ _ ⟨h', i, rfl, er, le, atD', hereO', sb⟩
      have ei : i = more.length := by
        by_cases z : i < entsO.size
        · rw [show entsO.size - i = (entsO.size - (i + 1)) + 1 by omega, List.range'_succ] at er
          cases er
        · omega
      rw [ei, List.take_length] at atD'
      exact wpAny_pure (then_ h' atD' sb)
  split
  · refine wpAny_bind (wpAny_dictEntries hereO dataO (wpAny_bind ?_))
    refine wpAny_forIn_array' _ (fun rest _ s' => s' = s ∧ ∀ x ∈ rest, x ∈ entsO) _ ?_ ?_ _ _ ⟨rfl, fun x hx => by simpa using hx⟩
    · rintro x rest _ _ ⟨rfl, mem⟩
      obtain ⟨k, isK, _⟩ := keysO x (mem x List.mem_cons_self)
      have go : ∀ {v : Value}, (mixKind prog w).is k v = true → ∀ a, v ≠ .ref a := fun {v} z a e => by
        rcases keyIs_shape z with ⟨i, t, _, y⟩ | ⟨i, t, _, y⟩ <;> rw [e] at y <;> cases y
      split
      · rename_i a ea
        exact absurd ea (go isK a)
      · exact wpAny_pure ⟨rfl, fun y hy => mem y (List.mem_cons_of_mem _ hy)⟩
    · rintro _ _ ⟨rfl, _⟩
      exact walk
  · exact walk
end
section
variable {X : Cx} {e1 e2 : Expr} {pos : Pos} {t1 t2 : TE}
/-- {**a, **b} -/
def tStar2 (t1 t2 : TE) : TE := fun σ H Q => ∀ p, H p = none → t1 σ (upd H p (.dK [])) fun x H1 => ∃ a ks, x = .ref a ∧ a ≠ p ∧ H1 a = some (.dK ks) ∧ H1 p = some (.dK []) ∧
  t2 σ (upd H1 p (.dK (mergeK [] ks))) fun y H2 => ∃ b ls, y = .ref b ∧ b ≠ p ∧ H2 b = some (.dK ls) ∧ H2 p = some (.dK (mergeK [] ks)) ∧ ks.length + ls.length ≤ sizeLine ∧ Q (.ref p) (upd H2 p (.dK (mergeK (mergeK [] ks) ls)))
/-- the dict at a merged into the one at p -/
theorem in_one {pins : List (Addr × Obj)} {σ : St} {H : Hp} {s : Shared} {Q : Unit → Shared → Prop} {E : Value → Shared → Prop} {a p : Addr} {ks ls : List (Key × V)} (I : Inv X pins σ H s) (ea : H a = some (.dK ls)) (ep : H p = some (.dK ks)) (ne : a ≠ p) (few : ks.length + ls.length ≤ sizeLine)
    (then_ : ∀ s', Inv X pins σ (upd H p (.dK (mergeK ks ls))) s' → Q () s') : wpAny (model X.prog X.w) X.A (mergeMapping p (.ref a) false) Q E s := by
  obtain ⟨z1, n1, vs, k1, d1⟩ := dk_of I.hok ea
  obtain ⟨z2, n2, us, k2, d2⟩ := dk_of I.hok ep
  have l1 : ls.length = vs.length := Paired.length k1
  have l2 : ks.length = us.length := Paired.length k2
  refine merge_all (Ne.symm ne) n1 d2 d1 (by omega) fun h' dd sb => then_ _ ?_
  have some_ : ∃ q, h'.get? p = some q := let ⟨q, _, _, hq, _⟩ := dd; ⟨q, hq⟩
  exact d_write I (by rw [ep]; exact True.intro) sb some_ (dk_new (by have := length_mergeK ls ks; omega) n2 (k1.merge k2) dd)
theorem tried {A : Around} {M : Model} {s : Shared} {m : Sem Unit} {k1 k2 k3 : Value → Sem Unit} {Q : Unit → Shared → Prop} {E : Value → Shared → Prop} (h : ∀ E', wpAny M A m Q E' s) : wpAny M A (((m.onRaise k1).tryCatch k2).onRaise k3) Q E s :=
  wpAny_onRaise (wpAny_tryCatch (wpAny_onRaise (h _)))
theorem pe_star2 (h1 : PE X e1 t1) (h2 : PE X e2 t2) : PE X (.Dict [none, none] [e1, e2] pos) (tStar2 t1 t2) := by
  constructor
  intro pins s σ H Q I wish
  rw [arm_eval_Dict]
  refine wpAny_bind (wpAny_standAt ?_)
  show wpAny _ _ (dictDisplay [(none, do let x ← eval e1 X.env; standAt pos; pure x), (none, do let x ← eval e2 X.env; standAt pos; pure x)]) _ _ s
  unfold dictDisplay
  simp only [List.forIn_cons, List.forIn_nil, List.isEmpty_nil, if_true, pure_bind, bind_assoc]
  have free := I.hok.fresh (Nat.le_refl s.heap.objs.size)
  have I1 := I.laid (a := s.heap.objs.size) (o := .dK []) (h' := s.heap.push { cls := .type "dict", data := .dict #[] }) (t' := s.toks) (fun _ _ z => Heap.get?_push_of_some _ z) (Nat.le_refl _) (dk_empty s.heap I.big)
  refine wpAny_bind (wpAny_alloc (wpAny_bind (wpAny_holding (wpAny_bind (thn (h1.run pins _ σ _ _ I1 (wish _ free)) ?_)))))
  rintro u1 s1 ⟨x, H1, I2, r1, a, ks, rfl, na, ea, ep, w1⟩
  cases (show u1 = Value.ref a from r1)
  refine wpAny_bind (wpAny_standAt (wpAny_pure (wpAny_bind (tried fun E' => wpAny_holding (in_one I2 ea ep na ?_ fun s2 I3 => ?_)))))
  · obtain ⟨z1, _⟩ := dk_of I2.hok ea
    simpa using z1
  refine wpAny_bind (wpAny_holding (wpAny_bind (thn (h2.run pins _ σ _ _ I3 w1) ?_)))
  rintro u2 s3 ⟨y, H2, I4, r2, b, ls, rfl, nb, eb, ep2, few, w2⟩
  cases (show u2 = Value.ref b from r2)
  refine wpAny_bind (wpAny_standAt (wpAny_pure (wpAny_bind (tried fun E' => wpAny_holding (in_one I4 eb ep2 nb ?_ fun s4 I5 => wpAny_pure ⟨.ref _, _, I5, rfl, w2⟩)))))
  have := length_mergeK ks []
  simp at this
  omega
end
end L2

set_option Elab.async false
set_option linter.all false
set_option maxRecDepth 100000
set_option maxHeartbeats 4000000
namespace My
open PySem L2
local macro_rules | `(tactic| walk_at "ds") => `(tactic| dsimp only [tSeq, tIfS, tTest, tB, tAnd, tOr, tNot, tAndV, tOrV, tNotV, tIf, tIsN, tNotN, tOp, tUn, tChain, rI, rI0, rU, tC, tCB, tCons, tNil, tAsg, gName, gSub, tRet, tRetN, tNext, tDrop, tLst, tTup, rIxL, rIxT, rSetL, tVar, tFld, tCall, tDGet, tDIn, tDNotIn, tNever, L2.start, List.map, List.replicate, List.length, List.append, List.cons_append, List.nil_append, List.set, Nat.sub])
local macro_rules | `(tactic| walk_at "hp") => `(tactic| first | assumption | exact upd_same | (refine Eq.trans (upd_ne (by first | assumption | (apply Ne.symm; assumption))) ?_; walk_at "hp"))
local macro_rules | `(tactic| walk_at "sd") => `(tactic| first
  | (show (_ : Int) ≠ 0; omega)
  | (refine (show CDivN _ _ from ⟨?_, ?_⟩) <;> omega)
  | (show CPow _ _; refine ⟨by omega, by omega, by omega⟩)
  | (show CMul _ _; exact Or.inl ⟨by omega, by omega⟩)
  | (show CMul _ _; exact Or.inr ⟨by omega, by omega⟩))
local macro_rules | `(tactic| walk_at "st") => `(tactic| first
  | refine ⟨_, rfl, ?_⟩
  | refine ⟨_, _, rfl, rfl, (by walk_at "sd"), ?_⟩
  | refine ⟨_, _, rfl, rfl, ?_⟩
  | refine ⟨_, _, _, _, rfl, rfl, SqL.of (by walk_at "hp"), rfl, ?_⟩
  | refine ⟨_, _, _, _, rfl, rfl, (by walk_at "hp"), rfl, ?_⟩
  | refine .inl ⟨_, rfl, ?_⟩
  | refine ⟨_, _, _, _, _, rfl, (by walk_at "hp"), (by assumption), (by assumption), rfl, ?_⟩
  | refine ⟨_, _, rfl, .inl (SqL.of (by walk_at "hp")), ?_⟩)
local macro_rules | `(tactic| walk_at "go") => `(tactic| repeat (first | walk_at "st" | (walk_at "ds"; walk_at "st")))

def top (i : Nat) : Stmt := PySem.Challenge.pw_pageclass_k05_gaps.main.body.getD i (.Pass ⟨0, 0, 0, 0⟩)
abbrev s_NoSystem_init : Stmt := inClass (top 2) 0
abbrev n_NoSystem_init : List Str := ["self", "part"]
abbrev p_NoSystem_init : List Str := ["self", "part"]
theorem sc_NoSystem_init : FnScope n_NoSystem_init p_NoSystem_init (defScope s_NoSystem_init) := ⟨rfl, rfl, rfl, by decide +kernel, rfl, by decide +kernel, by decide +kernel⟩
abbrev s_NoProcess_init : Stmt := inClass (top 3) 0
abbrev n_NoProcess_init : List Str := ["self", "process"]
abbrev p_NoProcess_init : List Str := ["self", "process"]
theorem sc_NoProcess_init : FnScope n_NoProcess_init p_NoProcess_init (defScope s_NoProcess_init) := ⟨rfl, rfl, rfl, by decide +kernel, rfl, by decide +kernel, by decide +kernel⟩
abbrev s_NoPages_init : Stmt := inClass (top 4) 0
abbrev n_NoPages_init : List Str := ["self", "part"]
abbrev p_NoPages_init : List Str := ["self", "part"]
theorem sc_NoPages_init : FnScope n_NoPages_init p_NoPages_init (defScope s_NoPages_init) := ⟨rfl, rfl, rfl, by decide +kernel, rfl, by decide +kernel, by decide +kernel⟩
abbrev s_Page_init : Stmt := inClass (top 10) 0
abbrev n_Page_init : List Str := ["self", "rights", "shared", "source", "index", "flags", "held"]
abbrev p_Page_init : List Str := ["self", "rights", "shared", "source", "index", "flags", "held"]
theorem sc_Page_init : FnScope n_Page_init p_Page_init (defScope s_Page_init) := ⟨rfl, rfl, rfl, by decide +kernel, rfl, by decide +kernel, by decide +kernel⟩
abbrev s_System_init : Stmt := inClass (top 46) 0
abbrev n_System_init : List Str := ["self", "frames", "slots", "strict"]
abbrev p_System_init : List Str := ["self", "frames", "slots", "strict"]
theorem sc_System_init : FnScope n_System_init p_System_init (defScope s_System_init) := ⟨rfl, rfl, rfl, by decide +kernel, rfl, by decide +kernel, by decide +kernel⟩
abbrev s_has_object : Stmt := top 12
abbrev n_has_object : List Str := ["page"]
abbrev p_has_object : List Str := ["page"]
theorem sc_has_object : FnScope n_has_object p_has_object (defScope s_has_object) := ⟨rfl, rfl, rfl, by decide +kernel, rfl, by decide +kernel, by decide +kernel⟩
abbrev s_count_page : Stmt := top 17
abbrev n_count_page : List Str := ["system", "page", "held", "users"]
abbrev p_count_page : List Str := ["system", "page"]
theorem sc_count_page : FnScope n_count_page p_count_page (defScope s_count_page) := ⟨rfl, rfl, rfl, by decide +kernel, rfl, by decide +kernel, by decide +kernel⟩
abbrev s_discount_page : Stmt := top 18
abbrev n_discount_page : List Str := ["system", "page", "held"]
abbrev p_discount_page : List Str := ["system", "page"]
theorem sc_discount_page : FnScope n_discount_page p_discount_page (defScope s_discount_page) := ⟨rfl, rfl, rfl, by decide +kernel, rfl, by decide +kernel, by decide +kernel⟩
abbrev s_replace_pages : Stmt := top 20
abbrev n_replace_pages : List Str := ["system", "process", "changes", "table", "replaced", "number", "page"]
abbrev p_replace_pages : List Str := ["system", "process", "changes"]
theorem sc_replace_pages : FnScope n_replace_pages p_replace_pages (defScope s_replace_pages) := ⟨rfl, rfl, rfl, by decide +kernel, rfl, by decide +kernel, by decide +kernel⟩
abbrev s_end_step : Stmt := top 21
abbrev n_end_step : List Str := ["system"]
abbrev p_end_step : List Str := ["system"]
theorem sc_end_step : FnScope n_end_step p_end_step (defScope s_end_step) := ⟨rfl, rfl, rfl, by decide +kernel, rfl, by decide +kernel, by decide +kernel⟩
abbrev s_is_integer : Stmt := top 23
abbrev n_is_integer : List Str := ["value", "low", "high"]
abbrev p_is_integer : List Str := ["value", "low", "high"]
theorem sc_is_integer : FnScope n_is_integer p_is_integer (defScope s_is_integer) := ⟨rfl, rfl, rfl, by decide +kernel, rfl, by decide +kernel, by decide +kernel⟩
abbrev s_is_word : Stmt := top 24
abbrev n_is_word : List Str := ["value", "words"]
abbrev p_is_word : List Str := ["value", "words"]
theorem sc_is_word : FnScope n_is_word p_is_word (defScope s_is_word) := ⟨rfl, rfl, rfl, by decide +kernel, rfl, by decide +kernel, by decide +kernel⟩
abbrev s_require : Stmt := top 25
abbrev n_require : List Str := ["valid", "part"]
abbrev p_require : List Str := ["valid", "part"]
theorem sc_require : FnScope n_require p_require (defScope s_require) := ⟨rfl, rfl, rfl, by decide +kernel, rfl, by decide +kernel, by decide +kernel⟩
abbrev s_table_of : Stmt := top 26
abbrev n_table_of : List Str := ["system", "process"]
abbrev p_table_of : List Str := ["system", "process"]
theorem sc_table_of : FnScope n_table_of p_table_of (defScope s_table_of) := ⟨rfl, rfl, rfl, by decide +kernel, rfl, by decide +kernel, by decide +kernel⟩
abbrev s_numbers_of : Stmt := top 27
abbrev n_numbers_of : List Str := ["first", "count"]
abbrev p_numbers_of : List Str := ["first", "count"]
theorem sc_numbers_of : FnScope n_numbers_of p_numbers_of (defScope s_numbers_of) := ⟨rfl, rfl, rfl, by decide +kernel, rfl, by decide +kernel, by decide +kernel⟩
abbrev s_require_charge : Stmt := top 32
abbrev n_require_charge : List Str := ["system", "process", "table", "tables", "charge"]
abbrev p_require_charge : List Str := ["system", "process", "table"]
theorem sc_require_charge : FnScope n_require_charge p_require_charge (defScope s_require_charge) := ⟨rfl, rfl, rfl, by decide +kernel, rfl, by decide +kernel, by decide +kernel⟩
abbrev s_require_source : Stmt := top 34
abbrev n_require_source : List Str := ["system", "source", "shared", "kind", "named"]
abbrev p_require_source : List Str := ["system", "source", "shared"]
theorem sc_require_source : FnScope n_require_source p_require_source (defScope s_require_source) := ⟨rfl, rfl, rfl, by decide +kernel, rfl, by decide +kernel, by decide +kernel⟩
abbrev s_place_for : Stmt := top 35
abbrev n_place_for : List Str := ["table", "count", "at", "first"]
abbrev p_place_for : List Str := ["table", "count", "at"]
theorem sc_place_for : FnScope n_place_for p_place_for (defScope s_place_for) := ⟨rfl, rfl, rfl, by decide +kernel, rfl, by decide +kernel, by decide +kernel⟩
abbrev s_map_pages : Stmt := top 36
abbrev n_map_pages : List Str := ["system", "process", "count", "rights", "shared", "source", "index", "at", "table", "first", "makes_object", "shows", "pages"]
abbrev p_map_pages : List Str := ["system", "process", "count", "rights", "shared", "source", "index", "at"]
theorem sc_map_pages : FnScope n_map_pages p_map_pages (defScope s_map_pages) := ⟨rfl, rfl, rfl, by decide +kernel, rfl, by decide +kernel, by decide +kernel⟩
abbrev s_new_pages : Stmt := top 37
abbrev n_new_pages : List Str := ["first", "count", "page", "pages", "k", "index"]
abbrev p_new_pages : List Str := ["first", "count", "page"]
theorem sc_new_pages : FnScope n_new_pages p_new_pages (defScope s_new_pages) := ⟨rfl, rfl, rfl, by decide +kernel, rfl, by decide +kernel, by decide +kernel⟩
abbrev s_unmap : Stmt := top 38
abbrev n_unmap : List Str := ["system", "process", "first", "count", "table", "numbers", "number"]
abbrev p_unmap : List Str := ["system", "process", "first", "count"]
theorem sc_unmap : FnScope n_unmap p_unmap (defScope s_unmap) := ⟨rfl, rfl, rfl, by decide +kernel, rfl, by decide +kernel, by decide +kernel⟩
abbrev s_regions : Stmt := top 40
abbrev n_regions : List Str := ["system", "process", "table", "runs", "number", "first", "count"]
abbrev p_regions : List Str := ["system", "process"]
theorem sc_regions : FnScope n_regions p_regions (defScope s_regions) := ⟨rfl, rfl, rfl, by decide +kernel, rfl, by decide +kernel, by decide +kernel⟩
abbrev s_free_runs : Stmt := top 41
abbrev n_free_runs : List Str := ["table", "runs", "run", "number"]
abbrev p_free_runs : List Str := ["table"]
theorem sc_free_runs : FnScope n_free_runs p_free_runs (defScope s_free_runs) := ⟨rfl, rfl, rfl, by decide +kernel, rfl, by decide +kernel, by decide +kernel⟩
abbrev s_lowest_gap : Stmt := top 42
abbrev n_lowest_gap : List Str := ["table", "count", "number", "run"]
abbrev p_lowest_gap : List Str := ["table", "count"]
theorem sc_lowest_gap : FnScope n_lowest_gap p_lowest_gap (defScope s_lowest_gap) := ⟨rfl, rfl, rfl, by decide +kernel, rfl, by decide +kernel, by decide +kernel⟩
abbrev s_gap : Stmt := top 43
abbrev n_gap : List Str := ["system", "process", "count", "table"]
abbrev p_gap : List Str := ["system", "process", "count"]
theorem sc_gap : FnScope n_gap p_gap (defScope s_gap) := ⟨rfl, rfl, rfl, by decide +kernel, rfl, by decide +kernel, by decide +kernel⟩
abbrev s_widest : Stmt := top 44
abbrev n_widest : List Str := ["system", "process"]
abbrev p_widest : List Str := ["system", "process"]
theorem sc_widest : FnScope n_widest p_widest (defScope s_widest) := ⟨rfl, rfl, rfl, by decide +kernel, rfl, by decide +kernel, by decide +kernel⟩
abbrev s_new_process : Stmt := top 47
abbrev n_new_process : List Str := ["system"]
abbrev p_new_process : List Str := ["system"]
theorem sc_new_process : FnScope n_new_process p_new_process (defScope s_new_process) := ⟨rfl, rfl, rfl, by decide +kernel, rfl, by decide +kernel, by decide +kernel⟩
abbrev s_spawn : Stmt := top 48
abbrev n_spawn : List Str := ["system", "process"]
abbrev p_spawn : List Str := ["system"]
theorem sc_spawn : FnScope n_spawn p_spawn (defScope s_spawn) := ⟨rfl, rfl, rfl, by decide +kernel, rfl, by decide +kernel, by decide +kernel⟩
abbrev s__law_well : Stmt := top 51
abbrev n__law_well : List Str := ["cell"]
abbrev p__law_well : List Str := ["cell"]
theorem sc__law_well : FnScope n__law_well p__law_well (defScope s__law_well) := ⟨rfl, rfl, rfl, by decide +kernel, rfl, by decide +kernel, by decide +kernel⟩
abbrev s__law_draw : Stmt := top 52
abbrev n__law_draw : List Str := ["well", "many", "digit", "prime", "number"]
abbrev p__law_draw : List Str := ["well", "many"]
theorem sc__law_draw : FnScope n__law_draw p__law_draw (defScope s__law_draw) := ⟨rfl, rfl, rfl, by decide +kernel, rfl, by decide +kernel, by decide +kernel⟩
abbrev s__law_one : Stmt := top 53
abbrev n__law_one : List Str := ["well", "some"]
abbrev p__law_one : List Str := ["well", "some"]
theorem sc__law_one : FnScope n__law_one p__law_one (defScope s__law_one) := ⟨rfl, rfl, rfl, by decide +kernel, rfl, by decide +kernel, by decide +kernel⟩
abbrev s__law_fits : Stmt := top 54
abbrev n__law_fits : List Str := ["space", "many", "free", "page"]
abbrev p__law_fits : List Str := ["space", "many"]
theorem sc__law_fits : FnScope n__law_fits p__law_fits (defScope s__law_fits) := ⟨rfl, rfl, rfl, by decide +kernel, rfl, by decide +kernel, by decide +kernel⟩
abbrev s__law_said : Stmt := top 55
abbrev n__law_said : List Str := ["ask", "e"]
abbrev p__law_said : List Str := ["ask"]
theorem sc__law_said : FnScope n__law_said p__law_said (defScope s__law_said) := ⟨rfl, rfl, rfl, by decide +kernel, rfl, by decide +kernel, by decide +kernel⟩
abbrev s__law_widest : Stmt := top 56
abbrev n__law_widest : List Str := ["space", "best", "free", "page"]
abbrev p__law_widest : List Str := ["space"]
theorem sc__law_widest : FnScope n__law_widest p__law_widest (defScope s__law_widest) := ⟨rfl, rfl, rfl, by decide +kernel, rfl, by decide +kernel, by decide +kernel⟩
abbrev s__law_refused : Stmt := top 57
abbrev n__law_refused : List Str := ["well", "system", "process", "odd"]
abbrev p__law_refused : List Str := ["well", "system", "process"]
theorem sc__law_refused : FnScope n__law_refused p__law_refused (defScope s__law_refused) := ⟨rfl, rfl, rfl, by decide +kernel, rfl, by decide +kernel, by decide +kernel⟩
abbrev s_law : Stmt := top 58
abbrev n_law : List Str := ["script", "cell", "well", "system", "process", "space", "k", "begin", "many", "page", "due"]
abbrev p_law : List Str := ["script"]
theorem sc_law : FnScope n_law p_law (defScope s_law) := ⟨rfl, rfl, rfl, by decide +kernel, rfl, by decide +kernel, by decide +kernel⟩

abbrev kw_System_init : List (Str × V) := [("frames", .non), ("slots", .non), ("strict", .bl false)]
abbrev kw_map_pages : List (Str × V) := [("rights", .str "rw"), ("shared", .bl false), ("source", .non), ("index", .int 0), ("at", .non)]
/-- the tuple of the rights, in the written part -/
def rightsIn (K : PySem.W.Frag) (a : Addr) : Bool := match K.lookup a with
  | some ⟨.type "tuple", _, .seq its _, _⟩ => (match its.toList with | [.str x _, .str y _, .str z _] => x == "none" && y == "r" && z == "rw" | _ => false)
  | _ => false
theorem exm_is {K : PySem.W.Frag} {T S : Addr} {b : Bool} (h1 : PySem.W.subIn K (.ref S) (.type "BaseException") = some true) (h2 : PySem.W.isClsIn K S = true) (h3 : PySem.W.typeIn K (.ref S) = some (.type "type")) (h4 : PySem.W.subIn K (.ref T) (.ref S) = some b) : PySem.W.exmOne K (.ref T) (.ref S) = some b := by
  have h2' : (PySem.W.clsIn K S).isSome = true := h2
  unfold PySem.W.exmOne PySem.W.kitCls
  rw [h1]
  simp only [h2', h3, h4, beq_self_eq_true, Bool.and_self, if_true]
/-- where the top stands -/
structure Adr where
  a_has_object : Addr
  fd_has_object : FuncData
  a_count_page : Addr
  fd_count_page : FuncData
  a_discount_page : Addr
  fd_discount_page : FuncData
  a_replace_pages : Addr
  fd_replace_pages : FuncData
  a_end_step : Addr
  fd_end_step : FuncData
  a_is_integer : Addr
  fd_is_integer : FuncData
  a_is_word : Addr
  fd_is_word : FuncData
  a_require : Addr
  fd_require : FuncData
  a_table_of : Addr
  fd_table_of : FuncData
  a_numbers_of : Addr
  fd_numbers_of : FuncData
  a_require_charge : Addr
  fd_require_charge : FuncData
  a_require_source : Addr
  fd_require_source : FuncData
  a_place_for : Addr
  fd_place_for : FuncData
  a_map_pages : Addr
  fd_map_pages : FuncData
  a_new_pages : Addr
  fd_new_pages : FuncData
  a_unmap : Addr
  fd_unmap : FuncData
  a_regions : Addr
  fd_regions : FuncData
  a_free_runs : Addr
  fd_free_runs : FuncData
  a_lowest_gap : Addr
  fd_lowest_gap : FuncData
  a_gap : Addr
  fd_gap : FuncData
  a_widest : Addr
  fd_widest : FuncData
  a_new_process : Addr
  fd_new_process : FuncData
  a_spawn : Addr
  fd_spawn : FuncData
  a__law_well : Addr
  fd__law_well : FuncData
  a__law_draw : Addr
  fd__law_draw : FuncData
  a__law_one : Addr
  fd__law_one : FuncData
  a__law_fits : Addr
  fd__law_fits : FuncData
  a__law_said : Addr
  fd__law_said : FuncData
  a__law_widest : Addr
  fd__law_widest : FuncData
  a__law_refused : Addr
  fd__law_refused : FuncData
  co__law_refused : Addr
  ta__law_refused : Addr
  a_law : Addr
  fd_law : FuncData
  co_law : Addr
  ta_law : Addr
  c_NoSystem : Addr
  c_NoProcess : Addr
  c_NoPages : Addr
  c_PageError : Addr
  c_System : Addr
  c_Page : Addr
  a_NoSystem_init : Addr
  fd_NoSystem_init : FuncData
  a_NoProcess_init : Addr
  fd_NoProcess_init : FuncData
  a_NoPages_init : Addr
  fd_NoPages_init : FuncData
  a_Page_init : Addr
  fd_Page_init : FuncData
  a_System_init : Addr
  fd_System_init : FuncData
  t_PAGES : Tok
  o_RIGHTS : Addr
/-- what the top has written -/
structure Txt (K : PySem.W.Frag) (mg : Str → Option Value) (A : Adr) : Prop where
  f_has_object : Fun K "has_object" "has_object" s_has_object A.a_has_object A.fd_has_object
  bi_has_object : L2.Binds K A.fd_has_object p_has_object []
  g_has_object : mg "has_object" = some (.ref A.a_has_object)
  k_has_object : PySem.W.keepIn K (.ref A.a_has_object) = true
  f_count_page : Fun K "count_page" "count_page" s_count_page A.a_count_page A.fd_count_page
  bi_count_page : L2.Binds K A.fd_count_page p_count_page []
  g_count_page : mg "count_page" = some (.ref A.a_count_page)
  k_count_page : PySem.W.keepIn K (.ref A.a_count_page) = true
  f_discount_page : Fun K "discount_page" "discount_page" s_discount_page A.a_discount_page A.fd_discount_page
  bi_discount_page : L2.Binds K A.fd_discount_page p_discount_page []
  g_discount_page : mg "discount_page" = some (.ref A.a_discount_page)
  k_discount_page : PySem.W.keepIn K (.ref A.a_discount_page) = true
  f_replace_pages : Fun K "replace_pages" "replace_pages" s_replace_pages A.a_replace_pages A.fd_replace_pages
  bi_replace_pages : L2.Binds K A.fd_replace_pages p_replace_pages []
  g_replace_pages : mg "replace_pages" = some (.ref A.a_replace_pages)
  k_replace_pages : PySem.W.keepIn K (.ref A.a_replace_pages) = true
  f_end_step : Fun K "end_step" "end_step" s_end_step A.a_end_step A.fd_end_step
  bi_end_step : L2.Binds K A.fd_end_step p_end_step []
  g_end_step : mg "end_step" = some (.ref A.a_end_step)
  k_end_step : PySem.W.keepIn K (.ref A.a_end_step) = true
  f_is_integer : Fun K "is_integer" "is_integer" s_is_integer A.a_is_integer A.fd_is_integer
  bi_is_integer : L2.Binds K A.fd_is_integer p_is_integer []
  g_is_integer : mg "is_integer" = some (.ref A.a_is_integer)
  k_is_integer : PySem.W.keepIn K (.ref A.a_is_integer) = true
  f_is_word : Fun K "is_word" "is_word" s_is_word A.a_is_word A.fd_is_word
  bi_is_word : L2.Binds K A.fd_is_word p_is_word []
  g_is_word : mg "is_word" = some (.ref A.a_is_word)
  k_is_word : PySem.W.keepIn K (.ref A.a_is_word) = true
  f_require : Fun K "require" "require" s_require A.a_require A.fd_require
  bi_require : L2.Binds K A.fd_require p_require []
  g_require : mg "require" = some (.ref A.a_require)
  k_require : PySem.W.keepIn K (.ref A.a_require) = true
  f_table_of : Fun K "table_of" "table_of" s_table_of A.a_table_of A.fd_table_of
  bi_table_of : L2.Binds K A.fd_table_of p_table_of []
  g_table_of : mg "table_of" = some (.ref A.a_table_of)
  k_table_of : PySem.W.keepIn K (.ref A.a_table_of) = true
  f_numbers_of : Fun K "numbers_of" "numbers_of" s_numbers_of A.a_numbers_of A.fd_numbers_of
  bi_numbers_of : L2.Binds K A.fd_numbers_of p_numbers_of []
  g_numbers_of : mg "numbers_of" = some (.ref A.a_numbers_of)
  k_numbers_of : PySem.W.keepIn K (.ref A.a_numbers_of) = true
  f_require_charge : Fun K "require_charge" "require_charge" s_require_charge A.a_require_charge A.fd_require_charge
  bi_require_charge : L2.Binds K A.fd_require_charge p_require_charge []
  g_require_charge : mg "require_charge" = some (.ref A.a_require_charge)
  k_require_charge : PySem.W.keepIn K (.ref A.a_require_charge) = true
  f_require_source : Fun K "require_source" "require_source" s_require_source A.a_require_source A.fd_require_source
  bi_require_source : L2.Binds K A.fd_require_source p_require_source []
  g_require_source : mg "require_source" = some (.ref A.a_require_source)
  k_require_source : PySem.W.keepIn K (.ref A.a_require_source) = true
  f_place_for : Fun K "place_for" "place_for" s_place_for A.a_place_for A.fd_place_for
  bi_place_for : L2.Binds K A.fd_place_for p_place_for []
  g_place_for : mg "place_for" = some (.ref A.a_place_for)
  k_place_for : PySem.W.keepIn K (.ref A.a_place_for) = true
  f_map_pages : FunD K "map_pages" "map_pages" (defArgs s_map_pages) (defBody s_map_pages) (defScope s_map_pages) [] kw_map_pages A.a_map_pages A.fd_map_pages
  g_map_pages : mg "map_pages" = some (.ref A.a_map_pages)
  k_map_pages : PySem.W.keepIn K (.ref A.a_map_pages) = true
  f_new_pages : Fun K "new_pages" "new_pages" s_new_pages A.a_new_pages A.fd_new_pages
  bi_new_pages : L2.Binds K A.fd_new_pages p_new_pages []
  g_new_pages : mg "new_pages" = some (.ref A.a_new_pages)
  k_new_pages : PySem.W.keepIn K (.ref A.a_new_pages) = true
  f_unmap : Fun K "unmap" "unmap" s_unmap A.a_unmap A.fd_unmap
  bi_unmap : L2.Binds K A.fd_unmap p_unmap []
  g_unmap : mg "unmap" = some (.ref A.a_unmap)
  k_unmap : PySem.W.keepIn K (.ref A.a_unmap) = true
  f_regions : Fun K "regions" "regions" s_regions A.a_regions A.fd_regions
  bi_regions : L2.Binds K A.fd_regions p_regions []
  g_regions : mg "regions" = some (.ref A.a_regions)
  k_regions : PySem.W.keepIn K (.ref A.a_regions) = true
  f_free_runs : Fun K "free_runs" "free_runs" s_free_runs A.a_free_runs A.fd_free_runs
  bi_free_runs : L2.Binds K A.fd_free_runs p_free_runs []
  g_free_runs : mg "free_runs" = some (.ref A.a_free_runs)
  k_free_runs : PySem.W.keepIn K (.ref A.a_free_runs) = true
  f_lowest_gap : Fun K "lowest_gap" "lowest_gap" s_lowest_gap A.a_lowest_gap A.fd_lowest_gap
  bi_lowest_gap : L2.Binds K A.fd_lowest_gap p_lowest_gap []
  g_lowest_gap : mg "lowest_gap" = some (.ref A.a_lowest_gap)
  k_lowest_gap : PySem.W.keepIn K (.ref A.a_lowest_gap) = true
  f_gap : Fun K "gap" "gap" s_gap A.a_gap A.fd_gap
  bi_gap : L2.Binds K A.fd_gap p_gap []
  g_gap : mg "gap" = some (.ref A.a_gap)
  k_gap : PySem.W.keepIn K (.ref A.a_gap) = true
  f_widest : Fun K "widest" "widest" s_widest A.a_widest A.fd_widest
  bi_widest : L2.Binds K A.fd_widest p_widest []
  g_widest : mg "widest" = some (.ref A.a_widest)
  k_widest : PySem.W.keepIn K (.ref A.a_widest) = true
  f_new_process : Fun K "new_process" "new_process" s_new_process A.a_new_process A.fd_new_process
  bi_new_process : L2.Binds K A.fd_new_process p_new_process []
  g_new_process : mg "new_process" = some (.ref A.a_new_process)
  k_new_process : PySem.W.keepIn K (.ref A.a_new_process) = true
  f_spawn : Fun K "spawn" "spawn" s_spawn A.a_spawn A.fd_spawn
  bi_spawn : L2.Binds K A.fd_spawn p_spawn []
  g_spawn : mg "spawn" = some (.ref A.a_spawn)
  k_spawn : PySem.W.keepIn K (.ref A.a_spawn) = true
  f__law_well : Fun K "_law_well" "_law_well" s__law_well A.a__law_well A.fd__law_well
  bi__law_well : L2.Binds K A.fd__law_well p__law_well []
  g__law_well : mg "_law_well" = some (.ref A.a__law_well)
  k__law_well : PySem.W.keepIn K (.ref A.a__law_well) = true
  f__law_draw : Fun K "_law_draw" "_law_draw" s__law_draw A.a__law_draw A.fd__law_draw
  bi__law_draw : L2.Binds K A.fd__law_draw p__law_draw []
  g__law_draw : mg "_law_draw" = some (.ref A.a__law_draw)
  k__law_draw : PySem.W.keepIn K (.ref A.a__law_draw) = true
  f__law_one : Fun K "_law_one" "_law_one" s__law_one A.a__law_one A.fd__law_one
  bi__law_one : L2.Binds K A.fd__law_one p__law_one []
  g__law_one : mg "_law_one" = some (.ref A.a__law_one)
  k__law_one : PySem.W.keepIn K (.ref A.a__law_one) = true
  f__law_fits : Fun K "_law_fits" "_law_fits" s__law_fits A.a__law_fits A.fd__law_fits
  bi__law_fits : L2.Binds K A.fd__law_fits p__law_fits []
  g__law_fits : mg "_law_fits" = some (.ref A.a__law_fits)
  k__law_fits : PySem.W.keepIn K (.ref A.a__law_fits) = true
  f__law_said : Fun K "_law_said" "_law_said" s__law_said A.a__law_said A.fd__law_said
  bi__law_said : L2.Binds K A.fd__law_said p__law_said []
  g__law_said : mg "_law_said" = some (.ref A.a__law_said)
  k__law_said : PySem.W.keepIn K (.ref A.a__law_said) = true
  f__law_widest : Fun K "_law_widest" "_law_widest" s__law_widest A.a__law_widest A.fd__law_widest
  bi__law_widest : L2.Binds K A.fd__law_widest p__law_widest []
  g__law_widest : mg "_law_widest" = some (.ref A.a__law_widest)
  k__law_widest : PySem.W.keepIn K (.ref A.a__law_widest) = true
  f__law_refused : Fun K "_law_refused" "_law_refused" s__law_refused A.a__law_refused A.fd__law_refused
  bi__law_refused : L2.Binds K A.fd__law_refused p__law_refused []
  fl__law_refused : FunC K "_law_refused" "_law_refused" s__law_refused A.a__law_refused A.fd__law_refused A.co__law_refused
  g__law_refused : mg "_law_refused" = some (.ref A.a__law_refused)
  k__law_refused : PySem.W.keepIn K (.ref A.a__law_refused) = true
  f_law : Fun K "law" "law" s_law A.a_law A.fd_law
  bi_law : L2.Binds K A.fd_law p_law []
  fl_law : FunC K "law" "law" s_law A.a_law A.fd_law A.co_law
  g_law : mg "law" = some (.ref A.a_law)
  k_law : PySem.W.keepIn K (.ref A.a_law) = true
  g_NoSystem : mg "NoSystem" = some (.ref A.c_NoSystem)
  g_NoProcess : mg "NoProcess" = some (.ref A.c_NoProcess)
  g_NoPages : mg "NoPages" = some (.ref A.c_NoPages)
  g_PageError : mg "PageError" = some (.ref A.c_PageError)
  g_System : mg "System" = some (.ref A.c_System)
  g_Page : mg "Page" = some (.ref A.c_Page)
  f_NoSystem_init : Fun K "__init__" "NoSystem.__init__" s_NoSystem_init A.a_NoSystem_init A.fd_NoSystem_init
  bi_NoSystem_init : L2.Binds K A.fd_NoSystem_init p_NoSystem_init []
  f_NoProcess_init : Fun K "__init__" "NoProcess.__init__" s_NoProcess_init A.a_NoProcess_init A.fd_NoProcess_init
  bi_NoProcess_init : L2.Binds K A.fd_NoProcess_init p_NoProcess_init []
  f_NoPages_init : Fun K "__init__" "NoPages.__init__" s_NoPages_init A.a_NoPages_init A.fd_NoPages_init
  bi_NoPages_init : L2.Binds K A.fd_NoPages_init p_NoPages_init []
  f_Page_init : Fun K "__init__" "Page.__init__" s_Page_init A.a_Page_init A.fd_Page_init
  bi_Page_init : L2.Binds K A.fd_Page_init p_Page_init []
  f_System_init : FunD K "__init__" "System.__init__" (defArgs s_System_init) (defBody s_System_init) (defScope s_System_init) [] kw_System_init A.a_System_init A.fd_System_init
  x_NoSystem : OexC K A.c_NoSystem
  xf_NoSystem : XfC K A.c_NoSystem
  xn_NoSystem : PySem.W.findIn K (.ref A.c_NoSystem) "part" = some none
  xi_NoSystem : PySem.W.findIn K (.ref A.c_NoSystem) "__init__" = some (some (.ref A.a_NoSystem_init))
  xt_NoSystem : PySem.W.typeIn K (.ref A.a_NoSystem_init) = some (.type "function")
  x_NoProcess : OexC K A.c_NoProcess
  xf_NoProcess : XfC K A.c_NoProcess
  xn_NoProcess : PySem.W.findIn K (.ref A.c_NoProcess) "process" = some none
  xi_NoProcess : PySem.W.findIn K (.ref A.c_NoProcess) "__init__" = some (some (.ref A.a_NoProcess_init))
  xt_NoProcess : PySem.W.typeIn K (.ref A.a_NoProcess_init) = some (.type "function")
  x_NoPages : OexC K A.c_NoPages
  xf_NoPages : XfC K A.c_NoPages
  xn_NoPages : PySem.W.findIn K (.ref A.c_NoPages) "part" = some none
  xi_NoPages : PySem.W.findIn K (.ref A.c_NoPages) "__init__" = some (some (.ref A.a_NoPages_init))
  xt_NoPages : PySem.W.typeIn K (.ref A.a_NoPages_init) = some (.type "function")
  x_PageError : OexC K A.c_PageError
  xf_PageError : XfC K A.c_PageError
  e_NoPages_NoPages : PySem.W.exmOne K (.ref A.c_NoPages) (.ref A.c_NoPages) = some true
  e_NoProcess_NoPages : PySem.W.exmOne K (.ref A.c_NoProcess) (.ref A.c_NoPages) = some false
  e_NoProcess_NoProcess : PySem.W.exmOne K (.ref A.c_NoProcess) (.ref A.c_NoProcess) = some true
  cl_System : Cls K A.c_System
  mk_System : Mk K A.c_System A.a_System_init
  n_System_frames : NoAttr K A.c_System "frames"
  n_System_slots : NoAttr K A.c_System "slots"
  n_System_strict : NoAttr K A.c_System "strict"
  n_System_steps_made : NoAttr K A.c_System "steps_made"
  n_System_processes_made : NoAttr K A.c_System "processes_made"
  n_System_objects_made : NoAttr K A.c_System "objects_made"
  n_System_tables : NoAttr K A.c_System "tables"
  n_System_objects : NoAttr K A.c_System "objects"
  n_System_object_pages : NoAttr K A.c_System "object_pages"
  n_System_files : NoAttr K A.c_System "files"
  n_System_classes : NoAttr K A.c_System "classes"
  n_System_touches : NoAttr K A.c_System "touches"
  cl_Page : Cls K A.c_Page
  mk_Page : Mk K A.c_Page A.a_Page_init
  n_Page_rights : NoAttr K A.c_Page "rights"
  n_Page_shared : NoAttr K A.c_Page "shared"
  n_Page_source : NoAttr K A.c_Page "source"
  n_Page_index : NoAttr K A.c_Page "index"
  n_Page_flags : NoAttr K A.c_Page "flags"
  n_Page_held : NoAttr K A.c_Page "held"
  g_PAGES : mg "PAGES" = some (.int 512 A.t_PAGES)
  b_int : mg "int" = none
  b_len : mg "len" = none
  b_isinstance : mg "isinstance" = none
  b_bool : mg "bool" = none
  b_str : mg "str" = none
  b_list : mg "list" = none
  b_range : mg "range" = none
  b_enumerate : mg "enumerate" = none
  b_min : mg "min" = none
  b_max : mg "max" = none
  b_sorted : mg "sorted" = none
  g_RIGHTS : mg "RIGHTS" = some (.ref A.o_RIGHTS)
  r_RIGHTS : rightsIn K A.o_RIGHTS = true

theorem iteD {p : Prop} [Decidable p] {A B : Prop} (h1 : p → A) (h2 : ¬ p → B) : if decide p = true then A else B := by
  by_cases h : p
  · rw [decide_eq_true h, if_pos rfl]
    exact h1 h
  · rw [decide_eq_false h, if_neg Bool.false_ne_true]
    exact h2 h
theorem upd_none {H : Hp} {a p : Addr} {o : HO} (h : upd H a o p = none) : p ≠ a ∧ H p = none := by
  by_cases e : p = a
  · subst e; rw [upd_same] at h; cases h
  · rw [upd_ne e] at h; exact ⟨e, h⟩
/-- all but what is at a stays -/
def But (a : Addr) (H H' : Hp) : Prop := ∀ b o, b ≠ a → H b = some o → H' b = some o
theorem Same.new {H : Hp} {p : Addr} {o : HO} (h : H p = none) : Same H (upd H p o) := fun b u e => by rw [upd_ne (ne_of_none e h)]; exact e
theorem But.of {a : Addr} {H H' : Hp} (h : Same H H') : But a H H' := fun b o _ e => h b o e
theorem But.up {a : Addr} {H : Hp} {o : HO} : But a H (upd H a o) := fun b u n e => by rw [upd_ne n]; exact e
theorem But.trans {a : Addr} {H H1 H2 : Hp} (x : But a H H1) (y : But a H1 H2) : But a H H2 := fun b o n e => y b o n (x b o n e)
/-! ### the draws -/
def WellAt (H : Hp) (a : Addr) (B : Nat) : Prop := ∃ w0 w1 w2 : Int, H a = some (.lst [.int w0, .int w1, .int w2]) ∧ 0 ≤ w0 ∧ 0 ≤ w1 ∧ w1 < 2147483647 ∧ 0 ≤ w2 ∧ w2 ≤ B ∧ B ≤ 1000000000
theorem WellAt.same {H H' : Hp} {a : Addr} {B : Nat} (h : WellAt H a B) (e : H' a = H a) : WellAt H' a B := by
  obtain ⟨w0, w1, w2, h1, h2⟩ := h
  exact ⟨w0, w1, w2, e.trans h1, h2⟩
theorem at7 {i : Int} (h0 : 0 ≤ i) (h1 : i < 7) : ∃ v : Int, atI [V.int 2147483647, V.int 2147483629, V.int 2147483587, V.int 2147483579, V.int 2147483563, V.int 2147483549, V.int 2147483543] i = some (V.int v) ∧ 2147483543 ≤ v ∧ v ≤ 2147483647 := by
  have h : i = 0 ∨ i = 1 ∨ i = 2 ∨ i = 3 ∨ i = 4 ∨ i = 5 ∨ i = 6 := by omega
  rcases h with h | h | h | h | h | h | h <;> subst h <;> exact ⟨_, rfl, by decide, by decide⟩
theorem fm {x m : Int} (h : 0 < m) : 0 ≤ x.fmod m ∧ x.fmod m < m := ⟨Int.fmod_nonneg_of_pos x h, Int.fmod_lt_of_pos x h⟩
theorem fdv {x m : Int} (h : 0 < m) (hx : 0 ≤ x) : 0 ≤ x.fdiv m ∧ x.fdiv m ≤ x := by
  rw [Int.fdiv_eq_ediv_of_nonneg _ (by omega)]
  exact ⟨Int.ediv_nonneg hx (by omega), Int.ediv_le_self _ hx⟩
def spDraw : Sp := fun vs H Q _ => ∃ (a : Addr) (m : Int) (B : Nat), vs = [.ref a, .int m] ∧ 0 < m ∧ m < 1000000 ∧ WellAt H a B ∧ B < 1000000000 ∧
  ∀ (d : Int) (H' : Hp), 0 ≤ d → d < m → But a H H' → WellAt H' a (B + 1) → Q (.int d) H'
section
variable {P : Program} {w : World} {K : PySem.W.Frag} {mg : Str → Option Value} {base : Heap} {A : Adr}
theorem ok__law_draw (G : Txt K mg A) : FnOk P w K mg base CX0 1 A.a__law_draw A.fd__law_draw p__law_draw spDraw := by
  refine G.f__law_draw.ok sc__law_draw (fun vs H Q E h => ?_) (fun cdv A' outer s H vs Q E hr h => ?_)
  · obtain ⟨a, m, B, rfl, _⟩ := h
    rfl
  · obtain ⟨a, m, B, rfl, hm0, hm1, ⟨w0, w1, w2, hw, h0, h1, h1', h2, h2', hB⟩, hB', k⟩ := h
    refine ⟨_, (pss_cons (ps_if (pt_cmpR op_gt (pe_ix ix_list (pv 0) pe_int (fun _ _ => rfl)) pe_int (nomark _)) (pss_cons (ps_set (i := 2) sc__law_draw.nd rfl (Or.inl rfl) (pe_op op_modN (pe_callTy call_int1 (by rfl) G.b_int (by decide +kernel) (pa_cons (pe_ix ix_list (pv 0) pe_int (fun _ _ => rfl)) pa_nil)) (pv 1)))
  (pss_cons (ps_asg (pe_op op_fdivN (pe_ix ix_list (pv 0) pe_int (fun _ _ => rfl)) (pv 1)) (pg_sub (pv 0) pe_int set_list))
  (pss_one (ps_ret (pv 2))))) pss_nil)
  (pss_cons (ps_asg (pe_op op_add (pe_ix ix_list (pv 0) pe_int (fun _ _ => rfl)) pe_int) (pg_sub (pv 0) pe_int set_list))
  (pss_cons (ps_set (i := 3) sc__law_draw.nd rfl (Or.inl rfl) (pe_ix ix_list (pe_lst (pa_cons pe_int (pa_cons pe_int (pa_cons pe_int (pa_cons pe_int (pa_cons pe_int (pa_cons pe_int (pa_cons pe_int pa_nil)))))))) (pe_op op_modN (pe_callTy call_int1 (by rfl) G.b_int (by decide +kernel) (pa_cons (pe_ix ix_list (pv 0) pe_int (fun _ _ => rfl)) pa_nil)) pe_int) (fun _ _ => rfl)))
  (pss_cons (ps_set (i := 4) sc__law_draw.nd rfl (Or.inl rfl) (pe_op op_modN (pe_callTy call_int1 (by rfl) G.b_int (by decide +kernel) (pa_cons (pe_op op_pow (pe_op op_add (pe_op op_add (pe_ix ix_list (pv 0) pe_int (fun _ _ => rfl)) (pe_op op_mul pe_int (pe_ix ix_list (pv 0) pe_int (fun _ _ => rfl)))) pe_int) pe_int) pa_nil)) (pv 3)))
  (pss_cons (ps_set (i := 4) sc__law_draw.nd rfl (Or.inl rfl) (pe_op op_modN (pe_callTy call_int1 (by rfl) G.b_int (by decide +kernel) (pa_cons (pe_op op_mul (pe_op op_add (pv 4) (pe_ix ix_list (pv 0) pe_int (fun _ _ => rfl))) (pe_op op_add (pe_op op_fdivN (pv 4) pe_int) pe_int)) pa_nil)) (pv 3)))
  (pss_one (ps_ret (pe_op op_modN (pe_callTy call_int1 (by rfl) G.b_int (by decide +kernel) (pa_cons (pe_op op_fdivN (pv 4) pe_int) pa_nil)) (pv 1))))))))), ?_⟩
    walk_at "go"
    refine iteD (fun c => ?_) (fun c => ?_)
    · walk_at "go"
      have e1 := fm (x := w0) hm0
      have e2 := fdv hm0 h0
      refine k _ _ e1.1 e1.2 (fun b o hb ho => by rw [upd_ne hb]; exact ho) ⟨_, _, _, upd_same, e2.1, h1, h1', h2, by omega, by omega⟩
    · walk_at "go"
      walk_at "ds"
      refine ⟨by decide, fun p hp => ?_⟩
      obtain ⟨npa, hp0⟩ := upd_none hp
      walk_at "go"
      try walk_at "ds"
      have e7 := fm (x := w2 + 1) (m := 7) (by decide)
      obtain ⟨v, hv, hv1, hv2⟩ := at7 e7.1 e7.2
      refine ⟨_, _, _, _, rfl, rfl, SqL.of upd_same, hv, ?_⟩
      walk_at "go"
      have e1 := fm (x := (w1 + 7919 * (w2 + 1) + 1) ^ Int.toNat 5) (m := v) (by omega)
      generalize ((w1 + 7919 * (w2 + 1) + 1) ^ Int.toNat 5).fmod v = n1 at *
      refine ⟨Or.inl ⟨by omega, by omega⟩, ?_⟩
      walk_at "go"
      refine k _ _ (fm hm0).1 (fm hm0).2 (fun b o hb ho => ?_) ⟨_, _, _, Eq.trans (upd_ne (Ne.symm npa)) upd_same, h0, h1, h1', by omega, by omega, by omega⟩
      rw [upd_ne (ne_of_none ho hp0), upd_ne hb]
      exact ho
/-- one of some things: a list that is made just ahead -/
def spOne (K : PySem.W.Frag) : Sp := fun vs H Q _ => ∃ (a l : Addr) (xs : List V) (B : Nat), vs = [.ref a, .ref l] ∧ H l = some (.lst xs) ∧ l ≠ a ∧ 0 < xs.length ∧ xs.length < 1000 ∧ WellAt H a B ∧ B < 1000000000 ∧
  ∀ (v : V) (H' : Hp), v ∈ xs → But a H H' → WellAt H' a (B + 1) → Q v H'
theorem atI_in {xs : List V} {d : Int} (h0 : 0 ≤ d) (h1 : d < xs.length) : ∃ v, atI xs d = some v ∧ v ∈ xs := by
  refine ⟨xs[d.toNat]'(by omega), ?_, List.getElem_mem _⟩
  unfold atI ixN
  rw [if_pos h0, if_pos (by omega)]
  simp
theorem ok__law_one (G : Txt K mg A) : FnOk P w K mg base CX0 2 A.a__law_one A.fd__law_one p__law_one (spOne K) := by
  refine G.f__law_one.ok sc__law_one (fun vs H Q E h => ?_) (fun cdv A' outer s H vs Q E hr h => ?_)
  · obtain ⟨a, l, xs, B, rfl, _⟩ := h
    rfl
  · obtain ⟨a, l, xs, B, rfl, hl, hne, hx0, hx1, hw, hB, k⟩ := h
    refine ⟨_, (pss_one (ps_ret (pe_ix ix_list (pv 1) (pe_call (ok__law_draw G) (hr.mono (by decide)) rfl G.g__law_draw G.k__law_draw G.bi__law_draw .nil pass0 (pa_cons (pv 0) (pa_cons (pe_callB call_len_seq (by rfl) G.b_len (by decide +kernel) (pa_cons (pv 1) pa_nil)) pa_nil))) (fun _ _ => rfl)))), ?_⟩
    walk_at "go"
    refine ⟨a, xs.length, B, rfl, by omega, by omega, hw, hB, fun d H' d0 d1 kp hw' => ?_⟩
    obtain ⟨v, hv, hm⟩ := atI_in d0 d1
    exact ⟨_, _, _, _, rfl, rfl, SqL.of (kp _ _ hne hl), hv, k v H' hm kp hw'⟩
/-! ### what a value may be that a law draws -/
inductive AnyV (H : Hp) : V → Prop where
  | non : AnyV H .non
  | bl (b : Bool) : AnyV H (.bl b)
  | int (i : Int) : AnyV H (.int i)
  | str (x : Str) : AnyV H (.str x)
  | lst {a : Addr} {xs : List V} (e : H a = some (.lst xs)) : AnyV H (.ref a)
  | tup {a : Addr} {xs : List V} (e : H a = some (.tup xs)) : AnyV H (.ref a)
  | dK {a : Addr} {kvs : List (Key × V)} (e : H a = some (.dK kvs)) : AnyV H (.ref a)
def isI : V → Bool
  | .int _ => true
  | .bl _ => true
  | _ => false
def isB : V → Bool
  | .bl _ => true
  | _ => false
theorem AnyV.ty {H : Hp} {v : V} (h : AnyV H v) : ∃ t : String, TyX K H v (.type t) ∧ PySem.W.kitOne K (.type t) (.type "int") = some (isI v) ∧ PySem.W.kitOne K (.type t) (.type "bool") = some (isB v) := by
  cases h with
  | non => exact ⟨_, .base .non, kit_ty (r := false) (by decide +kernel), kit_ty (r := false) (by decide +kernel)⟩
  | bl b => exact ⟨_, .base (.bl b), kit_ty (r := true) (by decide +kernel), kit_ty (r := true) (by decide +kernel)⟩
  | int i => exact ⟨_, .base (.int i), kit_ty (r := true) (by decide +kernel), kit_ty (r := false) (by decide +kernel)⟩
  | str x => exact ⟨_, .base (.str x), kit_ty (r := false) (by decide +kernel), kit_ty (r := false) (by decide +kernel)⟩
  | lst e => exact ⟨_, .base (.lst e), kit_ty (r := false) (by decide +kernel), kit_ty (r := false) (by decide +kernel)⟩
  | tup e => exact ⟨_, .base (.tup e), kit_ty (r := false) (by decide +kernel), kit_ty (r := false) (by decide +kernel)⟩
  | dK e => exact ⟨_, .base (.dK e), kit_ty (r := false) (by decide +kernel), kit_ty (r := false) (by decide +kernel)⟩
theorem AnyV.same {H H' : Hp} {v : V} (h : AnyV H v) (e : Same H H') : AnyV H' v := by
  cases h with
  | non => exact .non
  | bl b => exact .bl b
  | int i => exact .int i
  | str x => exact .str x
  | lst z => exact .lst (e _ _ z)
  | tup z => exact .tup (e _ _ z)
  | dK z => exact .dK (e _ _ z)
theorem AnyV.selfEq {H : Hp} {v : V} (h : AnyV H v) : L2.selfEq v = true := by cases h <;> rfl
/-- whether a value is an integer from lo to hi -/
def inR (lo hi : Int) : V → Bool
  | .int i => decide (lo ≤ i ∧ i ≤ hi)
  | _ => false
def spIn : Sp := fun vs H Q _ => ∃ (v : V) (lo hi : Int), vs = [v, .int lo, .int hi] ∧ AnyV H v ∧ Q (.bl (inR lo hi v)) H
theorem ok_is_integer (G : Txt K mg A) : FnOk P w K mg base CX0 1 A.a_is_integer A.fd_is_integer p_is_integer spIn := by
  refine G.f_is_integer.ok sc_is_integer (fun vs H Q E h => ?_) (fun cdv A' outer s H vs Q E hr h => ?_)
  · obtain ⟨v, lo, hi, rfl, _⟩ := h
    rfl
  · obtain ⟨v, lo, hi, rfl, hv, k⟩ := h
    refine ⟨_, (pss_one (ps_ret (pe_and (pe_callB call_isi (by rfl) G.b_isinstance (by decide +kernel) (pa_cons (pv 0) (pa_cons (pe_bltn (v := .ty "int") (u := .type "int") (by rfl) G.b_int (by decide +kernel) rfl) pa_nil))) (pe_and (pe_not (pe_callB call_isi (by rfl) G.b_isinstance (by decide +kernel) (pa_cons (pv 0) (pa_cons (pe_bltn (v := .ty "bool") (u := .type "bool") (by rfl) G.b_bool (by decide +kernel) rfl) pa_nil)))) (pe_one (pe_chain op_le op_le (pv 1) (pv 0) (pv 2))))))), ?_⟩
    obtain ⟨t, h1, h2, h3⟩ := hv.ty (K := K)
    walk_at "go"
    walk_at "ds"
    refine ⟨v, .ty "int", .type t, .type "int", _, rfl, .ty "int", h1, h2, _, rfl, ?_⟩
    cases e : isI v with
    | false =>
      refine iteF ?_
      have q : inR lo hi v = false := by cases v <;> first | rfl | cases e
      rw [q] at k
      exact k
    | true =>
      refine iteT ⟨_, rfl, v, .ty "bool", .type t, .type "bool", _, rfl, .ty "bool", h1, h3, _, rfl, _, rfl, ?_⟩
      cases e2 : isB v with
      | true =>
        refine iteF ?_
        have q : inR lo hi v = false := by cases v <;> first | rfl | cases e2
        rw [q] at k
        exact k
      | false =>
        refine iteT ?_
        obtain ⟨i, rfl⟩ : ∃ i, v = V.int i := by cases v <;> first | exact ⟨_, rfl⟩ | (cases e; done) | (cases e2; done)
        refine ⟨_, rfl, _, rfl, _, _, rfl, rfl, _, rfl, ?_⟩
        refine iteD (fun c => ?_) (fun c => ?_)
        · refine ⟨_, rfl, _, _, rfl, rfl, ?_⟩
          have q : inR lo hi (V.int i) = decide (i ≤ hi) := by
            show decide (lo ≤ i ∧ i ≤ hi) = _
            simp [c]
          rw [q] at k
          exact k
        · have q : inR lo hi (V.int i) = false := by
            show decide (lo ≤ i ∧ i ≤ hi) = _
            simp [c]
          rw [q] at k
          exact k
/-! ### the errors' __init__: one field -/
def spXi (K : PySem.W.Frag) (f : Str) : Sp := fun vs H Q _ => ∃ (a C : Addr) (y : V), vs = [.ref a, y] ∧ OexC K C ∧ PySem.W.findIn K (.ref C) f = some none ∧ H a = some (exo a C none) ∧
  ∀ dx, H dx = none → dx ≠ a → Q .non (upd (upd H dx (exd dx [(f, y)])) a (exo a C (some dx)))
theorem ok_NoSystem_init (G : Txt K mg A) : FnOk P w K mg base CX0 1 A.a_NoSystem_init A.fd_NoSystem_init p_NoSystem_init (spXi K "part") := by
  refine G.f_NoSystem_init.ok sc_NoSystem_init (fun vs H Q E h => ?_) (fun cdv A' outer s H vs Q E hr h => ?_)
  · obtain ⟨a, C, y, rfl, _⟩ := h
    rfl
  · obtain ⟨a, C, y, rfl, hC, hn, ha, k⟩ := h
    exact ⟨_, pss_one (ps_ost (pv 0) (pv 1)), _, rfl, _, rfl, a, C, rfl, hC, hn, .inl ⟨ha, k⟩⟩
theorem ok_NoProcess_init (G : Txt K mg A) : FnOk P w K mg base CX0 1 A.a_NoProcess_init A.fd_NoProcess_init p_NoProcess_init (spXi K "process") := by
  refine G.f_NoProcess_init.ok sc_NoProcess_init (fun vs H Q E h => ?_) (fun cdv A' outer s H vs Q E hr h => ?_)
  · obtain ⟨a, C, y, rfl, _⟩ := h
    rfl
  · obtain ⟨a, C, y, rfl, hC, hn, ha, k⟩ := h
    exact ⟨_, pss_one (ps_ost (pv 0) (pv 1)), _, rfl, _, rfl, a, C, rfl, hC, hn, .inl ⟨ha, k⟩⟩
theorem ok_NoPages_init (G : Txt K mg A) : FnOk P w K mg base CX0 1 A.a_NoPages_init A.fd_NoPages_init p_NoPages_init (spXi K "part") := by
  refine G.f_NoPages_init.ok sc_NoPages_init (fun vs H Q E h => ?_) (fun cdv A' outer s H vs Q E hr h => ?_)
  · obtain ⟨a, C, y, rfl, _⟩ := h
    rfl
  · obtain ⟨a, C, y, rfl, hC, hn, ha, k⟩ := h
    exact ⟨_, pss_one (ps_ost (pv 0) (pv 1)), _, rfl, _, rfl, a, C, rfl, hC, hn, .inl ⟨ha, k⟩⟩
/-- what a raise of such an error needs of its promise -/
theorem xi_done {f : Str} {y : V} {a C : Addr} {H : Hp} {E : XK} (hC : OexC K C) (hn : PySem.W.findIn K (.ref C) f = some none) (ha : H a = none)
    (k : ∀ d H', Same H H' → H d = none → H' d = some (.xd [(f, y)]) → E (.ref C) (some d) H') :
    spXi K f [.ref a, y] (upd H a (exo a C none)) (fun v H2 => v = .non ∧ ∃ (d : Addr) (fs : List (Str × V)), H2 a = some (exo a C (some d)) ∧ H2 d = some (exd d fs) ∧ H d = none ∧ E (.ref C) (some d) (upd (del H2 a) d (.xd fs))) (fun _ _ _ => False) := by
  refine ⟨a, C, y, rfl, hC, hn, upd_same, fun dx hx ne => ⟨rfl, dx, [(f, y)], upd_same, ?_, (upd_none hx).2, ?_⟩⟩
  · rw [upd_ne ne, upd_same]
  · refine k dx _ (fun b o e => ?_) (upd_none hx).2 upd_same
    rw [upd_ne (ne_of_none e (upd_none hx).2), del_ne (ne_of_none e ha), upd_ne (ne_of_none e ha), upd_ne (ne_of_none e (upd_none hx).2), upd_ne (ne_of_none e ha)]
    exact e
end
end My

set_option Elab.async false
set_option linter.all false
set_option maxRecDepth 100000
set_option maxHeartbeats 4000000
namespace My
open PySem L2
local macro_rules | `(tactic| walk_at "ds") => `(tactic| dsimp only [tSeq, tIfS, tTest, tB, tAnd, tOr, tNot, tAndV, tOrV, tNotV, tIf, tIsN, tNotN, tOp, tUn, tChain, rI, rI0, rU, tC, tCB, tCons, tNil, tAsg, gName, gSub, tRet, tRetN, tNext, tDrop, tLst, tTup, rIxL, rIxT, rSetL, tVar, tFld, tCall, tDGet, tDIn, tDNotIn, tNever, L2.start, List.map, List.replicate, List.length, List.append, List.cons_append, List.nil_append, List.set, Nat.sub])
local macro_rules | `(tactic| walk_at "hp") => `(tactic| first | assumption | exact upd_same | (refine Eq.trans (upd_ne (by first | assumption | (apply Ne.symm; assumption))) ?_; walk_at "hp"))
local macro_rules | `(tactic| walk_at "sd") => `(tactic| first
  | (show (_ : Int) ≠ 0; omega)
  | (refine (show CDivN _ _ from ⟨?_, ?_⟩) <;> omega)
  | (show CPow _ _; refine ⟨by omega, by omega, by omega⟩)
  | (show CMul _ _; exact Or.inl ⟨by omega, by omega⟩)
  | (show CMul _ _; exact Or.inr ⟨by omega, by omega⟩))
local macro_rules | `(tactic| walk_at "st") => `(tactic| first
  | refine ⟨_, rfl, ?_⟩
  | refine ⟨_, _, rfl, rfl, (by walk_at "sd"), ?_⟩
  | refine ⟨_, _, rfl, rfl, ?_⟩
  | refine ⟨_, _, _, _, rfl, rfl, SqL.of (by walk_at "hp"), rfl, ?_⟩
  | refine ⟨_, _, _, _, rfl, rfl, (by walk_at "hp"), rfl, ?_⟩
  | refine .inl ⟨_, rfl, ?_⟩
  | refine ⟨_, _, _, _, _, rfl, (by walk_at "hp"), (by assumption), (by assumption), rfl, ?_⟩
  | refine ⟨_, _, rfl, .inl (SqL.of (by walk_at "hp")), ?_⟩)
local macro_rules | `(tactic| walk_at "go") => `(tactic| repeat (first | walk_at "st" | (walk_at "ds"; walk_at "st")))

theorem hu64 {A : Around} {k : Nat} (hr : Room k A) : A.units + 64 < cLine := by have := hr.un; omega
theorem hu0 {A : Around} {k : Nat} (hr : Room k A) : A.units < cLine := by have := hr.un; omega
theorem iteT {A B : Prop} (h : A) : if true = true then A else B := h
theorem iteF {A B : Prop} (h : B) : if false = true then A else B := h
/-! ### a system; its tables' contents are told elsewhere -/
def sysF (fr sl st : V) (n p o : Int) (t a b c d e : Addr) : List (Str × V) :=
  [("frames", fr), ("slots", sl), ("strict", st), ("steps_made", .int n), ("processes_made", .int p), ("objects_made", .int o), ("tables", .ref t), ("objects", .ref a), ("object_pages", .ref b), ("files", .ref c), ("classes", .ref d), ("touches", .ref e)]
def SyA (C : Addr) (fr sl st : V) (H : Hp) (x t : Addr) (n p o : Int) (al : List (Int × Addr)) : Prop :=
  (∃ dx a b c d e, H x = some (.ins C dx (sysF fr sl st n p o t a b c d e))) ∧ H t = some (.dK (al.map fun q => (Sum.inl q.1, V.ref q.2))) ∧
    al.Pairwise (fun q r => q.1 < r.1) ∧ (∀ q ∈ al, 1 ≤ q.1 ∧ q.1 ≤ p) ∧ 0 ≤ p ∧ al.length ≤ 12
section
variable {C : Addr} {fr sl st : V} {H H' : Hp} {x t : Addr} {n p o : Int} {al : List (Int × Addr)}
theorem SyA.same (h : SyA C fr sl st H x t n p o al) (e : Same H H') : SyA C fr sl st H' x t n p o al := by
  obtain ⟨⟨dx, a, b, c, d, f, h1⟩, h2, h4⟩ := h
  exact ⟨⟨dx, a, b, c, d, f, e _ _ h1⟩, e _ _ h2, h4⟩
/-- what is at a may change, if it is neither the system nor its dict of tables -/
theorem SyA.but {a : Addr} (h : SyA C fr sl st H x t n p o al) (e : But a H H') (nx : x ≠ a) (nt : t ≠ a) : SyA C fr sl st H' x t n p o al := by
  obtain ⟨⟨dx, a, b, c, d, f, h1⟩, h2, h4⟩ := h
  exact ⟨⟨dx, a, b, c, d, f, e _ _ nx h1⟩, e _ _ nt h2, h4⟩
theorem SyA.put {n' p' o' : Int} {dx a b c d e : Addr} (h : SyA C fr sl st H x t n p o al) (hp : p ≤ p') :
    SyA C fr sl st (upd H x (.ins C dx (sysF fr sl st n' p' o' t a b c d e))) x t n' p' o' al := by
  obtain ⟨⟨dx, a, b, c, d, f, h1⟩, h2, h4, h5, h6, h7⟩ := h
  have nt : t ≠ x := ne_of h2 h1 (by intro z; cases z)
  exact ⟨⟨_, _, _, _, _, _, upd_same⟩, by rw [upd_ne nt]; exact h2, h4, fun q hq => ⟨(h5 q hq).1, Int.le_trans (h5 q hq).2 hp⟩, by omega, h7⟩
end
section
variable {P : Program} {w : World} {K : PySem.W.Frag} {mg : Str → Option Value} {base : Heap} {A : Adr}
theorem Txt.sysN (G : Txt K mg A) : Cls K A.c_System ∧ NoAttr K A.c_System "frames" ∧ NoAttr K A.c_System "slots" ∧ NoAttr K A.c_System "strict" ∧ NoAttr K A.c_System "steps_made" ∧ NoAttr K A.c_System "processes_made" ∧ NoAttr K A.c_System "objects_made" ∧ NoAttr K A.c_System "tables" ∧ NoAttr K A.c_System "objects" ∧ NoAttr K A.c_System "object_pages" ∧ NoAttr K A.c_System "files" ∧ NoAttr K A.c_System "classes" ∧ NoAttr K A.c_System "touches" :=
  ⟨G.cl_System, G.n_System_frames, G.n_System_slots, G.n_System_strict, G.n_System_steps_made, G.n_System_processes_made, G.n_System_objects_made, G.n_System_tables, G.n_System_objects, G.n_System_object_pages, G.n_System_files, G.n_System_classes, G.n_System_touches⟩
/-- a step is counted: x and nothing else changes -/
def spEnd (A : Adr) : Sp := fun vs H Q _ => ∃ (fr sl st : V) (x t : Addr) (n p o : Int) (al : List (Int × Addr)), vs = [.ref x] ∧ SyA A.c_System fr sl st H x t n p o al ∧
  ∀ H', But x H H' → SyA A.c_System fr sl st H' x t (n + 1) p o al → Q .non H'
theorem ok_end_step (G : Txt K mg A) : FnOk P w K mg base CX0 1 A.a_end_step A.fd_end_step p_end_step (spEnd A) := by
  refine G.f_end_step.ok sc_end_step (fun vs H Q E h => ?_) (fun cdv A' outer s H vs Q E hr h => ?_)
  · obtain ⟨fr, sl, st, x, t, n, p, o, al, rfl, _⟩ := h
    rfl
  · obtain ⟨fr, sl, st, x, t, n, p, o, al, rfl, hS, k⟩ := h
    obtain ⟨⟨dx, a, b, c, d, e, h1⟩, _⟩ := id hS
    refine ⟨_, (pss_one (ps_fldaug (pv 0) pe_int in_add)), ?_⟩
    exact ⟨_, rfl, x, _, dx, _, _, rfl, h1, G.cl_System, G.n_System_steps_made, rfl, n, 1, rfl, rfl, dx, _, h1, (by show 12 < 1000; decide), k _ But.up (SyA.put hS (Int.le_refl _))⟩
theorem al_get {al : List (Int × Addr)} (h : al.Pairwise (fun q r => q.1 < r.1)) {i : Int} {d : Addr} (hm : (i, d) ∈ al) : valV (al.map fun q => ((Sum.inl q.1 : Key), V.ref q.2)) (Sum.inl i) = some (.ref d) := by
  induction al with
  | nil => cases hm
  | cons q r ih =>
    unfold valV at ih ⊢
    rw [List.map_cons, List.find?_cons]
    obtain ⟨h1, h2⟩ := List.pairwise_cons.mp h
    rcases List.mem_cons.mp hm with e | hm
    · subst e
      simp
    · have ne : ¬ ((Sum.inl q.1 : Key) = Sum.inl i) := fun z => by
        have := h1 _ hm
        have z' := Sum.inl.inj z
        simp only at this
        omega
      simp only [ne, decide_false]
      exact ih h2 hm
theorem al_none {al : List (Int × Addr)} {i : Int} (hm : ∀ d, (i, d) ∉ al) : valV (al.map fun q => ((Sum.inl q.1 : Key), V.ref q.2)) (Sum.inl i) = none := by
  unfold valV
  rw [List.find?_eq_none.mpr]
  · rfl
  · intro q hq
    obtain ⟨z, hz, rfl⟩ := List.mem_map.mp hq
    simp only [decide_eq_true_eq]
    intro e
    exact hm z.2 (by rw [← Sum.inl.inj e]; exact hz)
/-- the table of a living process; else NoProcess -/
def spTable (A : Adr) : Sp := fun vs H Q E => ∃ (fr sl st : V) (x t : Addr) (n p o : Int) (al : List (Int × Addr)) (v : V), vs = [.ref x, v] ∧ SyA A.c_System fr sl st H x t n p o al ∧ AnyV H v ∧
  (∀ i d, v = .int i → (i, d) ∈ al → Q (.ref d) H) ∧ ((∀ i d, v = .int i → (i, d) ∉ al) → ∀ d H', Same H H' → H d = none → H' d = some (.xd [("process", v)]) → E (.ref A.c_NoProcess) (some d) H')
theorem ok_table_of (G : Txt K mg A) : FnOk P w K mg base (L2.CX P w) 3 A.a_table_of A.fd_table_of p_table_of (spTable A) := by
  refine G.f_table_of.okX sc_table_of (fun vs H Q E h => ?_) (fun cdv A' outer s H vs Q E hr h => ?_)
  · obtain ⟨fr, sl, st, x, t, n, p, o, al, v, rfl, _⟩ := h
    rfl
  · obtain ⟨fr, sl, st, x, t, n, p, o, al, v, rfl, hS, hv, k1, k2⟩ := h
    obtain ⟨⟨dx, a, b, c, d, e, h1⟩, h2, h4, h5, h6, h7⟩ := id hS
    refine ⟨_, (pss_cons (ps_if (PW.pt (pw_or (pt_not (pt_val (pe_call (ok_is_integer G) (hr.mono (by decide)) rfl G.g_is_integer G.k_is_integer G.bi_is_integer .nil pass0 (pa_cons (pv 1) (pa_cons pe_int (pa_cons (pe_fld (pv 0) rfl) pa_nil)))))) (pw_or1 (pt_cmp (pc_dnotin (hu_of hr) (pv 1) (pe_fld (pv 0) rfl)))))) (pss_one (ps_raise rfl (takes_of rfl rfl rfl rfl) (pmk_oex G.x_NoProcess G.xi_NoProcess G.xt_NoProcess (ok_NoProcess_init G) (hr.mono (by decide)) G.bi_NoProcess_init .nil pass0 rfl G.g_NoProcess (pa_cons (pv 1) pa_nil)))) pss_nil)
  (pss_one (ps_ret (pe_dget (hu_of hr) (pe_fld (pv 0) rfl) (pv 1) (fun _ _ => rfl))))), ?_⟩
    obtain ⟨cl, a1, a2, a3, a4, a5, a6, a7, a8, a9, a10, a11, a12⟩ := G.sysN
    have fin : (∀ i d, v = .int i → (i, d) ∉ al) → tMkO A.c_NoProcess (spXi K "process") [] (tCons (tVar 1) tNil) (L2.start n_table_of [V.ref x, v]) H (fun cls d H' => E cls d H') := fun hn => by
      refine ⟨_, rfl, (by show 1 ≤ 1000; decide), fun a ha => xi_done G.x_NoProcess G.xn_NoProcess ha fun d H' s0 d0 e0 => k2 hn d H' s0 d0 e0⟩
    walk_at "go"
    walk_at "ds"
    refine ⟨v, 1, p, rfl, hv, _, rfl, ?_⟩
    cases ei : inR 1 p v with
    | false =>
      refine iteT (iteT (fin fun i d e hm => ?_))
      subst e
      have := h5 _ hm
      simp only [inR, decide_eq_false_iff_not] at ei
      exact ei this
    | true =>
      refine iteF ?_
      obtain ⟨i, rfl⟩ : ∃ i, v = V.int i := by cases v <;> first | exact ⟨_, rfl⟩ | (cases ei; done)
      refine ⟨_, rfl, _, rfl, x, _, dx, _, _, rfl, h1, cl, a7, rfl, t, _, rfl, DGet.k (k := Sum.inl i) h2, _, rfl, ?_⟩
      by_cases hm : ∃ d, (i, d) ∈ al
      · obtain ⟨d, hm⟩ := hm
        have e1 := al_get h4 hm
        rw [e1]
        refine iteF ?_
        exact ⟨_, rfl, x, _, dx, _, _, rfl, h1, cl, a7, rfl, _, rfl, t, _, rfl, (by rw [← e1]; exact DGet.k (k := Sum.inl i) h2), k1 i d rfl hm⟩
      · have hn : ∀ d, (i, d) ∉ al := fun d q => hm ⟨d, q⟩
        rw [al_none hn]
        exact iteT (fin fun j d e => by rw [← V.int.inj e]; exact hn d)
/-! new_process, spawn -/
def spNewP (A : Adr) : Sp := fun vs H Q _ => ∃ (st : V) (fr sl : V) (x t : Addr) (n p o : Int) (al : List (Int × Addr)), vs = [.ref x] ∧ SyA A.c_System fr sl st H x t n p o al ∧ al.length < 12 ∧
  ∀ H' d, (∀ b o, b ≠ x → b ≠ t → H b = some o → H' b = some o) → H d = none → H' d = some (.dK []) → SyA A.c_System fr sl st H' x t n (p + 1) o (al ++ [(p + 1, d)]) → Q (.int (p + 1)) H'
theorem putK_al {al : List (Int × Addr)} {i : Int} {d : Addr} (h : ∀ e, (i, e) ∉ al) : putK (al.map fun q => ((Sum.inl q.1 : Key), V.ref q.2)) (Sum.inl i) (.ref d) = (al ++ [(i, d)]).map fun q => ((Sum.inl q.1 : Key), V.ref q.2) := by
  rw [putK_new _ (al_none h), List.map_append]
  rfl
theorem ok_new_process (G : Txt K mg A) : FnOk P w K mg base CX0 1 A.a_new_process A.fd_new_process p_new_process (spNewP A) := by
  refine G.f_new_process.ok sc_new_process (fun vs H Q E h => ?_) (fun cdv A' outer s H vs Q E hr h => ?_)
  · obtain ⟨st, fr, sl, x, t, n, p, o, al, rfl, _⟩ := h
    rfl
  · obtain ⟨st, fr, sl, x, t, n, p, o, al, rfl, hS, hl, k⟩ := h
    obtain ⟨⟨dx, a, b, c, d, e, h1⟩, h2, h4, h5, h6, h7⟩ := id hS
    obtain ⟨cl, a1, a2, a3, a4, a5, a6, a7, a8, a9, a10, a11, a12⟩ := G.sysN
    refine ⟨_, (pss_cons (ps_fldaug (pv 0) pe_int in_add)
  (pss_cons (ps_dput (hu_of hr) (pe_fld (pv 0) rfl) (pe_fld (pv 0) rfl) pe_dnewK rfl)
  (pss_one (ps_ret (pe_fld (pv 0) rfl))))), ?_⟩
    have nt : t ≠ x := ne_of h2 h1 (by intro z; cases z)
    refine ⟨_, rfl, x, _, dx, _, _, rfl, h1, cl, a5, rfl, p, 1, rfl, rfl, dx, _, h1, (by show 12 < 1000; decide), ?_⟩
    have hx' : (upd H x (.ins A.c_System dx (putF "processes_made" (.int (p + 1)) (sysF fr sl st n p o t a b c d e)))) x = some (.ins A.c_System dx (sysF fr sl st n (p + 1) o t a b c d e)) := upd_same
    intro q hq
    obtain ⟨nqx, hq0⟩ := upd_none hq
    have nqt : t ≠ q := ne_of_none h2 hq0
    have hno : ∀ e, (p + 1, e) ∉ al := fun e hm => by have := h5 _ hm; simp only at this; omega
    refine ⟨_, rfl, x, _, dx, _, _, rfl, (by rw [upd_ne (Ne.symm nqx)]; exact hx'), cl, a7, rfl, _, rfl, x, _, dx, _, _, rfl, (by rw [upd_ne (Ne.symm nqx)]; exact hx'), cl, a5, rfl, t, _, rfl,
      DPut.k (k := Sum.inl (p + 1)) (kvs := al.map fun q => (Sum.inl q.1, V.ref q.2)) (by rw [upd_ne nqt, upd_ne nt]; exact h2) (small1000 (by rw [List.length_map]; omega)), ?_⟩
    rw [putK_al hno]
    refine ⟨_, rfl, x, _, dx, _, _, rfl, (by rw [upd_ne (Ne.symm nt), upd_ne (Ne.symm nqx)]; exact hx'), cl, a5, rfl, k _ q (fun b o hb1 hb2 ho => ?_) hq0 ?_ ⟨⟨dx, a, b, c, d, e, ?_⟩, upd_same, ?_, fun z hz => ?_, by omega, by rw [List.length_append, List.length_singleton]; omega⟩⟩
    · rw [upd_ne hb2, upd_ne (ne_of_none ho hq0), upd_ne hb1]
      exact ho
    · rw [upd_ne (Ne.symm nqt), upd_same]
    · rw [upd_ne (Ne.symm nt), upd_ne (Ne.symm nqx)]
      exact hx'
    · rw [List.pairwise_append]
      refine ⟨h4, List.pairwise_singleton _ _, fun u hu v hv => ?_⟩
      rw [List.mem_singleton.mp hv]
      have := h5 u hu
      simp only
      omega
    · rcases List.mem_append.mp hz with hz | hz
      · have := h5 z hz
        omega
      · rw [List.mem_singleton.mp hz]
        simp only
        omega
def spSpawn (A : Adr) : Sp := fun vs H Q _ => ∃ (st : V) (fr sl : V) (x t : Addr) (n p o : Int) (al : List (Int × Addr)), vs = [.ref x] ∧ SyA A.c_System fr sl st H x t n p o al ∧ al.length < 12 ∧
  ∀ H' d, (∀ b o, b ≠ x → b ≠ t → H b = some o → H' b = some o) → H d = none → H' d = some (.dK []) → SyA A.c_System fr sl st H' x t (n + 1) (p + 1) o (al ++ [(p + 1, d)]) → Q (.int (p + 1)) H'
theorem ok_spawn (G : Txt K mg A) : FnOk P w K mg base CX0 2 A.a_spawn A.fd_spawn p_spawn (spSpawn A) := by
  refine G.f_spawn.ok sc_spawn (fun vs H Q E h => ?_) (fun cdv A' outer s H vs Q E hr h => ?_)
  · obtain ⟨st, fr, sl, x, t, n, p, o, al, rfl, _⟩ := h
    rfl
  · obtain ⟨st, fr, sl, x, t, n, p, o, al, rfl, hS, hl, k⟩ := h
    refine ⟨_, (pss_cons (ps_set (i := 1) sc_spawn.nd rfl (Or.inl rfl) (pe_call (ok_new_process G) (hr.mono (by decide)) rfl G.g_new_process G.k_new_process G.bi_new_process .nil pass0 (pa_cons (pv 0) pa_nil)))
  (pss_cons (ps_expr (pe_call (ok_end_step G) (hr.mono (by decide)) rfl G.g_end_step G.k_end_step G.bi_end_step .nil pass0 (pa_cons (pv 0) pa_nil)))
  (pss_one (ps_ret (pv 1))))), ?_⟩
    refine ⟨_, rfl, st, fr, sl, x, t, n, p, o, al, rfl, hS, hl, fun H1 d f1 d0 dd S1 => ?_⟩
    obtain ⟨⟨dx, a, b, c, d', e, h1⟩, _⟩ := id S1
    refine ⟨_, rfl, fr, sl, st, x, t, n, _, _, _, rfl, S1, fun H2 f2 S2 => ?_⟩
    exact ⟨_, rfl, k H2 d (fun b o b1 b2 ho => f2 _ _ b1 (f1 _ _ b1 b2 ho)) d0 (f2 _ _ (ne_of dd h1 (by intro z; cases z)) dd) S2⟩
def spReq (A : Adr) : Sp := fun vs H Q E => ∃ (fr sl : V) (x t : Addr) (n p o : Int) (al : List (Int × Addr)) (v w : V), vs = [.ref x, v, w] ∧ SyA A.c_System fr sl (.bl false) H x t n p o al ∧ Q .non H
theorem ok_require_charge (G : Txt K mg A) : FnOk P w K mg base (L2.CX P w) 1 A.a_require_charge A.fd_require_charge p_require_charge (spReq A) := by
  refine G.f_require_charge.okX sc_require_charge (fun vs H Q E h => ?_) (fun cdv A' outer s H vs Q E hr h => ?_)
  · obtain ⟨fr, sl, x, t, n, p, o, al, v, w, rfl, _⟩ := h
    rfl
  · obtain ⟨fr, sl, x, t, n, p, o, al, v, w, rfl, hS, k⟩ := h
    obtain ⟨⟨dx, a, b, c', d', e, h1⟩, h2, h4, h5, h6, h7⟩ := id hS
    obtain ⟨cl, a1, a2, a3, a4, a5, a6, a7, a8, a9, a10, a11, a12⟩ := G.sysN
    refine ⟨_, (pss_cons (ps_if (pt_not (pt_val (pe_fld (pv 0) rfl))) (pss_one ps_retN) pss_nil)
  (pss_cons ps_never
  (pss_cons ps_never
  (pss_one ps_never)))), ?_⟩
    exact ⟨_, rfl, x, _, dx, _, _, rfl, h1, cl, a3, rfl, _, rfl, iteT k⟩
end
end My

set_option Elab.async false
set_option linter.all false
set_option maxRecDepth 100000
set_option maxHeartbeats 4000000
namespace My
open PySem L2
local macro_rules | `(tactic| walk_at "ds") => `(tactic| dsimp only [tSeq, tIfS, tTest, tB, tAnd, tOr, tNot, tAndV, tOrV, tNotV, tIf, tIsN, tNotN, tOp, tUn, tChain, rI, rI0, rU, tC, tCB, tCons, tNil, tAsg, gName, gSub, tRet, tRetN, tNext, tDrop, tLst, tTup, rIxL, rIxT, rSetL, tVar, tFld, tCall, tDGet, tDIn, tDNotIn, tNever, L2.start, List.map, List.replicate, List.length, List.append, List.cons_append, List.nil_append, List.set, Nat.sub])
local macro_rules | `(tactic| walk_at "hp") => `(tactic| first | assumption | exact upd_same | (refine Eq.trans (upd_ne (by first | assumption | (apply Ne.symm; assumption))) ?_; walk_at "hp"))
local macro_rules | `(tactic| walk_at "sd") => `(tactic| first
  | (show (_ : Int) ≠ 0; omega)
  | (refine (show CDivN _ _ from ⟨?_, ?_⟩) <;> omega)
  | (show CPow _ _; refine ⟨by omega, by omega, by omega⟩)
  | (show CMul _ _; exact Or.inl ⟨by omega, by omega⟩)
  | (show CMul _ _; exact Or.inr ⟨by omega, by omega⟩))
local macro_rules | `(tactic| walk_at "st") => `(tactic| first
  | refine ⟨_, rfl, ?_⟩
  | refine ⟨_, _, rfl, rfl, (by walk_at "sd"), ?_⟩
  | refine ⟨_, _, rfl, rfl, ?_⟩
  | refine ⟨_, _, _, _, rfl, rfl, SqL.of (by walk_at "hp"), rfl, ?_⟩
  | refine ⟨_, _, _, _, rfl, rfl, (by walk_at "hp"), rfl, ?_⟩
  | refine .inl ⟨_, rfl, ?_⟩
  | refine ⟨_, _, _, _, _, rfl, (by walk_at "hp"), (by assumption), (by assumption), rfl, ?_⟩
  | refine ⟨_, _, rfl, .inl (SqL.of (by walk_at "hp")), ?_⟩)
local macro_rules | `(tactic| walk_at "go") => `(tactic| repeat (first | walk_at "st" | (walk_at "ds"; walk_at "st")))

def pageF (r s so i f h : V) : List (Str × V) := [("rights", r), ("shared", s), ("source", so), ("index", i), ("flags", f), ("held", h)]
def PgAt (C : Addr) (H : Hp) (p : Addr) (r s so i f h : V) : Prop := ∃ dx, H p = some (.ins C dx (pageF r s so i f h))
/-- a private page of no file, without a class -/
def Plain (C : Addr) (H : Hp) (p : Addr) : Prop := ∃ r i f, PgAt C H p r (.bl false) .non i f .non
theorem Plain.same {C : Addr} {H H' : Hp} {p : Addr} (h : Plain C H p) (s : Same H H') : Plain C H' p := by
  obtain ⟨r, i, f, dx, e⟩ := h
  exact ⟨r, i, f, dx, s _ _ e⟩
theorem Plain.but {C : Addr} {H H' : Hp} {p a : Addr} {kvs : List (Key × V)} (h : Plain C H p) (s : But a H H') (ha : H a = some (.dK kvs)) : Plain C H' p := by
  obtain ⟨r, i, f, dx, e⟩ := h
  exact ⟨r, i, f, dx, s _ _ (ne_of e ha (by intro z; cases z)) e⟩
section
variable {P : Program} {w : World} {K : PySem.W.Frag} {mg : Str → Option Value} {base : Heap} {A : Adr}
theorem sf_val {C x dx : Addr} {fs fs' : List (Str × V)} {H : Hp} {D : Ends} {σ : St} {f : Str} {y : V} {te : TE} (hte : ∀ Q : VK, Q y H → te σ H Q) (cl : Cls K C) (na : NoAttr K C f) (h0 : σ[0]? = some (some (.ref x)))
    (hx : H x = some (.ins C dx fs)) (hl : fs.length < 1000) (he : putF f y fs = fs') (k : ∀ H', But x H H' → (∀ b, b ≠ x → H' b = H b) → H' x = some (.ins C dx fs') → D.nx σ H') : sFld K (tVar 0) te f D σ H :=
  hte _ ⟨_, h0, x, C, dx, fs, rfl, hx, cl, na, hl, k _ But.up (fun b hb => upd_ne hb) (by rw [he, upd_same])⟩
def spPage (A : Adr) : Sp := fun vs H Q _ => ∃ (x dx : Addr) (r s so i f h : V), vs = [.ref x, r, s, so, i, f, h] ∧ H x = some (.ins A.c_Page dx []) ∧
  ∀ H', But x H H' → PgAt A.c_Page H' x r s so i f h → Q .non H'
theorem ok_Page_init (G : Txt K mg A) : FnOk P w K mg base CX0 1 A.a_Page_init A.fd_Page_init p_Page_init (spPage A) := by
  refine G.f_Page_init.ok sc_Page_init (fun vs H Q E h => ?_) (fun cdv A' outer s H vs Q E hr h => ?_)
  · obtain ⟨x, dx, r, s, so, i, f, h, rfl, _⟩ := h
    rfl
  · obtain ⟨x, dx, r, s, so, i, f, h, rfl, hx, k⟩ := h
    refine ⟨_, (pss_cons (ps_fld (pv 0) (pv 1) rfl)
  (pss_cons (ps_fld (pv 0) (pv 2) rfl)
  (pss_cons (ps_fld (pv 0) (pv 3) rfl)
  (pss_cons (ps_fld (pv 0) (pv 4) rfl)
  (pss_cons (ps_fld (pv 0) (pv 5) rfl)
  (pss_one (ps_fld (pv 0) (pv 6) rfl))))))), ?_⟩
    have v1 : ∀ {j : Nat} {v : V} {H : Hp}, (L2.start n_Page_init [V.ref x, r, s, so, i, f, h])[j]? = some (some v) → ∀ Q : VK, Q v H → tVar j (L2.start n_Page_init [V.ref x, r, s, so, i, f, h]) H Q := fun h Q q => ⟨_, h, q⟩
    refine sf_val (fs := []) (fs' := [("rights", r)]) (v1 (j := 1) rfl) G.cl_Page G.n_Page_rights rfl hx (by show 0 < 1000; decide) rfl (fun H1 b1 n1 e1 => ?_)
    dsimp only
    refine sf_val (fs := [("rights", r)]) (fs' := [("rights", r), ("shared", s)]) (v1 (j := 2) rfl) G.cl_Page G.n_Page_shared rfl e1 (by show 1 < 1000; decide) rfl (fun H2 b2 n2 e2 => ?_)
    dsimp only
    refine sf_val (fs := [("rights", r), ("shared", s)]) (fs' := [("rights", r), ("shared", s), ("source", so)]) (v1 (j := 3) rfl) G.cl_Page G.n_Page_source rfl e2 (by show 2 < 1000; decide) rfl (fun H3 b3 n3 e3 => ?_)
    dsimp only
    refine sf_val (fs := [("rights", r), ("shared", s), ("source", so)]) (fs' := [("rights", r), ("shared", s), ("source", so), ("index", i)]) (v1 (j := 4) rfl) G.cl_Page G.n_Page_index rfl e3 (by show 3 < 1000; decide) rfl (fun H4 b4 n4 e4 => ?_)
    dsimp only
    refine sf_val (fs := [("rights", r), ("shared", s), ("source", so), ("index", i)]) (fs' := [("rights", r), ("shared", s), ("source", so), ("index", i), ("flags", f)]) (v1 (j := 5) rfl) G.cl_Page G.n_Page_flags rfl e4 (by show 4 < 1000; decide) rfl (fun H5 b5 n5 e5 => ?_)
    dsimp only
    refine sf_val (fs := [("rights", r), ("shared", s), ("source", so), ("index", i), ("flags", f)]) (fs' := pageF r s so i f h) (v1 (j := 6) rfl) G.cl_Page G.n_Page_held rfl e5 (by show 5 < 1000; decide) rfl (fun H6 b6 n6 e6 => ?_)
    exact k H6 (b1.trans (b2.trans (b3.trans (b4.trans (b5.trans b6))))) ⟨dx, e6⟩
def spPl (A : Adr) (v : V) : Sp := fun vs H Q _ => ∃ p : Addr, vs = [.ref p] ∧ Plain A.c_Page H p ∧ Q v H
theorem ok_has_object (G : Txt K mg A) : FnOk P w K mg base CX0 1 A.a_has_object A.fd_has_object p_has_object (spPl A (.bl false)) := by
  refine G.f_has_object.ok sc_has_object (fun vs H Q E h => ?_) (fun cdv A' outer s H vs Q E hr h => ?_)
  · obtain ⟨p, rfl, _⟩ := h
    rfl
  · obtain ⟨p, rfl, ⟨r, i, f, dx, e⟩, k⟩ := h
    refine ⟨_, (pss_one (ps_ret (pe_and (pe_fld (pv 0) rfl) (pe_one pe_nev)))), ?_⟩
    exact ⟨_, rfl, p, _, dx, _, _, rfl, e, G.cl_Page, G.n_Page_shared, rfl, _, rfl, k⟩
def spPl2 (A : Adr) : Sp := fun vs H Q _ => ∃ (x : V) (p : Addr), vs = [x, .ref p] ∧ Plain A.c_Page H p ∧ Q .non H
theorem ok_count_page (G : Txt K mg A) : FnOk P w K mg base CX0 2 A.a_count_page A.fd_count_page p_count_page (spPl2 A) := by
  refine G.f_count_page.ok sc_count_page (fun vs H Q E h => ?_) (fun cdv A' outer s H vs Q E hr h => ?_)
  · obtain ⟨x, p, rfl, _⟩ := h
    rfl
  · obtain ⟨x, p, rfl, hp, k⟩ := h
    obtain ⟨r, i, f, dx, e⟩ := id hp
    refine ⟨_, (pss_cons (ps_set (i := 2) sc_count_page.nd rfl (Or.inl rfl) (pe_fld (pv 1) rfl))
  (pss_one (ps_if (pt_cmpR op_notN (pv 2) pe_non (nomark _)) (pss_one ps_never) (pss_one (ps_if (pt_val (pe_call (ok_has_object G) (hr.mono (by decide)) rfl G.g_has_object G.k_has_object G.bi_has_object .nil pass0 (pa_cons (pv 1) pa_nil))) (pss_cons ps_never
  (pss_one ps_never)) pss_nil))))), ?_⟩
    refine ⟨_, rfl, p, _, dx, _, _, rfl, e, G.cl_Page, G.n_Page_held, rfl, _, rfl, rfl, _, rfl, iteF ?_⟩
    exact ⟨_, rfl, p, rfl, hp, _, rfl, iteF k⟩
theorem ok_discount_page (G : Txt K mg A) : FnOk P w K mg base CX0 2 A.a_discount_page A.fd_discount_page p_discount_page (spPl2 A) := by
  refine G.f_discount_page.ok sc_discount_page (fun vs H Q E h => ?_) (fun cdv A' outer s H vs Q E hr h => ?_)
  · obtain ⟨x, p, rfl, _⟩ := h
    rfl
  · obtain ⟨x, p, rfl, hp, k⟩ := h
    obtain ⟨r, i, f, dx, e⟩ := id hp
    refine ⟨_, (pss_cons (ps_set (i := 2) sc_discount_page.nd rfl (Or.inl rfl) (pe_fld (pv 1) rfl))
  (pss_one (ps_if (pt_cmpR op_notN (pv 2) pe_non (nomark _)) (pss_cons ps_never
  (pss_one ps_never)) (pss_one (ps_if (pt_val (pe_call (ok_has_object G) (hr.mono (by decide)) rfl G.g_has_object G.k_has_object G.bi_has_object .nil pass0 (pa_cons (pv 1) pa_nil))) (pss_one ps_never) pss_nil))))), ?_⟩
    refine ⟨_, rfl, p, _, dx, _, _, rfl, e, G.cl_Page, G.n_Page_held, rfl, _, rfl, rfl, _, rfl, iteF ?_⟩
    exact ⟨_, rfl, p, rfl, hp, _, rfl, iteF k⟩
/-! the checks -/
theorem rights_at {H : Hp} (G : Txt K mg A) : SqT K H A.o_RIGHTS [.str "none", .str "r", .str "rw"] := by
  have h := G.r_RIGHTS
  unfold rightsIn at h
  split at h
  · rename_i dd its n sl hl
    split at h
    · rename_i x t1 y t2 z t3 he
      simp only [Bool.and_eq_true, beq_iff_eq] at h
      obtain ⟨⟨rfl, rfl⟩, rfl⟩ := h
      refine .inr ⟨_, its, n, hl, rfl, rfl, ?_, ?_⟩
      · have : its.size = 3 := by rw [← Array.length_toList, he]; rfl
        rw [this]; decide
      · rw [he]
        exact .cons ⟨_, rfl⟩ (.cons ⟨_, rfl⟩ (.cons ⟨_, rfl⟩ .nil))
    · cases h
  · cases h
def spWord (K : PySem.W.Frag) : Sp := fun vs H Q _ => ∃ (x : Str) (a : Addr) (xs : List V), vs = [.str x, .ref a] ∧ SqT K H a xs ∧ xs.all flatV = true ∧ Q (.bl (inV (.str x) xs)) H
theorem ok_is_word (G : Txt K mg A) : FnOk P w K mg base CX0 1 A.a_is_word A.fd_is_word p_is_word (spWord K) := by
  refine G.f_is_word.ok sc_is_word (fun vs H Q E h => ?_) (fun cdv A' outer s H vs Q E hr h => ?_)
  · obtain ⟨x, a, xs, rfl, _⟩ := h
    rfl
  · obtain ⟨x, a, xs, rfl, hx, fx, k⟩ := h
    refine ⟨_, (pss_one (ps_ret (pe_and (pe_callB call_isi (by rfl) G.b_isinstance (by decide +kernel) (pa_cons (pv 0) (pa_cons (pe_bltn (v := .ty "str") (u := .type "str") (by rfl) G.b_str (by decide +kernel) rfl) pa_nil))) (pe_one (pe_cmpR op_in_seq (pv 0) (pv 1) (by rfl)))))), ?_⟩
    refine ⟨_, rfl, .str x, .ty "str", .type "str", .type "str", true, rfl, .ty "str", .base (.str x), kit_ty (by decide +kernel), _, rfl, ?_⟩
    exact iteT ⟨_, rfl, _, rfl, a, xs, rfl, .inr hx, rfl, fx, k⟩
def spReqr (A : Adr) : Sp := fun vs H Q E => ∃ (b : Bool) (pt : Str), vs = [.bl b, .str pt] ∧ (b = true → Q .non H) ∧ (b = false → ∀ d H', Same H H' → H d = none → H' d = some (.xd [("part", .str pt)]) → E (.ref A.c_NoPages) (some d) H')
theorem ok_require (G : Txt K mg A) : FnOk P w K mg base (L2.CX P w) 3 A.a_require A.fd_require p_require (spReqr A) := by
  refine G.f_require.okX sc_require (fun vs H Q E h => ?_) (fun cdv A' outer s H vs Q E hr h => ?_)
  · obtain ⟨b, pt, rfl, _⟩ := h
    rfl
  · obtain ⟨b, pt, rfl, k1, k2⟩ := h
    refine ⟨_, (pss_one (ps_if (pt_not (pt_val (pv 0))) (pss_one (ps_raise rfl (takes_of rfl rfl rfl rfl) (pmk_oex G.x_NoPages G.xi_NoPages G.xt_NoPages (ok_NoPages_init G) (hr.mono (by decide)) G.bi_NoPages_init .nil pass0 rfl G.g_NoPages (pa_cons (pv 1) pa_nil)))) pss_nil)), ?_⟩
    cases b with
    | true => exact ⟨_, rfl, _, rfl, iteF (k1 rfl)⟩
    | false => exact ⟨_, rfl, _, rfl, iteT ⟨_, rfl, (by show 1 ≤ 1000; decide), fun a ha => xi_done G.x_NoPages G.xn_NoPages ha fun d H' s0 d0 e0 => k2 rfl d H' s0 d0 e0⟩⟩
def spSrc : Sp := fun vs H Q _ => ∃ (x y : V), vs = [x, .non, y] ∧ Q .non H
theorem ok_require_source (G : Txt K mg A) : FnOk P w K mg base (L2.CX P w) 1 A.a_require_source A.fd_require_source p_require_source spSrc := by
  refine G.f_require_source.okX sc_require_source (fun vs H Q E h => ?_) (fun cdv A' outer s H vs Q E hr h => ?_)
  · obtain ⟨x, y, rfl, _⟩ := h
    rfl
  · obtain ⟨x, y, rfl, k⟩ := h
    refine ⟨_, (pss_cons (ps_if (pt_cmpR op_isN (pv 1) pe_non (nomark _)) (pss_one ps_retN) pss_nil)
  (pss_cons ps_never
  (pss_cons ps_never
  (pss_cons ps_never
  (pss_one ps_never))))), ?_⟩
    exact ⟨_, rfl, rfl, _, rfl, iteT k⟩
end
end My

set_option Elab.async false
set_option linter.all false
set_option maxRecDepth 100000
set_option maxHeartbeats 4000000
namespace My
open PySem L2
local macro_rules | `(tactic| walk_at "ds") => `(tactic| dsimp only [tSeq, tIfS, tTest, tB, tAnd, tOr, tNot, tAndV, tOrV, tNotV, tIf, tIsN, tNotN, tOp, tUn, tChain, rI, rI0, rU, tC, tCB, tCons, tNil, tAsg, gName, gSub, tRet, tRetN, tNext, tDrop, tLst, tTup, rIxL, rIxT, rSetL, tVar, tFld, tCall, tDGet, tDIn, tDNotIn, tNever, L2.start, List.map, List.replicate, List.length, List.append, List.cons_append, List.nil_append, List.set, Nat.sub])
local macro_rules | `(tactic| walk_at "hp") => `(tactic| first | assumption | exact upd_same | (refine Eq.trans (upd_ne (by first | assumption | (apply Ne.symm; assumption))) ?_; walk_at "hp"))
local macro_rules | `(tactic| walk_at "sd") => `(tactic| first
  | (show (_ : Int) ≠ 0; omega)
  | (refine (show CDivN _ _ from ⟨?_, ?_⟩) <;> omega)
  | (show CPow _ _; refine ⟨by omega, by omega, by omega⟩)
  | (show CMul _ _; exact Or.inl ⟨by omega, by omega⟩)
  | (show CMul _ _; exact Or.inr ⟨by omega, by omega⟩))
local macro_rules | `(tactic| walk_at "st") => `(tactic| first
  | refine ⟨_, rfl, ?_⟩
  | refine ⟨_, _, rfl, rfl, (by walk_at "sd"), ?_⟩
  | refine ⟨_, _, rfl, rfl, ?_⟩
  | refine ⟨_, _, _, _, rfl, rfl, SqL.of (by walk_at "hp"), rfl, ?_⟩
  | refine ⟨_, _, _, _, rfl, rfl, (by walk_at "hp"), rfl, ?_⟩
  | refine .inl ⟨_, rfl, ?_⟩
  | refine ⟨_, _, _, _, _, rfl, (by walk_at "hp"), (by assumption), (by assumption), rfl, ?_⟩
  | refine ⟨_, _, rfl, .inl (SqL.of (by walk_at "hp")), ?_⟩)
local macro_rules | `(tactic| walk_at "go") => `(tactic| repeat (first | walk_at "st" | (walk_at "ds"; walk_at "st")))

section
variable {P : Program} {w : World} {K : PySem.W.Frag} {mg : Str → Option Value} {base : Heap} {A : Adr}
def spNums (A : Adr) : Sp := fun vs H Q E => ∃ (f c : Int), vs = [.int f, .int c] ∧ 0 ≤ f ∧ f ≤ 511 ∧ 1 ≤ c ∧ c ≤ 512 - f ∧ ∀ q, H q = none → Q (.ref q) (upd H q (.lst (rgV f (f + c))))
theorem ok_numbers_of (G : Txt K mg A) : FnOk P w K mg base (L2.CX P w) 4 A.a_numbers_of A.fd_numbers_of p_numbers_of (spNums A) := by
  refine G.f_numbers_of.okX sc_numbers_of (fun vs H Q E h => ?_) (fun cdv A' outer s H vs Q E hr h => ?_)
  · obtain ⟨f, c, rfl, _⟩ := h
    rfl
  · obtain ⟨f, c, rfl, f0, f1, c0, c1, k⟩ := h
    refine ⟨_, (pss_cons (ps_expr (pe_call (ok_require G) (hr.mono (by decide)) rfl G.g_require G.k_require G.bi_require .nil (passes_call (takes_of rfl rfl rfl rfl) (fun _ _ _ _ z => z)) (pa_cons (pe_call (ok_is_integer G) (hr.mono (by decide)) rfl G.g_is_integer G.k_is_integer G.bi_is_integer .nil pass0 (pa_cons (pv 0) (pa_cons pe_int (pa_cons (pe_op op_sub (pe_glob (v := .int 512) rfl G.g_PAGES ⟨_, rfl⟩) pe_int) pa_nil)))) (pa_cons pe_str pa_nil))))
  (pss_cons (ps_expr (pe_call (ok_require G) (hr.mono (by decide)) rfl G.g_require G.k_require G.bi_require .nil (passes_call (takes_of rfl rfl rfl rfl) (fun _ _ _ _ z => z)) (pa_cons (pe_call (ok_is_integer G) (hr.mono (by decide)) rfl G.g_is_integer G.k_is_integer G.bi_is_integer .nil pass0 (pa_cons (pv 1) (pa_cons pe_int (pa_cons (pe_op op_sub (pe_glob (v := .int 512) rfl G.g_PAGES ⟨_, rfl⟩) (pv 0)) pa_nil)))) (pa_cons pe_str pa_nil))))
  (pss_one (ps_ret (pe_listRg rfl rfl G.b_list (prg_2 rfl G.b_range (pv 0) (pe_op op_add (pv 0) (pv 1)))))))), ?_⟩
    have r1 : inR 0 (512 - 1) (.int f) = true := decide_eq_true ⟨f0, by omega⟩
    have r2 : inR 1 (512 - f) (.int c) = true := decide_eq_true ⟨c0, c1⟩
    refine ⟨_, rfl, _, _, rfl, rfl, .int f, 0, 512 - 1, rfl, .int f, ?_⟩
    rw [r1]
    refine ⟨true, _, rfl, fun _ => ?_, fun z => by cases z⟩
    refine ⟨_, rfl, _, rfl, _, _, rfl, rfl, .int c, 1, 512 - f, rfl, .int c, ?_⟩
    rw [r2]
    refine ⟨true, _, rfl, fun _ => ?_, fun z => by cases z⟩
    exact ⟨_, rfl, _, rfl, _, rfl, _, _, rfl, rfl, _, _, rfl, rfl, RgOk.of_le f0 (by omega) (by omega) (by omega), k⟩
/-- what a dict's keys among the pages are -/
def KS (f : Int → Bool) (kvs : List (Key × V)) : Prop := ∀ k : Int, (valV kvs (Sum.inl k)).isSome = f k
/-- how many pages up to the n-th are free in a row -/
def runN (f : Int → Bool) : Nat → Int
  | 0 => 0
  | n + 1 => if f (n : Int) then 0 else runN f n + 1
def runs (f : Int → Bool) (n : Nat) : List Int := (List.range n).map fun i => runN f (i + 1)
theorem runs_succ (f : Int → Bool) (n : Nat) : runs f (n + 1) = runs f n ++ [runN f (n + 1)] := by
  unfold runs
  rw [List.range_succ, List.map_append]
  rfl
theorem runN_at (f : Int → Bool) (n : Nat) : 0 ≤ runN f n ∧ runN f n ≤ n := by
  induction n with
  | zero => exact ⟨Int.le_refl _, Int.le_refl _⟩
  | succ n ih =>
    unfold runN
    split <;> omega
def spRuns : Sp := fun vs H Q _ => ∃ (d : Addr) (kvs : List (Key × V)) (f : Int → Bool), vs = [.ref d] ∧ H d = some (.dK kvs) ∧ KS f kvs ∧ ∀ q H', Same H H' → H q = none → H' q = some (.lst ((runs f 512).map V.int)) → Q (.ref q) H'
theorem ok_free_runs (G : Txt K mg A) : FnOk P w K mg base CX0 1 A.a_free_runs A.fd_free_runs p_free_runs spRuns := by
  refine G.f_free_runs.ok sc_free_runs (fun vs H Q E h => ?_) (fun cdv A' outer s H vs Q E hr h => ?_)
  · obtain ⟨d, kvs, f, rfl, _⟩ := h
    rfl
  · obtain ⟨d, kvs, f, rfl, hd, hf, k⟩ := h
    refine ⟨_, (pss_cons (ps_set (i := 1) sc_free_runs.nd rfl (Or.inl rfl) (pe_lst pa_nil))
  (pss_cons (ps_set (i := 2) sc_free_runs.nd rfl (Or.inl rfl) pe_int)
  (pss_cons (ps_for PassesOwn.never rfl (pi_range1 rfl G.b_range (pa_cons (pe_glob (v := .int 512) rfl G.g_PAGES ⟨_, rfl⟩) pa_nil)) (pg_name (i := 3) sc_free_runs.nd rfl (Or.inl rfl)) (pss_cons (ps_set (i := 2) sc_free_runs.nd rfl (Or.inl rfl) (pe_ifExp (pt_cmp (pc_din (hu_of hr) (pv 3) (pv 0))) pe_int (pe_op op_add (pv 2) pe_int)))
  (pss_one (ps_expr (pe_bm PySem.F.plainAttrs_list PySem.F.slot_list_append PySem.F.type_list_append mt_append (pv 1) (pa_cons (pv 2) pa_nil))))))
  (pss_one (ps_ret (pv 1)))))), ?_⟩
    refine ⟨Nat.zero_le _, fun q hq => ?_⟩
    refine ⟨512, rfl, by decide, by decide, for_range (lo := 0) (n := 512) (fun i σ H' => (∃ c3, σ = [some (.ref d), some (.ref q), some (.int (runN f i)), c3]) ∧ Same H H' ∧ H' q = some (.lst ((runs f i).map V.int)))
      ⟨⟨_, rfl⟩, Same.new hq, upd_same⟩ ?_ ?_⟩
    · rintro i σ H1 hi ⟨⟨c3, rfl⟩, s1, l1⟩
      have ei : (0 : Int) + (i : Nat) = (i : Int) := Int.zero_add _
      rw [ei]
      refine ⟨_, rfl, _, rfl, d, _, rfl, DGet.k (k := Sum.inl (i : Int)) (s1 _ _ hd), _, rfl, ?_⟩
      rw [hf]
      have few : ((runs f i).map V.int).length < sizeLine := small1000 (by unfold runs; rw [List.length_map, List.length_map, List.length_range]; omega)
      have fin : ∀ r : Int, r = runN f (i + 1) → (∃ c3, [some (V.ref d), some (V.ref q), some (V.int r), some (V.int (i : Int))] = [some (V.ref d), some (V.ref q), some (V.int (runN f (i + 1))), c3]) ∧
          Same H (upd H1 q (.lst ((runs f i).map V.int ++ [V.int r]))) ∧ (upd H1 q (.lst ((runs f i).map V.int ++ [V.int r]))) q = some (.lst ((runs f (i + 1)).map V.int)) := fun r er => by
        refine ⟨⟨_, by rw [er]⟩, fun b o ho => ?_, ?_⟩
        · rw [upd_ne (ne_of_none ho hq)]
          exact s1 b o ho
        · rw [upd_same, runs_succ, List.map_append, er]
          rfl
      cases cf : f (i : Int) with
      | true => exact iteT ⟨_, rfl, .inl ⟨rfl, _, SqL.of l1⟩, _, rfl, q, _, _, rfl, rfl, l1, few, fin 0 (by unfold runN; rw [if_pos cf])⟩
      | false => exact iteF ⟨_, rfl, _, _, rfl, rfl, _, rfl, .inl ⟨rfl, _, SqL.of l1⟩, _, rfl, q, _, _, rfl, rfl, l1, few, fin _ (by rw [runN, if_neg (by rw [cf]; exact Bool.false_ne_true)])⟩
    · rintro σ H1 ⟨⟨c3, rfl⟩, s1, l1⟩
      exact ⟨_, rfl, k q H1 s1 hq l1⟩
/-- the first page of the lowest gap -/
def fits (f : Int → Bool) (c : Int) : V := match (List.range 512).find? (fun i => runN f (i + 1) == c) with
  | some i => .int ((i : Int) - c + 1)
  | none => .non
theorem fits_at {f : Int → Bool} {c : Int} {i : Nat} (hi : i < 512) (he : runN f (i + 1) = c) (hb : ∀ j, j < i → runN f (j + 1) ≠ c) : fits f c = .int ((i : Int) - c + 1) := by
  have : (List.range 512).find? (fun i => runN f (i + 1) == c) = some i := by
    rw [List.find?_range_eq_some]
    refine ⟨by simpa using he, List.mem_range.mpr hi, fun j hj => ?_⟩
    have := hb j hj
    simpa using this
  unfold fits
  rw [this]
theorem fits_no {f : Int → Bool} {c : Int} (hb : ∀ j, j < 512 → runN f (j + 1) ≠ c) : fits f c = .non := by
  have : (List.range 512).find? (fun i => runN f (i + 1) == c) = none := by
    rw [List.find?_eq_none]
    intro j hj
    have := hb j (List.mem_range.mp hj)
    simpa using this
  unfold fits
  rw [this]
def spGapL : Sp := fun vs H Q _ => ∃ (d : Addr) (c : Int) (kvs : List (Key × V)) (f : Int → Bool), vs = [.ref d, .int c] ∧ H d = some (.dK kvs) ∧ KS f kvs ∧ ∀ H', Same H H' → Q (fits f c) H'
theorem ok_lowest_gap (G : Txt K mg A) : FnOk P w K mg base CX0 2 A.a_lowest_gap A.fd_lowest_gap p_lowest_gap spGapL := by
  refine G.f_lowest_gap.ok sc_lowest_gap (fun vs H Q E h => ?_) (fun cdv A' outer s H vs Q E hr h => ?_)
  · obtain ⟨d, c, kvs, f, rfl, _⟩ := h
    rfl
  · obtain ⟨d, c, kvs, f, rfl, hd, hf, k⟩ := h
    refine ⟨_, (pss_cons (ps_for PassesOwn.never rfl (pi_enum rfl G.b_enumerate (pa_cons (pe_call (ok_free_runs G) (hr.mono (by decide)) rfl G.g_free_runs G.k_free_runs G.bi_free_runs .nil pass0 (pa_cons (pv 0) pa_nil)) pa_nil)) (pg_tup rfl (pgs_cons (pg_name (i := 2) sc_lowest_gap.nd rfl (Or.inl rfl)) (pgs_cons (pg_name (i := 3) sc_lowest_gap.nd rfl (Or.inl rfl)) pgs_nil))) (pss_one (ps_if (pt_cmpR op_eq (pv 3) (pv 1) (nomark _)) (pss_one (ps_ret (pe_op op_add (pe_op op_sub (pv 2) (pv 1)) pe_int))) pss_nil)))
  (pss_one (ps_ret pe_non))), ?_⟩
    refine ⟨_, rfl, d, kvs, f, rfl, hd, hf, fun q H1 s1 _ l1 => ?_⟩
    have len : ((runs f 512).map V.int).length = 512 := by unfold runs; rw [List.length_map, List.length_map, List.length_range]
    refine ⟨q, _, rfl, SqL.of l1, for_it walk_enum (fun i σ H' => (∃ c2 c3, σ = [some (.ref d), some (.int c), c2, c3]) ∧ Same H H' ∧ H' q = some (.lst ((runs f 512).map V.int)) ∧ ∀ j, j < i → runN f (j + 1) ≠ c)
      ⟨⟨_, _, rfl⟩, s1, l1, fun j hj => by omega⟩ (fun i σ H' _ hp => SqL.of hp.2.2.1) ?_ ?_⟩
    · rintro i y σ H2 H3 hi ⟨⟨c2, c3, rfl⟩, s2, l2, hb⟩ ⟨T, x0, y0, rfl, hT, rfl, hx0, hy0⟩
      cases hx0
      rw [len] at hi
      have hy1 : ((runs f 512).map V.int)[i]? = some y0 := hy0
      have hy2 : ((runs f 512).map V.int)[i]? = some (V.int (runN f (i + 1))) := by
        unfold runs
        rw [List.map_map, List.getElem?_map, List.getElem?_range hi]
        rfl
      rw [hy2] at hy1
      cases hy1
      have s3 := s2.trans (Same.new (o := .tup [V.int (i : Int), V.int (runN f (i + 1))]) hT)
      refine ⟨T, _, rfl, SqT.of upd_same, rfl, _, _, rfl, _, _, rfl, rfl, ?_⟩
      refine ⟨_, rfl, _, rfl, rfl, _, rfl, ?_⟩
      by_cases e : runN f (i + 1) = c
      · rw [decide_eq_true (by rw [e])]
        refine iteT ⟨_, rfl, _, rfl, _, _, rfl, rfl, _, _, rfl, rfl, ?_⟩
        have := k _ s3
        rw [fits_at hi e hb] at this
        exact this
      · rw [decide_eq_false (fun z => e (V.int.inj z))]
        refine iteF ⟨⟨_, _, rfl⟩, s3, Same.new hT _ _ l2, fun j hj => ?_⟩
        by_cases z : j = i
        · rw [z]; exact e
        · exact hb j (by omega)
    · rintro σ H2 ⟨⟨c2, c3, rfl⟩, s2, l2, hb⟩
      rw [len] at hb
      have := k _ s2
      rw [fits_no hb] at this
      exact this
end
end My

set_option Elab.async false
set_option linter.all false
set_option maxRecDepth 100000
set_option maxHeartbeats 4000000
namespace My
open PySem L2
local macro_rules | `(tactic| walk_at "ds") => `(tactic| dsimp only [tSeq, tIfS, tTest, tB, tAnd, tOr, tNot, tAndV, tOrV, tNotV, tIf, tIsN, tNotN, tOp, tUn, tChain, rI, rI0, rU, tC, tCB, tCons, tNil, tAsg, gName, gSub, tRet, tRetN, tNext, tDrop, tLst, tTup, rIxL, rIxT, rSetL, tVar, tFld, tCall, tDGet, tDIn, tDNotIn, tNever, L2.start, List.map, List.replicate, List.length, List.append, List.cons_append, List.nil_append, List.set, Nat.sub])
local macro_rules | `(tactic| walk_at "hp") => `(tactic| first | assumption | exact upd_same | (refine Eq.trans (upd_ne (by first | assumption | (apply Ne.symm; assumption))) ?_; walk_at "hp"))
local macro_rules | `(tactic| walk_at "sd") => `(tactic| first
  | (show (_ : Int) ≠ 0; omega)
  | (refine (show CDivN _ _ from ⟨?_, ?_⟩) <;> omega)
  | (show CPow _ _; refine ⟨by omega, by omega, by omega⟩)
  | (show CMul _ _; exact Or.inl ⟨by omega, by omega⟩)
  | (show CMul _ _; exact Or.inr ⟨by omega, by omega⟩))
local macro_rules | `(tactic| walk_at "st") => `(tactic| first
  | refine ⟨_, rfl, ?_⟩
  | refine ⟨_, _, rfl, rfl, (by walk_at "sd"), ?_⟩
  | refine ⟨_, _, rfl, rfl, ?_⟩
  | refine ⟨_, _, _, _, rfl, rfl, SqL.of (by walk_at "hp"), rfl, ?_⟩
  | refine ⟨_, _, _, _, rfl, rfl, (by walk_at "hp"), rfl, ?_⟩
  | refine .inl ⟨_, rfl, ?_⟩
  | refine ⟨_, _, _, _, _, rfl, (by walk_at "hp"), (by assumption), (by assumption), rfl, ?_⟩
  | refine ⟨_, _, rfl, .inl (SqL.of (by walk_at "hp")), ?_⟩)
local macro_rules | `(tactic| walk_at "go") => `(tactic| repeat (first | walk_at "st" | (walk_at "ds"; walk_at "st")))

theorem iteB {b : Bool} {A B : Prop} (h1 : b = true → A) (h2 : b = false → B) : if b = true then A else B := by
  cases b with
  | true => exact h1 rfl
  | false => exact h2 rfl
section
variable {P : Program} {w : World} {K : PySem.W.Frag} {mg : Str → Option Value} {base : Heap} {A : Adr}
/-- what a wrong process raises -/
def NoPr (A : Adr) (al : List (Int × Addr)) (H : Hp) (who : V) (E : XK) : Prop := (∀ i d, who = .int i → (i, d) ∉ al) → ∀ d H', Same H H' → H d = none → H' d = some (.xd [("process", who)]) → E (.ref A.c_NoProcess) (some d) H'
/-- what a wrong argument raises -/
def NoPg (A : Adr) (H : Hp) (pt : Str) (E : XK) : Prop := ∀ d H', Same H H' → H d = none → H' d = some (.xd [("part", .str pt)]) → E (.ref A.c_NoPages) (some d) H'
def spGap (A : Adr) : Sp := fun vs H Q E => ∃ (fr sl st : V) (x t : Addr) (n p o : Int) (al : List (Int × Addr)) (who cnt : V), vs = [.ref x, who, cnt] ∧ SyA A.c_System fr sl st H x t n p o al ∧ AnyV H who ∧ AnyV H cnt ∧
  (∀ i d, who = .int i → (i, d) ∈ al → ∃ kvs f, H d = some (.dK kvs) ∧ KS f kvs ∧ (∀ c, cnt = .int c → 1 ≤ c → c ≤ 512 → ∀ H', Same H H' → Q (fits f c) H') ∧ (inR 1 512 cnt = false → NoPg A H "count" E)) ∧ NoPr A al H who E
theorem ok_gap (G : Txt K mg A) : FnOk P w K mg base (L2.CX P w) 4 A.a_gap A.fd_gap p_gap (spGap A) := by
  refine G.f_gap.okX sc_gap (fun vs H Q E h => ?_) (fun cdv A' outer s H vs Q E hr h => ?_)
  · obtain ⟨fr, sl, st, x, t, n, p, o, al, who, cnt, rfl, _⟩ := h
    rfl
  · obtain ⟨fr, sl, st, x, t, n, p, o, al, who, cnt, rfl, hS, hv, hc, k1, k2⟩ := h
    refine ⟨_, (pss_cons (ps_set (i := 3) sc_gap.nd rfl (Or.inl rfl) (pe_call (ok_table_of G) (hr.mono (by decide)) rfl G.g_table_of G.k_table_of G.bi_table_of .nil (passes_call (takes_of rfl rfl rfl rfl) (fun _ _ _ _ z => z)) (pa_cons (pv 0) (pa_cons (pv 1) pa_nil))))
  (pss_cons (ps_expr (pe_call (ok_require G) (hr.mono (by decide)) rfl G.g_require G.k_require G.bi_require .nil (passes_call (takes_of rfl rfl rfl rfl) (fun _ _ _ _ z => z)) (pa_cons (pe_call (ok_is_integer G) (hr.mono (by decide)) rfl G.g_is_integer G.k_is_integer G.bi_is_integer .nil pass0 (pa_cons (pv 2) (pa_cons pe_int (pa_cons (pe_glob (v := .int 512) rfl G.g_PAGES ⟨_, rfl⟩) pa_nil)))) (pa_cons pe_str pa_nil))))
  (pss_one (ps_ret (pe_call (ok_lowest_gap G) (hr.mono (by decide)) rfl G.g_lowest_gap G.k_lowest_gap G.bi_lowest_gap .nil pass0 (pa_cons (pv 3) (pa_cons (pv 2) pa_nil))))))), ?_⟩
    refine ⟨_, rfl, _, rfl, fr, sl, st, x, t, n, p, o, al, who, rfl, hS, hv, fun i d e hm => ?_, k2⟩
    obtain ⟨kvs, f, hd, hf, q1, q2⟩ := k1 i d e hm
    refine ⟨_, rfl, cnt, 1, 512, rfl, hc, inR 1 512 cnt, _, rfl, fun z => ?_, q2⟩
    obtain ⟨c, rfl⟩ : ∃ c, cnt = V.int c := by cases cnt <;> first | exact ⟨_, rfl⟩ | (cases z; done)
    have z' := of_decide_eq_true z
    exact ⟨_, rfl, _, rfl, d, c, kvs, f, rfl, hd, hf, fun H' s => q1 c rfl z'.1 z'.2 H' s⟩
/-- the longest row of free pages -/
def topN (f : Int → Bool) : Nat → Int
  | 0 => 0
  | n + 1 => if runN f (n + 1) > topN f n then runN f (n + 1) else topN f n
theorem topN_nn (f : Int → Bool) (n : Nat) : 0 ≤ topN f n := by
  induction n with
  | zero => exact Int.le_refl _
  | succ n ih =>
    have := (runN_at f (n + 1)).1
    unfold topN
    split <;> omega
theorem topN_ge (f : Int → Bool) (n : Nat) : ∀ y ∈ runs f n, y ≤ topN f n := by
  induction n with
  | zero => intro y hy; cases hy
  | succ n ih =>
    intro y hy
    rw [runs_succ] at hy
    unfold topN
    rcases List.mem_append.mp hy with z | z
    · have := ih y z
      split <;> omega
    · rw [List.mem_singleton.mp z]
      split <;> omega
theorem topN_in (f : Int → Bool) (n : Nat) : topN f (n + 1) ∈ runs f (n + 1) := by
  induction n with
  | zero =>
    have := (runN_at f 1).1
    rw [runs_succ]
    unfold topN
    split
    · simp
    · have e : topN f 0 = runN f 1 := by show (0 : Int) = _; rename_i h; have : topN f 0 = 0 := rfl; rw [this] at h; simp only [Nat.zero_add] at *; omega
      simp [e]
  | succ n ih =>
    rw [runs_succ]
    conv => arg 2; unfold topN
    split
    · simp
    · exact List.mem_append_left _ ih
def spWide (A : Adr) : Sp := fun vs H Q E => ∃ (fr sl st : V) (x t : Addr) (n p o : Int) (al : List (Int × Addr)) (who : V), vs = [.ref x, who] ∧ SyA A.c_System fr sl st H x t n p o al ∧ AnyV H who ∧
  (∀ i d, who = .int i → (i, d) ∈ al → ∃ kvs f, H d = some (.dK kvs) ∧ KS f kvs ∧ ∀ H', Same H H' → Q (.int (topN f 512)) H') ∧ NoPr A al H who E
theorem ok_widest (G : Txt K mg A) : FnOk P w K mg base (L2.CX P w) 4 A.a_widest A.fd_widest p_widest (spWide A) := by
  refine G.f_widest.okX sc_widest (fun vs H Q E h => ?_) (fun cdv A' outer s H vs Q E hr h => ?_)
  · obtain ⟨fr, sl, st, x, t, n, p, o, al, who, rfl, _⟩ := h
    rfl
  · obtain ⟨fr, sl, st, x, t, n, p, o, al, who, rfl, hS, hv, k1, k2⟩ := h
    refine ⟨_, (pss_one (ps_ret (pe_callB (cr_max rfl) (by rfl) G.b_max (by decide +kernel) (pa_cons (pe_call (ok_free_runs G) (hr.mono (by decide)) rfl G.g_free_runs G.k_free_runs G.bi_free_runs .nil pass0 (pa_cons (pe_call (ok_table_of G) (hr.mono (by decide)) rfl G.g_table_of G.k_table_of G.bi_table_of .nil (passes_call (takes_of rfl rfl rfl rfl) (fun _ _ _ _ z => z)) (pa_cons (pv 0) (pa_cons (pv 1) pa_nil))) pa_nil)) pa_nil)))), ?_⟩
    refine ⟨_, rfl, _, rfl, fr, sl, st, x, t, n, p, o, al, who, rfl, hS, hv, fun i d e hm => ?_, k2⟩
    obtain ⟨kvs, f, hd, hf, q1⟩ := k1 i d e hm
    refine ⟨d, kvs, f, rfl, hd, hf, fun q H1 s1 _ l1 => ?_⟩
    refine ⟨q, runs f 512, rfl, SqL.of l1, by unfold runs; rw [List.length_map, List.length_range]; decide, fun m hm hb => ?_⟩
    have e : m = topN f 512 := Int.le_antisymm (topN_ge f 512 m hm) (hb _ (topN_in f 511))
    rw [e]
    exact q1 H1 s1
/-- regions of what is no process -/
def spRegs (A : Adr) : Sp := fun vs H Q E => ∃ (fr sl st : V) (x t : Addr) (n p o : Int) (al : List (Int × Addr)) (who : V), vs = [.ref x, who] ∧ SyA A.c_System fr sl st H x t n p o al ∧ AnyV H who ∧ (∀ i d, who = .int i → (i, d) ∉ al) ∧ NoPr A al H who E
theorem ok_regions (G : Txt K mg A) : FnOk P w K mg base (L2.CX P w) 4 A.a_regions A.fd_regions p_regions (spRegs A) := by
  refine G.f_regions.okX sc_regions (fun vs H Q E h => ?_) (fun cdv A' outer s H vs Q E hr h => ?_)
  · obtain ⟨fr, sl, st, x, t, n, p, o, al, who, rfl, _⟩ := h
    rfl
  · obtain ⟨fr, sl, st, x, t, n, p, o, al, who, rfl, hS, hv, hn, k2⟩ := h
    refine ⟨_, (pss_cons (ps_set (i := 2) sc_regions.nd rfl (Or.inr rfl) (pe_call (ok_table_of G) (hr.mono (by decide)) rfl G.g_table_of G.k_table_of G.bi_table_of .nil (passes_call (takes_of rfl rfl rfl rfl) (fun _ _ _ _ z => z)) (pa_cons (pv 0) (pa_cons (pv 1) pa_nil))))
  (pss_cons ps_never
  (pss_cons ps_never
  (pss_one ps_never)))), ?_⟩
    exact ⟨_, rfl, _, rfl, fr, sl, st, x, t, n, p, o, al, who, rfl, hS, hv, fun i d e hm => absurd hm (hn i d e), k2⟩
def spFits : Sp := fun vs H Q _ => ∃ (d : Addr) (c : Int) (kvs : List (Key × V)) (f : Int → Bool), vs = [.ref d, .int c] ∧ H d = some (.dK kvs) ∧ KS f kvs ∧ Q (fits f c) H
theorem ok__law_fits (G : Txt K mg A) : FnOk P w K mg base CX0 1 A.a__law_fits A.fd__law_fits p__law_fits spFits := by
  refine G.f__law_fits.ok sc__law_fits (fun vs H Q E h => ?_) (fun cdv A' outer s H vs Q E hr h => ?_)
  · obtain ⟨d, c, kvs, f, rfl, _⟩ := h
    rfl
  · obtain ⟨d, c, kvs, f, rfl, hd, hf, k⟩ := h
    refine ⟨_, (pss_cons (ps_set (i := 2) sc__law_fits.nd rfl (Or.inl rfl) pe_int)
  (pss_cons (ps_for PassesOwn.never rfl (pi_range1 rfl G.b_range (pa_cons pe_int pa_nil)) (pg_name (i := 3) sc__law_fits.nd rfl (Or.inl rfl)) (pss_cons (ps_set (i := 2) sc__law_fits.nd rfl (Or.inl rfl) (pe_op op_add (pv 2) pe_int))
  (pss_cons (ps_if (pt_cmp (pc_din (hu_of hr) (pv 3) (pv 0))) (pss_one (ps_set (i := 2) sc__law_fits.nd rfl (Or.inl rfl) pe_int)) pss_nil)
  (pss_one (ps_if (pt_cmpR op_eq (pv 2) (pv 1) (nomark _)) (pss_one (ps_ret (pe_op op_add (pe_op op_sub (pv 3) (pv 1)) pe_int))) pss_nil)))))
  (pss_one (ps_ret pe_non)))), ?_⟩
    refine ⟨512, rfl, by decide, by decide, for_range (lo := 0) (n := 512) (fun i σ H' => H' = H ∧ (∃ c3, σ = [some (.ref d), some (.int c), some (.int (runN f i)), c3]) ∧ ∀ j, j < i → runN f (j + 1) ≠ c)
      ⟨rfl, ⟨_, rfl⟩, fun j hj => by omega⟩ ?_ ?_⟩
    · rintro i σ H1 hi ⟨rfl, ⟨c3, rfl⟩, hb⟩
      have ei : (0 : Int) + (i : Nat) = (i : Int) := Int.zero_add _
      rw [ei]
      refine ⟨_, rfl, _, _, rfl, rfl, ?_⟩
      refine ⟨_, rfl, _, rfl, d, _, rfl, DGet.k (k := Sum.inl (i : Int)) hd, _, rfl, ?_⟩
      rw [hf]
      have hit : runN f (i + 1) = c → Q (.int ((i : Int) - c + 1)) H1 := fun e => by
        rw [← fits_at hi e hb]
        exact k
      have miss : runN f (i + 1) ≠ c → ∀ j, j < i + 1 → runN f (j + 1) ≠ c := fun e j hj => by
        by_cases z : j = i
        · rw [z]; exact e
        · exact hb j (by omega)
      cases cf : f (i : Int) with
      | true =>
        have er : (0 : Int) = runN f (i + 1) := by unfold runN; rw [if_pos cf]
        refine iteT ⟨_, rfl, _, rfl, rfl, _, rfl, iteB (fun e => ?_) (fun e => ?_)⟩
        · exact ⟨_, rfl, _, rfl, _, _, rfl, rfl, _, _, rfl, rfl, hit (er.symm.trans (V.int.inj (of_decide_eq_true e)))⟩
        · exact ⟨rfl, ⟨_, by rw [er]; rfl⟩, miss fun z => of_decide_eq_false e (by rw [← z, ← er])⟩
      | false =>
        have er : runN f i + 1 = runN f (i + 1) := by rw [runN, if_neg (by rw [cf]; exact Bool.false_ne_true)]
        refine iteF ⟨_, rfl, _, rfl, rfl, _, rfl, iteB (fun e => ?_) (fun e => ?_)⟩
        · exact ⟨_, rfl, _, rfl, _, _, rfl, rfl, _, _, rfl, rfl, hit (er.symm.trans (V.int.inj (of_decide_eq_true e)))⟩
        · exact ⟨rfl, ⟨_, by rw [← er]; rfl⟩, miss fun z => of_decide_eq_false e (by rw [← z, ← er])⟩
    · rintro σ H1 ⟨rfl, ⟨c3, rfl⟩, hb⟩
      rw [fits_no hb] at k
      exact k
def spTop : Sp := fun vs H Q _ => ∃ (d : Addr) (kvs : List (Key × V)) (f : Int → Bool), vs = [.ref d] ∧ H d = some (.dK kvs) ∧ KS f kvs ∧ Q (.int (topN f 512)) H
theorem ok__law_widest (G : Txt K mg A) : FnOk P w K mg base CX0 1 A.a__law_widest A.fd__law_widest p__law_widest spTop := by
  refine G.f__law_widest.ok sc__law_widest (fun vs H Q E h => ?_) (fun cdv A' outer s H vs Q E hr h => ?_)
  · obtain ⟨d, kvs, f, rfl, _⟩ := h
    rfl
  · obtain ⟨d, kvs, f, rfl, hd, hf, k⟩ := h
    refine ⟨_, (pss_cons (ps_set (i := 1) sc__law_widest.nd rfl (Or.inl rfl) pe_int)
  (pss_cons (ps_set (i := 2) sc__law_widest.nd rfl (Or.inl rfl) pe_int)
  (pss_cons (ps_for PassesOwn.never rfl (pi_range1 rfl G.b_range (pa_cons pe_int pa_nil)) (pg_name (i := 3) sc__law_widest.nd rfl (Or.inl rfl)) (pss_cons (ps_set (i := 2) sc__law_widest.nd rfl (Or.inl rfl) (pe_op op_add (pv 2) pe_int))
  (pss_cons (ps_if (pt_cmp (pc_din (hu_of hr) (pv 3) (pv 0))) (pss_one (ps_set (i := 2) sc__law_widest.nd rfl (Or.inl rfl) pe_int)) pss_nil)
  (pss_one (ps_set (i := 1) sc__law_widest.nd rfl (Or.inl rfl) (pe_callB (call_max2 rfl) (by rfl) G.b_max (by decide +kernel) (pa_cons (pv 1) (pa_cons (pv 2) pa_nil))))))))
  (pss_one (ps_ret (pv 1)))))), ?_⟩
    refine ⟨512, rfl, by decide, by decide, for_range (lo := 0) (n := 512) (fun i σ H' => H' = H ∧ ∃ c3, σ = [some (.ref d), some (.int (topN f i)), some (.int (runN f i)), c3])
      ⟨rfl, ⟨_, rfl⟩⟩ ?_ ?_⟩
    · rintro i σ H1 hi ⟨rfl, ⟨c3, rfl⟩⟩
      have ei : (0 : Int) + (i : Nat) = (i : Int) := Int.zero_add _
      rw [ei]
      refine ⟨_, rfl, _, _, rfl, rfl, ?_⟩
      refine ⟨_, rfl, _, rfl, d, _, rfl, DGet.k (k := Sum.inl (i : Int)) hd, _, rfl, ?_⟩
      rw [hf]
      cases cf : f (i : Int) with
      | true =>
        have er : (0 : Int) = runN f (i + 1) := by unfold runN; rw [if_pos cf]
        refine iteT ⟨_, rfl, _, rfl, _, _, rfl, rfl, some (.int (i : Int)), ?_⟩
        rw [er]
        rfl
      | false =>
        have er : runN f i + 1 = runN f (i + 1) := by rw [runN, if_neg (by rw [cf]; exact Bool.false_ne_true)]
        refine iteF ⟨_, rfl, _, rfl, _, _, rfl, rfl, some (.int (i : Int)), ?_⟩
        dsimp only [List.set]
        rw [er]
        rfl
    · rintro σ H1 ⟨rfl, ⟨c3, rfl⟩⟩
      exact ⟨_, rfl, k⟩
end
end My

set_option Elab.async false
set_option linter.all false
set_option maxRecDepth 100000
set_option maxHeartbeats 4000000
namespace My
open PySem L2
local macro_rules | `(tactic| walk_at "ds") => `(tactic| dsimp only [tSeq, tIfS, tTest, tB, tAnd, tOr, tNot, tAndV, tOrV, tNotV, tIf, tIsN, tNotN, tOp, tUn, tChain, rI, rI0, rU, tC, tCB, tCons, tNil, tAsg, gName, gSub, tRet, tRetN, tNext, tDrop, tLst, tTup, rIxL, rIxT, rSetL, tVar, tFld, tCall, tDGet, tDIn, tDNotIn, tNever, L2.start, List.map, List.replicate, List.length, List.append, List.cons_append, List.nil_append, List.set, Nat.sub])
local macro_rules | `(tactic| walk_at "hp") => `(tactic| first | assumption | exact upd_same | (refine Eq.trans (upd_ne (by first | assumption | (apply Ne.symm; assumption))) ?_; walk_at "hp"))
local macro_rules | `(tactic| walk_at "sd") => `(tactic| first
  | (show (_ : Int) ≠ 0; omega)
  | (refine (show CDivN _ _ from ⟨?_, ?_⟩) <;> omega)
  | (show CPow _ _; refine ⟨by omega, by omega, by omega⟩)
  | (show CMul _ _; exact Or.inl ⟨by omega, by omega⟩)
  | (show CMul _ _; exact Or.inr ⟨by omega, by omega⟩))
local macro_rules | `(tactic| walk_at "st") => `(tactic| first
  | refine ⟨_, rfl, ?_⟩
  | refine ⟨_, _, rfl, rfl, (by walk_at "sd"), ?_⟩
  | refine ⟨_, _, rfl, rfl, ?_⟩
  | refine ⟨_, _, _, _, rfl, rfl, SqL.of (by walk_at "hp"), rfl, ?_⟩
  | refine ⟨_, _, _, _, rfl, rfl, (by walk_at "hp"), rfl, ?_⟩
  | refine .inl ⟨_, rfl, ?_⟩
  | refine ⟨_, _, _, _, _, rfl, (by walk_at "hp"), (by assumption), (by assumption), rfl, ?_⟩
  | refine ⟨_, _, rfl, .inl (SqL.of (by walk_at "hp")), ?_⟩)
local macro_rules | `(tactic| walk_at "go") => `(tactic| repeat (first | walk_at "st" | (walk_at "ds"; walk_at "st")))

section
variable {P : Program} {w : World} {K : PySem.W.Frag} {mg : Str → Option Value} {base : Heap} {A : Adr}
theorem mem_put {kvs : List (Key × V)} {k : Key} {v : V} {q : Key × V} (h : q ∈ putK kvs k v) : q ∈ kvs ∨ q = (k, v) := by
  unfold putK at h
  split at h
  · obtain ⟨z, hz, e⟩ := List.mem_map.mp h
    split at e
    · rename_i ek
      rw [← e, ek]
      exact .inr rfl
    · rw [← e]
      exact .inl hz
  · rcases List.mem_append.mp h with z | z
    · exact .inl z
    · exact .inr (List.mem_singleton.mp z)
theorem val_mem {kvs : List (Key × V)} {k : Key} {v : V} (h : valV kvs k = some v) : (k, v) ∈ kvs := by
  unfold valV at h
  cases e : kvs.find? (fun kv => decide (kv.1 = k)) with
  | none => rw [e] at h; cases h
  | some q =>
    rw [e] at h
    have h1 := List.find?_some e
    have h2 := List.mem_of_find?_eq_some e
    have e1 : q.1 = k := by simpa using h1
    have e2 : q.2 = v := Option.some.inj h
    rw [← e1, ← e2]
    exact h2
def spNew (A : Adr) : Sp := fun vs H Q _ => ∃ (f c : Int) (p : Addr) (r ix fl : V), vs = [.int f, .int c, .ref p] ∧ PgAt A.c_Page H p r (.bl false) .non ix fl .non ∧ 0 ≤ c ∧ c ≤ 512 ∧
  ∀ q ls H', Same H H' → H q = none → H' q = some (.dK ls) → KS (fun k => decide (f ≤ k ∧ k < f + c)) ls → (∀ kv ∈ ls, ∃ p, kv.2 = .ref p ∧ Plain A.c_Page H' p) → ls.length ≤ 512 → Q (.ref q) H'
theorem ok_new_pages (G : Txt K mg A) : FnOk P w K mg base CX0 3 A.a_new_pages A.fd_new_pages p_new_pages (spNew A) := by
  refine G.f_new_pages.ok sc_new_pages (fun vs H Q E h => ?_) (fun cdv A' outer s H vs Q E hr h => ?_)
  · obtain ⟨f, c, p, r, ix, fl, rfl, _⟩ := h
    rfl
  · obtain ⟨f, c, p, r, ix, fl, rfl, ⟨dx, hp⟩, c0, c1, k⟩ := h
    refine ⟨_, (pss_cons (ps_set (i := 3) sc_new_pages.nd rfl (Or.inl rfl) pe_dnewK)
  (pss_cons (ps_for PassesOwn.never rfl (pi_range1 rfl G.b_range (pa_cons (pv 1) pa_nil)) (pg_name (i := 4) sc_new_pages.nd rfl (Or.inl rfl)) (pss_cons (ps_set (i := 5) sc_new_pages.nd rfl (Or.inl rfl) (pe_ifExp (pt_cmpR op_isN (pe_fld (pv 2) rfl) pe_non (nomark _)) pe_non pe_nev))
  (pss_one (ps_dput (hu_of hr) (pv 3) (pe_op op_add (pv 0) (pv 4)) (pe_make G.mk_Page (ok_Page_init G) (hr.mono (by decide)) rfl G.g_Page G.bi_Page_init .nil pass0 (pa_cons (pe_fld (pv 2) rfl) (pa_cons (pe_fld (pv 2) rfl) (pa_cons (pe_fld (pv 2) rfl) (pa_cons (pv 5) (pa_cons (pe_fld (pv 2) rfl) (pa_cons (pe_fld (pv 2) rfl) pa_nil))))))) rfl))))
  (pss_one (ps_ret (pv 3))))), ?_⟩
    intro q hq
    refine ⟨_, rfl, c, rfl, by omega, by omega, for_range (lo := 0) (n := c.toNat) (fun i σ H' => (∃ c4 c5, σ = [some (.int f), some (.int c), some (.ref p), some (.ref q), c4, c5]) ∧ Same H H' ∧
        ∃ ls, H' q = some (.dK ls) ∧ KS (fun k => decide (f ≤ k ∧ k < f + (i : Nat))) ls ∧ (∀ kv ∈ ls, ∃ p, kv.2 = .ref p ∧ Plain A.c_Page H' p) ∧ ls.length ≤ i)
      ⟨⟨_, _, rfl⟩, Same.new hq, [], upd_same, fun k => (decide_eq_false (by simp only [Int.natCast_zero]; omega)).symm, fun kv h => (nomatch h), Nat.le_refl _⟩ ?_ ?_⟩
    · rintro i σ H1 hi ⟨⟨c4, c5, rfl⟩, s1, ls, l1, ks, pl, len⟩
      have ei : (0 : Int) + (i : Nat) = (i : Int) := Int.zero_add _
      rw [ei]
      have hp1 := s1 _ _ hp
      refine ⟨_, rfl, p, _, dx, _, _, rfl, hp1, G.cl_Page, G.n_Page_source, rfl, rfl, _, rfl, iteT ?_⟩
      refine ⟨_, rfl, p, _, dx, _, _, rfl, hp1, G.cl_Page, G.n_Page_rights, rfl, _, rfl, p, _, dx, _, _, rfl, hp1, G.cl_Page, G.n_Page_shared, rfl, _, rfl, p, _, dx, _, _, rfl, hp1, G.cl_Page, G.n_Page_source, rfl, _, rfl,
        _, rfl, p, _, dx, _, _, rfl, hp1, G.cl_Page, G.n_Page_flags, rfl, _, rfl, p, _, dx, _, _, rfl, hp1, G.cl_Page, G.n_Page_held, rfl, ?_⟩
      intro y dy hy hdy ne
      have hyd : (upd H1 dy (.own y)) y = none := by rw [upd_ne (Ne.symm ne)]; exact hy
      refine ⟨y, dy, _, _, _, _, _, _, rfl, upd_same, fun H2 b2 pg => ⟨rfl, ?_⟩⟩
      have s2 : Same H1 H2 := fun b o ho => by
        refine b2 b o (ne_of_none ho hy) ?_
        rw [upd_ne (ne_of_none ho hy), upd_ne (ne_of_none ho hdy)]
        exact ho
      refine ⟨_, rfl, _, rfl, _, rfl, _, _, rfl, rfl, q, _, rfl, DPut.k (k := Sum.inl (f + (i : Int))) (s2 _ _ l1) (small1000 (by omega)), ?_⟩
      have bq : But q H2 (upd H2 q (.dK (putK ls (Sum.inl (f + (i : Int))) (.ref y)))) := But.up
      refine ⟨⟨_, _, rfl⟩, fun b o ho => bq _ _ (ne_of_none ho hq) (s2 _ _ (s1 _ _ ho)), _, upd_same, fun j => ?_, fun kv hkv => ?_, ?_⟩
      · rw [valV_put]
        have ks' := ks j
        by_cases ej : j = f + (i : Int)
        · rw [if_pos (by rw [ej])]
          exact (decide_eq_true (by omega)).symm
        · rw [if_neg (fun z => ej (Sum.inl.inj z)), ks', decide_eq_decide]
          omega
      · rcases mem_put hkv with z | z
        · obtain ⟨p', e1, e2⟩ := pl kv z
          exact ⟨p', e1, (e2.same s2).but bq (s2 _ _ l1)⟩
        · rw [z]
          exact ⟨y, rfl, Plain.but ⟨_, _, _, pg⟩ bq (s2 _ _ l1)⟩
      · have := length_putK ls (Sum.inl (f + (i : Int))) (V.ref y)
        omega
    · rintro σ H1 ⟨⟨c4, c5, rfl⟩, s1, ls, l1, ks, pl, len⟩
      have ec : ((c.toNat : Nat) : Int) = c := Int.toNat_of_nonneg c0
      rw [ec] at ks
      exact ⟨_, rfl, k q ls H1 s1 hq l1 ks pl (by omega)⟩
def app (kvs ls : List (Key × V)) : List (Key × V) := ls.foldl (fun acc kv => if kv.2 = .non then dropK acc kv.1 else putK acc kv.1 kv.2) kvs
theorem length_app : ∀ (ls kvs : List (Key × V)), (app kvs ls).length ≤ kvs.length + ls.length
  | [], kvs => Nat.le_refl _
  | q :: r, kvs => by
    have ih := length_app r (if q.2 = .non then dropK kvs q.1 else putK kvs q.1 q.2)
    have h1 : (if q.2 = .non then dropK kvs q.1 else putK kvs q.1 q.2).length ≤ kvs.length + 1 := by
      split
      · exact Nat.le_trans (List.length_filter_le _ _) (Nat.le_succ _)
      · exact length_putK _ _ _
    show (app (if q.2 = .non then dropK kvs q.1 else putK kvs q.1 q.2) r).length ≤ _
    rw [List.length_cons]
    omega
theorem drop_none {kvs : List (Key × V)} {k : Key} (h : valV kvs k = none) : dropK kvs k = kvs := dropK_no fun z => by
  have e := valV_any k kvs
  rw [h] at e
  have e2 : (kvs.any fun kv => decide (kv.1 = k)) = true := by
    obtain ⟨q, hq, ek⟩ := List.mem_map.mp z
    exact List.any_eq_true.mpr ⟨q, hq, decide_eq_true ek⟩
  rw [e2] at e
  cases e
def spRepl (A : Adr) : Sp := fun vs H Q _ => ∃ (fr sl st : V) (x t : Addr) (n p o : Int) (al : List (Int × Addr)) (i : Int) (d c : Addr) (kvs ls : List (Key × V)), vs = [.ref x, .int i, .ref c] ∧ SyA A.c_System fr sl st H x t n p o al ∧ (i, d) ∈ al ∧
  H d = some (.dK kvs) ∧ (∀ kv ∈ kvs, ∃ p, kv.2 = .ref p ∧ Plain A.c_Page H p) ∧ H c = some (.dK ls) ∧ c ≠ d ∧ (∀ kv ∈ ls, kv.2 = .non ∨ ∃ p, kv.2 = .ref p ∧ Plain A.c_Page H p) ∧ kvs.length + ls.length ≤ 10000 ∧
  ∀ H', But d H H' → H' d = some (.dK (app kvs ls)) → Q .non H'
theorem ok_replace_pages (G : Txt K mg A) : FnOk P w K mg base CX0 3 A.a_replace_pages A.fd_replace_pages p_replace_pages (spRepl A) := by
  refine G.f_replace_pages.ok sc_replace_pages (fun vs H Q E h => ?_) (fun cdv A' outer s H vs Q E hr h => ?_)
  · obtain ⟨fr, sl, st, x, t, n, p, o, al, i, d, c, kvs, ls, rfl, _⟩ := h
    rfl
  · obtain ⟨fr, sl, st, x, t, n, p, o, al, i, d, c, kvs, ls, rfl, hS, hm, hd, pk, hc, ncd, pl, len, k⟩ := h
    obtain ⟨⟨dx, a, b, c', d', e, h1⟩, h2, h4, h5, h6, h7⟩ := id hS
    obtain ⟨cl, a1, a2, a3, a4, a5, a6, a7, a8, a9, a10, a11, a12⟩ := G.sysN
    refine ⟨_, (pss_cons (ps_set (i := 3) sc_replace_pages.nd rfl (Or.inr rfl) (pe_dget (hu_of hr) (pe_fld (pv 0) rfl) (pv 1) (fun _ _ => rfl)))
  (pss_cons (ps_lock (ps_setLc (i := 4) (own := [("number", 5)]) (g := gName 5) rfl sc_replace_pages.nd rfl rfl (sw_true rfl rfl rfl (by decide +kernel)) (pi_keys (pv 2)) (blkOk_by (own := [("number", 5)]) (N := n_replace_pages) (sc := defScope s_replace_pages) (by decide +kernel)) (fun _ _ _ _ _ => pg_name (i := 5) sc_replace_pages.nd rfl (Or.inl rfl)) (fun _ _ _ _ _ => pts_one (pt_cmp (pc_din (hu_of hr) (pv 5) (pv 3)))) (fun _ _ _ _ _ => pe_dget (hu_of hr) (pv 3) (pv 5) (fun _ _ => rfl))))
  (pss_cons (ps_lock (ps_for PassesOwn.never rfl (pi_values (pv 2)) (pg_name (i := 6) sc_replace_pages.nd rfl (Or.inl rfl)) (pss_one (ps_if (pt_cmpR op_notN (pv 6) pe_non (nomark _)) (pss_one (ps_expr (pe_call (ok_count_page G) (hr.mono (by decide)) rfl G.g_count_page G.k_count_page G.bi_count_page .nil pass0 (pa_cons (pv 0) (pa_cons (pv 6) pa_nil))))) pss_nil))))
  (pss_cons (ps_for PassesOwn.never rfl (pi_list (pv 4)) (pg_name (i := 6) sc_replace_pages.nd rfl (Or.inl rfl)) (pss_one (ps_expr (pe_call (ok_discount_page G) (hr.mono (by decide)) rfl G.g_discount_page G.k_discount_page G.bi_discount_page .nil pass0 (pa_cons (pv 0) (pa_cons (pv 6) pa_nil))))))
  (pss_one (ps_lock (ps_for PassesOwn.never rfl (pi_items (pv 2)) (pg_tup rfl (pgs_cons (pg_name (i := 5) sc_replace_pages.nd rfl (Or.inl rfl)) (pgs_cons (pg_name (i := 6) sc_replace_pages.nd rfl (Or.inl rfl)) pgs_nil))) (pss_one (ps_if (pt_cmpR op_notN (pv 6) pe_non (nomark _)) (pss_one (ps_dput (hu_of hr) (pv 3) (pv 5) (pv 6) rfl)) (pss_one (ps_if (pt_cmp (pc_din (hu_of hr) (pv 5) (pv 3))) (pss_one (ps_ddel (pv 3) (pv 5))) pss_nil))))))))))), ?_⟩
    have e1 := al_get h4 hm
    refine ⟨_, rfl, x, _, dx, _, _, rfl, h1, cl, a7, rfl, _, rfl, t, _, rfl, (by rw [← e1]; exact DGet.k (k := Sum.inl i) h2), ?_⟩
    refine ⟨c, _, hc, trivial, fun od => ?_⟩
    refine ⟨_, rfl, c, od, rfl, .inl ⟨ls, upd_same, fun D hD => ?_⟩⟩
    obtain ⟨nDc, hD0⟩ := upd_none hD
    have big : (10000 : Nat) < sizeLine := by decide
    refine lc_it walk_keys (fun j Z => Z c = some (.frz od (.dK ls)) ∧ (∃ xs, Z D = some (.lst xs) ∧ (∀ v ∈ xs, ∃ p, v = .ref p ∧ Plain A.c_Page H p) ∧ xs.length ≤ j) ∧ ∀ b o, b ≠ c → H b = some o → Z b = some o)
      ⟨by rw [upd_ne (Ne.symm nDc), upd_same], ⟨[], upd_same, fun v hv => (nomatch hv), Nat.le_refl _⟩, fun b o hb ho => by rw [upd_ne (ne_of_none ho hD0), upd_ne hb]; exact ho⟩ (fun j Z _ z => z.1) ?_ ?_
    · rintro j y Z _ hj ⟨z1, ⟨xs, z2, z3, z4⟩, z5⟩ ⟨rfl, key, v, hkey, rfl⟩
      refine ⟨rfl, ?_⟩
      refine ⟨_, rfl, _, rfl, d, _, rfl, DGet.k (k := key) (z5 _ _ (Ne.symm ncd) hd), _, rfl, ?_⟩
      cases ev : valV kvs key with
      | none => exact iteF ⟨z1, ⟨xs, z2, z3, by omega⟩, z5⟩
      | some u =>
        obtain ⟨p', e1, e2⟩ := pk _ (val_mem ev)
        refine iteT ⟨_, rfl, _, rfl, d, _, rfl, (by rw [← ev]; exact DGet.k (k := key) (z5 _ _ (Ne.symm ncd) hd)), _, z2, (by omega), ?_⟩
        refine ⟨by rw [upd_ne (Ne.symm nDc)]; exact z1, ⟨_, upd_same, fun v hv => ?_, by rw [List.length_append]; show xs.length + 1 ≤ _; omega⟩, fun b o hb ho => by rw [upd_ne (ne_of_none ho hD0)]; exact z5 b o hb ho⟩
        rcases List.mem_append.mp hv with z | z
        · exact z3 v z
        · rw [List.mem_singleton.mp z]
          exact ⟨p', e1, e2⟩
    · rintro Z ⟨z1, ⟨xs, z2, z3, z4⟩, z5⟩
      refine ⟨z1, ?_⟩
      generalize hH1 : upd Z c (.dK ls) = H1
      have c1 : H1 c = some (.dK ls) := by rw [← hH1, upd_same]
      have l1 : H1 D = some (.lst xs) := by rw [← hH1, upd_ne nDc]; exact z2
      have s1 : Same H H1 := fun b o ho => by
        rw [← hH1]
        by_cases eb : b = c
        · rw [eb, upd_same, ← hc, ← eb, ho]
        · rw [upd_ne eb]
          exact z5 b o eb ho
      have un : ∀ {v : HO}, upd (upd H1 c v) c (.dK ls) = H1 := fun {v} => by
        rw [upd_upd]
        funext b
        by_cases eb : b = c
        · rw [eb, upd_same, c1]
        · rw [upd_ne eb]
      -- for page in changes.values()
      refine ⟨c, _, c1, trivial, fun od2 => ⟨_, rfl, c, od2, ls, rfl, upd_same, for_it walk_values (fun j σ Z => Z = upd H1 c (.frz od2 (.dK ls)) ∧ ∃ c6, σ = [some (.ref x), some (.int i), some (.ref c), some (.ref d), some (.ref D), none, c6])
        ⟨rfl, _, rfl⟩ (fun j σ Z _ z => by rw [z.1]; exact upd_same) ?_ ?_⟩⟩
      · rintro j y σ Z _ hj ⟨rfl, c6, rfl⟩ ⟨rfl, key, hk⟩
        rcases pl (key, y) (List.mem_of_getElem? hk) with e | ⟨p', e, hp⟩
        · simp only at e
          subst e
          exact ⟨_, rfl, rfl, _, rfl, iteF ⟨rfl, _, rfl⟩⟩
        · simp only at e
          subst e
          refine ⟨_, rfl, rfl, _, rfl, iteT ⟨_, rfl, _, rfl, _, p', rfl, ?_, ⟨rfl, _, rfl⟩⟩⟩
          obtain ⟨r, ix, f, dx', e⟩ := hp.same s1
          exact ⟨r, ix, f, dx', by rw [upd_ne (ne_of e c1 (by intro z; cases z))]; exact e⟩
      · rintro σ Z ⟨rfl, c6, rfl⟩
        refine ⟨upd_same, ?_⟩
        rw [un]
        -- for page in replaced
        refine ⟨_, rfl, D, rfl, ⟨_, SqL.of l1⟩, for_list (K := K) (a := D) (xs := xs) (fun j σ Z => Z = H1 ∧ ∃ c6, σ = [some (.ref x), some (.int i), some (.ref c), some (.ref d), some (.ref D), none, c6]) ⟨rfl, _, rfl⟩ (fun j σ Z _ z => by rw [z.1]; exact SqL.of l1) ?_ ?_⟩
        · rintro j y σ Z hy ⟨rfl, c6, rfl⟩
          obtain ⟨p', rfl, hp⟩ := z3 y (List.mem_of_getElem? hy)
          exact ⟨_, rfl, _, rfl, _, p', rfl, hp.same s1, ⟨rfl, _, rfl⟩⟩
        · rintro σ Z ⟨rfl, c6, rfl⟩
          -- for number, page in changes.items()
          refine ⟨c, _, c1, trivial, fun od3 => ⟨_, rfl, c, od3, ls, rfl, upd_same, for_it walk_items (fun j σ Z' => (∃ c5 c6, σ = [some (.ref x), some (.int i), some (.ref c), some (.ref d), some (.ref D), c5, c6]) ∧ Z' c = some (.frz od3 (.dK ls)) ∧ Z' d = some (.dK (app kvs (ls.take j))) ∧ ∀ b o, b ≠ c → b ≠ d → H b = some o → Z' b = some o)
            ⟨⟨_, _, rfl⟩, upd_same, by rw [upd_ne (Ne.symm ncd)]; exact s1 _ _ hd, fun b o h1 h2 ho => by rw [upd_ne h1]; exact s1 _ _ ho⟩ (fun j σ Z' _ z => z.2.1) ?_ ?_⟩⟩
          · rintro j y σ Z1 Z2 hj ⟨⟨c5, c6, rfl⟩, z1, z2, z5⟩ ⟨T, k0, v0, rfl, hT, rfl, hk0, hv0⟩
            obtain ⟨⟨key, v⟩, hkv⟩ : ∃ q, ls[j]? = some q := ⟨ls[j], List.getElem?_eq_getElem hj⟩
            have hk1 : some (kV key) = some k0 := by have h := hk0; simp only [hkv] at h; exact h
            have hv1 : some v = some v0 := by have h := hv0; simp only [hkv] at h; exact h
            have hk2 := Option.some.inj hk1
            have hv2 := Option.some.inj hv1
            subst hk2 hv2
            have at1 : app kvs (ls.take (j + 1)) = if v = .non then dropK (app kvs (ls.take j)) key else putK (app kvs (ls.take j)) key v := by
              unfold app
              rw [List.take_succ, hkv, List.foldl_append]
              rfl
            have lena : (app kvs (ls.take j)).length ≤ kvs.length + ls.length := by
              have h := length_app (ls.take j) kvs
              have h2 : (ls.take j).length ≤ ls.length := by rw [List.length_take]; omega
              omega
            refine ⟨T, _, rfl, SqT.of upd_same, rfl, _, _, rfl, _, _, rfl, rfl, ?_⟩
            have nT : ∀ {b : Addr} {o : HO}, Z1 b = some o → b ≠ T := fun h => ne_of_none h hT
            have y1 : (upd Z1 T (.tup [kV key, v])) d = some (.dK (app kvs (ls.take j))) := by rw [upd_ne (nT z2)]; exact z2
            have yc : (upd Z1 T (.tup [kV key, v])) c = some (.frz od3 (.dK ls)) := by rw [upd_ne (nT z1)]; exact z1
            have y5 : ∀ b o, b ≠ c → b ≠ d → H b = some o → (upd Z1 T (.tup [kV key, v])) b = some o := fun b o h1 h2 ho => by
              have h := z5 b o h1 h2 ho
              rw [upd_ne (nT h)]
              exact h
            rcases pl (key, v) (List.mem_of_getElem? hkv) with e | ⟨p', e, hp⟩
            · simp only at e
              subst e
              rw [if_pos rfl] at at1
              refine ⟨_, rfl, rfl, _, rfl, iteF ⟨_, rfl, _, rfl, d, _, rfl, DGet.k (k := key) y1, _, rfl, ?_⟩⟩
              cases ev : valV (app kvs (ls.take j)) key with
              | none =>
                refine iteF ⟨⟨_, _, rfl⟩, yc, ?_, y5⟩
                rw [at1, drop_none ev]
                exact y1
              | some u =>
                refine iteT ⟨_, rfl, _, rfl, d, _, key, rfl, y1, rfl, (by rw [ev]; rfl), ⟨⟨_, _, rfl⟩, by rw [upd_ne ncd]; exact yc, ?_, fun b o h1 h2 ho => by rw [upd_ne h2]; exact y5 b o h1 h2 ho⟩⟩
                rw [at1, upd_same]
            · simp only at e
              subst e
              rw [if_neg (by simp)] at at1
              refine ⟨_, rfl, rfl, _, rfl, iteT ⟨_, rfl, _, rfl, _, rfl, d, _, rfl, DPut.k (k := key) y1 (by omega), ⟨⟨_, _, rfl⟩, by rw [upd_ne ncd]; exact yc, ?_, fun b o h1 h2 ho => by rw [upd_ne h2]; exact y5 b o h1 h2 ho⟩⟩⟩
              rw [at1, upd_same]
          · rintro σ Z1 ⟨⟨c5, c6, rfl⟩, z1, z2, z5⟩
            rw [List.take_length] at z2
            refine ⟨z1, k _ (fun b o hb ho => ?_) (by rw [upd_ne (Ne.symm ncd)]; exact z2)⟩
            by_cases eb : b = c
            · rw [eb, upd_same, ← hc, ← eb, ho]
            · rw [upd_ne eb]
              exact z5 b o eb hb ho
end
end My

set_option Elab.async false
set_option linter.all false
set_option maxRecDepth 100000
set_option maxHeartbeats 4000000
namespace My
open PySem L2
local macro_rules | `(tactic| walk_at "ds") => `(tactic| dsimp only [tSeq, tIfS, tTest, tB, tAnd, tOr, tNot, tAndV, tOrV, tNotV, tIf, tIsN, tNotN, tOp, tUn, tChain, rI, rI0, rU, tC, tCB, tCons, tNil, tAsg, gName, gSub, tRet, tRetN, tNext, tDrop, tLst, tTup, rIxL, rIxT, rSetL, tVar, tFld, tCall, tDGet, tDIn, tDNotIn, tNever, L2.start, List.map, List.replicate, List.length, List.append, List.cons_append, List.nil_append, List.set, Nat.sub])
local macro_rules | `(tactic| walk_at "hp") => `(tactic| first | assumption | exact upd_same | (refine Eq.trans (upd_ne (by first | assumption | (apply Ne.symm; assumption))) ?_; walk_at "hp"))
local macro_rules | `(tactic| walk_at "sd") => `(tactic| first
  | (show (_ : Int) ≠ 0; omega)
  | (refine (show CDivN _ _ from ⟨?_, ?_⟩) <;> omega)
  | (show CPow _ _; refine ⟨by omega, by omega, by omega⟩)
  | (show CMul _ _; exact Or.inl ⟨by omega, by omega⟩)
  | (show CMul _ _; exact Or.inr ⟨by omega, by omega⟩))
local macro_rules | `(tactic| walk_at "st") => `(tactic| first
  | refine ⟨_, rfl, ?_⟩
  | refine ⟨_, _, rfl, rfl, (by walk_at "sd"), ?_⟩
  | refine ⟨_, _, rfl, rfl, ?_⟩
  | refine ⟨_, _, _, _, rfl, rfl, SqL.of (by walk_at "hp"), rfl, ?_⟩
  | refine ⟨_, _, _, _, rfl, rfl, (by walk_at "hp"), rfl, ?_⟩
  | refine .inl ⟨_, rfl, ?_⟩
  | refine ⟨_, _, _, _, _, rfl, (by walk_at "hp"), (by assumption), (by assumption), rfl, ?_⟩
  | refine ⟨_, _, rfl, .inl (SqL.of (by walk_at "hp")), ?_⟩)
local macro_rules | `(tactic| walk_at "go") => `(tactic| repeat (first | walk_at "st" | (walk_at "ds"; walk_at "st")))

section
variable {P : Program} {w : World} {K : PySem.W.Frag} {mg : Str → Option Value} {base : Heap} {A : Adr}
theorem NoPg.same {H H1 : Hp} {pt : Str} {E : XK} (h : NoPg A H pt E) (s : Same H H1) : NoPg A H1 pt E := fun d H' s' hd e => h d H' (s.trans s') (s.free hd) e
theorem val_drop (k j : Key) : ∀ kvs : List (Key × V), valV (dropK kvs k) j = if j = k then none else valV kvs j
  | [] => by
    show valV ([] : List (Key × V)) j = _
    split <;> rfl
  | q :: r => by
    have ih := val_drop k j r
    unfold dropK at ih ⊢
    rw [List.filter_cons]
    by_cases e : q.1 = k
    · rw [if_neg (by simp [e]), ih]
      by_cases z : j = k
      · rw [if_pos z, if_pos z]
      · rw [if_neg z, if_neg z, valV_neg (fun y => z (y.symm.trans e))]
    · rw [if_pos (by simp [e])]
      by_cases z : q.1 = j
      · rw [valV_pos z, if_neg (fun y => e (z.trans y)), valV_pos z]
      · rw [valV_neg z, ih]
        by_cases y : j = k
        · rw [if_pos y, if_pos y]
        · rw [if_neg y, if_neg y, valV_neg z]
theorem app_put : ∀ (ls kvs : List (Key × V)) (k : Key), (∀ kv ∈ ls, kv.2 ≠ .non) → (valV (app kvs ls) k).isSome = ((valV kvs k).isSome || (valV ls k).isSome)
  | [], kvs, k, _ => by show (valV kvs k).isSome = _; simp [valV_nil]
  | q :: r, kvs, k, h => by
    have ih := app_put r (putK kvs q.1 q.2) k fun kv hkv => h kv (List.mem_cons_of_mem _ hkv)
    have e : app kvs (q :: r) = app (putK kvs q.1 q.2) r := by
      show app (if q.2 = .non then dropK kvs q.1 else putK kvs q.1 q.2) r = _
      rw [if_neg (h q List.mem_cons_self)]
    rw [e, ih, valV_put]
    by_cases z : k = q.1
    · rw [if_pos z, valV_pos z.symm]
      simp
    · rw [if_neg z, valV_neg (fun y => z y.symm)]
theorem app_drop : ∀ (ls kvs : List (Key × V)) (k : Key), (∀ kv ∈ ls, kv.2 = .non) → (valV (app kvs ls) k).isSome = ((valV kvs k).isSome && !(valV ls k).isSome)
  | [], kvs, k, _ => by show (valV kvs k).isSome = _; simp [valV_nil]
  | q :: r, kvs, k, h => by
    have ih := app_drop r (dropK kvs q.1) k fun kv hkv => h kv (List.mem_cons_of_mem _ hkv)
    have e : app kvs (q :: r) = app (dropK kvs q.1) r := by
      show app (if q.2 = .non then dropK kvs q.1 else putK kvs q.1 q.2) r = _
      rw [if_pos (h q List.mem_cons_self)]
    rw [e, ih, val_drop]
    by_cases z : k = q.1
    · rw [if_pos z, valV_pos z.symm]
      simp
    · rw [if_neg z, valV_neg (fun y => z y.symm)]
theorem mem_app : ∀ {ls kvs : List (Key × V)} {q : Key × V}, q ∈ app kvs ls → q ∈ kvs ∨ (q ∈ ls ∧ q.2 ≠ .non)
  | [], kvs, q, h => .inl h
  | u :: r, kvs, q, h => by
    have h' : q ∈ app (if u.2 = .non then dropK kvs u.1 else putK kvs u.1 u.2) r := h
    rcases mem_app h' with z | ⟨z1, z2⟩
    · split at z
      · exact .inl (List.mem_filter.mp z).1
      · rename_i hu
        rcases mem_put z with y | y
        · exact .inl y
        · exact .inr ⟨by rw [y]; exact List.mem_cons_self, by rw [y]; exact hu⟩
    · exact .inr ⟨List.mem_cons_of_mem _ z1, z2⟩
/-- a dict comprehension over a walk -/
theorem dc_walk {J : It} {n : Nat} {G : Hp → Prop} {Y : Nat → Hp → V → Hp → Prop} (w : Walk J n G Y) {g : TG} {tt : TT} {tk tv : TE} {vs : List Nat} {σ : St} {H1 : Hp} {D : Addr} {Qd : Hp → Prop} (Pv : Nat → Hp → Prop) (start : Pv 0 (upd H1 D (.dK [])))
    (stands : ∀ i H, i ≤ n → Pv i H → G H) (turn : ∀ i x H H', i < n → Pv i H → Y i H x H' → g x (wipe σ vs) H' fun σ2 H2 => wipe σ2 vs = wipe σ vs ∧ tt σ2 H2 fun b H3 =>
      if b = true then tk σ2 H3 fun y H4 => tv σ2 H4 fun z H5 => ∃ kvs k, y = kV k ∧ H5 D = some (.dK kvs) ∧ kvs.length < sizeLine ∧ Pv (i + 1) (upd H5 D (.dK (putK kvs k z))) else Pv (i + 1) H3) (done_ : ∀ H, Pv n H → Qd H) :
    ∃ W : Nat → Nat → Hp → Prop, (∃ m, W 0 m (upd H1 D (.dK []))) ∧ ∀ i m H, W i m H → (J.stop i H ∧ Qd H) ∨ (J.go i H ∧ ∃ Nx : Hp → Prop, (∀ H', Nx H' → ∃ m', m' < m ∧ W (i + 1) m' H') ∧ ∀ x H', J.yld i H x H' → g x (wipe σ vs) H' fun σ2 H2 => wipe σ2 vs = wipe σ vs ∧ tt σ2 H2 fun b H3 =>
      if b = true then tk σ2 H3 fun y H4 => tv σ2 H4 fun z H5 => ∃ kvs k, y = kV k ∧ H5 D = some (.dK kvs) ∧ kvs.length < sizeLine ∧ Nx (upd H5 D (.dK (putK kvs k z))) else Nx H3) := by
  refine ⟨fun i m H => i + m = n ∧ Pv i H, ⟨n, Nat.zero_add n, start⟩, fun i m H ⟨e, pv'⟩ => ?_⟩
  have st := stands i H (by omega) pv'
  cases m with
  | zero =>
    have ei : i = n := by omega
    subst ei
    exact .inl ⟨w.stops H st, done_ H pv'⟩
  | succ m =>
    have lt : i < n := by omega
    exact .inr ⟨w.goes i H lt st, Pv (i + 1), fun H' z => ⟨m, Nat.lt_succ_self m, by omega, z⟩, fun x H' y => turn i x H H' lt pv' (w.yields i H x H' lt st y)⟩
def placeV (f : Int → Bool) (c : Int) (at_ : V) : V := if at_ = .non then fits f c else at_
theorem fits_any (f : Int → Bool) (c : Int) (H : Hp) : AnyV H (fits f c) ∧ (fits f c = .non ∨ ∃ i, fits f c = .int i) := by
  unfold fits
  split
  · exact ⟨.int _, .inr ⟨_, rfl⟩⟩
  · exact ⟨.non, .inl rfl⟩
def spPlace (A : Adr) : Sp := fun vs H Q E => ∃ (d : Addr) (c : Int) (at_ : V) (kvs : List (Key × V)) (f : Int → Bool), vs = [.ref d, .int c, at_] ∧ H d = some (.dK kvs) ∧ KS f kvs ∧ (at_ = .non ∨ ∃ i, at_ = .int i) ∧
  (inR 0 (512 - c) (placeV f c at_) = true → ∀ H', Same H H' → Q (placeV f c at_) H') ∧ (inR 0 (512 - c) (placeV f c at_) = false → NoPg A H "at" E)
theorem ok_place_for (G : Txt K mg A) : FnOk P w K mg base (L2.CX P w) 4 A.a_place_for A.fd_place_for p_place_for (spPlace A) := by
  refine G.f_place_for.okX sc_place_for (fun vs H Q E h => ?_) (fun cdv A' outer s H vs Q E hr h => ?_)
  · obtain ⟨d, c, at_, kvs, f, rfl, _⟩ := h
    rfl
  · obtain ⟨d, c, at_, kvs, f, rfl, hd, hf, ha, k1, k2⟩ := h
    refine ⟨_, (pss_cons (ps_set (i := 3) sc_place_for.nd rfl (Or.inl rfl) (pe_ifExp (pt_cmpR op_isN (pv 2) pe_non (nomark _)) (pe_call (ok_lowest_gap G) (hr.mono (by decide)) rfl G.g_lowest_gap G.k_lowest_gap G.bi_lowest_gap .nil pass0 (pa_cons (pv 0) (pa_cons (pv 1) pa_nil))) (pv 2)))
  (pss_cons (ps_expr (pe_call (ok_require G) (hr.mono (by decide)) rfl G.g_require G.k_require G.bi_require .nil (passes_call (takes_of rfl rfl rfl rfl) (fun _ _ _ _ z => z)) (pa_cons (pe_call (ok_is_integer G) (hr.mono (by decide)) rfl G.g_is_integer G.k_is_integer G.bi_is_integer .nil pass0 (pa_cons (pv 3) (pa_cons pe_int (pa_cons (pe_op op_sub (pe_glob (v := .int 512) rfl G.g_PAGES ⟨_, rfl⟩) (pv 1)) pa_nil)))) (pa_cons pe_str pa_nil))))
  (pss_one (ps_ret (pv 3))))), ?_⟩
    refine ⟨_, rfl, rfl, _, rfl, ?_⟩
    rcases ha with rfl | ⟨i, rfl⟩
    · rw [decide_eq_true rfl]
      refine iteT ⟨_, rfl, _, rfl, d, c, kvs, f, rfl, hd, hf, fun H1 s1 => ?_⟩
      have e : placeV f c .non = fits f c := if_pos rfl
      rw [e] at k1 k2
      refine ⟨_, rfl, _, rfl, _, _, rfl, rfl, _, 0, 512 - c, rfl, (fits_any f c H1).1, inR 0 (512 - c) (fits f c), _, rfl, fun z => ⟨_, rfl, k1 z H1 s1⟩, fun z => (k2 z).same s1⟩
    · rw [decide_eq_false (by simp)]
      have e : placeV f c (.int i) = .int i := if_neg (by simp)
      rw [e] at k1 k2
      exact iteF ⟨_, rfl, _, rfl, _, rfl, _, _, rfl, rfl, _, 0, 512 - c, rfl, .int i, inR 0 (512 - c) (.int i), _, rfl, fun z => ⟨_, rfl, k1 z H (Same.refl H)⟩, fun z => k2 z⟩
def spUnmap (A : Adr) : Sp := fun vs H Q E => ∃ (fr sl st : V) (x t : Addr) (n p o : Int) (al : List (Int × Addr)) (i f c : Int) (d : Addr) (kvs : List (Key × V)) (g : Int → Bool), vs = [.ref x, .int i, .int f, .int c] ∧ SyA A.c_System fr sl st H x t n p o al ∧ (i, d) ∈ al ∧
  H d = some (.dK kvs) ∧ (∀ kv ∈ kvs, ∃ p, kv.2 = .ref p ∧ Plain A.c_Page H p) ∧ KS g kvs ∧ kvs.length ≤ 9000 ∧ t ≠ d ∧ 0 ≤ f ∧ f ≤ 511 ∧ 1 ≤ c ∧ c ≤ 512 - f ∧
  ∀ H' kvs', (∀ b o, b ≠ x → b ≠ d → H b = some o → H' b = some o) → SyA A.c_System fr sl st H' x t (n + 1) p o al → H' d = some (.dK kvs') → (∀ kv ∈ kvs', ∃ p, kv.2 = .ref p ∧ Plain A.c_Page H' p) → KS (fun k => g k && !decide (f ≤ k ∧ k < f + c)) kvs' → kvs'.length ≤ kvs.length + 512 → Q .non H'
theorem ok_unmap (G : Txt K mg A) : FnOk P w K mg base (L2.CX P w) 5 A.a_unmap A.fd_unmap p_unmap (spUnmap A) := by
  refine G.f_unmap.okX sc_unmap (fun vs H Q E h => ?_) (fun cdv A' outer s H vs Q E hr h => ?_)
  · obtain ⟨fr, sl, st, x, t, n, p, o, al, i, f, c, d, kvs, g, rfl, _⟩ := h
    rfl
  · obtain ⟨fr, sl, st, x, t, n, p, o, al, i, f, c, d, kvs, g, rfl, hS, hm, hd, pk, ks, len, ntd, f0, f1, c0, c1, k⟩ := h
    refine ⟨_, (pss_cons (ps_set (i := 4) sc_unmap.nd rfl (Or.inr rfl) (pe_call (ok_table_of G) (hr.mono (by decide)) rfl G.g_table_of G.k_table_of G.bi_table_of .nil (passes_call (takes_of rfl rfl rfl rfl) (fun _ _ _ _ z => z)) (pa_cons (pv 0) (pa_cons (pv 1) pa_nil))))
  (pss_cons (ps_set (i := 5) sc_unmap.nd rfl (Or.inl rfl) (pe_call (ok_numbers_of G) (hr.mono (by decide)) rfl G.g_numbers_of G.k_numbers_of G.bi_numbers_of .nil (passes_call (takes_of rfl rfl rfl rfl) (fun _ _ _ _ z => z)) (pa_cons (pv 2) (pa_cons (pv 3) pa_nil))))
  (pss_cons (ps_expr (pe_call (ok_replace_pages G) (hr.mono (by decide)) rfl G.g_replace_pages G.k_replace_pages G.bi_replace_pages .nil pass0 (pa_cons (pv 0) (pa_cons (pv 1) (pa_cons (pe_dc rfl sc_unmap.nd (pi_list (pv 5)) (blkOk_by (own := [("number", 6)]) (N := n_unmap) (sc := defScope s_unmap) (by decide +kernel)) (fun _ _ _ _ _ => pg_name (i := 6) sc_unmap.nd rfl (Or.inl rfl)) (fun _ _ _ _ _ => pts_one (pt_cmp (pc_din (hu_of hr) (pv 6) (pv 4)))) (fun _ _ _ _ _ => pv 6) (fun _ _ _ _ _ => pe_non)) pa_nil)))))
  (pss_one (ps_expr (pe_call (ok_end_step G) (hr.mono (by decide)) rfl G.g_end_step G.k_end_step G.bi_end_step .nil pass0 (pa_cons (pv 0) pa_nil))))))), ?_⟩
    obtain ⟨⟨dx, a, b, c', d', e', h1⟩, _⟩ := id hS
    refine ⟨_, rfl, _, rfl, fr, sl, st, x, t, n, p, o, al, .int i, rfl, hS, .int i, fun j d2 e hm2 => ?_, fun z => absurd hm (z i d rfl)⟩
    have e2 : d2 = d := by
      obtain ⟨_, _, h4, _⟩ := id hS
      have y1 := al_get h4 hm
      have y2 := al_get h4 hm2
      rw [← V.int.inj e] at y2
      exact V.ref.inj (Option.some.inj (y2.symm.trans y1))
    subst e2
    refine ⟨_, rfl, _, rfl, f, c, rfl, f0, f1, c0, c1, fun q hq => ?_⟩
    have s1 := Same.new (o := .lst (rgV f (f + c))) hq
    refine ⟨_, rfl, _, rfl, _, rfl, q, rfl, ⟨_, SqL.of upd_same⟩, fun D hD => ?_⟩
    have big : (10000 : Nat) < sizeLine := by decide
    have hq1 : (upd H q (.lst (rgV f (f + c)))) q = some (.lst (rgV f (f + c))) := upd_same
    generalize hH1 : upd H q (.lst (rgV f (f + c))) = H1 at *
    have rl : (rgV f (f + c)).length = c.toNat := by rw [rgV_length]; congr 1; omega
    have hd1 := s1 _ _ hd
    refine dc_walk (walk_list (K := K) (a := q) (xs := rgV f (f + c))) (fun j Z => Same H1 Z ∧ ∃ ls, Z D = some (.dK ls) ∧ (∀ kv ∈ ls, kv.2 = .non) ∧ ls.length ≤ j ∧ ∀ k : Int, (valV ls (Sum.inl k)).isSome = (g k && decide (f ≤ k ∧ k < f + (j : Nat))))
      ⟨Same.new hD, [], upd_same, fun kv h => (nomatch h), Nat.le_refl _, fun k => ?_⟩ (fun j Z _ z => SqL.of (z.1 _ _ hq1)) ?_ ?_
    · rw [decide_eq_false (by simp only [Int.natCast_zero]; omega), Bool.and_false]
      rfl
    · rintro j y Z _ hj ⟨sz, ls, z1, z2, z3, z4⟩ ⟨rfl, hy⟩
      have ey : y = .int (f + (j : Nat)) := by
        unfold rgV at hy
        rw [rgV_length] at hj
        rw [List.getElem?_map, List.getElem?_range hj] at hy
        exact (Option.some.inj hy).symm
      subst ey
      refine ⟨rfl, ?_⟩
      refine ⟨_, rfl, _, rfl, _, _, rfl, DGet.k (k := Sum.inl (f + (j : Nat))) (sz _ _ hd1), _, rfl, ?_⟩
      rw [ks]
      cases cg : g (f + (j : Nat)) with
      | false =>
        refine iteF ⟨sz, ls, z1, z2, by omega, fun k => ?_⟩
        rw [z4]
        by_cases ek : k = f + (j : Nat)
        · rw [ek, cg]
          rfl
        · congr 1
          rw [decide_eq_decide]
          omega
      | true =>
        refine iteT ⟨_, rfl, ls, Sum.inl (f + (j : Nat)), rfl, z1, by rw [rl] at hj; omega, fun b o ho => ?_, _, upd_same, fun kv hkv => ?_, ?_, fun k => ?_⟩
        · rw [upd_ne (ne_of_none ho hD)]
          exact sz _ _ ho
        · rcases mem_put hkv with z | z
          · exact z2 kv z
          · rw [z]
        · have := length_putK ls (Sum.inl (f + (j : Nat))) V.non
          omega
        · rw [valV_put]
          by_cases ek : k = f + (j : Nat)
          · rw [if_pos (by rw [ek]), ek, cg, decide_eq_true (by omega)]
            rfl
          · rw [if_neg (fun z => ek (Sum.inl.inj z)), z4]
            congr 1
            rw [decide_eq_decide]
            omega
    · rintro Z ⟨sz, ls, z1, z2, z3, z4⟩
      rw [rl] at z3 z4
      have ec : ((c.toNat : Nat) : Int) = c := Int.toNat_of_nonneg (by omega)
      rw [ec] at z4
      have s2 := s1.trans sz
      have nD : D ≠ d2 := (ne_of_none hd1 hD).symm
      refine ⟨fr, sl, st, x, t, n, p, o, al, i, d2, D, kvs, ls, rfl, hS.same s2, hm, s2 _ _ hd, fun kv h => ?_, z1, nD, fun kv h => .inl (z2 kv h), by omega, fun H' b' e' => ?_⟩
      · obtain ⟨p', e1, e2⟩ := pk kv h
        exact ⟨p', e1, e2.same s2⟩
      have nx : x ≠ d2 := ne_of h1 hd (by intro z; cases z)
      refine ⟨_, rfl, fr, sl, st, x, t, n, p, o, al, rfl, (hS.same s2).but b' nx ntd, fun H'' b'' S'' => k H'' (app kvs ls) (fun b o h1 h2 ho => b'' _ _ h1 (b' _ _ h2 (s2 _ _ ho))) S'' (b'' _ _ (Ne.symm nx) e') (fun kv hkv => ?_) (fun k' => ?_) ?_⟩
      · rcases mem_app hkv with z | ⟨z, z'⟩
        · obtain ⟨p', e1, e2⟩ := pk kv z
          obtain ⟨r, ix, fl, dx', e3⟩ := (e2.same s2).but b' (s2 _ _ hd)
          refine ⟨p', e1, r, ix, fl, dx', b'' _ _ (fun e => ?_) e3⟩
          obtain ⟨⟨dxs, as, bs, cs, ds, es, hx⟩, _⟩ := (hS.same s2).but b' nx ntd
          rw [e, hx] at e3
          have := congrArg (fun o => match o with | some (HO.ins _ _ fs) => fs.length | _ => 0) e3
          simp [sysF, pageF] at this
        · exact absurd (z2 kv z) z'
      · rw [app_drop ls kvs _ z2, ks, z4]
        show _ = (g k' && !decide (f ≤ k' ∧ k' < f + c))
        cases g k' <;> cases decide (f ≤ k' ∧ k' < f + c) <;> rfl
      · have := length_app ls kvs
        omega
end
end My

set_option Elab.async false
set_option linter.all false
set_option maxRecDepth 100000
set_option maxHeartbeats 4000000
namespace My
open PySem L2
local macro_rules | `(tactic| walk_at "ds") => `(tactic| dsimp only [tSeq, tIfS, tTest, tB, tAnd, tOr, tNot, tAndV, tOrV, tNotV, tIf, tIsN, tNotN, tOp, tUn, tChain, rI, rI0, rU, tC, tCB, tCons, tNil, tAsg, gName, gSub, tRet, tRetN, tNext, tDrop, tLst, tTup, rIxL, rIxT, rSetL, tVar, tFld, tCall, tDGet, tDIn, tDNotIn, tNever, L2.start, List.map, List.replicate, List.length, List.append, List.cons_append, List.nil_append, List.set, Nat.sub])
local macro_rules | `(tactic| walk_at "hp") => `(tactic| first | assumption | exact upd_same | (refine Eq.trans (upd_ne (by first | assumption | (apply Ne.symm; assumption))) ?_; walk_at "hp"))
local macro_rules | `(tactic| walk_at "sd") => `(tactic| first
  | (show (_ : Int) ≠ 0; omega)
  | (refine (show CDivN _ _ from ⟨?_, ?_⟩) <;> omega)
  | (show CPow _ _; refine ⟨by omega, by omega, by omega⟩)
  | (show CMul _ _; exact Or.inl ⟨by omega, by omega⟩)
  | (show CMul _ _; exact Or.inr ⟨by omega, by omega⟩))
local macro_rules | `(tactic| walk_at "st") => `(tactic| first
  | refine ⟨_, rfl, ?_⟩
  | refine ⟨_, _, rfl, rfl, (by walk_at "sd"), ?_⟩
  | refine ⟨_, _, rfl, rfl, ?_⟩
  | refine ⟨_, _, _, _, rfl, rfl, SqL.of (by walk_at "hp"), rfl, ?_⟩
  | refine ⟨_, _, _, _, rfl, rfl, (by walk_at "hp"), rfl, ?_⟩
  | refine .inl ⟨_, rfl, ?_⟩
  | refine ⟨_, _, _, _, _, rfl, (by walk_at "hp"), (by assumption), (by assumption), rfl, ?_⟩
  | refine ⟨_, _, rfl, .inl (SqL.of (by walk_at "hp")), ?_⟩)
local macro_rules | `(tactic| walk_at "go") => `(tactic| repeat (first | walk_at "st" | (walk_at "ds"; walk_at "st")))

section
variable {P : Program} {w : World} {K : PySem.W.Frag} {mg : Str → Option Value} {base : Heap} {A : Adr}
/-- a table: its pages are plain, its keys those of g -/
structure Tab (A : Adr) (H : Hp) (d : Addr) (kvs : List (Key × V)) (g : Int → Bool) : Prop where
  at_ : H d = some (.dK kvs)
  pl : ∀ kv ∈ kvs, ∃ p, kv.2 = .ref p ∧ Plain A.c_Page H p
  ks : KS g kvs
theorem Tab.same {H H' : Hp} {d : Addr} {kvs : List (Key × V)} {g : Int → Bool} (h : Tab A H d kvs g) (s : Same H H') : Tab A H' d kvs g :=
  ⟨s _ _ h.at_, fun kv hkv => let ⟨p, e1, e2⟩ := h.pl kv hkv; ⟨p, e1, e2.same s⟩, h.ks⟩
/-- behind a write to the system -/
theorem plain_sys {fr sl st : V} {H H' : Hp} {x t p CS CP : Addr} {n q o : Int} {al : List (Int × Addr)} (h : Plain CP H p) (b : But x H H') (S : SyA CS fr sl st H x t n q o al) : Plain CP H' p := by
  obtain ⟨r, ix, fl, dx', e3⟩ := h
  refine ⟨r, ix, fl, dx', b _ _ (fun e => ?_) e3⟩
  obtain ⟨⟨dxs, as, bs, cs, ds, es, hx⟩, _⟩ := S
  rw [e, hx] at e3
  have := congrArg (fun o => match o with | some (HO.ins _ _ fs) => fs.length | _ => 0) e3
  simp [sysF, pageF] at this
def spMap (A : Adr) : Sp := fun vs H Q E => ∃ (fr sl : V) (x t : Addr) (n p o : Int) (al : List (Int × Addr)) (i : Int) (cnt at_ : V) (d : Addr) (kvs : List (Key × V)) (g : Int → Bool), vs = [.ref x, .int i, cnt, .str "rw", .bl false, .non, .int 0, at_] ∧
  SyA A.c_System fr sl (.bl false) H x t n p o al ∧ (i, d) ∈ al ∧ AnyV H cnt ∧ (at_ = .non ∨ ∃ i, at_ = .int i) ∧ Tab A H d kvs g ∧ kvs.length ≤ 9000 ∧ t ≠ d ∧ (inR 1 512 cnt = false → NoPg A H "count" E) ∧
  ∀ c, cnt = .int c → 1 ≤ c → c ≤ 512 → (inR 0 (512 - c) (placeV g c at_) = false → NoPg A H "at" E) ∧
    ∀ r, placeV g c at_ = .int r → 0 ≤ r → r ≤ 512 - c → ∀ H' kvs', (∀ b o, b ≠ x → b ≠ d → H b = some o → H' b = some o) → SyA A.c_System fr sl (.bl false) H' x t (n + 1) p o al →
      Tab A H' d kvs' (fun k => g k || decide (r ≤ k ∧ k < r + c)) → kvs'.length ≤ kvs.length + 512 → Q (.int r) H'
theorem ok_map_pages (G : Txt K mg A) : FnOk P w K mg base (L2.CX P w) 5 A.a_map_pages A.fd_map_pages p_map_pages (spMap A) := by
  refine G.f_map_pages.ok sc_map_pages (fun vs H Q E h => ?_) (fun cdv A' outer s H vs Q E hr h => ?_)
  · obtain ⟨fr, sl, x, t, n, p, o, al, i, cnt, at_, d, kvs, g, rfl, _⟩ := h
    rfl
  · obtain ⟨fr, sl, x, t, n, p, o, al, i, cnt, at_, d, kvs, g, rfl, hS, hm, hc, ha, T, len, ntd, k1, k2⟩ := h
    refine ⟨_, (pss_cons (ps_set (i := 8) sc_map_pages.nd rfl (Or.inl rfl) (pe_call (ok_table_of G) (hr.mono (by decide)) rfl G.g_table_of G.k_table_of G.bi_table_of .nil (passes_call (takes_of rfl rfl rfl rfl) (fun _ _ _ _ z => z)) (pa_cons (pv 0) (pa_cons (pv 1) pa_nil))))
  (pss_cons (ps_expr (pe_call (ok_require G) (hr.mono (by decide)) rfl G.g_require G.k_require G.bi_require .nil (passes_call (takes_of rfl rfl rfl rfl) (fun _ _ _ _ z => z)) (pa_cons (pe_call (ok_is_integer G) (hr.mono (by decide)) rfl G.g_is_integer G.k_is_integer G.bi_is_integer .nil pass0 (pa_cons (pv 2) (pa_cons pe_int (pa_cons (pe_glob (v := .int 512) rfl G.g_PAGES ⟨_, rfl⟩) pa_nil)))) (pa_cons pe_str pa_nil))))
  (pss_cons (ps_expr (pe_call (ok_require G) (hr.mono (by decide)) rfl G.g_require G.k_require G.bi_require .nil (passes_call (takes_of rfl rfl rfl rfl) (fun _ _ _ _ z => z)) (pa_cons (pe_call (ok_is_word G) (hr.mono (by decide)) rfl G.g_is_word G.k_is_word G.bi_is_word .nil pass0 (pa_cons (pv 3) (pa_cons (pe_glob (v := .ref A.o_RIGHTS) rfl G.g_RIGHTS rfl) pa_nil))) (pa_cons pe_str pa_nil))))
  (pss_cons (ps_expr (pe_call (ok_require G) (hr.mono (by decide)) rfl G.g_require G.k_require G.bi_require .nil (passes_call (takes_of rfl rfl rfl rfl) (fun _ _ _ _ z => z)) (pa_cons (pe_callB call_isi (by rfl) G.b_isinstance (by decide +kernel) (pa_cons (pv 4) (pa_cons (pe_bltn (v := .ty "bool") (u := .type "bool") (by rfl) G.b_bool (by decide +kernel) rfl) pa_nil))) (pa_cons pe_str pa_nil))))
  (pss_cons (ps_expr (pe_call (ok_require_source G) (hr.mono (by decide)) rfl G.g_require_source G.k_require_source G.bi_require_source .nil (passes_call (takes_of rfl rfl rfl rfl) (fun _ _ _ _ z => z)) (pa_cons (pv 0) (pa_cons (pv 5) (pa_cons (pv 4) pa_nil)))))
  (pss_cons (ps_expr (pe_call (ok_require G) (hr.mono (by decide)) rfl G.g_require G.k_require G.bi_require .nil (passes_call (takes_of rfl rfl rfl rfl) (fun _ _ _ _ z => z)) (pa_cons (pe_call (ok_is_integer G) (hr.mono (by decide)) rfl G.g_is_integer G.k_is_integer G.bi_is_integer .nil pass0 (pa_cons (pv 6) (pa_cons pe_int (pa_cons (pe_ifExp (pt_cmpR op_isN (pv 5) pe_non (nomark _)) pe_int (pe_op op_sub (pe_glob (v := .int 512) rfl G.g_PAGES ⟨_, rfl⟩) (pv 2))) pa_nil)))) (pa_cons pe_str pa_nil))))
  (pss_cons (ps_set (i := 9) sc_map_pages.nd rfl (Or.inl rfl) (pe_call (ok_place_for G) (hr.mono (by decide)) rfl G.g_place_for G.k_place_for G.bi_place_for .nil (passes_call (takes_of rfl rfl rfl rfl) (fun _ _ _ _ z => z)) (pa_cons (pv 8) (pa_cons (pv 2) (pa_cons (pv 7) pa_nil)))))
  (pss_cons (ps_set (i := 10) sc_map_pages.nd rfl (Or.inl rfl) (pe_and (pv 4) (pe_one (pe_cmp (pc_isN (pv 5)) rfl))))
  (pss_cons (ps_set (i := 11) sc_map_pages.nd rfl (Or.inl rfl) (pe_ifExp (pt_val (pv 10)) pe_nev (pv 5)))
  (pss_cons (ps_set (i := 12) sc_map_pages.nd rfl (Or.inl rfl) (pe_call (ok_new_pages G) (hr.mono (by decide)) rfl G.g_new_pages G.k_new_pages G.bi_new_pages .nil pass0 (pa_cons (pv 9) (pa_cons (pv 2) (pa_cons (pe_make G.mk_Page (ok_Page_init G) (hr.mono (by decide)) rfl G.g_Page G.bi_Page_init .nil pass0 (pa_cons (pv 3) (pa_cons (pv 4) (pa_cons (pv 11) (pa_cons (pv 6) (pa_cons (pe_tup pa_nil) (pa_cons pe_non pa_nil))))))) pa_nil)))))
  (pss_cons (ps_expr (pe_call (ok_require_charge G) (hr.mono (by decide)) rfl G.g_require_charge G.k_require_charge G.bi_require_charge .nil (passes_call (takes_of rfl rfl rfl rfl) (fun _ _ _ _ z => z)) (pa_cons (pv 0) (pa_cons (pv 1) (pa_cons (pe_star2 (pv 8) (pv 12)) pa_nil)))))
  (pss_cons (ps_if (pt_val (pv 10)) (pss_one ps_never) pss_nil)
  (pss_cons (ps_expr (pe_call (ok_replace_pages G) (hr.mono (by decide)) rfl G.g_replace_pages G.k_replace_pages G.bi_replace_pages .nil pass0 (pa_cons (pv 0) (pa_cons (pv 1) (pa_cons (pv 12) pa_nil)))))
  (pss_cons (ps_expr (pe_call (ok_end_step G) (hr.mono (by decide)) rfl G.g_end_step G.k_end_step G.bi_end_step .nil pass0 (pa_cons (pv 0) pa_nil)))
  (pss_one (ps_ret (pv 9))))))))))))))))), ?_⟩
    obtain ⟨⟨dx, a, b, c', d', e', h1⟩, _⟩ := id hS
    refine ⟨_, rfl, _, rfl, fr, sl, .bl false, x, t, n, p, o, al, .int i, rfl, hS, .int i, fun j d2 e hm2 => ?_, fun z => absurd hm (z i d rfl)⟩
    have e2 : d2 = d := by
      obtain ⟨_, _, h4, _⟩ := id hS
      have y1 := al_get h4 hm
      have y2 := al_get h4 hm2
      rw [← V.int.inj e] at y2
      exact V.ref.inj (Option.some.inj (y2.symm.trans y1))
    subst e2
    refine ⟨_, rfl, cnt, 1, 512, rfl, hc, inR 1 512 cnt, _, rfl, fun z => ?_, k1⟩
    obtain ⟨c, rfl⟩ : ∃ c, cnt = V.int c := by cases cnt <;> first | exact ⟨_, rfl⟩ | (cases z; done)
    have z' := of_decide_eq_true z
    obtain ⟨k3, k4⟩ := k2 c rfl z'.1 z'.2
    -- rights
    refine ⟨_, rfl, _, A.o_RIGHTS, _, rfl, rights_at G, by decide +kernel, ?_⟩
    refine ⟨true, _, rfl, fun _ => ?_, fun z => by cases z⟩
    -- shared
    refine ⟨_, rfl, .bl false, .ty "bool", .type "bool", .type "bool", true, rfl, .ty "bool", .base (.bl false), kit_ty (by decide +kernel), true, _, rfl, fun _ => ?_, fun z => by cases z⟩
    -- source
    refine ⟨_, rfl, _, rfl, _, rfl, _, _, rfl, ?_⟩
    -- index
    refine ⟨_, rfl, _, rfl, rfl, _, rfl, iteT ⟨.int 0, 0, 0, rfl, .int 0, inR 0 0 (.int 0), _, rfl, fun _ => ?_, fun z => absurd z (by decide)⟩⟩
    -- first
    refine ⟨_, rfl, _, rfl, _, rfl, d2, c, at_, kvs, g, rfl, T.at_, T.ks, ha, fun zr H1 s1 => ?_, k3⟩
    obtain ⟨r, er⟩ : ∃ r, placeV g c at_ = V.int r := by
      cases e3 : placeV g c at_ <;> first | exact ⟨_, rfl⟩ | (rw [e3] at zr; cases zr; done)
    rw [er] at zr ⊢
    have zr' := of_decide_eq_true zr
    have k5 := k4 r er zr'.1 zr'.2
    clear k1 k2 k3 k4 zr
    -- makes_object, shows
    refine ⟨_, rfl, _, rfl, iteF ⟨_, rfl, _, rfl, iteF ⟨_, rfl, ?_⟩⟩⟩
    -- pages
    refine ⟨_, rfl, _, rfl, _, rfl, _, rfl, _, rfl, _, rfl, Nat.zero_le _, fun q0 hq0 => ?_⟩
    intro y dy hy hdy ne
    have s2 := s1.trans (Same.new (o := .tup []) hq0)
    refine ⟨y, dy, _, _, _, _, _, _, rfl, upd_same, fun H2 b2 pg => ⟨rfl, ?_⟩⟩
    have s3 : Same H H2 := s2.trans fun b o ho => by
      refine b2 b o (ne_of_none ho hy) ?_
      rw [upd_ne (ne_of_none ho hy), upd_ne (ne_of_none ho hdy)]
      exact ho
    refine ⟨r, c, y, _, _, _, rfl, pg, by omega, by omega, fun q ls H3 s4 hq l3 ks3 pl3 len3 => ?_⟩
    have s5 := s3.trans s4
    have T3 := T.same s5
    have S3 := hS.same s5
    have nq : q ≠ d2 := (ne_of_none (s3 _ _ T.at_) hq).symm
    have big : (10000 : Nat) ≤ sizeLine := by decide
    -- the charge
    refine ⟨_, rfl, _, rfl, fun u hu => ?_⟩
    have nd : d2 ≠ u := ne_of_none T3.at_ hu
    have nqu : q ≠ u := ne_of_none l3 hu
    refine ⟨_, rfl, d2, kvs, rfl, nd, by rw [upd_ne nd]; exact T3.at_, upd_same, _, rfl, q, ls, rfl, nqu, by rw [upd_ne nqu, upd_ne nqu]; exact l3, upd_same, by omega, ?_⟩
    rw [upd_upd, upd_upd]
    have s6 := Same.new (o := .dK (mergeK (mergeK [] kvs) ls)) hu
    refine ⟨fr, sl, x, t, n, p, o, al, _, _, rfl, S3.same s6, ?_⟩
    refine ⟨_, rfl, _, rfl, iteF ?_⟩
    -- replaced
    have T4 := T3.same s6
    have S4 := S3.same s6
    generalize hH4 : upd H3 u (.dK (mergeK (mergeK [] kvs) ls)) = H4 at *
    have l4 := s6 _ _ l3
    have pl4 : ∀ kv ∈ ls, ∃ p, kv.2 = .ref p ∧ Plain A.c_Page H4 p := fun kv hkv => let ⟨p, e1, e2⟩ := pl3 kv hkv; ⟨p, e1, e2.same s6⟩
    refine ⟨_, rfl, _, rfl, _, rfl, fr, sl, .bl false, x, t, n, p, o, al, i, d2, q, kvs, ls, rfl, S4, hm, T4.at_, T4.pl, l4, nq, fun kv h => .inr (pl4 kv h), by omega, fun H5 b5 e5 => ?_⟩
    have nx : x ≠ d2 := ne_of h1 T.at_ (by intro z; cases z)
    have S5 := S4.but b5 nx ntd
    refine ⟨_, rfl, fr, sl, _, x, t, n, p, o, al, rfl, S5, fun H6 b6 S6 => ⟨_, rfl, k5 H6 (app kvs ls) (fun b o h1 h2 ho => b6 _ _ h1 (b5 _ _ h2 (s6 _ _ (s5 _ _ ho)))) S6 ⟨b6 _ _ (Ne.symm nx) e5, fun kv hkv => ?_, fun k' => ?_⟩ ?_⟩⟩
    · have mv : ∃ p, kv.2 = .ref p ∧ Plain A.c_Page H4 p := by
        rcases mem_app hkv with z | ⟨z, _⟩
        · exact T4.pl kv z
        · exact pl4 kv z
      obtain ⟨p', e1, e2⟩ := mv
      exact ⟨p', e1, plain_sys (e2.but b5 T4.at_) b6 S5⟩
    · rw [app_put ls kvs _ (fun kv hkv => by obtain ⟨p', e1, _⟩ := pl3 kv hkv; rw [e1]; simp), T4.ks, ks3]
    · have := length_app ls kvs
      omega
end
end My

set_option Elab.async false
set_option linter.all false
set_option maxRecDepth 100000
set_option maxHeartbeats 4000000
namespace My
open PySem L2
local macro_rules | `(tactic| walk_at "ds") => `(tactic| dsimp only [tSeq, tIfS, tTest, tB, tAnd, tOr, tNot, tAndV, tOrV, tNotV, tIf, tIsN, tNotN, tOp, tUn, tChain, rI, rI0, rU, tC, tCB, tCons, tNil, tAsg, gName, gSub, tRet, tRetN, tNext, tDrop, tLst, tTup, rIxL, rIxT, rSetL, tVar, tFld, tCall, tDGet, tDIn, tDNotIn, tNever, L2.start, List.map, List.replicate, List.length, List.append, List.cons_append, List.nil_append, List.set, Nat.sub])
local macro_rules | `(tactic| walk_at "hp") => `(tactic| first | assumption | exact upd_same | (refine Eq.trans (upd_ne (by first | assumption | (apply Ne.symm; assumption))) ?_; walk_at "hp"))
local macro_rules | `(tactic| walk_at "sd") => `(tactic| first
  | (show (_ : Int) ≠ 0; omega)
  | (refine (show CDivN _ _ from ⟨?_, ?_⟩) <;> omega)
  | (show CPow _ _; refine ⟨by omega, by omega, by omega⟩)
  | (show CMul _ _; exact Or.inl ⟨by omega, by omega⟩)
  | (show CMul _ _; exact Or.inr ⟨by omega, by omega⟩))
local macro_rules | `(tactic| walk_at "st") => `(tactic| first
  | refine ⟨_, rfl, ?_⟩
  | refine ⟨_, _, rfl, rfl, (by walk_at "sd"), ?_⟩
  | refine ⟨_, _, rfl, rfl, ?_⟩
  | refine ⟨_, _, _, _, rfl, rfl, SqL.of (by walk_at "hp"), rfl, ?_⟩
  | refine ⟨_, _, _, _, rfl, rfl, (by walk_at "hp"), rfl, ?_⟩
  | refine .inl ⟨_, rfl, ?_⟩
  | refine ⟨_, _, _, _, _, rfl, (by walk_at "hp"), (by assumption), (by assumption), rfl, ?_⟩
  | refine ⟨_, _, rfl, .inl (SqL.of (by walk_at "hp")), ?_⟩)
local macro_rules | `(tactic| walk_at "go") => `(tactic| repeat (first | walk_at "st" | (walk_at "ds"; walk_at "st")))

/-! ### System(..) -/
def okP (hi lo : Int) (v : V) : Bool := decide (v = .non) || inR lo hi v
def badP (fr sl st : V) : Option Str :=
  if okP 64 1 fr = false then some "frames" else if okP 256 0 sl = false then some "slots" else if isB st = false ∨ (st = .bl true ∧ (fr = .non ∨ sl = .non)) then some "strict" else none
section
variable {P : Program} {w : World} {K : PySem.W.Frag} {mg : Str → Option Value} {base : Heap} {A : Adr}
/-- self.f = e, the new fields written out -/
theorem sf_dict {C x dx : Addr} {fs : List (Str × V)} {fs' : Addr → List (Str × V)} {H : Hp} {D : Ends} {σ : St} {f : Str} (cl : Cls K C) (na : NoAttr K C f) (h0 : σ[0]? = some (some (.ref x)))
    (hx : H x = some (.ins C dx fs)) (hl : fs.length < 1000) (he : ∀ q, putF f (.ref q) fs = fs' q) (k : ∀ q H', H q = none → But x H H' → H' q = some (.dK []) → H' x = some (.ins C dx (fs' q)) → D.nx σ H') : sFld K (tVar 0) tDNewK f D σ H := by
  intro q hq
  have nq : x ≠ q := ne_of_none hx hq
  refine ⟨_, h0, x, C, dx, fs, rfl, (by rw [upd_ne nq]; exact hx), cl, na, hl, k q _ hq (fun b o hb ho => ?_) ?_ (by rw [he, upd_same])⟩
  · rw [upd_ne hb, upd_ne (ne_of_none ho hq)]
    exact ho
  · rw [upd_ne (Ne.symm nq), upd_same]
theorem sf_list {C x dx : Addr} {fs : List (Str × V)} {fs' : Addr → List (Str × V)} {H : Hp} {D : Ends} {σ : St} {f : Str} (cl : Cls K C) (na : NoAttr K C f) (h0 : σ[0]? = some (some (.ref x)))
    (hx : H x = some (.ins C dx fs)) (hl : fs.length < 1000) (he : ∀ q, putF f (.ref q) fs = fs' q) (k : ∀ q H', H q = none → But x H H' → H' x = some (.ins C dx (fs' q)) → D.nx σ H') : sFld K (tVar 0) (tLst tNil) f D σ H := by
  refine ⟨Nat.zero_le _, fun q hq => ?_⟩
  have nq : x ≠ q := ne_of_none hx hq
  refine ⟨_, h0, x, C, dx, fs, rfl, (by rw [upd_ne nq]; exact hx), cl, na, hl, k q _ hq (fun b o hb ho => ?_) (by rw [he, upd_same])⟩
  rw [upd_ne hb, upd_ne (ne_of_none ho hq)]
  exact ho
theorem if_raise {c : TT} {t : TS} {D : Ends} {σ : St} {H : Hp} (b : Bool) (hc : ∀ Q : Bool → Hp → Prop, Q b H → c σ H Q) (h1 : b = true → t D σ H) (h2 : b = false → D.nx σ H) : tIfS c t tNext D σ H :=
  hc _ (by
    cases b with
    | true => exact iteT (h1 rfl)
    | false => exact iteF (h2 rfl))
def spInit (A : Adr) : Sp := fun vs H Q E => ∃ (x dx : Addr) (fr sl st : V), vs = [.ref x, fr, sl, st] ∧ AnyV H fr ∧ AnyV H sl ∧ AnyV H st ∧ H x = some (.ins A.c_System dx []) ∧
  (badP fr sl st = none → ∀ H' t, (∀ b o, b ≠ x → H b = some o → H' b = some o) → H t = none → SyA A.c_System fr sl st H' x t 0 0 0 [] → Q .non H') ∧
  ∀ pt, badP fr sl st = some pt → ∀ d H', Same H H' → H d = none → H' d = some (.xd [("part", .str pt)]) → E (.ref A.c_NoSystem) (some d) H'
theorem ok_System_init (G : Txt K mg A) : FnOk P w K mg base (L2.CX P w) 3 A.a_System_init A.fd_System_init p_System_init (spInit A) := by
  refine G.f_System_init.ok sc_System_init (fun vs H Q E h => ?_) (fun cdv A' outer s H vs Q E hr h => ?_)
  · obtain ⟨x, dx, fr, sl, st, rfl, _⟩ := h
    rfl
  · obtain ⟨x, dx, fr, sl, st, rfl, hf, hs, ht, hx, k1, k2⟩ := h
    obtain ⟨cl, a1, a2, a3, a4, a5, a6, a7, a8, a9, a10, a11, a12⟩ := G.sysN
    refine ⟨_, (pss_cons (ps_if (PW.pt (pw_and (pt_cmpR op_notN (pv 1) pe_non (nomark _)) (pw_and1 (pt_not (pt_val (pe_call (ok_is_integer G) (hr.mono (by decide)) rfl G.g_is_integer G.k_is_integer G.bi_is_integer .nil pass0 (pa_cons (pv 1) (pa_cons pe_int (pa_cons pe_int pa_nil))))))))) (pss_one (ps_raise rfl (takes_of rfl rfl rfl rfl) (pmk_oex G.x_NoSystem G.xi_NoSystem G.xt_NoSystem (ok_NoSystem_init G) (hr.mono (by decide)) G.bi_NoSystem_init .nil pass0 rfl G.g_NoSystem (pa_cons pe_str pa_nil)))) pss_nil)
  (pss_cons (ps_if (PW.pt (pw_and (pt_cmpR op_notN (pv 2) pe_non (nomark _)) (pw_and1 (pt_not (pt_val (pe_call (ok_is_integer G) (hr.mono (by decide)) rfl G.g_is_integer G.k_is_integer G.bi_is_integer .nil pass0 (pa_cons (pv 2) (pa_cons pe_int (pa_cons pe_int pa_nil))))))))) (pss_one (ps_raise rfl (takes_of rfl rfl rfl rfl) (pmk_oex G.x_NoSystem G.xi_NoSystem G.xt_NoSystem (ok_NoSystem_init G) (hr.mono (by decide)) G.bi_NoSystem_init .nil pass0 rfl G.g_NoSystem (pa_cons pe_str pa_nil)))) pss_nil)
  (pss_cons (ps_if (PW.pt (pw_or (pt_not (pt_val (pe_callB call_isi (by rfl) G.b_isinstance (by decide +kernel) (pa_cons (pv 3) (pa_cons (pe_bltn (v := .ty "bool") (u := .type "bool") (by rfl) G.b_bool (by decide +kernel) rfl) pa_nil))))) (pw_or1 (PW.pt (pw_and (pt_val (pv 3)) (pw_and1 (PW.pt (pw_or (pt_cmpR op_isN (pv 1) pe_non (nomark _)) (pw_or1 (pt_cmpR op_isN (pv 2) pe_non (nomark _))))))))))) (pss_one (ps_raise rfl (takes_of rfl rfl rfl rfl) (pmk_oex G.x_NoSystem G.xi_NoSystem G.xt_NoSystem (ok_NoSystem_init G) (hr.mono (by decide)) G.bi_NoSystem_init .nil pass0 rfl G.g_NoSystem (pa_cons pe_str pa_nil)))) pss_nil)
  (pss_cons (ps_fld (pv 0) (pv 1) rfl)
  (pss_cons (ps_fld (pv 0) (pv 2) rfl)
  (pss_cons (ps_fld (pv 0) (pv 3) rfl)
  (pss_cons (ps_fld (pv 0) pe_int rfl)
  (pss_cons (ps_fld (pv 0) pe_int rfl)
  (pss_cons (ps_fld (pv 0) pe_int rfl)
  (pss_cons (ps_fld (pv 0) pe_dnewK rfl)
  (pss_cons (ps_fld (pv 0) pe_dnewK rfl)
  (pss_cons (ps_fld (pv 0) pe_dnewK rfl)
  (pss_cons (ps_fld (pv 0) pe_dnewK rfl)
  (pss_cons (ps_fld (pv 0) pe_dnewK rfl)
  (pss_one (ps_fld (pv 0) (pe_lst pa_nil) rfl)))))))))))))))), ?_⟩
    have fin : ∀ pt : Str, badP fr sl st = some pt → tMkO A.c_NoSystem (spXi K "part") [] (tCons (tC (.str pt)) tNil) (L2.start n_System_init [V.ref x, fr, sl, st]) H (fun cls d H' => E cls d H') := fun pt hp =>
      ⟨(by show 1 ≤ 1000; decide), fun a ha => xi_done G.x_NoSystem G.xn_NoSystem ha fun d H' s0 d0 e0 => k2 pt hp d H' s0 d0 e0⟩
    refine if_raise (!(okP 64 1 fr)) (fun Q q => ?_) (fun e => ?_) (fun e => ?_)
    · refine ⟨_, rfl, rfl, _, rfl, ?_⟩
      by_cases c : fr = .non
      · rw [decide_eq_true c]
        refine iteF ?_
        have z : okP 64 1 fr = true := by unfold okP; rw [decide_eq_true c]; rfl
        rw [z] at q
        exact q
      · rw [decide_eq_false c]
        refine iteT ⟨_, rfl, fr, 1, 64, rfl, hf, _, rfl, ?_⟩
        have z : okP 64 1 fr = inR 1 64 fr := by unfold okP; rw [decide_eq_false c]; rfl
        rw [z] at q
        exact q
    · exact fin _ (if_pos (by simpa using e))
    have eF : ¬ (okP 64 1 fr = false) := by simpa using e
    dsimp only
    refine if_raise (!(okP 256 0 sl)) (fun Q q => ?_) (fun e => ?_) (fun e => ?_)
    · refine ⟨_, rfl, rfl, _, rfl, ?_⟩
      by_cases c : sl = .non
      · rw [decide_eq_true c]
        refine iteF ?_
        have z : okP 256 0 sl = true := by unfold okP; rw [decide_eq_true c]; rfl
        rw [z] at q
        exact q
      · rw [decide_eq_false c]
        refine iteT ⟨_, rfl, sl, 0, 256, rfl, hs, _, rfl, ?_⟩
        have z : okP 256 0 sl = inR 0 256 sl := by unfold okP; rw [decide_eq_false c]; rfl
        rw [z] at q
        exact q
    · exact fin _ ((if_neg eF).trans (if_pos (by simpa using e)))
    have eS : ¬ (okP 256 0 sl = false) := by simpa using e
    obtain ⟨ty, q1, q2, q3⟩ := ht.ty (K := K)
    dsimp only
    refine if_raise (decide (isB st = false ∨ (st = .bl true ∧ (fr = .non ∨ sl = .non)))) (fun Q q => ?_) (fun e => ?_) (fun e => ?_)
    · refine ⟨_, rfl, st, .ty "bool", _, _, _, rfl, .ty "bool", q1, q3, _, rfl, ?_⟩
      cases cb : isB st with
      | false =>
        refine iteT ?_
        have z : decide (isB st = false ∨ (st = .bl true ∧ (fr = .non ∨ sl = .non))) = true := decide_eq_true (.inl cb)
        rw [z] at q
        exact q
      | true =>
        refine iteF ?_
        obtain ⟨k, rfl⟩ : ∃ k, st = V.bl k := by cases st <;> first | exact ⟨_, rfl⟩ | (cases cb; done)
        refine ⟨_, rfl, _, rfl, ?_⟩
        cases k with
        | false =>
          refine iteF ?_
          have z : decide (isB (.bl false) = false ∨ (V.bl false = .bl true ∧ (fr = .non ∨ sl = .non))) = false := decide_eq_false (by simp [isB])
          rw [z] at q
          exact q
        | true =>
          refine iteT ⟨_, rfl, rfl, _, rfl, ?_⟩
          by_cases c : fr = .non
          · rw [decide_eq_true c]
            refine iteT ?_
            have z : decide (isB (.bl true) = false ∨ (V.bl true = .bl true ∧ (fr = .non ∨ sl = .non))) = true := decide_eq_true (by simp [c])
            rw [z] at q
            exact q
          · rw [decide_eq_false c]
            refine iteF ⟨_, rfl, rfl, _, rfl, ?_⟩
            have z : decide (isB (.bl true) = false ∨ (V.bl true = .bl true ∧ (fr = .non ∨ sl = .non))) = decide (sl = .non) := by simp [isB, c]
            rw [z] at q
            exact q
    · exact fin _ ((if_neg eF).trans ((if_neg eS).trans (if_pos (of_decide_eq_true e))))
    have eT := of_decide_eq_false e
    have bad0 : badP fr sl st = none := (if_neg eF).trans ((if_neg eS).trans (if_neg eT))
    have k1 := k1 bad0
    have v1 : ∀ {j : Nat} {v : V} {H : Hp}, (L2.start n_System_init [V.ref x, fr, sl, st])[j]? = some (some v) → ∀ Q : VK, Q v H → tVar j (L2.start n_System_init [V.ref x, fr, sl, st]) H Q := fun h Q q => ⟨_, h, q⟩
    dsimp only
    refine sf_val (fs := []) (fs' := [("frames", fr)]) (v1 (j := 1) rfl) cl a1 rfl hx (by show 0 < 1000; decide) rfl (fun H1 b1 n1 e1 => ?_)
    dsimp only
    refine sf_val (fs := [("frames", fr)]) (fs' := [("frames", fr), ("slots", sl)]) (v1 (j := 2) rfl) cl a2 rfl e1 (by show 1 < 1000; decide) rfl (fun H2 b2 n2 e2 => ?_)
    dsimp only
    refine sf_val (fs := [("frames", fr), ("slots", sl)]) (fs' := [("frames", fr), ("slots", sl), ("strict", st)]) (v1 (j := 3) rfl) cl a3 rfl e2 (by show 2 < 1000; decide) rfl (fun H3 b3 n3 e3 => ?_)
    dsimp only
    refine sf_val (fs := [("frames", fr), ("slots", sl), ("strict", st)]) (fs' := [("frames", fr), ("slots", sl), ("strict", st), ("steps_made", .int 0)]) (fun Q q => q) cl a4 rfl e3 (by show 3 < 1000; decide) rfl (fun H4 b4 n4 e4 => ?_)
    dsimp only
    refine sf_val (fs := [("frames", fr), ("slots", sl), ("strict", st), ("steps_made", .int 0)]) (fs' := [("frames", fr), ("slots", sl), ("strict", st), ("steps_made", .int 0), ("processes_made", .int 0)]) (fun Q q => q) cl a5 rfl e4 (by show 4 < 1000; decide) rfl (fun H5 b5 n5 e5 => ?_)
    dsimp only
    refine sf_val (fs := [("frames", fr), ("slots", sl), ("strict", st), ("steps_made", .int 0), ("processes_made", .int 0)]) (fs' := [("frames", fr), ("slots", sl), ("strict", st), ("steps_made", .int 0), ("processes_made", .int 0), ("objects_made", .int 0)]) (fun Q q => q) cl a6 rfl e5 (by show 5 < 1000; decide) rfl (fun H6 b6 n6 e6 => ?_)
    dsimp only
    refine sf_dict (fs := [("frames", fr), ("slots", sl), ("strict", st), ("steps_made", .int 0), ("processes_made", .int 0), ("objects_made", .int 0)]) (fs' := fun q6 => [("frames", fr), ("slots", sl), ("strict", st), ("steps_made", .int 0), ("processes_made", .int 0), ("objects_made", .int 0), ("tables", .ref q6)]) cl a7 rfl e6 (by show 6 < 1000; decide) (fun _ => rfl) (fun q6 H7 z7 b7 d7 e7 => ?_)
    dsimp only
    refine sf_dict (fs := [("frames", fr), ("slots", sl), ("strict", st), ("steps_made", .int 0), ("processes_made", .int 0), ("objects_made", .int 0), ("tables", .ref q6)]) (fs' := fun q7 => [("frames", fr), ("slots", sl), ("strict", st), ("steps_made", .int 0), ("processes_made", .int 0), ("objects_made", .int 0), ("tables", .ref q6), ("objects", .ref q7)]) cl a8 rfl e7 (by show 7 < 1000; decide) (fun _ => rfl) (fun q7 H8 z8 b8 d8 e8 => ?_)
    dsimp only
    refine sf_dict (fs := [("frames", fr), ("slots", sl), ("strict", st), ("steps_made", .int 0), ("processes_made", .int 0), ("objects_made", .int 0), ("tables", .ref q6), ("objects", .ref q7)]) (fs' := fun q8 => [("frames", fr), ("slots", sl), ("strict", st), ("steps_made", .int 0), ("processes_made", .int 0), ("objects_made", .int 0), ("tables", .ref q6), ("objects", .ref q7), ("object_pages", .ref q8)]) cl a9 rfl e8 (by show 8 < 1000; decide) (fun _ => rfl) (fun q8 H9 z9 b9 d9 e9 => ?_)
    dsimp only
    refine sf_dict (fs := [("frames", fr), ("slots", sl), ("strict", st), ("steps_made", .int 0), ("processes_made", .int 0), ("objects_made", .int 0), ("tables", .ref q6), ("objects", .ref q7), ("object_pages", .ref q8)]) (fs' := fun q9 => [("frames", fr), ("slots", sl), ("strict", st), ("steps_made", .int 0), ("processes_made", .int 0), ("objects_made", .int 0), ("tables", .ref q6), ("objects", .ref q7), ("object_pages", .ref q8), ("files", .ref q9)]) cl a10 rfl e9 (by show 9 < 1000; decide) (fun _ => rfl) (fun q9 H10 z10 b10 d10 e10 => ?_)
    dsimp only
    refine sf_dict (fs := [("frames", fr), ("slots", sl), ("strict", st), ("steps_made", .int 0), ("processes_made", .int 0), ("objects_made", .int 0), ("tables", .ref q6), ("objects", .ref q7), ("object_pages", .ref q8), ("files", .ref q9)]) (fs' := fun q10 => [("frames", fr), ("slots", sl), ("strict", st), ("steps_made", .int 0), ("processes_made", .int 0), ("objects_made", .int 0), ("tables", .ref q6), ("objects", .ref q7), ("object_pages", .ref q8), ("files", .ref q9), ("classes", .ref q10)]) cl a11 rfl e10 (by show 10 < 1000; decide) (fun _ => rfl) (fun q10 H11 z11 b11 d11 e11 => ?_)
    dsimp only
    refine sf_list (fs := [("frames", fr), ("slots", sl), ("strict", st), ("steps_made", .int 0), ("processes_made", .int 0), ("objects_made", .int 0), ("tables", .ref q6), ("objects", .ref q7), ("object_pages", .ref q8), ("files", .ref q9), ("classes", .ref q10)]) (fs' := fun q11 => [("frames", fr), ("slots", sl), ("strict", st), ("steps_made", .int 0), ("processes_made", .int 0), ("objects_made", .int 0), ("tables", .ref q6), ("objects", .ref q7), ("object_pages", .ref q8), ("files", .ref q9), ("classes", .ref q10), ("touches", .ref q11)]) cl a12 rfl e11 (by show 11 < 1000; decide) (fun _ => rfl) (fun q11 H12 z12 b12 e12 => ?_)
    have t0 : H q6 = none := by
      have m6 : q6 ≠ x := (ne_of_none e6 z7).symm
      rw [← n1 _ m6, ← n2 _ m6, ← n3 _ m6, ← n4 _ m6, ← n5 _ m6, ← n6 _ m6]
      exact z7
    have m6 : q6 ≠ x := (ne_of_none e6 z7).symm
    have bb := b1.trans (b2.trans (b3.trans (b4.trans (b5.trans (b6.trans (b7.trans (b8.trans (b9.trans (b10.trans (b11.trans b12))))))))))
    exact k1 H12 q6 bb t0 ⟨⟨dx, q7, q8, q9, q10, q11, e12⟩, (b8.trans (b9.trans (b10.trans (b11.trans b12)))) _ _ m6 d7, .nil, fun q hq => (nomatch hq), Int.le_refl _, Nat.zero_le _⟩
def spWell : Sp := fun vs H Q _ => ∃ n : Int, vs = [.int n] ∧ ∀ (a : Addr) (H' : Hp), H a = none → Same H H' → WellAt H' a 0 → Q (.ref a) H'
theorem ok__law_well (G : Txt K mg A) : FnOk P w K mg base CX0 1 A.a__law_well A.fd__law_well p__law_well spWell := by
  refine G.f__law_well.ok sc__law_well (fun vs H Q E h => ?_) (fun cdv A' outer s H vs Q E hr h => ?_)
  · obtain ⟨n, rfl, _⟩ := h
    rfl
  · obtain ⟨n, rfl, k⟩ := h
    refine ⟨_, (pss_one (ps_ret (pe_lst (pa_cons (pe_op op_mul (pv 0) (pe_callTy call_int1 (by rfl) G.b_int (by decide +kernel) (pa_cons (pe_cmpR op_ge (pv 0) (pe_op op_pow pe_int pe_int) (nomark _)) pa_nil))) (pa_cons (pe_op op_modN (pe_callTy call_int1 (by rfl) G.b_int (by decide +kernel) (pa_cons (pv 0) pa_nil)) pe_int) (pa_cons pe_int pa_nil)))))), ?_⟩
    walk_at "go"
    walk_at "ds"
    refine .inr ⟨_, rfl, n, _, rfl, rfl, Or.inr (by split <;> decide), _, rfl, .inl ⟨_, rfl, _, _, rfl, rfl, by decide, by decide, fun p hp => ?_⟩⟩
    refine k p _ hp (Same.new hp) ⟨_, _, _, upd_same, ?_, (fm (by decide)).1, (fm (by decide)).2, Int.le_refl _, Int.le_refl _, by decide⟩
    by_cases c : (10 : Int) ^ Int.toNat 18 ≤ n
    · rw [decide_eq_true c, if_pos rfl, Int.mul_one]
      exact Int.le_trans (by decide) c
    · rw [decide_eq_false c, if_neg Bool.false_ne_true, Int.mul_zero]
      exact Int.le_refl _
end
/-! ### what is said: a lambda that is asked, its error told as a tuple -/
theorem takes_len {X : Cx} {W : WX} (tk : Takes X W) : Takes X (fun c d σ H => σ.length = X.N.length → W c d σ H) := fun u s' air => by
  obtain ⟨a, B, sI, pins, σ, H, cls, d, e, I, nb, up, sky, na, os, ag, w⟩ := air
  exact tk u s' ⟨a, B, sI, pins, σ, H, cls, d, e, I, nb, up, sky, na, os, ag, w I.len⟩
/-- how an error of one field is told -/
def ToldBy (C : Addr) (f tag : Str) (Q : VK) (cls : Value) (d : Option Addr) (H : Hp) : Prop :=
  cls = .ref C ∧ ∃ (dd : Addr) (y : V), d = some dd ∧ H dd = some (.xd [(f, y)]) ∧ ∀ p, H p = none → Q (.ref p) (upd H p (.tup [.str tag, y]))
def TTs (A : Adr) : (XK → Hp → VK → Prop) → Hp → VK → Prop := fun tl H Q =>
  tl (fun cls d H' => ToldBy A.c_NoPages "part" "part" Q cls d H' ∨ ToldBy A.c_NoProcess "process" "process" Q cls d H') H Q
section
variable {X : Cx} {A : Adr}
theorem said_gives {q : Str} {cdg : Value} (G : Txt X.K X.mg A) : LamX.GivesTo X n__law_said "_law_said" (defScope s__law_said) A.a__law_said cdg (defBody s__law_said) "ask" q (TTs A) := by
  intro f c' s H Q tl act hc h
  let Y : Cx := (cxOf C8.CX0 X.prog X.w X.K X.mg X.base n__law_said "_law_said" (defScope s__law_said) A.a__law_said cdg X.A X.stack s H C8.E0).nox
  refine ⟨_, pss_one (ps_try_cls (X := Y) (l := [(.ref A.c_NoPages, some 1, fun a cls d => tRet (tTup (tCons (tC (.str "part")) (tCons (tXf a cls d A.c_NoPages "part" (tVar 1)) tNil)))),
        (.ref A.c_NoProcess, some 1, fun a cls d => tRet (tTup (tCons (tC (.str "process")) (tCons (tXf a cls d A.c_NoProcess "process" (tVar 1)) tNil)))),
        (.ref A.c_PageError, none, fun _ _ _ => tRet (tTup (tCons (tC (.str "other")) (tCons (tC .non) tNil))))])
      (tb := fun W D σ H => ∃ Ech : XK, (∀ cls d σ' H', Ech cls d H' → σ'.length = n__law_said.length → W cls d σ' H') ∧ σ[0]? = some (some (.ref f)) ∧ H c' = some (LamX.CodeO c' q) ∧ tl Ech H D.rt)
      rfl rfl sc__law_said.nd takes0 (fun W pn xe tk _ => ?_)
      (.named ⟨rfl, by decide, .inl G.g_NoPages⟩ rfl rfl (fun a oe cls d pn hz hf => pss_one (ps_ret (pe_tup (pa_cons pe_str (pa_cons (pe_xf G.xf_NoPages G.xn_NoPages hz hf (pv 1)) pa_nil)))))
      (.named ⟨rfl, by decide, .inl G.g_NoProcess⟩ rfl rfl (fun a oe cls d pn hz hf => pss_one (ps_ret (pe_tup (pa_cons pe_str (pa_cons (pe_xf G.xf_NoProcess G.xn_NoProcess hz hf (pv 1)) pa_nil)))))
      (.bare ⟨rfl, by decide, .inl G.g_PageError⟩ (fun a oe cls d pn hz hf => pss_one (ps_ret (pe_tup (pa_cons pe_str (pa_cons pe_non pa_nil))))) .nil)))), ?_⟩
  · refine ⟨fun pins s' σ H' D I h' => ?_⟩
    obtain ⟨Ech, hW, h1, h2, h3⟩ := h'
    exact (pss_one (ps_ret (act (fun c d σ H => σ.length = n__law_said.length → W c d σ H) pn xe Ech _ _ (takes_len tk) hW))).run pins s' σ H' D I ⟨h1, h2, h3⟩
  · refine ⟨_, fun cls d σ' H' hE hl => ?_, rfl, hc, h⟩
    have hl2 : 1 < σ'.length := by rw [hl]; decide
    rcases hE with ⟨rfl, dd, y, rfl, hd, k⟩ | ⟨rfl, dd, y, rfl, hd, k⟩
    · refine ⟨true, G.e_NoPages_NoPages, fun _ a ha => ?_, fun z => (nomatch z)⟩
      refine ⟨.ref a, List.getElem?_set_self hl2, rfl, rfl, dd, _, y, rfl, hd, ?_, (by show 2 ≤ sizeLine; decide), fun p hp => k p hp⟩
      simp [List.lookup]
    · refine ⟨false, G.e_NoProcess_NoPages, fun z => (nomatch z), fun _ => ⟨true, G.e_NoProcess_NoProcess, fun _ a ha => ?_, fun z => (nomatch z)⟩⟩
      refine ⟨.ref a, List.getElem?_set_self hl2, rfl, rfl, dd, _, y, rfl, hd, ?_, (by show 2 ≤ sizeLine; decide), fun p hp => k p hp⟩
      simp [List.lookup]
end
end My

set_option Elab.async false
set_option linter.all false
set_option maxRecDepth 100000
set_option maxHeartbeats 4000000
namespace My
open PySem L2
local macro_rules | `(tactic| walk_at "ds") => `(tactic| dsimp only [tSeq, tIfS, tTest, tB, tAnd, tOr, tNot, tAndV, tOrV, tNotV, tIf, tIsN, tNotN, tOp, tUn, tChain, rI, rI0, rU, tC, tCB, tCons, tNil, tAsg, gName, gSub, tRet, tRetN, tNext, tDrop, tLst, tTup, rIxL, rIxT, rSetL, tVar, tFld, tCall, tDGet, tDIn, tDNotIn, tNever, L2.start, List.map, List.replicate, List.length, List.append, List.cons_append, List.nil_append, List.set, Nat.sub])
local macro_rules | `(tactic| walk_at "hp") => `(tactic| first | assumption | exact upd_same | (refine Eq.trans (upd_ne (by first | assumption | (apply Ne.symm; assumption))) ?_; walk_at "hp"))
local macro_rules | `(tactic| walk_at "sd") => `(tactic| first
  | (show (_ : Int) ≠ 0; omega)
  | (refine (show CDivN _ _ from ⟨?_, ?_⟩) <;> omega)
  | (show CPow _ _; refine ⟨by omega, by omega, by omega⟩)
  | (show CMul _ _; exact Or.inl ⟨by omega, by omega⟩)
  | (show CMul _ _; exact Or.inr ⟨by omega, by omega⟩))
local macro_rules | `(tactic| walk_at "st") => `(tactic| first
  | refine ⟨_, rfl, ?_⟩
  | refine ⟨_, _, rfl, rfl, (by walk_at "sd"), ?_⟩
  | refine ⟨_, _, rfl, rfl, ?_⟩
  | refine ⟨_, _, _, _, rfl, rfl, SqL.of (by walk_at "hp"), rfl, ?_⟩
  | refine ⟨_, _, _, _, rfl, rfl, (by walk_at "hp"), rfl, ?_⟩
  | refine .inl ⟨_, rfl, ?_⟩
  | refine ⟨_, _, _, _, _, rfl, (by walk_at "hp"), (by assumption), (by assumption), rfl, ?_⟩
  | refine ⟨_, _, rfl, .inl (SqL.of (by walk_at "hp")), ?_⟩)
local macro_rules | `(tactic| walk_at "go") => `(tactic| repeat (first | walk_at "st" | (walk_at "ds"; walk_at "st")))

section
variable {P : Program} {w : World} {K : PySem.W.Frag} {mg : Str → Option Value} {base : Heap} {A : Adr}
theorem init_binds (G : Txt K mg A) : ∃ ds, Vals (kw_System_init.map (·.2)) ds ∧ L2.Binds K A.fd_System_init p_System_init ds := by
  refine G.f_System_init.binds0 1 (by decide) rfl fun D doc pm an cdv ct us ks h1 h2 => ?_
  match us, h1, ks, h2 with
  | [u], _, [a, b, c], _ =>
    exact ⟨_, _, _, _, _, _, rfl, rfl, _, _, _, _, _, _, rfl, rfl, _, _, _, _, _, _, rfl, rfl, rfl⟩
theorem init_kbinds (G : Txt K mg A) : ∃ mv : List Value, KBn K A.fd_System_init p_System_init 1 ["frames", "slots", "strict"] (fun us ws => us ++ ws) (fun vs zs => vs ++ zs) := by
  refine G.f_System_init.kbinds0 1 ["frames", "slots", "strict"] [] (fun us _ ws => us ++ ws) (by decide) (by simp) (fun r1 _ r2 => r1.append r2) fun D doc pm an cdv ct us mv ws h1 h2 h3 => ?_
  match us, h1, mv, h2, ws, h3 with
  | [u], _, [], _, [a, b, c], _ => rfl
theorem map_binds (G : Txt K mg A) : ∃ ds, Vals (kw_map_pages.map (·.2)) ds ∧ L2.Binds K A.fd_map_pages p_map_pages ds := by
  refine G.f_map_pages.binds0 3 (by decide) rfl fun D doc pm an cdv ct us ks h1 h2 => ?_
  match us, h1, ks, h2 with
  | [u1, u2, u3], _, [a, b, c, d, e], _ =>
    exact ⟨_, _, _, _, _, _, rfl, rfl, _, _, _, _, _, _, rfl, rfl, _, _, _, _, _, _, rfl, rfl, _, _, _, _, _, _, rfl, rfl, _, _, _, _, _, _, rfl, rfl, rfl⟩
theorem map_kbinds (G : Txt K mg A) : ∃ mv : List Value, KBn K A.fd_map_pages p_map_pages 3 ["at"] (fun us ws => us ++ mv ++ ws) (fun vs zs => vs ++ [V.str "rw", V.bl false, V.non, V.int 0] ++ zs) := by
  refine G.f_map_pages.kbinds0 3 ["at"] [("rights", .str "rw"), ("shared", .bl false), ("source", .non), ("index", .int 0)] (fun us mv ws => us ++ mv ++ ws) (by decide) (by simp) (fun r1 r2 r3 => (r1.append r2).append r3) fun D doc pm an cdv ct us mv ws h1 h2 h3 => ?_
  match us, h1, mv, h2, ws, h3 with
  | [u1, u2, u3], _, [a, b, c, d], _, [e], _ => exact ⟨_, _, _, _, _, _, rfl, rfl, _, _, _, _, _, _, rfl, rfl, _, _, _, _, _, _, rfl, rfl, _, _, _, _, _, _, rfl, rfl, rfl⟩
end
/-! ### the tables of the two defs that make lambdas -/
def qL : Str := (PyProof.Rows.envOfC "law" (defScope s_law) 0 0 .none).qual ++ "<lambda>"
def qR : Str := (PyProof.Rows.envOfC "_law_refused" (defScope s__law_refused) 0 0 .none).qual ++ "<lambda>"
def TS (A : Adr) : List (Addr × Str) := [(A.ta_law, qL), (A.ta__law_refused, qR)]
structure Tb (base : Heap) (mg : Str → Option Value) (A : Adr) : Prop where
  l : LamX.TabB base mg A.co_law A.ta_law
  r : LamX.TabB base mg A.co__law_refused A.ta__law_refused
  ne : A.ta_law ≠ A.ta__law_refused
theorem TS_l {base : Heap} {mg : Str → Option Value} {A : Adr} (T : Tb base mg A) : ∀ p ∈ TS A, p.1 = A.ta_law → p.2 = qL := fun p hp e => by
  rcases List.mem_cons.mp hp with h | h
  · rw [h]
  · rw [List.mem_singleton.mp h] at e
    exact absurd e.symm T.ne
theorem TS_r {base : Heap} {mg : Str → Option Value} {A : Adr} (T : Tb base mg A) : ∀ p ∈ TS A, p.1 = A.ta__law_refused → p.2 = qR := fun p hp e => by
  rcases List.mem_cons.mp hp with h | h
  · rw [h] at e
    exact absurd e T.ne
  · rw [List.mem_singleton.mp h]
/-! frames -/
def Frm (S : Addr → Prop) (H H' : Hp) : Prop := ∀ b o, ¬ S b → H b = some o → (∀ ps, o ≠ .tbl ps) → H' b = some o
theorem Frm.trans {S : Addr → Prop} {H H1 H2 : Hp} (x : Frm S H H1) (y : Frm S H1 H2) : Frm S H H2 := fun b o n e t => y b o n (x b o n e t) t
theorem Frm.same {S : Addr → Prop} {H H1 : Hp} (x : Same H H1) : Frm S H H1 := fun b o _ e _ => x b o e
theorem Frm.ext {S : Addr → Prop} {H H1 : Hp} (x : LamX.ExtN H H1) : Frm S H H1 := fun b o _ e t => x b o e t
theorem Frm.but {a : Addr} {H H1 : Hp} (x : But a H H1) : Frm (· = a) H H1 := fun b o n e _ => x b o n e
theorem tabs_same {T : List (Addr × Str)} {H H' : Hp} (t : LamX.Tabs T H) (h : Same H H') : LamX.Tabs T H' := t.ext h
theorem tabs_but {T : List (Addr × Str)} {H H' : Hp} {a : Addr} {xs : List V} (t : LamX.Tabs T H) (h : But a H H') (ha : H a = some (.lst xs)) : LamX.Tabs T H' :=
  Tabs.keep t fun b o e => ⟨fun u q => h b o (fun z => by rw [z, ha, q] at e; cases e) e, fun ps q => h b o (fun z => by rw [z, ha, q] at e; cases e) e⟩
theorem WellAt.lst {H : Hp} {a : Addr} {B : Nat} (h : WellAt H a B) : ∃ xs, H a = some (.lst xs) := by
  obtain ⟨w0, w1, w2, h1, _⟩ := h
  exact ⟨_, h1⟩
theorem AnyV.but {H H' : Hp} {v : V} {a : Addr} (h : AnyV H v) (n : v ≠ .ref a) (e : But a H H') : AnyV H' v := by
  cases h with
  | non => exact .non
  | bl b => exact .bl b
  | int i => exact .int i
  | str x => exact .str x
  | lst z => exact .lst (e _ _ (fun q => n (by rw [q])) z)
  | tup z => exact .tup (e _ _ (fun q => n (by rw [q])) z)
  | dK z => exact .dK (e _ _ (fun q => n (by rw [q])) z)
theorem AnyV.frm {H H' : Hp} {v : V} {a : Addr} (h : AnyV H v) (n : v ≠ .ref a) (e : Frm (· = a) H H') : AnyV H' v := by
  cases h with
  | non => exact .non
  | bl b => exact .bl b
  | int i => exact .int i
  | str x => exact .str x
  | lst z => exact .lst (e _ _ (fun q => n (by rw [q])) z (fun _ q => by cases q))
  | tup z => exact .tup (e _ _ (fun q => n (by rw [q])) z (fun _ q => by cases q))
  | dK z => exact .dK (e _ _ (fun q => n (by rw [q])) z (fun _ q => by cases q))
theorem AnyV.ext {H H' : Hp} {v : V} (h : AnyV H v) (e : LamX.ExtN H H') : AnyV H' v := by
  cases h with
  | non => exact .non
  | bl b => exact .bl b
  | int i => exact .int i
  | str x => exact .str x
  | lst z => exact .lst (e _ _ z (fun _ q => by cases q))
  | tup z => exact .tup (e _ _ z (fun _ q => by cases q))
  | dK z => exact .dK (e _ _ z (fun _ q => by cases q))
section
variable {P : Program} {w : World} {K : PySem.W.Frag} {mg : Str → Option Value} {base : Heap} {A : Adr}
theorem wnew {H : Hp} {a p : Addr} {B : Nat} {o : HO} (h : WellAt H a B) (hp : H p = none) : WellAt (upd H p o) a B := by
  obtain ⟨xs, hx⟩ := h.lst
  exact h.same (upd_ne (ne_of_none hx hp))
theorem wne {H : Hp} {a p : Addr} {B : Nat} (h : WellAt H a B) (hp : H p = none) : p ≠ a := by
  obtain ⟨xs, hx⟩ := h.lst
  exact (ne_of_none hx hp).symm
end
end My

set_option Elab.async false
set_option linter.all false
set_option maxRecDepth 100000
set_option maxHeartbeats 4000000
namespace My
open PySem L2
local macro_rules | `(tactic| walk_at "ds") => `(tactic| dsimp only [tSeq, tIfS, tTest, tB, tAnd, tOr, tNot, tAndV, tOrV, tNotV, tIf, tIsN, tNotN, tOp, tUn, tChain, rI, rI0, rU, tC, tCB, tCons, tNil, tAsg, gName, gSub, tRet, tRetN, tNext, tDrop, tLst, tTup, rIxL, rIxT, rSetL, tVar, tFld, tCall, tDGet, tDIn, tDNotIn, tNever, L2.start, List.map, List.replicate, List.length, List.append, List.cons_append, List.nil_append, List.set, Nat.sub])
local macro_rules | `(tactic| walk_at "hp") => `(tactic| first | assumption | exact upd_same | (refine Eq.trans (upd_ne (by first | assumption | (apply Ne.symm; assumption))) ?_; walk_at "hp"))
local macro_rules | `(tactic| walk_at "sd") => `(tactic| first
  | (show (_ : Int) ≠ 0; omega)
  | (refine (show CDivN _ _ from ⟨?_, ?_⟩) <;> omega)
  | (show CPow _ _; refine ⟨by omega, by omega, by omega⟩)
  | (show CMul _ _; exact Or.inl ⟨by omega, by omega⟩)
  | (show CMul _ _; exact Or.inr ⟨by omega, by omega⟩))
local macro_rules | `(tactic| walk_at "st") => `(tactic| first
  | refine ⟨_, rfl, ?_⟩
  | refine ⟨_, _, rfl, rfl, (by walk_at "sd"), ?_⟩
  | refine ⟨_, _, rfl, rfl, ?_⟩
  | refine ⟨_, _, _, _, rfl, rfl, SqL.of (by walk_at "hp"), rfl, ?_⟩
  | refine ⟨_, _, _, _, rfl, rfl, (by walk_at "hp"), rfl, ?_⟩
  | refine .inl ⟨_, rfl, ?_⟩
  | refine ⟨_, _, _, _, _, rfl, (by walk_at "hp"), (by assumption), (by assumption), rfl, ?_⟩
  | refine ⟨_, _, rfl, .inl (SqL.of (by walk_at "hp")), ?_⟩)
local macro_rules | `(tactic| walk_at "go") => `(tactic| repeat (first | walk_at "st" | (walk_at "ds"; walk_at "st")))

section
variable {P : Program} {w : World} {K : PySem.W.Frag} {mg : Str → Option Value} {base : Heap} {A : Adr}
/-- where the law stands: the well at a, the system at x with one process, its table at d -/
structure Sta (A : Adr) (H : Hp) (a x t d : Addr) (B : Nat) (n : Int) (kvs : List (Key × V)) (g : Int → Bool) : Prop where
  tb : LamX.Tabs (TS A) H
  wl : WellAt H a B
  sy : SyA A.c_System .non .non (.bl false) H x t n 1 0 [(1, d)]
  ta : Tab A H d kvs g
  few : kvs.length ≤ 9000
  ntd : t ≠ d
theorem Sta.same {H H' : Hp} {a x t d : Addr} {B : Nat} {n : Int} {kvs : List (Key × V)} {g : Int → Bool} (S : Sta A H a x t d B n kvs g) (e : Same H H') : Sta A H' a x t d B n kvs g := by
  obtain ⟨xs, hx⟩ := S.wl.lst
  exact ⟨tabs_same S.tb e, S.wl.same ((e _ _ hx).trans hx.symm), S.sy.same e, S.ta.same e, S.few, S.ntd⟩
theorem Sta.ext {H H' : Hp} {a x t d : Addr} {B : Nat} {n : Int} {kvs : List (Key × V)} {g : Int → Bool} (S : Sta A H a x t d B n kvs g) (e : LamX.ExtN H H') (T : LamX.Tabs (TS A) H') : Sta A H' a x t d B n kvs g := by
  obtain ⟨xs, hx⟩ := S.wl.lst
  obtain ⟨⟨dx, b, c, d', f, g', h1⟩, h2, h4⟩ := S.sy
  exact ⟨T, S.wl.same ((e _ _ hx (fun _ z => by cases z)).trans hx.symm), ⟨⟨dx, b, c, d', f, g', e _ _ h1 (fun _ z => by cases z)⟩, e _ _ h2 (fun _ z => by cases z), h4⟩,
    ⟨e _ _ S.ta.at_ (fun _ z => by cases z), fun kv hkv => let ⟨p, e1, r, ix, fl, dx', e2⟩ := S.ta.pl kv hkv; ⟨p, e1, r, ix, fl, dx', e _ _ e2 (fun _ z => by cases z)⟩, S.ta.ks⟩, S.few, S.ntd⟩
theorem Sta.draw {H H' : Hp} {a x t d : Addr} {B B' : Nat} {n : Int} {kvs : List (Key × V)} {g : Int → Bool} (S : Sta A H a x t d B n kvs g) (e : But a H H') (w : WellAt H' a B') : Sta A H' a x t d B' n kvs g := by
  obtain ⟨xs, hx⟩ := S.wl.lst
  obtain ⟨⟨dx, b, c, d', f, g', h1⟩, h2, h4⟩ := S.sy
  exact ⟨tabs_but S.tb e hx, w, ⟨⟨dx, b, c, d', f, g', e _ _ (ne_of h1 hx (by intro z; cases z)) h1⟩, e _ _ (ne_of h2 hx (by intro z; cases z)) h2, h4⟩,
    ⟨e _ _ (ne_of S.ta.at_ hx (by intro z; cases z)) S.ta.at_, fun kv hkv => let ⟨p, e1, r, ix, fl, dx', e2⟩ := S.ta.pl kv hkv; ⟨p, e1, r, ix, fl, dx', e _ _ (ne_of e2 hx (by intro z; cases z)) e2⟩, S.ta.ks⟩, S.few, S.ntd⟩
theorem told_gen {t' : XK → TE} {rhs : TA} {σ : St} {v : V} {C : Addr} {f tag : Str} {Q : Bool → Hp → Prop} {H : Hp} {a x t d : Addr} {B B' : Nat} {n : Int} {kvs : List (Key × V)} {g : Int → Bool} (S : Sta A H a x t d B n kvs g)
    (sv : selfEq v = true) (hrhs : ∀ (H' : Hp) (Q' : List V → Hp → Prop), Q' [V.str tag, v] H' → rhs σ H' Q')
    (hC : ∀ (Q : VK) (cls : Value) (d : Option Addr) (H : Hp), ToldBy C f tag Q cls d H → ToldBy A.c_NoPages "part" "part" Q cls d H ∨ ToldBy A.c_NoProcess "process" "process" Q cls d H)
    (ht : ∀ (E : XK) (H' : Hp) (Q' : VK), Frm (· = a) H H' → Sta A H' a x t d B n kvs g → (∀ d0 H'', Frm (· = a) H' H'' → Sta A H'' a x t d B' n kvs g → H'' d0 = some (.xd [(f, v)]) → E (.ref C) (some d0) H'') → t' E σ H' Q')
    (k : ∀ H', Frm (· = a) H H' → Sta A H' a x t d B' n kvs g → Q false H') : tTest (tOp (rTupS K false) (LamX.tLam (TS A) (TTs A) t') (tTup rhs)) σ H Q := by
  refine ⟨S.tb, fun H1 e1 T1 => ?_⟩
  have S1 := S.ext e1 T1
  have F1 : Frm (· = a) H H1 := Frm.ext e1
  refine ht _ H1 _ F1 S1 fun d0 H2 F2 S2 hd => ?_
  refine hC _ _ _ _ ⟨rfl, d0, v, rfl, hd, fun q hq => ?_⟩
  refine hrhs _ _ ⟨(by show 2 ≤ sizeLine; decide), fun q2 hq2 => ?_⟩
  have s3 := (Same.new (o := .tup [.str tag, v]) hq).trans (Same.new (o := .tup [.str tag, v]) hq2)
  exact ⟨q, q2, _, rfl, rfl, SqT.of (Same.new hq2 _ _ upd_same), SqT.of upd_same, (by simp [sv]; rfl), _, rfl, k _ ((F1.trans F2).trans (Frm.same s3)) (S2.same s3)⟩
theorem Sta.mono {H : Hp} {a x t d : Addr} {B B' : Nat} {n : Int} {kvs : List (Key × V)} {g : Int → Bool} (S : Sta A H a x t d B n kvs g) (e : B ≤ B') (e2 : B' ≤ 1000000) : Sta A H a x t d B' n kvs g := by
  obtain ⟨w0, w1, w2, h1, h2, h3, h4, h5, h6, h7⟩ := S.wl
  exact ⟨S.tb, ⟨w0, w1, w2, h1, h2, h3, h4, h5, by omega, by omega⟩, S.sy, S.ta, S.few, S.ntd⟩
theorem nomem {i : Int} {d d' : Addr} (h : i ≠ 1) (hm : (i, d') ∈ [((1 : Int), d)]) : False := h (congrArg Prod.fst (List.mem_singleton.mp hm))
/-- what stays: all but the well, the tables of code -/
def spRef (A : Adr) : Sp := fun vs H Q _ => ∃ (a x t d : Addr) (B : Nat) (n : Int) (kvs : List (Key × V)) (g : Int → Bool), vs = [.ref a, .ref x, .int 1] ∧ Sta A H a x t d B n kvs g ∧ B ≤ 1000 ∧
  ∀ H', Frm (· = a) H H' → Sta A H' a x t d (B + 3) n kvs g → Q (.bl true) H'
theorem ok__law_refused (G : Txt K mg A) (TB : Tb base mg A) : FnOk P w K mg base CX0 8 A.a__law_refused A.fd__law_refused p__law_refused (spRef A) := by
  obtain ⟨ds, hMV, hMB⟩ := map_binds G
  obtain ⟨ocS, odS, kvS, docS, pmS, anS, cdS, ctS, oslS, hfd, lkS, hcS⟩ := G.f__law_said.ex
  have hbS := G.bi__law_said
  rw [hfd] at lkS hbS
  refine G.fl__law_refused.ok sc__law_refused (fun vs H Q E h => ?_) (fun A' outer s H vs Q E hr h => ?_)
  · obtain ⟨a, x, t, d, B, n, kvs, g, rfl, _⟩ := h
    rfl
  · obtain ⟨a, x, t, d, B, n, kvs, g, rfl, S, hB, k⟩ := h
    refine ⟨_, (pss_cons (ps_set (i := 3) sc__law_refused.nd rfl (Or.inr rfl) (pe_call (ok__law_one G) (hr.mono (by decide)) rfl G.g__law_one G.k__law_one G.bi__law_one .nil pass0 (pa_cons (pv 0) (pa_cons (pe_lst (pa_cons pe_int (pa_cons pe_int (pa_cons (pe_un un_neg pe_int) (pa_cons pe_non (pa_cons pe_str (pa_cons (pe_cmpR op_eq pe_int pe_int (nomark _)) (pa_cons (pe_lst pa_nil) (pa_cons pe_dnewK (pa_cons (pe_tup (pa_cons pe_int pa_nil)) (pa_cons (pe_op op_pow pe_int pe_int) pa_nil))))))))))) pa_nil))))
  (pss_cons (ps_if (pt_cmpR (op_neTupS (hu0 hr)) (LamX.pe_lamcall (T := TS A) (TT := TTs A) (k := 4) rfl G.g__law_said G.k__law_said lkS hcS hbS sc__law_said rfl (Or.inl rfl) (said_gives G) TB.r rfl (List.mem_cons_of_mem _ (List.mem_singleton.mpr rfl)) (TS_r TB) (hr.mono (by decide)) (LamX.lamS_by (sc := defScope s__law_refused) (by decide +kernel)) rfl (fun _ _ _ _ _ => rfl) (fun A2 outer2 s2 H2 E2 f2 c2 hr => by exact (pe_call (ok_gap G) (hr.mono (by decide)) rfl G.g_gap G.k_gap G.bi_gap .nil (passes_call (takes_of rfl rfl rfl rfl) (fun _ _ _ _ z => z)) (pa_cons (pv 1) (pa_cons (pv 3) (pa_cons (pe_call (ok__law_one G) (hr.mono (by decide)) rfl G.g__law_one G.k__law_one G.bi__law_one .nil pass0 (pa_cons (pv 0) (pa_cons (pe_lst (pa_cons pe_int (pa_cons pe_int pa_nil))) pa_nil))) pa_nil)))))) (pe_tup (pa_cons pe_str (pa_cons (pv 3) pa_nil))) (nomark _)) (pss_one (ps_ret pe_bl)) pss_nil)
  (pss_cons (ps_if (pt_cmpR (op_neTupS (hu0 hr)) (LamX.pe_lamcall (T := TS A) (TT := TTs A) (k := 4) rfl G.g__law_said G.k__law_said lkS hcS hbS sc__law_said rfl (Or.inl rfl) (said_gives G) TB.r rfl (List.mem_cons_of_mem _ (List.mem_singleton.mpr rfl)) (TS_r TB) (hr.mono (by decide)) (LamX.lamS_by (sc := defScope s__law_refused) (by decide +kernel)) rfl (fun _ _ _ _ _ => rfl) (fun A2 outer2 s2 H2 E2 f2 c2 hr => by exact (pe_call (ok_widest G) (hr.mono (by decide)) rfl G.g_widest G.k_widest G.bi_widest .nil (passes_call (takes_of rfl rfl rfl rfl) (fun _ _ _ _ z => z)) (pa_cons (pv 1) (pa_cons (pv 3) pa_nil))))) (pe_tup (pa_cons pe_str (pa_cons (pv 3) pa_nil))) (nomark _)) (pss_one (ps_ret pe_bl)) pss_nil)
  (pss_cons (ps_if (pt_cmpR (op_neTupS (hu0 hr)) (LamX.pe_lamcall (T := TS A) (TT := TTs A) (k := 4) rfl G.g__law_said G.k__law_said lkS hcS hbS sc__law_said rfl (Or.inl rfl) (said_gives G) TB.r rfl (List.mem_cons_of_mem _ (List.mem_singleton.mpr rfl)) (TS_r TB) (hr.mono (by decide)) (LamX.lamS_by (sc := defScope s__law_refused) (by decide +kernel)) rfl (fun _ _ _ _ _ => rfl) (fun A2 outer2 s2 H2 E2 f2 c2 hr => by exact (pe_call (ok_regions G) (hr.mono (by decide)) rfl G.g_regions G.k_regions G.bi_regions .nil (passes_call (takes_of rfl rfl rfl rfl) (fun _ _ _ _ z => z)) (pa_cons (pv 1) (pa_cons (pv 3) pa_nil))))) (pe_tup (pa_cons pe_str (pa_cons (pv 3) pa_nil))) (nomark _)) (pss_one (ps_ret pe_bl)) pss_nil)
  (pss_cons (ps_set (i := 3) sc__law_refused.nd rfl (Or.inr rfl) (pe_call (ok__law_one G) (hr.mono (by decide)) rfl G.g__law_one G.k__law_one G.bi__law_one .nil pass0 (pa_cons (pv 0) (pa_cons (pe_lst (pa_cons pe_int (pa_cons (pe_un un_neg pe_int) (pa_cons pe_int (pa_cons pe_non (pa_cons pe_str (pa_cons (pe_cmpR op_eq pe_int pe_int (nomark _)) (pa_cons (pe_lst pa_nil) (pa_cons pe_dnewK (pa_cons (pe_tup (pa_cons pe_int pa_nil)) (pa_cons (pe_op op_pow pe_int pe_int) pa_nil))))))))))) pa_nil))))
  (pss_cons (ps_if (pt_cmpR (op_neTupS (hu0 hr)) (LamX.pe_lamcall (T := TS A) (TT := TTs A) (k := 4) rfl G.g__law_said G.k__law_said lkS hcS hbS sc__law_said rfl (Or.inl rfl) (said_gives G) TB.r rfl (List.mem_cons_of_mem _ (List.mem_singleton.mpr rfl)) (TS_r TB) (hr.mono (by decide)) (LamX.lamS_by (sc := defScope s__law_refused) (by decide +kernel)) rfl (fun _ _ _ _ _ => rfl) (fun A2 outer2 s2 H2 E2 f2 c2 hr => by exact (pe_call (ok_gap G) (hr.mono (by decide)) rfl G.g_gap G.k_gap G.bi_gap .nil (passes_call (takes_of rfl rfl rfl rfl) (fun _ _ _ _ z => z)) (pa_cons (pv 1) (pa_cons (pv 2) (pa_cons (pv 3) pa_nil)))))) (pe_tup (pa_cons pe_str (pa_cons pe_str pa_nil))) (nomark _)) (pss_one (ps_ret pe_bl)) pss_nil)
  (pss_cons (ps_if (pt_cmpR (op_neTupS (hu0 hr)) (LamX.pe_lamcall (T := TS A) (TT := TTs A) (k := 5) rfl G.g__law_said G.k__law_said lkS hcS hbS sc__law_said rfl (Or.inl rfl) (said_gives G) TB.r rfl (List.mem_cons_of_mem _ (List.mem_singleton.mpr rfl)) (TS_r TB) (hr.mono (by decide)) (LamX.lamS_by (sc := defScope s__law_refused) (by decide +kernel)) rfl (fun _ _ _ _ _ => rfl) (fun A2 outer2 s2 H2 E2 f2 c2 hr => by exact (pe_call (ok_map_pages G) (hr.mono (by decide)) rfl G.g_map_pages G.k_map_pages hMB hMV (passes_call (takes_of rfl rfl rfl rfl) (fun _ _ _ _ z => z)) (pa_cons (pv 1) (pa_cons (pv 2) (pa_cons (pv 3) pa_nil)))))) (pe_tup (pa_cons pe_str (pa_cons pe_str pa_nil))) (nomark _)) (pss_one (ps_ret pe_bl)) pss_nil)
  (pss_one (ps_ret pe_bl))))))))), ?_⟩
    refine ⟨_, rfl, _, rfl, rfl, Nat.zero_le _, fun p1 hp1 => fun p2 hp2 => ⟨(by show 1 ≤ sizeLine; decide), fun p3 hp3 => ⟨_, _, rfl, rfl, ⟨by decide, by decide, by decide⟩, (by show 10 ≤ sizeLine; decide), fun q hq => ?_⟩⟩⟩
    have sB := ((Same.new (o := .lst []) hp1).trans (Same.new (o := .dK []) hp2)).trans (Same.new (o := .tup [V.int 1]) hp3)
    have S10 := S.same sB
    refine ⟨a, q, _, B, rfl, upd_same, wne S10.wl hq, (by show 0 < 10; decide), (by show 10 < 1000; decide), wnew S10.wl hq, by omega, fun v H1 hv f6 w6 => ?_⟩
    have sC := fun o => sB.trans (Same.new (o := o) hq)
    have S1 := (S.same (sC _)).draw f6 w6
    have any : AnyV H1 v ∧ v ≠ .ref a ∧ ∀ i d', v = .int i → (i, d') ∉ [((1 : Int), d)] := by
      have n1 : p1 ≠ a := wne S.wl hp1
      have n2 : p2 ≠ a := wne (S.same (Same.new (o := .lst []) hp1)).wl hp2
      have n3 : p3 ≠ a := wne ((S.same (Same.new (o := .lst []) hp1)).same (Same.new (o := .dK []) hp2)).wl hp3
      have g1 : H1 p1 = some (.lst []) := f6 _ _ n1 (Same.new hq _ _ (Same.new hp3 _ _ (Same.new hp2 _ _ upd_same)))
      have g2 : H1 p2 = some (.dK []) := f6 _ _ n2 (Same.new hq _ _ (Same.new hp3 _ _ upd_same))
      have g3 : H1 p3 = some (.tup [V.int 1]) := f6 _ _ n3 (Same.new hq _ _ upd_same)
      have nr : ∀ {b c : Addr}, b ≠ c → V.ref b ≠ V.ref c := fun z e => z (V.ref.inj e)
      simp only [List.mem_cons, List.not_mem_nil, or_false] at hv
      rcases hv with rfl | rfl | rfl | rfl | rfl | rfl | rfl | rfl | rfl | rfl
      · exact ⟨.int _, by simp, fun i d' e hm => by cases e; exact nomem (by decide) hm⟩
      · exact ⟨.int _, by simp, fun i d' e hm => by cases e; exact nomem (by decide) hm⟩
      · exact ⟨.int _, by simp, fun i d' e hm => by cases e; exact nomem (by decide) hm⟩
      · exact ⟨.non, by simp, fun i d' e => by cases e⟩
      · exact ⟨.str _, by simp, fun i d' e => by cases e⟩
      · exact ⟨.bl _, by simp, fun i d' e => by cases e⟩
      · exact ⟨.lst g1, nr n1, fun i d' e => by cases e⟩
      · exact ⟨.dK g2, nr n2, fun i d' e => by cases e⟩
      · exact ⟨.tup g3, nr n3, fun i d' e => by cases e⟩
      · exact ⟨.int _, by simp, fun i d' e hm => by cases e; exact nomem (by decide) hm⟩
    obtain ⟨va, vn, vp⟩ := any
    have F1 : Frm (· = a) H H1 := (Frm.same (sC _)).trans (Frm.but f6)
    clear hv f6 w6 sB sC hp1 hp2 hp3 hq S10
    dsimp only [gName, List.set]
    -- gap, widest, regions of what is no process
    refine told_gen (B' := B + 2) (C := A.c_NoProcess) (f := "process") (tag := "process") S1 va.selfEq (fun H' Q' z => ⟨_, rfl, z⟩) (fun _ _ _ _ z => .inr z) (fun E H' Q' F S' cont => ?_) fun H2 F2 S2 => ?_
    · refine ⟨_, rfl, _, rfl, _, rfl, (by show 2 ≤ sizeLine; decide), fun q hq => ⟨a, q, _, B + 1, rfl, upd_same, wne S'.wl hq, (by show 0 < 2; decide), (by show 2 < 1000; decide), wnew S'.wl hq, by omega, fun u H3 hu f3 w3 => ?_⟩⟩
      have S3 := (S'.same (Same.new hq)).draw f3 w3
      have F3 : Frm (· = a) H' H3 := (Frm.same (Same.new hq)).trans (Frm.but f3)
      have ua : AnyV H3 u := by
        simp only [List.mem_cons, List.not_mem_nil, or_false] at hu
        rcases hu with rfl | rfl <;> exact .int _
      exact ⟨.non, .non, .bl false, x, t, n, 1, 0, _, v, u, rfl, S3.sy, va.frm vn (F.trans F3), ua, fun i d' e hm => absurd hm (vp i d' e), fun _ d0 H'' s'' _ e'' => cont d0 H'' (F3.trans (Frm.same s'')) (S3.same s'') e''⟩
    refine iteF ?_
    have va2 := va.frm vn F2
    refine told_gen (B' := B + 2) (C := A.c_NoProcess) (f := "process") (tag := "process") S2 va.selfEq (fun H' Q' z => ⟨_, rfl, z⟩) (fun _ _ _ _ z => .inr z) (fun E H' Q' F S' cont => ?_) fun H3 F3 S3 => ?_
    · exact ⟨_, rfl, _, rfl, .non, .non, .bl false, x, t, n, 1, 0, _, v, rfl, S'.sy, va2.frm vn F, fun i d' e hm => absurd hm (vp i d' e), fun _ d0 H'' s'' _ e'' => cont d0 H'' (Frm.same s'') (S'.same s'') e''⟩
    refine iteF ?_
    have va3 := va2.frm vn F3
    refine told_gen (B' := B + 2) (C := A.c_NoProcess) (f := "process") (tag := "process") S3 va.selfEq (fun H' Q' z => ⟨_, rfl, z⟩) (fun _ _ _ _ z => .inr z) (fun E H' Q' F S' cont => ?_) fun H4 F4 S4 => ?_
    · exact ⟨_, rfl, _, rfl, .non, .non, .bl false, x, t, n, 1, 0, _, v, rfl, S'.sy, va3.frm vn F, vp, fun _ d0 H'' s'' _ e'' => cont d0 H'' (Frm.same s'') (S'.same s'') e''⟩
    refine iteF ?_
    refine ⟨_, rfl, _, rfl, rfl, Nat.zero_le _, fun p1 hp1 => fun p2 hp2 => ⟨(by show 1 ≤ sizeLine; decide), fun p3 hp3 => ⟨_, _, rfl, rfl, ⟨by decide, by decide, by decide⟩, (by show 10 ≤ sizeLine; decide), fun q hq => ?_⟩⟩⟩
    have sB := ((Same.new (o := .lst []) hp1).trans (Same.new (o := .dK []) hp2)).trans (Same.new (o := .tup [V.int 1]) hp3)
    have S50 := S4.same sB
    refine ⟨a, q, _, B + 2, rfl, upd_same, wne S50.wl hq, (by show 0 < 10; decide), (by show 10 < 1000; decide), wnew S50.wl hq, by omega, fun u H5 hv f6 w6 => ?_⟩
    have sC := fun o => sB.trans (Same.new (o := o) hq)
    have S5 := (S4.same (sC _)).draw f6 w6
    have any : AnyV H5 u ∧ u ≠ .ref a ∧ inR 1 512 u = false := by
      have n1 : p1 ≠ a := wne S4.wl hp1
      have n2 : p2 ≠ a := wne (S4.same (Same.new (o := .lst []) hp1)).wl hp2
      have n3 : p3 ≠ a := wne ((S4.same (Same.new (o := .lst []) hp1)).same (Same.new (o := .dK []) hp2)).wl hp3
      have g1 : H5 p1 = some (.lst []) := f6 _ _ n1 (Same.new hq _ _ (Same.new hp3 _ _ (Same.new hp2 _ _ upd_same)))
      have g2 : H5 p2 = some (.dK []) := f6 _ _ n2 (Same.new hq _ _ (Same.new hp3 _ _ upd_same))
      have g3 : H5 p3 = some (.tup [V.int 1]) := f6 _ _ n3 (Same.new hq _ _ upd_same)
      have nr : ∀ {b c : Addr}, b ≠ c → V.ref b ≠ V.ref c := fun z e => z (V.ref.inj e)
      simp only [List.mem_cons, List.not_mem_nil, or_false] at hv
      rcases hv with rfl | rfl | rfl | rfl | rfl | rfl | rfl | rfl | rfl | rfl
      · exact ⟨.int _, by simp, by decide⟩
      · exact ⟨.int _, by simp, by decide⟩
      · exact ⟨.int _, by simp, by decide⟩
      · exact ⟨.non, by simp, rfl⟩
      · exact ⟨.str _, by simp, rfl⟩
      · exact ⟨.bl _, by simp, rfl⟩
      · exact ⟨.lst g1, nr n1, rfl⟩
      · exact ⟨.dK g2, nr n2, rfl⟩
      · exact ⟨.tup g3, nr n3, rfl⟩
      · exact ⟨.int _, by simp, by decide⟩
    obtain ⟨ua, un, up⟩ := any
    have F5 : Frm (· = a) H4 H5 := (Frm.same (sC _)).trans (Frm.but f6)
    clear hv f6 w6 sB sC hp1 hp2 hp3 hq S50
    dsimp only [gName, List.set]
    have noc : ∀ c : Int, u = .int c → 1 ≤ c → c ≤ 512 → False := fun c e h1 h2 => by
      rw [e] at up
      exact of_decide_eq_false up ⟨h1, h2⟩
    -- gap, map_pages with what is no count
    refine told_gen (v := .str "count") (B' := B + 3) (C := A.c_NoPages) (f := "part") (tag := "part") S5 rfl (fun H' Q' z => z) (fun _ _ _ _ z => .inl z) (fun E H' Q' F S' cont => ?_) fun H6 F6 S6 => ?_
    · exact ⟨_, rfl, _, rfl, _, rfl, .non, .non, .bl false, x, t, n, 1, 0, _, _, u, rfl, S'.sy, .int _, ua.frm un F, fun i d' e hm => (by
        have e1 := List.mem_singleton.mp hm
        cases e1
        exact ⟨kvs, g, S'.ta.at_, S'.ta.ks, fun c e h1 h2 => (noc c e h1 h2).elim, fun _ d0 H'' s'' _ e'' => cont d0 H'' (Frm.same s'') (S'.same s'') e''⟩), fun hn => absurd (List.mem_singleton.mpr rfl) (hn 1 d rfl)⟩
    refine iteF ?_
    have ua6 := ua.frm un F6
    refine told_gen (v := .str "count") (B' := B + 3) (C := A.c_NoPages) (f := "part") (tag := "part") S6 rfl (fun H' Q' z => z) (fun _ _ _ _ z => .inl z) (fun E H' Q' F S' cont => ?_) fun H7 F7 S7 => ?_
    · exact ⟨_, rfl, _, rfl, _, rfl, .non, .non, x, t, n, 1, 0, _, 1, u, .non, d, kvs, g, rfl, S'.sy, List.mem_singleton.mpr rfl, ua6.frm un F, .inl rfl, S'.ta, S'.few, S'.ntd, fun _ d0 H'' s'' _ e'' => cont d0 H'' (Frm.same s'') (S'.same s'') e'', fun c e h1 h2 => (noc c e h1 h2).elim⟩
    exact iteF (k _ (F1.trans (F2.trans (F3.trans (F4.trans (F5.trans (F6.trans F7)))))) S7)
end
end My

set_option Elab.async false
set_option linter.all false
set_option maxRecDepth 100000
set_option maxHeartbeats 4000000
namespace My
open PySem L2
local macro_rules | `(tactic| walk_at "ds") => `(tactic| dsimp only [tSeq, tIfS, tTest, tB, tAnd, tOr, tNot, tAndV, tOrV, tNotV, tIf, tIsN, tNotN, tOp, tUn, tChain, rI, rI0, rU, tC, tCB, tCons, tNil, tAsg, gName, gSub, tRet, tRetN, tNext, tDrop, tLst, tTup, rIxL, rIxT, rSetL, tVar, tFld, tCall, tDGet, tDIn, tDNotIn, tNever, L2.start, List.map, List.replicate, List.length, List.append, List.cons_append, List.nil_append, List.set, Nat.sub])
local macro_rules | `(tactic| walk_at "hp") => `(tactic| first | assumption | exact upd_same | (refine Eq.trans (upd_ne (by first | assumption | (apply Ne.symm; assumption))) ?_; walk_at "hp"))
local macro_rules | `(tactic| walk_at "sd") => `(tactic| first
  | (show (_ : Int) ≠ 0; omega)
  | (refine (show CDivN _ _ from ⟨?_, ?_⟩) <;> omega)
  | (show CPow _ _; refine ⟨by omega, by omega, by omega⟩)
  | (show CMul _ _; exact Or.inl ⟨by omega, by omega⟩)
  | (show CMul _ _; exact Or.inr ⟨by omega, by omega⟩))
local macro_rules | `(tactic| walk_at "st") => `(tactic| first
  | refine ⟨_, rfl, ?_⟩
  | refine ⟨_, _, rfl, rfl, (by walk_at "sd"), ?_⟩
  | refine ⟨_, _, rfl, rfl, ?_⟩
  | refine ⟨_, _, _, _, rfl, rfl, SqL.of (by walk_at "hp"), rfl, ?_⟩
  | refine ⟨_, _, _, _, rfl, rfl, (by walk_at "hp"), rfl, ?_⟩
  | refine .inl ⟨_, rfl, ?_⟩
  | refine ⟨_, _, _, _, _, rfl, (by walk_at "hp"), (by assumption), (by assumption), rfl, ?_⟩
  | refine ⟨_, _, rfl, .inl (SqL.of (by walk_at "hp")), ?_⟩)
local macro_rules | `(tactic| walk_at "go") => `(tactic| repeat (first | walk_at "st" | (walk_at "ds"; walk_at "st")))

/-- the law's world: the program's table has the pages of g, the law's own those of e -/
structure Wd (A : Adr) (H : Hp) (q3 : Addr) (L : List V) (a x t d sp : Addr) (B : Nat) (n : Int) (m ml : Nat) (g e : Int → Bool) : Prop where
  ex : ∃ kvs ls, Sta A H a x t d B n kvs g ∧ kvs.length ≤ m ∧ H sp = some (.dK ls) ∧ KS e ls ∧ ls.length ≤ ml
  nsd : sp ≠ d
  nst : sp ≠ t
  q : H q3 = some (.lst L)
  nqa : q3 ≠ a
section
variable {A : Adr} {H H' : Hp} {q3 a x t d sp : Addr} {L : List V} {B B' : Nat} {n n' : Int} {m m' ml ml' : Nat} {g g' e e' : Int → Bool}
theorem Wd.same (W : Wd A H q3 L a x t d sp B n m ml g e) (s : Same H H') : Wd A H' q3 L a x t d sp B n m ml g e := by
  obtain ⟨⟨kvs, ls, S, h1, h2, h3⟩, h4, h5, h6, h7⟩ := W
  exact ⟨⟨kvs, ls, S.same s, h1, s _ _ h2, h3⟩, h4, h5, s _ _ h6, h7⟩
theorem Wd.draw (W : Wd A H q3 L a x t d sp B n m ml g e) (s : But a H H') (w : WellAt H' a B') : Wd A H' q3 L a x t d sp B' n m ml g e := by
  obtain ⟨⟨kvs, ls, S, h1, h2, h3⟩, h4, h5, h6, h7⟩ := W
  obtain ⟨xs, hx⟩ := S.wl.lst
  exact ⟨⟨kvs, ls, S.draw s w, h1, s _ _ (ne_of h2 hx (by intro z; cases z)) h2, h3⟩, h4, h5, s _ _ h7 h6, h7⟩
theorem Wd.frm (W : Wd A H q3 L a x t d sp B n m ml g e) (s : Frm (· = a) H H') (S' : ∀ kvs, Sta A H a x t d B n kvs g → kvs.length ≤ m → Sta A H' a x t d B' n kvs g) : Wd A H' q3 L a x t d sp B' n m ml g e := by
  obtain ⟨⟨kvs, ls, S, h1, h2, h3⟩, h4, h5, h6, h7⟩ := W
  obtain ⟨xs, hx⟩ := S.wl.lst
  exact ⟨⟨kvs, ls, S' kvs S h1, h1, s _ _ (ne_of h2 hx (by intro z; cases z)) h2 (by intro ps z; cases z), h3⟩, h4, h5, s _ _ h7 h6 (by intro ps z; cases z), h7⟩
theorem Wd.wl (W : Wd A H q3 L a x t d sp B n m ml g e) : WellAt H a B := let ⟨_, _, S, _⟩ := W.ex; S.wl
/-- the law's own pages change -/
theorem Wd.space {ls' : List (Key × V)} (W : Wd A H q3 L a x t d sp B n m ml g e) (s : But sp H H') (h : H' sp = some (.dK ls')) (ks : KS e' ls') (few : ls'.length ≤ ml') : Wd A H' q3 L a x t d sp B n m ml' g e' := by
  obtain ⟨⟨kvs, ls, S, h1, h2, h3⟩, h4, h5, h6, h7⟩ := W
  obtain ⟨w0, w1, w2, hw, wr⟩ := S.wl
  have k : ∀ {b : Addr} {o : HO}, (∀ u, o ≠ .dK u) → H b = some o → H' b = some o := fun n z => s _ _ (ne_of z h2 (n _)) z
  have tb : LamX.Tabs (TS A) H' := Tabs.keep S.tb fun b o q => ⟨fun u z => k (by subst z; intro u z; cases z) q, fun ps z => k (by subst z; intro u z; cases z) q⟩
  refine ⟨⟨kvs, ls', ⟨tb, ⟨w0, w1, w2, k (by intro u z; cases z) hw, wr⟩, ?_, ⟨s _ _ (Ne.symm h4) S.ta.at_, fun kv hkv => ?_, S.ta.ks⟩, S.few, S.ntd⟩, h1, h, ks, few⟩, h4, h5, k (by intro u z; cases z) h6, h7⟩
  · obtain ⟨⟨dx, b, c, d', f, g', y1⟩, y2, y4⟩ := S.sy
    exact ⟨⟨dx, b, c, d', f, g', k (by intro u z; cases z) y1⟩, s _ _ (Ne.symm h5) y2, y4⟩
  · obtain ⟨p, e1, r, ix, fl, dx', e2⟩ := S.ta.pl kv hkv
    exact ⟨p, e1, r, ix, fl, dx', k (by intro u z; cases z) e2⟩
/-- the program's table changes -/
theorem Wd.sys {kvs' : List (Key × V)} (W : Wd A H q3 L a x t d sp B n m ml g e) (s : ∀ b o, b ≠ x → b ≠ d → H b = some o → H' b = some o) (S' : SyA A.c_System .non .non (.bl false) H' x t n' 1 0 [(1, d)]) (T' : Tab A H' d kvs' g') (few : kvs'.length ≤ m') (le2 : m' ≤ 9000) :
    Wd A H' q3 L a x t d sp B n' m' ml g' e := by
  obtain ⟨⟨kvs, ls, S, h1, h2, h3, h3'⟩, h4, h5, h6, h7⟩ := W
  obtain ⟨w0, w1, w2, hw, wr⟩ := S.wl
  obtain ⟨⟨dx, b, c, d', f, g0, y1⟩, y2, y4⟩ := S.sy
  have k : ∀ {b : Addr} {o : HO}, (∀ u, o ≠ .dK u) → (∀ C dx fs, o ≠ .ins C dx fs) → H b = some o → H' b = some o := fun n1 n2 z => s _ _ (ne_of z y1 (n2 _ _ _)) (ne_of z S.ta.at_ (n1 _)) z
  have tb : LamX.Tabs (TS A) H' := Tabs.keep S.tb fun b o q => ⟨fun u z => k (by subst z; intro u z; cases z) (by subst z; intro _ _ _ z; cases z) q, fun ps z => k (by subst z; intro u z; cases z) (by subst z; intro _ _ _ z; cases z) q⟩
  exact ⟨⟨kvs', ls, ⟨tb, ⟨w0, w1, w2, k (by intro u z; cases z) (by intro _ _ _ z; cases z) hw, wr⟩, S', T', by omega, S.ntd⟩, few, s _ _ (ne_of h2 y1 (by intro z; cases z)) h4 h2, h3, h3'⟩, h4, h5, k (by intro u z; cases z) (by intro _ _ _ z; cases z) h6, h7⟩
theorem Wd.mono (W : Wd A H q3 L a x t d sp B n m ml g e) (h : B ≤ B') (h2 : B' ≤ 1000000) : Wd A H q3 L a x t d sp B' n m ml g e := by
  obtain ⟨⟨kvs, ls, S, h1⟩, h4, h5, h6, h7⟩ := W
  exact ⟨⟨kvs, ls, S.mono h h2, h1⟩, h4, h5, h6, h7⟩
theorem Wd.mono2 (W : Wd A H q3 L a x t d sp B n m ml g e) (h : ml ≤ ml') : Wd A H q3 L a x t d sp B n m ml' g e := by
  obtain ⟨⟨kvs, ls, S, h1, h2, h3, h3'⟩, h4, h5, h6, h7⟩ := W
  exact ⟨⟨kvs, ls, S, h1, h2, h3, by omega⟩, h4, h5, h6, h7⟩
theorem fits_in {c r : Int} (hc : 1 ≤ c) (h : fits g c = .int r) : 0 ≤ r ∧ r ≤ 512 - c := by
  unfold fits at h
  split at h
  · rename_i i hi
    rw [List.find?_range_eq_some] at hi
    obtain ⟨h1, h2, _⟩ := hi
    have h2 := List.mem_range.mp h2
    have h1 : runN g (i + 1) = c := by simpa using h1
    have b := (runN_at g (i + 1)).2
    have e := V.int.inj h
    omega
  · cases h
end
def spLaw (K : PySem.W.Frag) (A : Adr) : Sp := fun vs H Q _ => ∃ (a : Addr) (ns : List Int), vs = [.ref a] ∧ SqL K H a (ns.map V.int) ∧ ns.length ≤ 63 ∧ LamX.Tabs (TS A) H ∧ ∀ H', Q (.bl true) H'
section
variable {P : Program} {w : World} {K : PySem.W.Frag} {mg : Str → Option Value} {base : Heap} {A : Adr}
theorem ok_law (G : Txt K mg A) (TB : Tb base mg A) : FnOk P w K mg base CX0 9 A.a_law A.fd_law p_law (spLaw K A) := by
  obtain ⟨ds, hIV, hIB⟩ := init_binds G
  obtain ⟨es, hMV, hMB⟩ := map_binds G
  obtain ⟨mv, hKB⟩ := map_kbinds G
  obtain ⟨ocS, odS, kvS, docS, pmS, anS, cdS, ctS, oslS, hfd, lkS, hcS⟩ := G.f__law_said.ex
  have hbS := G.bi__law_said
  rw [hfd] at lkS hbS
  refine G.fl_law.ok sc_law (fun vs H Q E h => ?_) (fun A' outer s H vs Q E hr h => ?_)
  · obtain ⟨a, ns, rfl, _⟩ := h
    rfl
  · obtain ⟨a0, ns, rfl, hS, hn, hT, k⟩ := h
    refine ⟨_, (pss_cons (ps_for PassesOwn.never rfl (pi_list (pe_op op_cat (pe_slice sl_list (pv 0) po_none (po_some pe_int)) (pe_lst (pa_cons pe_int (pa_cons pe_int pa_nil))))) (pg_name (i := 1) sc_law.nd rfl (Or.inl rfl)) (pss_cons (ps_set (i := 2) sc_law.nd rfl (Or.inl rfl) (pe_call (ok__law_well G) (hr.mono (by decide)) rfl G.g__law_well G.k__law_well G.bi__law_well .nil pass0 (pa_cons (pv 1) pa_nil)))
  (pss_cons (ps_set (i := 3) sc_law.nd rfl (Or.inr rfl) (pe_make0 G.mk_System (ok_System_init G) (hr.mono (by decide)) rfl G.g_System hIB hIV passL))
  (pss_cons (ps_set (i := 4) sc_law.nd rfl (Or.inr rfl) (pe_call (ok_spawn G) (hr.mono (by decide)) rfl G.g_spawn G.k_spawn G.bi_spawn .nil pass0 (pa_cons (pv 3) pa_nil)))
  (pss_cons (ps_set (i := 5) sc_law.nd rfl (Or.inl rfl) pe_dnewK)
  (pss_cons (ps_for PassesOwn.never rfl (pi_range1 rfl G.b_range (pa_cons (pe_call (ok__law_draw G) (hr.mono (by decide)) rfl G.g__law_draw G.k__law_draw G.bi__law_draw .nil pass0 (pa_cons (pv 2) (pa_cons pe_int pa_nil))) pa_nil)) (pg_name (i := 6) sc_law.nd rfl (Or.inl rfl)) (pss_cons (ps_set (i := 7) sc_law.nd rfl (Or.inl rfl) (pe_call (ok__law_one G) (hr.mono (by decide)) rfl G.g__law_one G.k__law_one G.bi__law_one .nil pass0 (pa_cons (pv 2) (pa_cons (pe_lst (pa_cons pe_int (pa_cons pe_int (pa_cons (pe_call (ok__law_draw G) (hr.mono (by decide)) rfl G.g__law_draw G.k__law_draw G.bi__law_draw .nil pass0 (pa_cons (pv 2) (pa_cons pe_int pa_nil))) (pa_cons (pe_call (ok__law_draw G) (hr.mono (by decide)) rfl G.g__law_draw G.k__law_draw G.bi__law_draw .nil pass0 (pa_cons (pv 2) (pa_cons pe_int pa_nil))) pa_nil))))) pa_nil))))
  (pss_cons (ps_set (i := 8) sc_law.nd rfl (Or.inr rfl) (pe_callB (call_min2 rfl) (by rfl) G.b_min (by decide +kernel) (pa_cons (pe_op op_sub pe_int (pv 7)) (pa_cons (pe_op op_add pe_int (pe_call (ok__law_draw G) (hr.mono (by decide)) rfl G.g__law_draw G.k__law_draw G.bi__law_draw .nil pass0 (pa_cons (pv 2) (pa_cons (pe_call (ok__law_one G) (hr.mono (by decide)) rfl G.g__law_one G.k__law_one G.bi__law_one .nil pass0 (pa_cons (pv 2) (pa_cons (pe_lst (pa_cons pe_int (pa_cons pe_int (pa_cons pe_int pa_nil)))) pa_nil))) pa_nil)))) pa_nil))))
  (pss_one (ps_if (pt_cmpR op_eq (pe_call (ok__law_draw G) (hr.mono (by decide)) rfl G.g__law_draw G.k__law_draw G.bi__law_draw .nil pass0 (pa_cons (pv 2) (pa_cons pe_int pa_nil))) pe_int (nomark _)) (pss_cons (ps_expr (pe_call (ok_unmap G) (hr.mono (by decide)) rfl G.g_unmap G.k_unmap G.bi_unmap .nil passL (pa_cons (pv 3) (pa_cons (pv 4) (pa_cons (pv 7) (pa_cons (pv 8) pa_nil))))))
  (pss_one (ps_for PassesOwn.never rfl (pi_range2 rfl G.b_range (pa_cons (pv 7) (pa_cons (pe_op op_add (pv 7) (pv 8)) pa_nil))) (pg_name (i := 9) sc_law.nd rfl (Or.inl rfl)) (pss_one (ps_expr (pe_dpop2 (pv 5) (pv 9) pe_non ⟨rfl, rfl, rfl, rfl⟩)))))) (pss_cons (ps_expr (pe_callN (ok_map_pages G) (hr.mono (by decide)) rfl G.g_map_pages G.k_map_pages hKB passL (pa_cons (pv 3) (pa_cons (pv 4) (pa_cons (pv 8) pa_nil))) (pk_cons (pv 7) pk_nil)))
  (pss_one (ps_for PassesOwn.never rfl (pi_range2 rfl G.b_range (pa_cons (pv 7) (pa_cons (pe_op op_add (pv 7) (pv 8)) pa_nil))) (pg_name (i := 9) sc_law.nd rfl (Or.inl rfl)) (pss_one (ps_dput (hu_of hr) (pv 5) (pv 9) pe_bl rfl))))))))))
  (pss_cons (ps_if (pt_cmpR op_ne (pe_call (ok_widest G) (hr.mono (by decide)) rfl G.g_widest G.k_widest G.bi_widest .nil passL (pa_cons (pv 3) (pa_cons (pv 4) pa_nil))) (pe_call (ok__law_widest G) (hr.mono (by decide)) rfl G.g__law_widest G.k__law_widest G.bi__law_widest .nil pass0 (pa_cons (pv 5) pa_nil)) (nomark _)) (pss_one (ps_ret pe_bl)) pss_nil)
  (pss_cons (ps_for PassesOwn.never rfl (pi_list (pe_lst (pa_cons pe_int (pa_cons pe_int (pa_cons pe_int (pa_cons (pe_call (ok__law_widest G) (hr.mono (by decide)) rfl G.g__law_widest G.k__law_widest G.bi__law_widest .nil pass0 (pa_cons (pv 5) pa_nil)) (pa_cons (pe_op op_add (pe_call (ok__law_widest G) (hr.mono (by decide)) rfl G.g__law_widest G.k__law_widest G.bi__law_widest .nil pass0 (pa_cons (pv 5) pa_nil)) pe_int) (pa_cons (pe_op op_add pe_int (pe_call (ok__law_draw G) (hr.mono (by decide)) rfl G.g__law_draw G.k__law_draw G.bi__law_draw .nil pass0 (pa_cons (pv 2) (pa_cons pe_int pa_nil)))) pa_nil)))))))) (pg_name (i := 8) sc_law.nd rfl (Or.inr rfl)) (pss_one (ps_if (PW.pt (pw_and (pt_chain op_le op_le pe_int (pv 8) pe_int) (pw_and1 (pt_cmpR op_ne (pe_call (ok_gap G) (hr.mono (by decide)) rfl G.g_gap G.k_gap G.bi_gap .nil passL (pa_cons (pv 3) (pa_cons (pv 4) (pa_cons (pv 8) pa_nil)))) (pe_call (ok__law_fits G) (hr.mono (by decide)) rfl G.g__law_fits G.k__law_fits G.bi__law_fits .nil pass0 (pa_cons (pv 5) (pa_cons (pv 8) pa_nil))) (nomark _))))) (pss_one (ps_ret pe_bl)) pss_nil)))
  (pss_cons (ps_if (pt_not (pt_val (pe_call (ok__law_refused G TB) (hr.mono (by decide)) rfl G.g__law_refused G.k__law_refused G.bi__law_refused .nil pass0 (pa_cons (pv 2) (pa_cons (pv 3) (pa_cons (pv 4) pa_nil)))))) (pss_one (ps_ret pe_bl)) pss_nil)
  (pss_cons (ps_set (i := 8) sc_law.nd rfl (Or.inr rfl) (pe_op op_add pe_int (pe_call (ok__law_draw G) (hr.mono (by decide)) rfl G.g__law_draw G.k__law_draw G.bi__law_draw .nil pass0 (pa_cons (pv 2) (pa_cons (pe_call (ok__law_one G) (hr.mono (by decide)) rfl G.g__law_one G.k__law_one G.bi__law_one .nil pass0 (pa_cons (pv 2) (pa_cons (pe_lst (pa_cons pe_int (pa_cons pe_int pa_nil))) pa_nil))) pa_nil)))))
  (pss_cons (ps_set (i := 10) sc_law.nd rfl (Or.inl rfl) (pe_call (ok__law_fits G) (hr.mono (by decide)) rfl G.g__law_fits G.k__law_fits G.bi__law_fits .nil pass0 (pa_cons (pv 5) (pa_cons (pv 8) pa_nil))))
  (pss_one (ps_if (pt_cmpR (OpR.or op_ne (op_neTupS (hu0 hr))) (LamX.pe_lamcall (T := TS A) (TT := TTs A) (k := 5) rfl G.g__law_said G.k__law_said lkS hcS hbS sc__law_said rfl (Or.inl rfl) (said_gives G) TB.l rfl List.mem_cons_self (TS_l TB) (hr.mono (by decide)) (LamX.lamS_by (sc := defScope s_law) (by decide +kernel)) rfl (fun _ _ _ _ _ => rfl) (fun A2 outer2 s2 H2 E2 f2 c2 hr => by exact (pe_call (ok_map_pages G) (hr.mono (by decide)) rfl G.g_map_pages G.k_map_pages hMB hMV (passes_call (takes_of rfl rfl rfl rfl) (fun _ _ _ _ z => z)) (pa_cons (pv 3) (pa_cons (pv 4) (pa_cons (pv 8) pa_nil)))))) (pe_ix ix_list (pe_lst (pa_cons (pv 10) (pa_cons (pe_tup (pa_cons pe_str (pa_cons pe_str pa_nil))) pa_nil))) (pe_callTy call_int1 (by rfl) G.b_int (by decide +kernel) (pa_cons (pe_cmp (pc_isN (pv 10)) rfl) pa_nil)) (fun _ _ => rfl)) (nomark _)) (pss_one (ps_ret pe_bl)) pss_nil)))))))))))))
  (pss_one (ps_ret pe_bl))), ?_⟩
    -- script[:8] + [0, 1]
    refine ⟨_, rfl, _, rfl, a0, _, rfl, hS, fun q1 hq1 => ⟨(by show 2 ≤ sizeLine; decide), fun q2 hq2 => ?_⟩⟩
    obtain ⟨ms, hms, hml⟩ : ∃ ms : List Int, cutV (ns.map V.int) none (some 8) = ms.map V.int ∧ ms.length ≤ 63 := by
      refine ⟨(ns.drop (HT.sIx (ns.map V.int).length 0 none)).take (HT.sIx (ns.map V.int).length (ns.map V.int).length (some 8) - HT.sIx (ns.map V.int).length 0 none), ?_, ?_⟩
      · unfold cutV
        rw [List.map_take, List.map_drop]
      · rw [List.length_take, List.length_drop]
        omega
    have u1 : (upd (upd H q1 (.lst (cutV (ns.map V.int) none (some 8)))) q2 (.lst [.int 0, .int 1])) q1 = some (.lst (ms.map V.int)) := by rw [upd_ne (ne_of_none upd_same hq2), upd_same, hms]
    refine ⟨q1, q2, _, _, rfl, rfl, u1, upd_same, (by rw [List.length_map]; show ms.length + 2 ≤ sizeLine; exact Nat.le_trans (Nat.add_le_add_right hml 2) (by decide)), fun q3 hq3 => ?_⟩
    have sA : Same H (upd (upd (upd H q1 (.lst (cutV (ns.map V.int) none (some 8)))) q2 (.lst [.int 0, .int 1])) q3 (.lst (ms.map V.int ++ [.int 0, .int 1]))) := ((Same.new hq1).trans (Same.new hq2)).trans (Same.new hq3)
    have TA := tabs_same hT sA
    generalize hHA : upd (upd (upd H q1 (.lst (cutV (ns.map V.int) none (some 8)))) q2 (.lst [.int 0, .int 1])) q3 (.lst (ms.map V.int ++ [.int 0, .int 1])) = HA at *
    have lA : HA q3 = some (.lst (ms.map V.int ++ [.int 0, .int 1])) := by rw [← hHA, upd_same]
    have hL0 : ∀ y ∈ ms.map V.int ++ [V.int 0, V.int 1], ∃ n, y = V.int n := fun y hy => by
      rcases List.mem_append.mp hy with z | z
      · obtain ⟨n, _, rfl⟩ := List.mem_map.mp z
        exact ⟨n, rfl⟩
      · simp at z
        rcases z with rfl | rfl <;> exact ⟨_, rfl⟩
    generalize hL : ms.map V.int ++ [V.int 0, V.int 1] = L at *
    refine ⟨q3, rfl, ⟨_, SqL.of lA⟩, for_list (K := K) (a := q3) (xs := L)
      (fun _ σ H' => (∃ c1 c2 c3 c4 c5 c6 c7 c8 c9 c10, σ = [some (.ref a0), c1, c2, c3, c4, c5, c6, c7, c8, c9, c10]) ∧ LamX.Tabs (TS A) H' ∧ H' q3 = some (.lst L))
      ⟨⟨_, _, _, _, _, _, _, _, _, _, rfl⟩, TA, lA⟩ (fun _ σ H' _ hp => SqL.of hp.2.2) ?_ ?_⟩
    · rintro _ y σ H0 hy ⟨⟨c1, c2, c3, c4, c5, c6, c7, c8, c9, c10, rfl⟩, T0, l0⟩
      obtain ⟨n, rfl⟩ := hL0 y (List.mem_of_getElem? hy)
      -- well, system, process, space
      refine ⟨_, rfl, n, rfl, fun a H1 ha s1 w1 => ?_⟩
      refine fun x dx hx hdx hne => ⟨x, dx, .non, .non, .bl false, rfl, .non, .non, .bl _, upd_same, fun _ H3 t f3 t0 S3 => ⟨rfl, ?_⟩, fun pt hp => ?_⟩
      case refine_2 => exact absurd hp (by rw [show badP .non .non (.bl false) = none by decide]; simp)
      refine ⟨_, rfl, .bl false, .non, .non, x, t, 0, 0, 0, [], rfl, S3, by decide, fun H4 d f4 d0 dd S4 => ?_⟩
      intro sp hsp
      have W0 : Wd A (upd H4 sp (.dK [])) q3 L a x t d sp 0 1 0 0 (fun _ => false) (fun _ => false) := by
        have sN : Same H1 (upd (upd H1 dx (.own x)) x (.ins A.c_System dx [])) := (Same.new hdx).trans (Same.new (by rw [upd_ne (Ne.symm hne)]; exact hx))
        have keep : Same H1 H4 := fun b o e => f4 _ _ (ne_of_none e hx) (fun z => by have := sN _ _ e; rw [z, t0] at this; cases this) (f3 _ _ (ne_of_none e hx) (sN _ _ e))
        have S4' : SyA A.c_System .non .non (.bl false) H4 x t 1 1 0 [(1, d)] := S4
        have tt := S4'.2.1
        have ntd : t ≠ d := fun e => by
          rw [e, dd] at tt
          have := congrArg List.length (HO.dK.inj (Option.some.inj tt))
          simp at this
        have sn := Same.new (o := .dK []) hsp
        obtain ⟨xs, hxs⟩ := w1.lst
        exact ⟨⟨[], [], ⟨tabs_same T0 (s1.trans (keep.trans sn)), w1.same (((keep.trans sn) _ _ hxs).trans hxs.symm), S4'.same sn, ⟨sn _ _ dd, fun kv h => (nomatch h), fun _ => rfl⟩, Nat.zero_le _, ntd⟩, Nat.le_refl _, upd_same, fun _ => rfl, Nat.le_refl _⟩,
          (ne_of_none dd hsp).symm, (ne_of_none tt hsp).symm, (s1.trans (keep.trans sn)) _ _ l0, fun e => by rw [e, ha] at l0; cases l0⟩
      clear hx hdx hne f3 t0 S3 f4 d0 dd S4 hsp s1 w1 T0
      generalize upd H4 sp (.dK []) = H5 at *
      dsimp only [gName, List.set]
      rw [show (0 : Int) + 1 = 1 from rfl]
      -- the steps
      refine ⟨_, rfl, a, 13, 0, rfl, by decide, by decide, W0.wl, by decide, fun d1 H6 d10 d11 f6 w6 => ?_⟩
      have W1 := W0.draw f6 w6
      refine ⟨d1, rfl, by omega, by omega, for_range (lo := 0) (n := d1.toNat) (fun i σ H' => ∃ c6 c7 c8 c9 g, σ = [some (.ref a0), some (.int n), some (.ref a), some (.ref x), some (.int 1), some (.ref sp), c6, c7, c8, c9, c10] ∧ Wd A H' q3 L a x t d sp (1 + 8 * i) (1 + (i : Nat)) (512 * i) (512 * i) g g)
        ⟨_, _, _, _, _, rfl, W1⟩ ?_ ?_⟩
      · rintro i σ H7 hi ⟨c6, c7, c8, c9, g, rfl, W⟩
        have i12 : i ≤ 12 := by omega
        -- begin
        refine ⟨_, rfl, _, rfl, a, 512, _, rfl, by decide, by decide, W.wl, by omega, fun e1 H8 e10 e11 f8 w8 => ?_⟩
        have W8 := W.draw f8 w8
        refine ⟨_, rfl, a, 40, _, rfl, by decide, by decide, W8.wl, by omega, fun e2 H9 e20 e21 f9 w9 => ⟨(by show 4 ≤ sizeLine; decide), fun q7 hq7 => ?_⟩⟩
        have W9 := W8.draw f9 w9
        refine ⟨a, q7, _, _, rfl, upd_same, wne W9.wl hq7, (by show 0 < 4; decide), (by show 4 < 1000; decide), wnew W9.wl hq7, by omega, fun u H10 hu f10 w10 => ?_⟩
        have W10 := (W9.same (Same.new hq7)).draw f10 w10
        obtain ⟨b, rfl, b0, b1⟩ : ∃ b : Int, u = .int b ∧ 0 ≤ b ∧ b ≤ 511 := by
          simp only [List.mem_cons, List.not_mem_nil, or_false] at hu
          rcases hu with rfl | rfl | rfl | rfl
          · exact ⟨_, rfl, by decide, by decide⟩
          · exact ⟨_, rfl, by decide, by decide⟩
          · exact ⟨_, rfl, by omega, by omega⟩
          · exact ⟨_, rfl, by omega, by omega⟩
        clear W8 W9 f8 w8 f9 w9 f10 w10 hq7 hu W
        -- many
        refine ⟨_, rfl, _, _, rfl, rfl, _, rfl, _, rfl, (by show 3 ≤ sizeLine; decide), fun q8 hq8 => ?_⟩
        refine ⟨a, q8, _, _, rfl, upd_same, wne W10.wl hq8, (by show 0 < 3; decide), (by show 3 < 1000; decide), wnew W10.wl hq8, by omega, fun u2 H11 hu2 f11 w11 => ?_⟩
        have W11 := (W10.same (Same.new hq8)).draw f11 w11
        obtain ⟨mm, rfl, m0, m1⟩ : ∃ b : Int, u2 = .int b ∧ 0 < b ∧ b < 1000000 := by
          simp only [List.mem_cons, List.not_mem_nil, or_false] at hu2
          rcases hu2 with rfl | rfl | rfl <;> exact ⟨_, rfl, by decide, by decide⟩
        refine ⟨a, mm, _, rfl, m0, m1, W11.wl, by omega, fun e3 H12 e30 e31 f12 w12 => ⟨1, e3, rfl, rfl, 512 - b, 1 + e3, rfl, ?_⟩⟩
        have W12 := W11.draw f12 w12
        obtain ⟨m, em, m2, m3⟩ : ∃ m : Int, (if 1 + e3 < 512 - b then 1 + e3 else 512 - b) = m ∧ 1 ≤ m ∧ m ≤ 512 - b := by
          refine ⟨_, rfl, ?_, ?_⟩ <;> split <;> omega
        rw [em]
        clear W10 W11 f11 w11 hq8 hu2 f12 w12 em
        refine ⟨_, rfl, a, 4, _, rfl, by decide, by decide, W12.wl, by omega, fun e4 H13 e40 e41 f13 w13 => ⟨rfl, _, rfl, iteB (fun e => ?_) (fun e => ?_)⟩⟩
        · have W13 := W12.draw f13 w13
          obtain ⟨⟨kvs, ls, S, h1, h2, h3⟩, _⟩ := id W13
          refine ⟨_, rfl, _, rfl, _, rfl, _, rfl, .non, .non, .bl false, x, t, _, 1, 0, _, 1, b, m, d, kvs, g, rfl, S.sy, List.mem_singleton.mpr rfl, S.ta.at_, S.ta.pl, S.ta.ks, S.few, S.ntd, b0, b1, m2, m3, fun H14 kvs' fr S' at' pl' ks' few' => ?_⟩
          have W14 := W13.sys (m' := 512 * (i + 1)) fr S' ⟨at', pl', ks'⟩ (by omega) (by omega)
          have ec : ((b + m - b).toNat : Int) = m := by omega
          have en : (1 + (i : Nat) : Int) + 1 = 1 + ((i + 1 : Nat) : Int) := by omega
          rw [en] at W14
          refine ⟨_, rfl, _, rfl, _, rfl, _, _, rfl, rfl, b, b + m, rfl, ⟨by omega, by omega, by omega, by omega⟩, for_range (lo := b) (n := (b + m - b).toNat) (fun j σ H' => (∃ c6 c9, σ = [some (.ref a0), some (.int n), some (.ref a), some (.ref x), some (.int 1), some (.ref sp), c6, some (.int b), some (.int m), c9, c10]) ∧
              Wd A H' q3 L a x t d sp _ (1 + ((i + 1 : Nat) : Int)) (512 * (i + 1)) (512 * i) (fun k => g k && !decide (b ≤ k ∧ k < b + m)) (fun k => g k && !decide (b ≤ k ∧ k < b + (j : Nat)))) ⟨⟨_, _, rfl⟩, W14.space (fun _ _ _ h => h) (fr _ _ (by
                obtain ⟨⟨dxx, aa, bb, cc, dd, ee, hxx⟩, _⟩ := S.sy
                exact ne_of h2 hxx (by intro z; cases z)) W13.nsd h2) (fun k => ?_) (by omega)⟩ ?_ ?_⟩
          · rw [h3.1]
            rw [decide_eq_false (by simp only [Int.natCast_zero]; omega)]
            simp
          · rintro j σ Z hj ⟨⟨c6', c9', rfl⟩, WZ⟩
            obtain ⟨⟨kz, lz, Sz, z1, z2, z3, z4⟩, _⟩ := id WZ
            refine ⟨_, rfl, sp, rfl, .inl ⟨lz, .inl z2⟩, _, rfl, lz, Sum.inl (b + (j : Nat)), z2, rfl, fun v hv => ⟨⟨_, _, rfl⟩, WZ.space But.up upd_same (fun k => ?_) (Nat.le_trans (List.length_filter_le _ _) z4)⟩, fun hv => ⟨⟨_, _, rfl⟩, WZ.space (fun _ _ _ h => h) z2 (fun k => ?_) z4⟩⟩
            · rw [val_drop]
              by_cases ek : k = b + (j : Nat)
              · rw [if_pos (by rw [ek])]
                have : decide (b ≤ k ∧ k < b + ((j + 1 : Nat) : Int)) = true := decide_eq_true (by omega)
                rw [this]
                simp
              · rw [if_neg (fun z => ek (Sum.inl.inj z)), z3]
                have : decide (b ≤ k ∧ k < b + ((j + 1 : Nat) : Int)) = decide (b ≤ k ∧ k < b + (j : Nat)) := by rw [decide_eq_decide]; omega
                rw [this]
            · by_cases ek : k = b + (j : Nat)
              · rw [ek, hv]
                have : decide (b ≤ b + (j : Nat) ∧ b + (j : Nat) < b + ((j + 1 : Nat) : Int)) = true := decide_eq_true (by omega)
                rw [this]
                simp
              · rw [z3]
                have : decide (b ≤ k ∧ k < b + ((j + 1 : Nat) : Int)) = decide (b ≤ k ∧ k < b + (j : Nat)) := by rw [decide_eq_decide]; omega
                rw [this]
          · rintro σ Z ⟨⟨c6', c9', rfl⟩, WZ⟩
            rw [ec] at WZ
            exact ⟨_, _, _, _, _, rfl, (WZ.mono (by omega) (by omega)).mono2 (by omega)⟩
        · have W13 := W12.draw f13 w13
          obtain ⟨⟨kvs, ls, S, h1, h2, h3⟩, _⟩ := id W13
          refine ⟨_, rfl, _, rfl, _, rfl, _, rfl, rfl, rfl, .non, .non, x, t, _, 1, 0, _, 1, .int m, .int b, d, kvs, g, rfl, S.sy, List.mem_singleton.mpr rfl, .int m, .inr ⟨b, rfl⟩, S.ta, S.few, S.ntd, fun z => absurd z (by rw [show inR 1 512 (V.int m) = true from decide_eq_true ⟨m2, by omega⟩]; decide), fun c ec0 _ _ => ?_⟩
          have ec1 := V.int.inj ec0
          subst ec1
          have pv' : placeV g m (.int b) = .int b := if_neg (by simp)
          refine ⟨fun z => absurd z (by rw [pv', show inR 0 (512 - m) (V.int b) = true from decide_eq_true ⟨b0, by omega⟩]; decide), fun r er r0 r1 H14 kvs' fr S' T' few' => ?_⟩
          have er2 := V.int.inj (pv'.symm.trans er)
          subst er2
          have W14 := W13.sys (m' := 512 * (i + 1)) fr S' T' (by omega) (by omega)
          have ec : ((b + m - b).toNat : Int) = m := by omega
          have en : (1 + (i : Nat) : Int) + 1 = 1 + ((i + 1 : Nat) : Int) := by omega
          rw [en] at W14
          refine ⟨_, rfl, _, rfl, _, rfl, _, _, rfl, rfl, b, b + m, rfl, ⟨by omega, by omega, by omega, by omega⟩, for_range (lo := b) (n := (b + m - b).toNat) (fun j σ H' => (∃ c6 c9, σ = [some (.ref a0), some (.int n), some (.ref a), some (.ref x), some (.int 1), some (.ref sp), c6, some (.int b), some (.int m), c9, c10]) ∧
              Wd A H' q3 L a x t d sp _ (1 + ((i + 1 : Nat) : Int)) (512 * (i + 1)) (512 * i + j) (fun k => g k || decide (b ≤ k ∧ k < b + m)) (fun k => g k || decide (b ≤ k ∧ k < b + (j : Nat)))) ⟨⟨_, _, rfl⟩, W14.space (fun _ _ _ h => h) (fr _ _ (by
                obtain ⟨⟨dxx, aa, bb, cc, dd, ee, hxx⟩, _⟩ := S.sy
                exact ne_of h2 hxx (by intro z; cases z)) W13.nsd h2) (fun k => ?_) (by omega)⟩ ?_ ?_⟩
          · rw [h3.1]
            rw [decide_eq_false (by simp only [Int.natCast_zero]; omega)]
            simp
          · rintro j σ Z hj ⟨⟨c6', c9', rfl⟩, WZ⟩
            obtain ⟨⟨kz, lz, Sz, z1, z2, z3, z4⟩, _⟩ := id WZ
            refine ⟨_, rfl, _, rfl, sp, _, rfl, DPut.k (k := Sum.inl (b + (j : Nat))) z2 (Nat.lt_of_le_of_lt (by omega : lz.length ≤ 10000) (by decide)), ⟨_, _, rfl⟩, WZ.space But.up upd_same (fun k => ?_) (Nat.le_trans (length_putK _ _ _) (by omega))⟩
            rw [valV_put]
            by_cases ek : k = b + (j : Nat)
            · rw [if_pos (by rw [ek])]
              have : decide (b ≤ k ∧ k < b + ((j + 1 : Nat) : Int)) = true := decide_eq_true (by omega)
              rw [this]
              simp
            · rw [if_neg (fun z => ek (Sum.inl.inj z)), z3]
              have : decide (b ≤ k ∧ k < b + ((j + 1 : Nat) : Int)) = decide (b ≤ k ∧ k < b + (j : Nat)) := by rw [decide_eq_decide]; omega
              rw [this]
          · rintro σ Z ⟨⟨c6', c9', rfl⟩, WZ⟩
            rw [ec] at WZ
            exact ⟨_, _, _, _, _, rfl, (WZ.mono (by omega) (by omega)).mono2 (by omega)⟩
      · rintro σ H7 ⟨c6, c7, c8, c9, g, rfl, W⟩
        have W := (W.mono (B' := 200) (by omega) (by omega))
        clear W0 W1 f6 w6
        have hmx : 512 * d1.toNat ≤ 6656 := by omega
        generalize (512 * d1.toNat : Nat) = mx at *
        generalize (1 + ((d1.toNat : Nat) : Int)) = nn at *
        have noth : ∀ {E : XK} {H : Hp}, NoPr A [((1 : Int), d)] H (.int 1) E := fun hn => absurd (List.mem_singleton.mpr rfl) (hn 1 d rfl)
        -- widest
        obtain ⟨⟨kvs, ls, S, h1, h2, h3, h3'⟩, _⟩ := id W
        refine ⟨_, rfl, _, rfl, .non, .non, .bl false, x, t, _, 1, 0, _, .int 1, rfl, S.sy, .int 1, fun i' d' e' hm => ?_, noth⟩
        have e1 := List.mem_singleton.mp hm
        cases e1
        refine ⟨kvs, g, S.ta.at_, S.ta.ks, fun H8 s8 => ⟨_, rfl, sp, ls, g, rfl, s8 _ _ h2, h3, rfl, _, rfl, ?_⟩⟩
        rw [decide_eq_true rfl]
        refine iteF ?_
        have W8 := W.same s8
        have q8 := s8 _ _ h2
        -- for many in ..
        refine ⟨_, rfl, sp, ls, g, rfl, q8, h3, _, rfl, sp, ls, g, rfl, q8, h3, _, _, rfl, rfl, _, rfl, a, 512, _, rfl, by decide, by decide, W8.wl, by decide, fun e5 H9 e50 e51 f9 w9 => ⟨1, e5, rfl, rfl, (by show 6 ≤ sizeLine; decide), fun q9 hq9 => ?_⟩⟩
        have W9 := (W8.draw f9 w9).same (Same.new (o := .lst [V.int 1, V.int 2, V.int 512, V.int (topN g 512), V.int (topN g 512 + 1), V.int (1 + e5)]) hq9)
        have l9 : (upd H9 q9 (.lst [V.int 1, V.int 2, V.int 512, V.int (topN g 512), V.int (topN g 512 + 1), V.int (1 + e5)])) q9 = some (.lst [V.int 1, V.int 2, V.int 512, V.int (topN g 512), V.int (topN g 512 + 1), V.int (1 + e5)]) := upd_same
        generalize hH10 : upd H9 q9 (.lst [V.int 1, V.int 2, V.int 512, V.int (topN g 512), V.int (topN g 512 + 1), V.int (1 + e5)]) = H10 at *
        have allI : ∀ y ∈ [V.int 1, V.int 2, V.int 512, V.int (topN g 512), V.int (topN g 512 + 1), V.int (1 + e5)], ∃ c : Int, y = .int c := fun y hy => by
          simp only [List.mem_cons, List.not_mem_nil, or_false] at hy
          rcases hy with rfl | rfl | rfl | rfl | rfl | rfl <;> exact ⟨_, rfl⟩
        generalize hL9 : [V.int 1, V.int 2, V.int 512, V.int (topN g 512), V.int (topN g 512 + 1), V.int (1 + e5)] = L9 at *
        clear hL9 hH10 hq9 W8 q8 f9 w9 W S h1 h2 h3 h3' s8 hm
        refine ⟨q9, rfl, ⟨_, SqL.of l9⟩, for_list (K := K) (a := q9) (xs := L9)
          (fun _ σ H' => (∃ c6 c7 c8 c9, σ = [some (.ref a0), some (.int n), some (.ref a), some (.ref x), some (.int 1), some (.ref sp), c6, c7, c8, c9, c10]) ∧ Wd A H' q3 L a x t d sp 201 nn mx mx g g ∧ H' q9 = some (.lst L9))
          ⟨⟨_, _, _, _, rfl⟩, W9, l9⟩ (fun _ σ H' _ hp => SqL.of hp.2.2) ?_ ?_⟩
        · rintro _ y σ Z hy ⟨⟨c6, c7, c8, c9, rfl⟩, WZ, lz⟩
          obtain ⟨c, rfl⟩ := allI y (List.mem_of_getElem? hy)
          obtain ⟨⟨kz, sz, Sz, z1, z2, z3, z4⟩, _⟩ := id WZ
          refine ⟨_, rfl, _, _, rfl, rfl, _, rfl, iteB (fun y1 => ?_) (fun y1 => ?_)⟩
          · refine ⟨_, _, rfl, rfl, _, rfl, iteB (fun y2 => ?_) (fun y2 => ?_)⟩
            · have b1 := of_decide_eq_true y1
              have b2 := of_decide_eq_true y2
              refine ⟨_, rfl, _, rfl, _, rfl, .non, .non, .bl false, x, t, _, 1, 0, _, .int 1, .int c, rfl, Sz.sy, .int 1, .int c, fun i' d' e' hm => ?_, noth⟩
              have e1 := List.mem_singleton.mp hm
              cases e1
              refine ⟨kz, g, Sz.ta.at_, Sz.ta.ks, fun c' ec _ _ Z2 s2 => ?_, fun z => absurd z (by rw [show inR 1 512 (V.int c) = true from decide_eq_true ⟨b1, b2⟩]; decide)⟩
              have ec' := V.int.inj ec
              subst ec'
              refine ⟨_, rfl, _, rfl, sp, c, sz, g, rfl, s2 _ _ z2, z3, ?_, _, rfl, ?_⟩
              · rcases (fits_any g c Z2).2 with y | ⟨r, y⟩ <;> rw [y] <;> rfl
              · rw [decide_eq_true rfl]
                exact iteF ⟨⟨_, _, _, _, rfl⟩, WZ.same s2, s2 _ _ lz⟩
            · exact ⟨⟨_, _, _, _, rfl⟩, WZ, lz⟩
          · exact ⟨_, rfl, ⟨⟨_, _, _, _, rfl⟩, WZ, lz⟩⟩
        · rintro σ Z ⟨⟨c6, c7, c8, c9, rfl⟩, WZ, lz⟩
          clear W9 l9
          obtain ⟨⟨kz, sz, Sz, z1, z2, z3, z4⟩, _⟩ := id WZ
          -- what is refused
          refine ⟨_, rfl, _, rfl, _, rfl, a, x, t, d, _, _, kz, g, rfl, Sz, by decide, fun Z2 F2 S2 => ⟨_, rfl, iteF ?_⟩⟩
          obtain ⟨xw, hxw⟩ := Sz.wl.lst
          have W2 : Wd A Z2 q3 L a x t d sp 204 nn mx mx g g := ⟨⟨kz, sz, S2, z1, F2 _ _ (ne_of z2 hxw (by intro z; cases z)) z2 (by intro ps z; cases z), z3, z4⟩, WZ.nsd, WZ.nst, F2 _ _ WZ.nqa WZ.q (by intro ps z; cases z), WZ.nqa⟩
          clear F2 S2 hxw
          -- many, due
          refine ⟨_, rfl, _, rfl, (by show 2 ≤ sizeLine; decide), fun q5 hq5 => ?_⟩
          refine ⟨a, q5, _, _, rfl, upd_same, wne W2.wl hq5, (by show 0 < 2; decide), (by show 2 < 1000; decide), wnew W2.wl hq5, by decide, fun u Z3 hu f3 w3 => ?_⟩
          have W3 := (W2.same (Same.new hq5)).draw f3 w3
          obtain ⟨mm, rfl, m0, m1⟩ : ∃ b : Int, u = .int b ∧ 0 < b ∧ b ≤ 512 := by
            simp only [List.mem_cons, List.not_mem_nil, or_false] at hu
            rcases hu with rfl | rfl <;> exact ⟨_, rfl, by decide, by decide⟩
          refine ⟨a, mm, _, rfl, m0, by omega, W3.wl, by decide, fun e6 Z4 e60 e61 f4 w4 => ⟨1, e6, rfl, rfl, ?_⟩⟩
          have W4 := W3.draw f4 w4
          obtain ⟨m, em, m2, m3⟩ : ∃ m : Int, 1 + e6 = m ∧ 1 ≤ m ∧ m ≤ 512 := ⟨_, rfl, by omega, by omega⟩
          dsimp only [gName, List.set]
          rw [em]
          clear W2 W3 f3 w3 f4 w4 hq5 hu em e60 e61 m0 m1
          obtain ⟨⟨k4, s4, S4, y1, y2, y3, y4⟩, _⟩ := id W4
          refine ⟨_, rfl, _, rfl, sp, m, s4, g, rfl, y2, y3, ?_⟩
          dsimp only [gName, List.set]
          have T4 := S4.tb
          refine ⟨T4, fun Z5 e5' T5 => ?_⟩
          have S5 := S4.ext e5' T5
          have k5 : ∀ {b : Addr} {o : HO}, (∀ ps, o ≠ .tbl ps) → Z4 b = some o → Z5 b = some o := fun n z => e5' _ _ z n
          have l5 := k5 (by intro ps z; cases z) W4.q
          refine ⟨_, rfl, _, rfl, _, rfl, .non, .non, x, t, _, 1, 0, _, 1, .int m, .non, d, k4, g, rfl, S5.sy, List.mem_singleton.mpr rfl, .int m, .inl rfl, S5.ta, S5.few, S5.ntd, fun z => absurd z (by rw [show inR 1 512 (V.int m) = true from decide_eq_true ⟨m2, m3⟩]; decide), fun c ec0 _ _ => ?_⟩
          have ec1 := V.int.inj ec0
          subst ec1
          have pv' : placeV g m .non = fits g m := if_pos rfl
          rw [pv']
          have W5 : Wd A Z5 q3 L a x t d sp _ nn mx mx g g := ⟨⟨k4, s4, S5, y1, k5 (by intro ps z; cases z) y2, y3, y4⟩, W4.nsd, W4.nst, l5, W4.nqa⟩
          refine ⟨fun z => ?_, fun r er r0 r1 Z6 kvs' fr S' T' few' => ?_⟩
          · have ef : fits g m = .non := by
              rcases (fits_any g m Z5).2 with y | ⟨r, y⟩
              · exact y
              · have h := fits_in m2 y
                rw [y] at z
                exact absurd ⟨h.1, h.2⟩ (of_decide_eq_false z)
            rw [ef]
            refine fun d0 Z6 s6 _ ed => .inl ⟨rfl, d0, .str "at", rfl, ed, fun q hq => ?_⟩
            refine ⟨_, rfl, (by show 2 ≤ sizeLine; decide), fun u1 hu1 => ⟨(by show 2 ≤ sizeLine; decide), fun u2 hu2 => ⟨_, rfl, .inr ⟨_, rfl, ?_⟩⟩⟩⟩
            rw [decide_eq_true rfl]
            have t1 := Same.new (o := .tup [.str "part", .str "at"]) hq
            have t2 := Same.new (o := .tup [.str "part", .str "at"]) hu1
            have t3 := Same.new (o := .lst [.non, .ref u1]) hu2
            refine ⟨u2, _, 1, .ref u1, rfl, rfl, SqL.of upd_same, rfl, .inr ⟨q, u1, _, rfl, rfl, SqT.of (t3 _ _ (t2 _ _ upd_same)), SqT.of (t3 _ _ upd_same), rfl, _, rfl, iteF ?_⟩⟩
            have W6 := W5.same (s6.trans (t1.trans (t2.trans t3)))
            obtain ⟨⟨_, _, S6, _⟩, _⟩ := id W6
            exact ⟨⟨_, _, _, _, _, _, _, _, _, _, rfl⟩, S6.tb, W6.q⟩
          · rw [er]
            have W6 := W5.sys (m' := mx + 512) fr S' T' (by omega) (by omega)
            refine ⟨_, rfl, (by show 2 ≤ sizeLine; decide), fun u1 hu1 => ⟨(by show 2 ≤ sizeLine; decide), fun u2 hu2 => ⟨_, rfl, .inr ⟨_, rfl, ?_⟩⟩⟩⟩
            rw [decide_eq_false (by simp)]
            have t2 := Same.new (o := .tup [.str "part", .str "at"]) hu1
            have t3 := Same.new (o := .lst [.int r, .ref u1]) hu2
            refine ⟨u2, _, 0, .int r, rfl, rfl, SqL.of upd_same, rfl, .inl ⟨rfl, _, rfl, ?_⟩⟩
            rw [decide_eq_true rfl]
            have W7 := W6.same (t2.trans t3)
            obtain ⟨⟨_, _, S6, _⟩, _⟩ := id W7
            exact iteF ⟨⟨_, _, _, _, _, _, _, _, _, _, rfl⟩, S6.tb, W7.q⟩
    · rintro σ H' ⟨⟨c1, c2, c3, c4, c5, c6, c7, c8, c9, c10, rfl⟩, T0, l0⟩
      exact k _
end
end My

set_option Elab.async false
set_option linter.all false
set_option maxRecDepth 100000
set_option maxHeartbeats 4000000
namespace My
open PySem L2
theorem all_mk {K : PySem.W.Frag} {h : Heap} {mg : Str → Option Value} (X : K.In h) (G : h.Ns mainGlobals mg)
    {f_has_object : Addr} {od_has_object an_has_object : Option Addr} {sl_has_object : Array (Option Value)} {oc_has_object dc_has_object pm_has_object ct_has_object : Value} {cd_has_object : Value}
    {kV_has_object : Value}
    {f_count_page : Addr} {od_count_page an_count_page : Option Addr} {sl_count_page : Array (Option Value)} {oc_count_page dc_count_page pm_count_page ct_count_page : Value} {cd_count_page : Value}
    {kV_count_page : Value}
    {f_discount_page : Addr} {od_discount_page an_discount_page : Option Addr} {sl_discount_page : Array (Option Value)} {oc_discount_page dc_discount_page pm_discount_page ct_discount_page : Value} {cd_discount_page : Value}
    {kV_discount_page : Value}
    {f_replace_pages : Addr} {od_replace_pages an_replace_pages : Option Addr} {sl_replace_pages : Array (Option Value)} {oc_replace_pages dc_replace_pages pm_replace_pages ct_replace_pages : Value} {cd_replace_pages : Value}
    {kV_replace_pages : Value}
    {f_end_step : Addr} {od_end_step an_end_step : Option Addr} {sl_end_step : Array (Option Value)} {oc_end_step dc_end_step pm_end_step ct_end_step : Value} {cd_end_step : Value}
    {kV_end_step : Value}
    {f_is_integer : Addr} {od_is_integer an_is_integer : Option Addr} {sl_is_integer : Array (Option Value)} {oc_is_integer dc_is_integer pm_is_integer ct_is_integer : Value} {cd_is_integer : Value}
    {kV_is_integer : Value}
    {f_is_word : Addr} {od_is_word an_is_word : Option Addr} {sl_is_word : Array (Option Value)} {oc_is_word dc_is_word pm_is_word ct_is_word : Value} {cd_is_word : Value}
    {kV_is_word : Value}
    {f_require : Addr} {od_require an_require : Option Addr} {sl_require : Array (Option Value)} {oc_require dc_require pm_require ct_require : Value} {cd_require : Value}
    {kV_require : Value}
    {f_table_of : Addr} {od_table_of an_table_of : Option Addr} {sl_table_of : Array (Option Value)} {oc_table_of dc_table_of pm_table_of ct_table_of : Value} {cd_table_of : Value}
    {kV_table_of : Value}
    {f_numbers_of : Addr} {od_numbers_of an_numbers_of : Option Addr} {sl_numbers_of : Array (Option Value)} {oc_numbers_of dc_numbers_of pm_numbers_of ct_numbers_of : Value} {cd_numbers_of : Value}
    {kV_numbers_of : Value}
    {f_require_charge : Addr} {od_require_charge an_require_charge : Option Addr} {sl_require_charge : Array (Option Value)} {oc_require_charge dc_require_charge pm_require_charge ct_require_charge : Value} {cd_require_charge : Value}
    {kV_require_charge : Value}
    {f_require_source : Addr} {od_require_source an_require_source : Option Addr} {sl_require_source : Array (Option Value)} {oc_require_source dc_require_source pm_require_source ct_require_source : Value} {cd_require_source : Value}
    {kV_require_source : Value}
    {f_place_for : Addr} {od_place_for an_place_for : Option Addr} {sl_place_for : Array (Option Value)} {oc_place_for dc_place_for pm_place_for ct_place_for : Value} {cd_place_for : Value}
    {kV_place_for : Value}
    {f_map_pages : Addr} {od_map_pages an_map_pages : Option Addr} {sl_map_pages : Array (Option Value)} {oc_map_pages dc_map_pages pm_map_pages ct_map_pages : Value} {cd_map_pages : Value}
    {kD_map_pages : Addr}
    {tk_rights : Tok}
    {tk_index : Tok}
    {f_new_pages : Addr} {od_new_pages an_new_pages : Option Addr} {sl_new_pages : Array (Option Value)} {oc_new_pages dc_new_pages pm_new_pages ct_new_pages : Value} {cd_new_pages : Value}
    {kV_new_pages : Value}
    {f_unmap : Addr} {od_unmap an_unmap : Option Addr} {sl_unmap : Array (Option Value)} {oc_unmap dc_unmap pm_unmap ct_unmap : Value} {cd_unmap : Value}
    {kV_unmap : Value}
    {f_regions : Addr} {od_regions an_regions : Option Addr} {sl_regions : Array (Option Value)} {oc_regions dc_regions pm_regions ct_regions : Value} {cd_regions : Value}
    {kV_regions : Value}
    {f_free_runs : Addr} {od_free_runs an_free_runs : Option Addr} {sl_free_runs : Array (Option Value)} {oc_free_runs dc_free_runs pm_free_runs ct_free_runs : Value} {cd_free_runs : Value}
    {kV_free_runs : Value}
    {f_lowest_gap : Addr} {od_lowest_gap an_lowest_gap : Option Addr} {sl_lowest_gap : Array (Option Value)} {oc_lowest_gap dc_lowest_gap pm_lowest_gap ct_lowest_gap : Value} {cd_lowest_gap : Value}
    {kV_lowest_gap : Value}
    {f_gap : Addr} {od_gap an_gap : Option Addr} {sl_gap : Array (Option Value)} {oc_gap dc_gap pm_gap ct_gap : Value} {cd_gap : Value}
    {kV_gap : Value}
    {f_widest : Addr} {od_widest an_widest : Option Addr} {sl_widest : Array (Option Value)} {oc_widest dc_widest pm_widest ct_widest : Value} {cd_widest : Value}
    {kV_widest : Value}
    {f_new_process : Addr} {od_new_process an_new_process : Option Addr} {sl_new_process : Array (Option Value)} {oc_new_process dc_new_process pm_new_process ct_new_process : Value} {cd_new_process : Value}
    {kV_new_process : Value}
    {f_spawn : Addr} {od_spawn an_spawn : Option Addr} {sl_spawn : Array (Option Value)} {oc_spawn dc_spawn pm_spawn ct_spawn : Value} {cd_spawn : Value}
    {kV_spawn : Value}
    {f__law_well : Addr} {od__law_well an__law_well : Option Addr} {sl__law_well : Array (Option Value)} {oc__law_well dc__law_well pm__law_well ct__law_well : Value} {cd__law_well : Value}
    {kV__law_well : Value}
    {f__law_draw : Addr} {od__law_draw an__law_draw : Option Addr} {sl__law_draw : Array (Option Value)} {oc__law_draw dc__law_draw pm__law_draw ct__law_draw : Value} {cd__law_draw : Value}
    {kV__law_draw : Value}
    {f__law_one : Addr} {od__law_one an__law_one : Option Addr} {sl__law_one : Array (Option Value)} {oc__law_one dc__law_one pm__law_one ct__law_one : Value} {cd__law_one : Value}
    {kV__law_one : Value}
    {f__law_fits : Addr} {od__law_fits an__law_fits : Option Addr} {sl__law_fits : Array (Option Value)} {oc__law_fits dc__law_fits pm__law_fits ct__law_fits : Value} {cd__law_fits : Value}
    {kV__law_fits : Value}
    {f__law_said : Addr} {od__law_said an__law_said : Option Addr} {sl__law_said : Array (Option Value)} {oc__law_said dc__law_said pm__law_said ct__law_said : Value} {cd__law_said : Value}
    {kV__law_said : Value}
    {f__law_widest : Addr} {od__law_widest an__law_widest : Option Addr} {sl__law_widest : Array (Option Value)} {oc__law_widest dc__law_widest pm__law_widest ct__law_widest : Value} {cd__law_widest : Value}
    {kV__law_widest : Value}
    {f__law_refused : Addr} {od__law_refused an__law_refused : Option Addr} {sl__law_refused : Array (Option Value)} {oc__law_refused dc__law_refused pm__law_refused ct__law_refused : Value} {co__law_refused ta__law_refused : Addr}
    {kV__law_refused : Value}
    {f_law : Addr} {od_law an_law : Option Addr} {sl_law : Array (Option Value)} {oc_law dc_law pm_law ct_law : Value} {co_law ta_law : Addr}
    {kV_law : Value}
    {C_NoSystem : Addr}
    {C_NoProcess : Addr}
    {C_NoPages : Addr}
    {C_PageError : Addr}
    {C_System : Addr}
    {C_Page : Addr}
    {f_NoSystem_init : Addr} {od_NoSystem_init an_NoSystem_init : Option Addr} {sl_NoSystem_init : Array (Option Value)} {oc_NoSystem_init dc_NoSystem_init pm_NoSystem_init ct_NoSystem_init : Value} {cd_NoSystem_init : Value}
    {kV_NoSystem_init : Value}
    {f_NoProcess_init : Addr} {od_NoProcess_init an_NoProcess_init : Option Addr} {sl_NoProcess_init : Array (Option Value)} {oc_NoProcess_init dc_NoProcess_init pm_NoProcess_init ct_NoProcess_init : Value} {cd_NoProcess_init : Value}
    {kV_NoProcess_init : Value}
    {f_NoPages_init : Addr} {od_NoPages_init an_NoPages_init : Option Addr} {sl_NoPages_init : Array (Option Value)} {oc_NoPages_init dc_NoPages_init pm_NoPages_init ct_NoPages_init : Value} {cd_NoPages_init : Value}
    {kV_NoPages_init : Value}
    {f_Page_init : Addr} {od_Page_init an_Page_init : Option Addr} {sl_Page_init : Array (Option Value)} {oc_Page_init dc_Page_init pm_Page_init ct_Page_init : Value} {cd_Page_init : Value}
    {kV_Page_init : Value}
    {f_System_init : Addr} {od_System_init an_System_init : Option Addr} {sl_System_init : Array (Option Value)} {oc_System_init dc_System_init pm_System_init ct_System_init : Value} {cd_System_init : Value}
    {kD_System_init : Addr}
    {nm_NoSystem q_NoSystem : Str} {N_NoSystem : Addr} {bs_NoSystem bm_NoSystem sub_NoSystem : List Value} {sn_NoSystem : List Str} {ab_NoSystem : Bool} {col_NoSystem : Option Bool} {dd_NoSystem : Option Addr} {m0_NoSystem m1_NoSystem m2_NoSystem m3_NoSystem m5_NoSystem : Option Value}
    {nm_NoProcess q_NoProcess : Str} {N_NoProcess : Addr} {bs_NoProcess bm_NoProcess sub_NoProcess : List Value} {sn_NoProcess : List Str} {ab_NoProcess : Bool} {col_NoProcess : Option Bool} {dd_NoProcess : Option Addr} {m0_NoProcess m1_NoProcess m2_NoProcess m3_NoProcess m5_NoProcess : Option Value}
    {nm_NoPages q_NoPages : Str} {N_NoPages : Addr} {bs_NoPages bm_NoPages sub_NoPages : List Value} {sn_NoPages : List Str} {ab_NoPages : Bool} {col_NoPages : Option Bool} {dd_NoPages : Option Addr} {m0_NoPages m1_NoPages m2_NoPages m3_NoPages m5_NoPages : Option Value}
    {nm_PageError q_PageError : Str} {N_PageError : Addr} {bs_PageError bm_PageError sub_PageError : List Value} {sn_PageError : List Str} {ab_PageError : Bool} {col_PageError : Option Bool} {dd_PageError : Option Addr} {m0_PageError m1_PageError m2_PageError m3_PageError m5_PageError : Option Value}
    {t_PAGES : Tok}
    {o_RIGHTS : Addr}
    (h_has_object : PySem.W.nsIn K mainGlobals "has_object" = some (some (.ref f_has_object)))
    (l_has_object : K.lookup f_has_object = some ⟨oc_has_object, od_has_object, .func (PySem.W.fnOf "has_object" "has_object" (defArgs s_has_object) (defBody s_has_object) (defScope s_has_object) .none kV_has_object dc_has_object pm_has_object an_has_object cd_has_object ct_has_object), sl_has_object⟩)
    (c_has_object : PySem.W.codeIn K cd_has_object "has_object" = true)
    (k_has_object : PySem.W.keepIn K (.ref f_has_object) = true)
    (h_count_page : PySem.W.nsIn K mainGlobals "count_page" = some (some (.ref f_count_page)))
    (l_count_page : K.lookup f_count_page = some ⟨oc_count_page, od_count_page, .func (PySem.W.fnOf "count_page" "count_page" (defArgs s_count_page) (defBody s_count_page) (defScope s_count_page) .none kV_count_page dc_count_page pm_count_page an_count_page cd_count_page ct_count_page), sl_count_page⟩)
    (c_count_page : PySem.W.codeIn K cd_count_page "count_page" = true)
    (k_count_page : PySem.W.keepIn K (.ref f_count_page) = true)
    (h_discount_page : PySem.W.nsIn K mainGlobals "discount_page" = some (some (.ref f_discount_page)))
    (l_discount_page : K.lookup f_discount_page = some ⟨oc_discount_page, od_discount_page, .func (PySem.W.fnOf "discount_page" "discount_page" (defArgs s_discount_page) (defBody s_discount_page) (defScope s_discount_page) .none kV_discount_page dc_discount_page pm_discount_page an_discount_page cd_discount_page ct_discount_page), sl_discount_page⟩)
    (c_discount_page : PySem.W.codeIn K cd_discount_page "discount_page" = true)
    (k_discount_page : PySem.W.keepIn K (.ref f_discount_page) = true)
    (h_replace_pages : PySem.W.nsIn K mainGlobals "replace_pages" = some (some (.ref f_replace_pages)))
    (l_replace_pages : K.lookup f_replace_pages = some ⟨oc_replace_pages, od_replace_pages, .func (PySem.W.fnOf "replace_pages" "replace_pages" (defArgs s_replace_pages) (defBody s_replace_pages) (defScope s_replace_pages) .none kV_replace_pages dc_replace_pages pm_replace_pages an_replace_pages cd_replace_pages ct_replace_pages), sl_replace_pages⟩)
    (c_replace_pages : PySem.W.codeIn K cd_replace_pages "replace_pages" = true)
    (k_replace_pages : PySem.W.keepIn K (.ref f_replace_pages) = true)
    (h_end_step : PySem.W.nsIn K mainGlobals "end_step" = some (some (.ref f_end_step)))
    (l_end_step : K.lookup f_end_step = some ⟨oc_end_step, od_end_step, .func (PySem.W.fnOf "end_step" "end_step" (defArgs s_end_step) (defBody s_end_step) (defScope s_end_step) .none kV_end_step dc_end_step pm_end_step an_end_step cd_end_step ct_end_step), sl_end_step⟩)
    (c_end_step : PySem.W.codeIn K cd_end_step "end_step" = true)
    (k_end_step : PySem.W.keepIn K (.ref f_end_step) = true)
    (h_is_integer : PySem.W.nsIn K mainGlobals "is_integer" = some (some (.ref f_is_integer)))
    (l_is_integer : K.lookup f_is_integer = some ⟨oc_is_integer, od_is_integer, .func (PySem.W.fnOf "is_integer" "is_integer" (defArgs s_is_integer) (defBody s_is_integer) (defScope s_is_integer) .none kV_is_integer dc_is_integer pm_is_integer an_is_integer cd_is_integer ct_is_integer), sl_is_integer⟩)
    (c_is_integer : PySem.W.codeIn K cd_is_integer "is_integer" = true)
    (k_is_integer : PySem.W.keepIn K (.ref f_is_integer) = true)
    (h_is_word : PySem.W.nsIn K mainGlobals "is_word" = some (some (.ref f_is_word)))
    (l_is_word : K.lookup f_is_word = some ⟨oc_is_word, od_is_word, .func (PySem.W.fnOf "is_word" "is_word" (defArgs s_is_word) (defBody s_is_word) (defScope s_is_word) .none kV_is_word dc_is_word pm_is_word an_is_word cd_is_word ct_is_word), sl_is_word⟩)
    (c_is_word : PySem.W.codeIn K cd_is_word "is_word" = true)
    (k_is_word : PySem.W.keepIn K (.ref f_is_word) = true)
    (h_require : PySem.W.nsIn K mainGlobals "require" = some (some (.ref f_require)))
    (l_require : K.lookup f_require = some ⟨oc_require, od_require, .func (PySem.W.fnOf "require" "require" (defArgs s_require) (defBody s_require) (defScope s_require) .none kV_require dc_require pm_require an_require cd_require ct_require), sl_require⟩)
    (c_require : PySem.W.codeIn K cd_require "require" = true)
    (k_require : PySem.W.keepIn K (.ref f_require) = true)
    (h_table_of : PySem.W.nsIn K mainGlobals "table_of" = some (some (.ref f_table_of)))
    (l_table_of : K.lookup f_table_of = some ⟨oc_table_of, od_table_of, .func (PySem.W.fnOf "table_of" "table_of" (defArgs s_table_of) (defBody s_table_of) (defScope s_table_of) .none kV_table_of dc_table_of pm_table_of an_table_of cd_table_of ct_table_of), sl_table_of⟩)
    (c_table_of : PySem.W.codeIn K cd_table_of "table_of" = true)
    (k_table_of : PySem.W.keepIn K (.ref f_table_of) = true)
    (h_numbers_of : PySem.W.nsIn K mainGlobals "numbers_of" = some (some (.ref f_numbers_of)))
    (l_numbers_of : K.lookup f_numbers_of = some ⟨oc_numbers_of, od_numbers_of, .func (PySem.W.fnOf "numbers_of" "numbers_of" (defArgs s_numbers_of) (defBody s_numbers_of) (defScope s_numbers_of) .none kV_numbers_of dc_numbers_of pm_numbers_of an_numbers_of cd_numbers_of ct_numbers_of), sl_numbers_of⟩)
    (c_numbers_of : PySem.W.codeIn K cd_numbers_of "numbers_of" = true)
    (k_numbers_of : PySem.W.keepIn K (.ref f_numbers_of) = true)
    (h_require_charge : PySem.W.nsIn K mainGlobals "require_charge" = some (some (.ref f_require_charge)))
    (l_require_charge : K.lookup f_require_charge = some ⟨oc_require_charge, od_require_charge, .func (PySem.W.fnOf "require_charge" "require_charge" (defArgs s_require_charge) (defBody s_require_charge) (defScope s_require_charge) .none kV_require_charge dc_require_charge pm_require_charge an_require_charge cd_require_charge ct_require_charge), sl_require_charge⟩)
    (c_require_charge : PySem.W.codeIn K cd_require_charge "require_charge" = true)
    (k_require_charge : PySem.W.keepIn K (.ref f_require_charge) = true)
    (h_require_source : PySem.W.nsIn K mainGlobals "require_source" = some (some (.ref f_require_source)))
    (l_require_source : K.lookup f_require_source = some ⟨oc_require_source, od_require_source, .func (PySem.W.fnOf "require_source" "require_source" (defArgs s_require_source) (defBody s_require_source) (defScope s_require_source) .none kV_require_source dc_require_source pm_require_source an_require_source cd_require_source ct_require_source), sl_require_source⟩)
    (c_require_source : PySem.W.codeIn K cd_require_source "require_source" = true)
    (k_require_source : PySem.W.keepIn K (.ref f_require_source) = true)
    (h_place_for : PySem.W.nsIn K mainGlobals "place_for" = some (some (.ref f_place_for)))
    (l_place_for : K.lookup f_place_for = some ⟨oc_place_for, od_place_for, .func (PySem.W.fnOf "place_for" "place_for" (defArgs s_place_for) (defBody s_place_for) (defScope s_place_for) .none kV_place_for dc_place_for pm_place_for an_place_for cd_place_for ct_place_for), sl_place_for⟩)
    (c_place_for : PySem.W.codeIn K cd_place_for "place_for" = true)
    (k_place_for : PySem.W.keepIn K (.ref f_place_for) = true)
    (h_map_pages : PySem.W.nsIn K mainGlobals "map_pages" = some (some (.ref f_map_pages)))
    (l_map_pages : K.lookup f_map_pages = some ⟨oc_map_pages, od_map_pages, .func (PySem.W.fnOf "map_pages" "map_pages" (defArgs s_map_pages) (defBody s_map_pages) (defScope s_map_pages) .none (.ref kD_map_pages) dc_map_pages pm_map_pages an_map_pages cd_map_pages ct_map_pages), sl_map_pages⟩)
    (c_map_pages : PySem.W.codeIn K cd_map_pages "map_pages" = true)
    (k_map_pages : PySem.W.keepIn K (.ref f_map_pages) = true)
    (kd_map_pages_rights : PySem.W.nsIn K kD_map_pages "rights" = some (some (.str "rw" tk_rights)))
    (kd_map_pages_shared : PySem.W.nsIn K kD_map_pages "shared" = some (some (.bool false)))
    (kd_map_pages_source : PySem.W.nsIn K kD_map_pages "source" = some (some .none))
    (kd_map_pages_index : PySem.W.nsIn K kD_map_pages "index" = some (some (.int 0 tk_index)))
    (kd_map_pages_at : PySem.W.nsIn K kD_map_pages "at" = some (some .none))
    (h_new_pages : PySem.W.nsIn K mainGlobals "new_pages" = some (some (.ref f_new_pages)))
    (l_new_pages : K.lookup f_new_pages = some ⟨oc_new_pages, od_new_pages, .func (PySem.W.fnOf "new_pages" "new_pages" (defArgs s_new_pages) (defBody s_new_pages) (defScope s_new_pages) .none kV_new_pages dc_new_pages pm_new_pages an_new_pages cd_new_pages ct_new_pages), sl_new_pages⟩)
    (c_new_pages : PySem.W.codeIn K cd_new_pages "new_pages" = true)
    (k_new_pages : PySem.W.keepIn K (.ref f_new_pages) = true)
    (h_unmap : PySem.W.nsIn K mainGlobals "unmap" = some (some (.ref f_unmap)))
    (l_unmap : K.lookup f_unmap = some ⟨oc_unmap, od_unmap, .func (PySem.W.fnOf "unmap" "unmap" (defArgs s_unmap) (defBody s_unmap) (defScope s_unmap) .none kV_unmap dc_unmap pm_unmap an_unmap cd_unmap ct_unmap), sl_unmap⟩)
    (c_unmap : PySem.W.codeIn K cd_unmap "unmap" = true)
    (k_unmap : PySem.W.keepIn K (.ref f_unmap) = true)
    (h_regions : PySem.W.nsIn K mainGlobals "regions" = some (some (.ref f_regions)))
    (l_regions : K.lookup f_regions = some ⟨oc_regions, od_regions, .func (PySem.W.fnOf "regions" "regions" (defArgs s_regions) (defBody s_regions) (defScope s_regions) .none kV_regions dc_regions pm_regions an_regions cd_regions ct_regions), sl_regions⟩)
    (c_regions : PySem.W.codeIn K cd_regions "regions" = true)
    (k_regions : PySem.W.keepIn K (.ref f_regions) = true)
    (h_free_runs : PySem.W.nsIn K mainGlobals "free_runs" = some (some (.ref f_free_runs)))
    (l_free_runs : K.lookup f_free_runs = some ⟨oc_free_runs, od_free_runs, .func (PySem.W.fnOf "free_runs" "free_runs" (defArgs s_free_runs) (defBody s_free_runs) (defScope s_free_runs) .none kV_free_runs dc_free_runs pm_free_runs an_free_runs cd_free_runs ct_free_runs), sl_free_runs⟩)
    (c_free_runs : PySem.W.codeIn K cd_free_runs "free_runs" = true)
    (k_free_runs : PySem.W.keepIn K (.ref f_free_runs) = true)
    (h_lowest_gap : PySem.W.nsIn K mainGlobals "lowest_gap" = some (some (.ref f_lowest_gap)))
    (l_lowest_gap : K.lookup f_lowest_gap = some ⟨oc_lowest_gap, od_lowest_gap, .func (PySem.W.fnOf "lowest_gap" "lowest_gap" (defArgs s_lowest_gap) (defBody s_lowest_gap) (defScope s_lowest_gap) .none kV_lowest_gap dc_lowest_gap pm_lowest_gap an_lowest_gap cd_lowest_gap ct_lowest_gap), sl_lowest_gap⟩)
    (c_lowest_gap : PySem.W.codeIn K cd_lowest_gap "lowest_gap" = true)
    (k_lowest_gap : PySem.W.keepIn K (.ref f_lowest_gap) = true)
    (h_gap : PySem.W.nsIn K mainGlobals "gap" = some (some (.ref f_gap)))
    (l_gap : K.lookup f_gap = some ⟨oc_gap, od_gap, .func (PySem.W.fnOf "gap" "gap" (defArgs s_gap) (defBody s_gap) (defScope s_gap) .none kV_gap dc_gap pm_gap an_gap cd_gap ct_gap), sl_gap⟩)
    (c_gap : PySem.W.codeIn K cd_gap "gap" = true)
    (k_gap : PySem.W.keepIn K (.ref f_gap) = true)
    (h_widest : PySem.W.nsIn K mainGlobals "widest" = some (some (.ref f_widest)))
    (l_widest : K.lookup f_widest = some ⟨oc_widest, od_widest, .func (PySem.W.fnOf "widest" "widest" (defArgs s_widest) (defBody s_widest) (defScope s_widest) .none kV_widest dc_widest pm_widest an_widest cd_widest ct_widest), sl_widest⟩)
    (c_widest : PySem.W.codeIn K cd_widest "widest" = true)
    (k_widest : PySem.W.keepIn K (.ref f_widest) = true)
    (h_new_process : PySem.W.nsIn K mainGlobals "new_process" = some (some (.ref f_new_process)))
    (l_new_process : K.lookup f_new_process = some ⟨oc_new_process, od_new_process, .func (PySem.W.fnOf "new_process" "new_process" (defArgs s_new_process) (defBody s_new_process) (defScope s_new_process) .none kV_new_process dc_new_process pm_new_process an_new_process cd_new_process ct_new_process), sl_new_process⟩)
    (c_new_process : PySem.W.codeIn K cd_new_process "new_process" = true)
    (k_new_process : PySem.W.keepIn K (.ref f_new_process) = true)
    (h_spawn : PySem.W.nsIn K mainGlobals "spawn" = some (some (.ref f_spawn)))
    (l_spawn : K.lookup f_spawn = some ⟨oc_spawn, od_spawn, .func (PySem.W.fnOf "spawn" "spawn" (defArgs s_spawn) (defBody s_spawn) (defScope s_spawn) .none kV_spawn dc_spawn pm_spawn an_spawn cd_spawn ct_spawn), sl_spawn⟩)
    (c_spawn : PySem.W.codeIn K cd_spawn "spawn" = true)
    (k_spawn : PySem.W.keepIn K (.ref f_spawn) = true)
    (h__law_well : PySem.W.nsIn K mainGlobals "_law_well" = some (some (.ref f__law_well)))
    (l__law_well : K.lookup f__law_well = some ⟨oc__law_well, od__law_well, .func (PySem.W.fnOf "_law_well" "_law_well" (defArgs s__law_well) (defBody s__law_well) (defScope s__law_well) .none kV__law_well dc__law_well pm__law_well an__law_well cd__law_well ct__law_well), sl__law_well⟩)
    (c__law_well : PySem.W.codeIn K cd__law_well "_law_well" = true)
    (k__law_well : PySem.W.keepIn K (.ref f__law_well) = true)
    (h__law_draw : PySem.W.nsIn K mainGlobals "_law_draw" = some (some (.ref f__law_draw)))
    (l__law_draw : K.lookup f__law_draw = some ⟨oc__law_draw, od__law_draw, .func (PySem.W.fnOf "_law_draw" "_law_draw" (defArgs s__law_draw) (defBody s__law_draw) (defScope s__law_draw) .none kV__law_draw dc__law_draw pm__law_draw an__law_draw cd__law_draw ct__law_draw), sl__law_draw⟩)
    (c__law_draw : PySem.W.codeIn K cd__law_draw "_law_draw" = true)
    (k__law_draw : PySem.W.keepIn K (.ref f__law_draw) = true)
    (h__law_one : PySem.W.nsIn K mainGlobals "_law_one" = some (some (.ref f__law_one)))
    (l__law_one : K.lookup f__law_one = some ⟨oc__law_one, od__law_one, .func (PySem.W.fnOf "_law_one" "_law_one" (defArgs s__law_one) (defBody s__law_one) (defScope s__law_one) .none kV__law_one dc__law_one pm__law_one an__law_one cd__law_one ct__law_one), sl__law_one⟩)
    (c__law_one : PySem.W.codeIn K cd__law_one "_law_one" = true)
    (k__law_one : PySem.W.keepIn K (.ref f__law_one) = true)
    (h__law_fits : PySem.W.nsIn K mainGlobals "_law_fits" = some (some (.ref f__law_fits)))
    (l__law_fits : K.lookup f__law_fits = some ⟨oc__law_fits, od__law_fits, .func (PySem.W.fnOf "_law_fits" "_law_fits" (defArgs s__law_fits) (defBody s__law_fits) (defScope s__law_fits) .none kV__law_fits dc__law_fits pm__law_fits an__law_fits cd__law_fits ct__law_fits), sl__law_fits⟩)
    (c__law_fits : PySem.W.codeIn K cd__law_fits "_law_fits" = true)
    (k__law_fits : PySem.W.keepIn K (.ref f__law_fits) = true)
    (h__law_said : PySem.W.nsIn K mainGlobals "_law_said" = some (some (.ref f__law_said)))
    (l__law_said : K.lookup f__law_said = some ⟨oc__law_said, od__law_said, .func (PySem.W.fnOf "_law_said" "_law_said" (defArgs s__law_said) (defBody s__law_said) (defScope s__law_said) .none kV__law_said dc__law_said pm__law_said an__law_said cd__law_said ct__law_said), sl__law_said⟩)
    (c__law_said : PySem.W.codeIn K cd__law_said "_law_said" = true)
    (k__law_said : PySem.W.keepIn K (.ref f__law_said) = true)
    (h__law_widest : PySem.W.nsIn K mainGlobals "_law_widest" = some (some (.ref f__law_widest)))
    (l__law_widest : K.lookup f__law_widest = some ⟨oc__law_widest, od__law_widest, .func (PySem.W.fnOf "_law_widest" "_law_widest" (defArgs s__law_widest) (defBody s__law_widest) (defScope s__law_widest) .none kV__law_widest dc__law_widest pm__law_widest an__law_widest cd__law_widest ct__law_widest), sl__law_widest⟩)
    (c__law_widest : PySem.W.codeIn K cd__law_widest "_law_widest" = true)
    (k__law_widest : PySem.W.keepIn K (.ref f__law_widest) = true)
    (h__law_refused : PySem.W.nsIn K mainGlobals "_law_refused" = some (some (.ref f__law_refused)))
    (l__law_refused : K.lookup f__law_refused = some ⟨oc__law_refused, od__law_refused, .func (PySem.W.fnOf "_law_refused" "_law_refused" (defArgs s__law_refused) (defBody s__law_refused) (defScope s__law_refused) .none kV__law_refused dc__law_refused pm__law_refused an__law_refused (.ref co__law_refused) ct__law_refused), sl__law_refused⟩)
    (c__law_refused : PySem.W.codeIn K (.ref co__law_refused) "_law_refused" = true)
    (k__law_refused : PySem.W.keepIn K (.ref f__law_refused) = true)
    (h_law : PySem.W.nsIn K mainGlobals "law" = some (some (.ref f_law)))
    (l_law : K.lookup f_law = some ⟨oc_law, od_law, .func (PySem.W.fnOf "law" "law" (defArgs s_law) (defBody s_law) (defScope s_law) .none kV_law dc_law pm_law an_law (.ref co_law) ct_law), sl_law⟩)
    (c_law : PySem.W.codeIn K (.ref co_law) "law" = true)
    (k_law : PySem.W.keepIn K (.ref f_law) = true)
    (h_NoSystem : PySem.W.nsIn K mainGlobals "NoSystem" = some (some (.ref C_NoSystem)))
    (h_NoProcess : PySem.W.nsIn K mainGlobals "NoProcess" = some (some (.ref C_NoProcess)))
    (h_NoPages : PySem.W.nsIn K mainGlobals "NoPages" = some (some (.ref C_NoPages)))
    (h_PageError : PySem.W.nsIn K mainGlobals "PageError" = some (some (.ref C_PageError)))
    (h_System : PySem.W.nsIn K mainGlobals "System" = some (some (.ref C_System)))
    (h_Page : PySem.W.nsIn K mainGlobals "Page" = some (some (.ref C_Page)))
    (h_NoSystem_init : PySem.W.findIn K (.ref C_NoSystem) "__init__" = some (some (.ref f_NoSystem_init)))
    (l_NoSystem_init : K.lookup f_NoSystem_init = some ⟨oc_NoSystem_init, od_NoSystem_init, .func (PySem.W.fnOf "__init__" "NoSystem.__init__" (defArgs s_NoSystem_init) (defBody s_NoSystem_init) (defScope s_NoSystem_init) .none kV_NoSystem_init dc_NoSystem_init pm_NoSystem_init an_NoSystem_init cd_NoSystem_init ct_NoSystem_init), sl_NoSystem_init⟩)
    (c_NoSystem_init : PySem.W.codeIn K cd_NoSystem_init "NoSystem.__init__" = true)
    (k_NoSystem_init : PySem.W.keepIn K (.ref f_NoSystem_init) = true)
    (h_NoProcess_init : PySem.W.findIn K (.ref C_NoProcess) "__init__" = some (some (.ref f_NoProcess_init)))
    (l_NoProcess_init : K.lookup f_NoProcess_init = some ⟨oc_NoProcess_init, od_NoProcess_init, .func (PySem.W.fnOf "__init__" "NoProcess.__init__" (defArgs s_NoProcess_init) (defBody s_NoProcess_init) (defScope s_NoProcess_init) .none kV_NoProcess_init dc_NoProcess_init pm_NoProcess_init an_NoProcess_init cd_NoProcess_init ct_NoProcess_init), sl_NoProcess_init⟩)
    (c_NoProcess_init : PySem.W.codeIn K cd_NoProcess_init "NoProcess.__init__" = true)
    (k_NoProcess_init : PySem.W.keepIn K (.ref f_NoProcess_init) = true)
    (h_NoPages_init : PySem.W.findIn K (.ref C_NoPages) "__init__" = some (some (.ref f_NoPages_init)))
    (l_NoPages_init : K.lookup f_NoPages_init = some ⟨oc_NoPages_init, od_NoPages_init, .func (PySem.W.fnOf "__init__" "NoPages.__init__" (defArgs s_NoPages_init) (defBody s_NoPages_init) (defScope s_NoPages_init) .none kV_NoPages_init dc_NoPages_init pm_NoPages_init an_NoPages_init cd_NoPages_init ct_NoPages_init), sl_NoPages_init⟩)
    (c_NoPages_init : PySem.W.codeIn K cd_NoPages_init "NoPages.__init__" = true)
    (k_NoPages_init : PySem.W.keepIn K (.ref f_NoPages_init) = true)
    (h_Page_init : PySem.W.findIn K (.ref C_Page) "__init__" = some (some (.ref f_Page_init)))
    (l_Page_init : K.lookup f_Page_init = some ⟨oc_Page_init, od_Page_init, .func (PySem.W.fnOf "__init__" "Page.__init__" (defArgs s_Page_init) (defBody s_Page_init) (defScope s_Page_init) .none kV_Page_init dc_Page_init pm_Page_init an_Page_init cd_Page_init ct_Page_init), sl_Page_init⟩)
    (c_Page_init : PySem.W.codeIn K cd_Page_init "Page.__init__" = true)
    (k_Page_init : PySem.W.keepIn K (.ref f_Page_init) = true)
    (h_System_init : PySem.W.findIn K (.ref C_System) "__init__" = some (some (.ref f_System_init)))
    (l_System_init : K.lookup f_System_init = some ⟨oc_System_init, od_System_init, .func (PySem.W.fnOf "__init__" "System.__init__" (defArgs s_System_init) (defBody s_System_init) (defScope s_System_init) .none (.ref kD_System_init) dc_System_init pm_System_init an_System_init cd_System_init ct_System_init), sl_System_init⟩)
    (c_System_init : PySem.W.codeIn K cd_System_init "System.__init__" = true)
    (k_System_init : PySem.W.keepIn K (.ref f_System_init) = true)
    (kd_System_init_frames : PySem.W.nsIn K kD_System_init "frames" = some (some .none))
    (kd_System_init_slots : PySem.W.nsIn K kD_System_init "slots" = some (some .none))
    (kd_System_init_strict : PySem.W.nsIn K kD_System_init "strict" = some (some (.bool false)))
    (xL_NoSystem : K.lookup C_NoSystem = some (excClassObj nm_NoSystem q_NoSystem C_NoSystem N_NoSystem bs_NoSystem bm_NoSystem true sn_NoSystem sub_NoSystem ab_NoSystem col_NoSystem dd_NoSystem m0_NoSystem m1_NoSystem m2_NoSystem m3_NoSystem m5_NoSystem "ValueError.__new__"))
    (xR_NoSystem : PySem.HandSPX.refsVE bm_NoSystem = true)
    (xS_NoSystem : PySem.W.findIn K (.ref C_NoSystem) "__setattr__" = some (some (.builtin "object.__setattr__")))
    (xE_NoSystem : PySem.W.subIn K (.ref C_NoSystem) (.type "BaseException") = some true)
    (xT_NoSystem : PySem.W.typeIn K (.ref C_NoSystem) = some (.type "type"))
    (xK_NoSystem : PySem.W.keepIn K (.ref C_NoSystem) = true)
    (xG_NoSystem : PySem.W.findIn K (.ref C_NoSystem) "__getattribute__" = some (some (.builtin "BaseException.__getattribute__")))
    (xH_NoSystem : PySem.W.findIn K (.ref C_NoSystem) "__getattr__" = some none)
    (xD_NoSystem : PySem.W.hasDictIn K C_NoSystem = true)
    (xC_NoSystem : PySem.W.isClsIn K C_NoSystem = true)
    (xN_NoSystem : PySem.W.findIn K (.ref C_NoSystem) "part" = some none)
    (xi_NoSystem : PySem.W.typeIn K (.ref f_NoSystem_init) = some (.type "function"))
    (xL_NoProcess : K.lookup C_NoProcess = some (excClassObj nm_NoProcess q_NoProcess C_NoProcess N_NoProcess bs_NoProcess bm_NoProcess true sn_NoProcess sub_NoProcess ab_NoProcess col_NoProcess dd_NoProcess m0_NoProcess m1_NoProcess m2_NoProcess m3_NoProcess m5_NoProcess "ValueError.__new__"))
    (xR_NoProcess : PySem.HandSPX.refsVE bm_NoProcess = true)
    (xS_NoProcess : PySem.W.findIn K (.ref C_NoProcess) "__setattr__" = some (some (.builtin "object.__setattr__")))
    (xE_NoProcess : PySem.W.subIn K (.ref C_NoProcess) (.type "BaseException") = some true)
    (xT_NoProcess : PySem.W.typeIn K (.ref C_NoProcess) = some (.type "type"))
    (xK_NoProcess : PySem.W.keepIn K (.ref C_NoProcess) = true)
    (xG_NoProcess : PySem.W.findIn K (.ref C_NoProcess) "__getattribute__" = some (some (.builtin "BaseException.__getattribute__")))
    (xH_NoProcess : PySem.W.findIn K (.ref C_NoProcess) "__getattr__" = some none)
    (xD_NoProcess : PySem.W.hasDictIn K C_NoProcess = true)
    (xC_NoProcess : PySem.W.isClsIn K C_NoProcess = true)
    (xN_NoProcess : PySem.W.findIn K (.ref C_NoProcess) "process" = some none)
    (xi_NoProcess : PySem.W.typeIn K (.ref f_NoProcess_init) = some (.type "function"))
    (xL_NoPages : K.lookup C_NoPages = some (excClassObj nm_NoPages q_NoPages C_NoPages N_NoPages bs_NoPages bm_NoPages true sn_NoPages sub_NoPages ab_NoPages col_NoPages dd_NoPages m0_NoPages m1_NoPages m2_NoPages m3_NoPages m5_NoPages "ValueError.__new__"))
    (xR_NoPages : PySem.HandSPX.refsVE bm_NoPages = true)
    (xS_NoPages : PySem.W.findIn K (.ref C_NoPages) "__setattr__" = some (some (.builtin "object.__setattr__")))
    (xE_NoPages : PySem.W.subIn K (.ref C_NoPages) (.type "BaseException") = some true)
    (xT_NoPages : PySem.W.typeIn K (.ref C_NoPages) = some (.type "type"))
    (xK_NoPages : PySem.W.keepIn K (.ref C_NoPages) = true)
    (xG_NoPages : PySem.W.findIn K (.ref C_NoPages) "__getattribute__" = some (some (.builtin "BaseException.__getattribute__")))
    (xH_NoPages : PySem.W.findIn K (.ref C_NoPages) "__getattr__" = some none)
    (xD_NoPages : PySem.W.hasDictIn K C_NoPages = true)
    (xC_NoPages : PySem.W.isClsIn K C_NoPages = true)
    (xN_NoPages : PySem.W.findIn K (.ref C_NoPages) "part" = some none)
    (xi_NoPages : PySem.W.typeIn K (.ref f_NoPages_init) = some (.type "function"))
    (xL_PageError : K.lookup C_PageError = some (excClassObj nm_PageError q_PageError C_PageError N_PageError bs_PageError bm_PageError true sn_PageError sub_PageError ab_PageError col_PageError dd_PageError m0_PageError m1_PageError m2_PageError m3_PageError m5_PageError "ValueError.__new__"))
    (xR_PageError : PySem.HandSPX.refsVE bm_PageError = true)
    (xS_PageError : PySem.W.findIn K (.ref C_PageError) "__setattr__" = some (some (.builtin "object.__setattr__")))
    (xE_PageError : PySem.W.subIn K (.ref C_PageError) (.type "BaseException") = some true)
    (xT_PageError : PySem.W.typeIn K (.ref C_PageError) = some (.type "type"))
    (xK_PageError : PySem.W.keepIn K (.ref C_PageError) = true)
    (xG_PageError : PySem.W.findIn K (.ref C_PageError) "__getattribute__" = some (some (.builtin "BaseException.__getattribute__")))
    (xH_PageError : PySem.W.findIn K (.ref C_PageError) "__getattr__" = some none)
    (xD_PageError : PySem.W.hasDictIn K C_PageError = true)
    (xC_PageError : PySem.W.isClsIn K C_PageError = true)
    (xx_NoPages_NoPages : PySem.W.subIn K (.ref C_NoPages) (.ref C_NoPages) = some true)
    (xx_NoProcess_NoPages : PySem.W.subIn K (.ref C_NoProcess) (.ref C_NoPages) = some false)
    (xx_NoProcess_NoProcess : PySem.W.subIn K (.ref C_NoProcess) (.ref C_NoProcess) = some true)
    (pg_System : PySem.W.plainGet K C_System Str.empty = true)
    (hd_System : PySem.W.hasDictIn K C_System = true)
    (po_System : PySem.W.plainOver K C_System = true)
    (sa_System : PySem.W.findIn K (.ref C_System) "__setattr__" = some (some (.builtin "object.__setattr__")))
    (mk_System : PySem.W.makesIn K C_System = true)
    (kc_System : PySem.W.keepIn K (.ref C_System) = true)
    (ii_System : PySem.W.isFn K (.ref f_System_init) = true)
    (na_System_frames : PySem.W.findIn K (.ref C_System) "frames" = some none)
    (na_System_slots : PySem.W.findIn K (.ref C_System) "slots" = some none)
    (na_System_strict : PySem.W.findIn K (.ref C_System) "strict" = some none)
    (na_System_steps_made : PySem.W.findIn K (.ref C_System) "steps_made" = some none)
    (na_System_processes_made : PySem.W.findIn K (.ref C_System) "processes_made" = some none)
    (na_System_objects_made : PySem.W.findIn K (.ref C_System) "objects_made" = some none)
    (na_System_tables : PySem.W.findIn K (.ref C_System) "tables" = some none)
    (na_System_objects : PySem.W.findIn K (.ref C_System) "objects" = some none)
    (na_System_object_pages : PySem.W.findIn K (.ref C_System) "object_pages" = some none)
    (na_System_files : PySem.W.findIn K (.ref C_System) "files" = some none)
    (na_System_classes : PySem.W.findIn K (.ref C_System) "classes" = some none)
    (na_System_touches : PySem.W.findIn K (.ref C_System) "touches" = some none)
    (pg_Page : PySem.W.plainGet K C_Page Str.empty = true)
    (hd_Page : PySem.W.hasDictIn K C_Page = true)
    (po_Page : PySem.W.plainOver K C_Page = true)
    (sa_Page : PySem.W.findIn K (.ref C_Page) "__setattr__" = some (some (.builtin "object.__setattr__")))
    (mk_Page : PySem.W.makesIn K C_Page = true)
    (kc_Page : PySem.W.keepIn K (.ref C_Page) = true)
    (ii_Page : PySem.W.isFn K (.ref f_Page_init) = true)
    (na_Page_rights : PySem.W.findIn K (.ref C_Page) "rights" = some none)
    (na_Page_shared : PySem.W.findIn K (.ref C_Page) "shared" = some none)
    (na_Page_source : PySem.W.findIn K (.ref C_Page) "source" = some none)
    (na_Page_index : PySem.W.findIn K (.ref C_Page) "index" = some none)
    (na_Page_flags : PySem.W.findIn K (.ref C_Page) "flags" = some none)
    (na_Page_held : PySem.W.findIn K (.ref C_Page) "held" = some none)
    (gc_PAGES : PySem.W.nsIn K mainGlobals "PAGES" = some (some (.int 512 t_PAGES)))
    (b_int : PySem.W.nsIn K mainGlobals "int" = some none)
    (b_len : PySem.W.nsIn K mainGlobals "len" = some none)
    (b_isinstance : PySem.W.nsIn K mainGlobals "isinstance" = some none)
    (b_bool : PySem.W.nsIn K mainGlobals "bool" = some none)
    (b_str : PySem.W.nsIn K mainGlobals "str" = some none)
    (b_list : PySem.W.nsIn K mainGlobals "list" = some none)
    (b_range : PySem.W.nsIn K mainGlobals "range" = some none)
    (b_enumerate : PySem.W.nsIn K mainGlobals "enumerate" = some none)
    (b_min : PySem.W.nsIn K mainGlobals "min" = some none)
    (b_max : PySem.W.nsIn K mainGlobals "max" = some none)
    (b_sorted : PySem.W.nsIn K mainGlobals "sorted" = some none)
    (gR : PySem.W.nsIn K mainGlobals "RIGHTS" = some (some (.ref o_RIGHTS)))
    (rR : rightsIn K o_RIGHTS = true) :
    Txt K mg { a_has_object := f_has_object, fd_has_object := PySem.W.fnOf "has_object" "has_object" (defArgs s_has_object) (defBody s_has_object) (defScope s_has_object) .none kV_has_object dc_has_object pm_has_object an_has_object cd_has_object ct_has_object, a_count_page := f_count_page, fd_count_page := PySem.W.fnOf "count_page" "count_page" (defArgs s_count_page) (defBody s_count_page) (defScope s_count_page) .none kV_count_page dc_count_page pm_count_page an_count_page cd_count_page ct_count_page, a_discount_page := f_discount_page, fd_discount_page := PySem.W.fnOf "discount_page" "discount_page" (defArgs s_discount_page) (defBody s_discount_page) (defScope s_discount_page) .none kV_discount_page dc_discount_page pm_discount_page an_discount_page cd_discount_page ct_discount_page, a_replace_pages := f_replace_pages, fd_replace_pages := PySem.W.fnOf "replace_pages" "replace_pages" (defArgs s_replace_pages) (defBody s_replace_pages) (defScope s_replace_pages) .none kV_replace_pages dc_replace_pages pm_replace_pages an_replace_pages cd_replace_pages ct_replace_pages, a_end_step := f_end_step, fd_end_step := PySem.W.fnOf "end_step" "end_step" (defArgs s_end_step) (defBody s_end_step) (defScope s_end_step) .none kV_end_step dc_end_step pm_end_step an_end_step cd_end_step ct_end_step, a_is_integer := f_is_integer, fd_is_integer := PySem.W.fnOf "is_integer" "is_integer" (defArgs s_is_integer) (defBody s_is_integer) (defScope s_is_integer) .none kV_is_integer dc_is_integer pm_is_integer an_is_integer cd_is_integer ct_is_integer, a_is_word := f_is_word, fd_is_word := PySem.W.fnOf "is_word" "is_word" (defArgs s_is_word) (defBody s_is_word) (defScope s_is_word) .none kV_is_word dc_is_word pm_is_word an_is_word cd_is_word ct_is_word, a_require := f_require, fd_require := PySem.W.fnOf "require" "require" (defArgs s_require) (defBody s_require) (defScope s_require) .none kV_require dc_require pm_require an_require cd_require ct_require, a_table_of := f_table_of, fd_table_of := PySem.W.fnOf "table_of" "table_of" (defArgs s_table_of) (defBody s_table_of) (defScope s_table_of) .none kV_table_of dc_table_of pm_table_of an_table_of cd_table_of ct_table_of, a_numbers_of := f_numbers_of, fd_numbers_of := PySem.W.fnOf "numbers_of" "numbers_of" (defArgs s_numbers_of) (defBody s_numbers_of) (defScope s_numbers_of) .none kV_numbers_of dc_numbers_of pm_numbers_of an_numbers_of cd_numbers_of ct_numbers_of, a_require_charge := f_require_charge, fd_require_charge := PySem.W.fnOf "require_charge" "require_charge" (defArgs s_require_charge) (defBody s_require_charge) (defScope s_require_charge) .none kV_require_charge dc_require_charge pm_require_charge an_require_charge cd_require_charge ct_require_charge, a_require_source := f_require_source, fd_require_source := PySem.W.fnOf "require_source" "require_source" (defArgs s_require_source) (defBody s_require_source) (defScope s_require_source) .none kV_require_source dc_require_source pm_require_source an_require_source cd_require_source ct_require_source, a_place_for := f_place_for, fd_place_for := PySem.W.fnOf "place_for" "place_for" (defArgs s_place_for) (defBody s_place_for) (defScope s_place_for) .none kV_place_for dc_place_for pm_place_for an_place_for cd_place_for ct_place_for, a_map_pages := f_map_pages, fd_map_pages := PySem.W.fnOf "map_pages" "map_pages" (defArgs s_map_pages) (defBody s_map_pages) (defScope s_map_pages) .none (.ref kD_map_pages) dc_map_pages pm_map_pages an_map_pages cd_map_pages ct_map_pages, a_new_pages := f_new_pages, fd_new_pages := PySem.W.fnOf "new_pages" "new_pages" (defArgs s_new_pages) (defBody s_new_pages) (defScope s_new_pages) .none kV_new_pages dc_new_pages pm_new_pages an_new_pages cd_new_pages ct_new_pages, a_unmap := f_unmap, fd_unmap := PySem.W.fnOf "unmap" "unmap" (defArgs s_unmap) (defBody s_unmap) (defScope s_unmap) .none kV_unmap dc_unmap pm_unmap an_unmap cd_unmap ct_unmap, a_regions := f_regions, fd_regions := PySem.W.fnOf "regions" "regions" (defArgs s_regions) (defBody s_regions) (defScope s_regions) .none kV_regions dc_regions pm_regions an_regions cd_regions ct_regions, a_free_runs := f_free_runs, fd_free_runs := PySem.W.fnOf "free_runs" "free_runs" (defArgs s_free_runs) (defBody s_free_runs) (defScope s_free_runs) .none kV_free_runs dc_free_runs pm_free_runs an_free_runs cd_free_runs ct_free_runs, a_lowest_gap := f_lowest_gap, fd_lowest_gap := PySem.W.fnOf "lowest_gap" "lowest_gap" (defArgs s_lowest_gap) (defBody s_lowest_gap) (defScope s_lowest_gap) .none kV_lowest_gap dc_lowest_gap pm_lowest_gap an_lowest_gap cd_lowest_gap ct_lowest_gap, a_gap := f_gap, fd_gap := PySem.W.fnOf "gap" "gap" (defArgs s_gap) (defBody s_gap) (defScope s_gap) .none kV_gap dc_gap pm_gap an_gap cd_gap ct_gap, a_widest := f_widest, fd_widest := PySem.W.fnOf "widest" "widest" (defArgs s_widest) (defBody s_widest) (defScope s_widest) .none kV_widest dc_widest pm_widest an_widest cd_widest ct_widest, a_new_process := f_new_process, fd_new_process := PySem.W.fnOf "new_process" "new_process" (defArgs s_new_process) (defBody s_new_process) (defScope s_new_process) .none kV_new_process dc_new_process pm_new_process an_new_process cd_new_process ct_new_process, a_spawn := f_spawn, fd_spawn := PySem.W.fnOf "spawn" "spawn" (defArgs s_spawn) (defBody s_spawn) (defScope s_spawn) .none kV_spawn dc_spawn pm_spawn an_spawn cd_spawn ct_spawn, a__law_well := f__law_well, fd__law_well := PySem.W.fnOf "_law_well" "_law_well" (defArgs s__law_well) (defBody s__law_well) (defScope s__law_well) .none kV__law_well dc__law_well pm__law_well an__law_well cd__law_well ct__law_well, a__law_draw := f__law_draw, fd__law_draw := PySem.W.fnOf "_law_draw" "_law_draw" (defArgs s__law_draw) (defBody s__law_draw) (defScope s__law_draw) .none kV__law_draw dc__law_draw pm__law_draw an__law_draw cd__law_draw ct__law_draw, a__law_one := f__law_one, fd__law_one := PySem.W.fnOf "_law_one" "_law_one" (defArgs s__law_one) (defBody s__law_one) (defScope s__law_one) .none kV__law_one dc__law_one pm__law_one an__law_one cd__law_one ct__law_one, a__law_fits := f__law_fits, fd__law_fits := PySem.W.fnOf "_law_fits" "_law_fits" (defArgs s__law_fits) (defBody s__law_fits) (defScope s__law_fits) .none kV__law_fits dc__law_fits pm__law_fits an__law_fits cd__law_fits ct__law_fits, a__law_said := f__law_said, fd__law_said := PySem.W.fnOf "_law_said" "_law_said" (defArgs s__law_said) (defBody s__law_said) (defScope s__law_said) .none kV__law_said dc__law_said pm__law_said an__law_said cd__law_said ct__law_said, a__law_widest := f__law_widest, fd__law_widest := PySem.W.fnOf "_law_widest" "_law_widest" (defArgs s__law_widest) (defBody s__law_widest) (defScope s__law_widest) .none kV__law_widest dc__law_widest pm__law_widest an__law_widest cd__law_widest ct__law_widest, a__law_refused := f__law_refused, fd__law_refused := PySem.W.fnOf "_law_refused" "_law_refused" (defArgs s__law_refused) (defBody s__law_refused) (defScope s__law_refused) .none kV__law_refused dc__law_refused pm__law_refused an__law_refused (.ref co__law_refused) ct__law_refused, co__law_refused := co__law_refused, ta__law_refused := ta__law_refused, a_law := f_law, fd_law := PySem.W.fnOf "law" "law" (defArgs s_law) (defBody s_law) (defScope s_law) .none kV_law dc_law pm_law an_law (.ref co_law) ct_law, co_law := co_law, ta_law := ta_law, c_NoSystem := C_NoSystem, c_NoProcess := C_NoProcess, c_NoPages := C_NoPages, c_PageError := C_PageError, c_System := C_System, c_Page := C_Page, a_NoSystem_init := f_NoSystem_init, fd_NoSystem_init := PySem.W.fnOf "__init__" "NoSystem.__init__" (defArgs s_NoSystem_init) (defBody s_NoSystem_init) (defScope s_NoSystem_init) .none kV_NoSystem_init dc_NoSystem_init pm_NoSystem_init an_NoSystem_init cd_NoSystem_init ct_NoSystem_init, a_NoProcess_init := f_NoProcess_init, fd_NoProcess_init := PySem.W.fnOf "__init__" "NoProcess.__init__" (defArgs s_NoProcess_init) (defBody s_NoProcess_init) (defScope s_NoProcess_init) .none kV_NoProcess_init dc_NoProcess_init pm_NoProcess_init an_NoProcess_init cd_NoProcess_init ct_NoProcess_init, a_NoPages_init := f_NoPages_init, fd_NoPages_init := PySem.W.fnOf "__init__" "NoPages.__init__" (defArgs s_NoPages_init) (defBody s_NoPages_init) (defScope s_NoPages_init) .none kV_NoPages_init dc_NoPages_init pm_NoPages_init an_NoPages_init cd_NoPages_init ct_NoPages_init, a_Page_init := f_Page_init, fd_Page_init := PySem.W.fnOf "__init__" "Page.__init__" (defArgs s_Page_init) (defBody s_Page_init) (defScope s_Page_init) .none kV_Page_init dc_Page_init pm_Page_init an_Page_init cd_Page_init ct_Page_init, a_System_init := f_System_init, fd_System_init := PySem.W.fnOf "__init__" "System.__init__" (defArgs s_System_init) (defBody s_System_init) (defScope s_System_init) .none (.ref kD_System_init) dc_System_init pm_System_init an_System_init cd_System_init ct_System_init, t_PAGES := t_PAGES, o_RIGHTS := o_RIGHTS } := {
    f_has_object := fun_mk (st := s_has_object) l_has_object c_has_object k_has_object
    bi_has_object := (fun_mk (st := s_has_object) l_has_object c_has_object k_has_object).binds (ps := p_has_object) fun _ _ _ _ _ _ us hl => match us, hl with | [_], _ => rfl
    g_has_object := PySem.W.mg_of X G h_has_object
    k_has_object := k_has_object
    f_count_page := fun_mk (st := s_count_page) l_count_page c_count_page k_count_page
    bi_count_page := (fun_mk (st := s_count_page) l_count_page c_count_page k_count_page).binds (ps := p_count_page) fun _ _ _ _ _ _ us hl => match us, hl with | [_, _], _ => rfl
    g_count_page := PySem.W.mg_of X G h_count_page
    k_count_page := k_count_page
    f_discount_page := fun_mk (st := s_discount_page) l_discount_page c_discount_page k_discount_page
    bi_discount_page := (fun_mk (st := s_discount_page) l_discount_page c_discount_page k_discount_page).binds (ps := p_discount_page) fun _ _ _ _ _ _ us hl => match us, hl with | [_, _], _ => rfl
    g_discount_page := PySem.W.mg_of X G h_discount_page
    k_discount_page := k_discount_page
    f_replace_pages := fun_mk (st := s_replace_pages) l_replace_pages c_replace_pages k_replace_pages
    bi_replace_pages := (fun_mk (st := s_replace_pages) l_replace_pages c_replace_pages k_replace_pages).binds (ps := p_replace_pages) fun _ _ _ _ _ _ us hl => match us, hl with | [_, _, _], _ => rfl
    g_replace_pages := PySem.W.mg_of X G h_replace_pages
    k_replace_pages := k_replace_pages
    f_end_step := fun_mk (st := s_end_step) l_end_step c_end_step k_end_step
    bi_end_step := (fun_mk (st := s_end_step) l_end_step c_end_step k_end_step).binds (ps := p_end_step) fun _ _ _ _ _ _ us hl => match us, hl with | [_], _ => rfl
    g_end_step := PySem.W.mg_of X G h_end_step
    k_end_step := k_end_step
    f_is_integer := fun_mk (st := s_is_integer) l_is_integer c_is_integer k_is_integer
    bi_is_integer := (fun_mk (st := s_is_integer) l_is_integer c_is_integer k_is_integer).binds (ps := p_is_integer) fun _ _ _ _ _ _ us hl => match us, hl with | [_, _, _], _ => rfl
    g_is_integer := PySem.W.mg_of X G h_is_integer
    k_is_integer := k_is_integer
    f_is_word := fun_mk (st := s_is_word) l_is_word c_is_word k_is_word
    bi_is_word := (fun_mk (st := s_is_word) l_is_word c_is_word k_is_word).binds (ps := p_is_word) fun _ _ _ _ _ _ us hl => match us, hl with | [_, _], _ => rfl
    g_is_word := PySem.W.mg_of X G h_is_word
    k_is_word := k_is_word
    f_require := fun_mk (st := s_require) l_require c_require k_require
    bi_require := (fun_mk (st := s_require) l_require c_require k_require).binds (ps := p_require) fun _ _ _ _ _ _ us hl => match us, hl with | [_, _], _ => rfl
    g_require := PySem.W.mg_of X G h_require
    k_require := k_require
    f_table_of := fun_mk (st := s_table_of) l_table_of c_table_of k_table_of
    bi_table_of := (fun_mk (st := s_table_of) l_table_of c_table_of k_table_of).binds (ps := p_table_of) fun _ _ _ _ _ _ us hl => match us, hl with | [_, _], _ => rfl
    g_table_of := PySem.W.mg_of X G h_table_of
    k_table_of := k_table_of
    f_numbers_of := fun_mk (st := s_numbers_of) l_numbers_of c_numbers_of k_numbers_of
    bi_numbers_of := (fun_mk (st := s_numbers_of) l_numbers_of c_numbers_of k_numbers_of).binds (ps := p_numbers_of) fun _ _ _ _ _ _ us hl => match us, hl with | [_, _], _ => rfl
    g_numbers_of := PySem.W.mg_of X G h_numbers_of
    k_numbers_of := k_numbers_of
    f_require_charge := fun_mk (st := s_require_charge) l_require_charge c_require_charge k_require_charge
    bi_require_charge := (fun_mk (st := s_require_charge) l_require_charge c_require_charge k_require_charge).binds (ps := p_require_charge) fun _ _ _ _ _ _ us hl => match us, hl with | [_, _, _], _ => rfl
    g_require_charge := PySem.W.mg_of X G h_require_charge
    k_require_charge := k_require_charge
    f_require_source := fun_mk (st := s_require_source) l_require_source c_require_source k_require_source
    bi_require_source := (fun_mk (st := s_require_source) l_require_source c_require_source k_require_source).binds (ps := p_require_source) fun _ _ _ _ _ _ us hl => match us, hl with | [_, _, _], _ => rfl
    g_require_source := PySem.W.mg_of X G h_require_source
    k_require_source := k_require_source
    f_place_for := fun_mk (st := s_place_for) l_place_for c_place_for k_place_for
    bi_place_for := (fun_mk (st := s_place_for) l_place_for c_place_for k_place_for).binds (ps := p_place_for) fun _ _ _ _ _ _ us hl => match us, hl with | [_, _, _], _ => rfl
    g_place_for := PySem.W.mg_of X G h_place_for
    k_place_for := k_place_for
    f_map_pages := ⟨⟨_, _, _, _, _, _, _, _, _, _, rfl, l_map_pages, c_map_pages, .inl ⟨rfl, rfl⟩, .inr ⟨kD_map_pages, rfl, by
      intro q hq
      simp only [kw_map_pages, List.mem_cons, List.not_mem_nil, or_false] at hq
      rcases hq with h | h | h | h | h
      · subst h; exact ⟨_, kd_map_pages_rights, ⟨_, rfl⟩⟩
      · subst h; exact ⟨_, kd_map_pages_shared, rfl⟩
      · subst h; exact ⟨_, kd_map_pages_source, rfl⟩
      · subst h; exact ⟨_, kd_map_pages_index, ⟨_, rfl⟩⟩
      · subst h; exact ⟨_, kd_map_pages_at, rfl⟩⟩⟩, k_map_pages⟩
    g_map_pages := PySem.W.mg_of X G h_map_pages
    k_map_pages := k_map_pages
    f_new_pages := fun_mk (st := s_new_pages) l_new_pages c_new_pages k_new_pages
    bi_new_pages := (fun_mk (st := s_new_pages) l_new_pages c_new_pages k_new_pages).binds (ps := p_new_pages) fun _ _ _ _ _ _ us hl => match us, hl with | [_, _, _], _ => rfl
    g_new_pages := PySem.W.mg_of X G h_new_pages
    k_new_pages := k_new_pages
    f_unmap := fun_mk (st := s_unmap) l_unmap c_unmap k_unmap
    bi_unmap := (fun_mk (st := s_unmap) l_unmap c_unmap k_unmap).binds (ps := p_unmap) fun _ _ _ _ _ _ us hl => match us, hl with | [_, _, _, _], _ => rfl
    g_unmap := PySem.W.mg_of X G h_unmap
    k_unmap := k_unmap
    f_regions := fun_mk (st := s_regions) l_regions c_regions k_regions
    bi_regions := (fun_mk (st := s_regions) l_regions c_regions k_regions).binds (ps := p_regions) fun _ _ _ _ _ _ us hl => match us, hl with | [_, _], _ => rfl
    g_regions := PySem.W.mg_of X G h_regions
    k_regions := k_regions
    f_free_runs := fun_mk (st := s_free_runs) l_free_runs c_free_runs k_free_runs
    bi_free_runs := (fun_mk (st := s_free_runs) l_free_runs c_free_runs k_free_runs).binds (ps := p_free_runs) fun _ _ _ _ _ _ us hl => match us, hl with | [_], _ => rfl
    g_free_runs := PySem.W.mg_of X G h_free_runs
    k_free_runs := k_free_runs
    f_lowest_gap := fun_mk (st := s_lowest_gap) l_lowest_gap c_lowest_gap k_lowest_gap
    bi_lowest_gap := (fun_mk (st := s_lowest_gap) l_lowest_gap c_lowest_gap k_lowest_gap).binds (ps := p_lowest_gap) fun _ _ _ _ _ _ us hl => match us, hl with | [_, _], _ => rfl
    g_lowest_gap := PySem.W.mg_of X G h_lowest_gap
    k_lowest_gap := k_lowest_gap
    f_gap := fun_mk (st := s_gap) l_gap c_gap k_gap
    bi_gap := (fun_mk (st := s_gap) l_gap c_gap k_gap).binds (ps := p_gap) fun _ _ _ _ _ _ us hl => match us, hl with | [_, _, _], _ => rfl
    g_gap := PySem.W.mg_of X G h_gap
    k_gap := k_gap
    f_widest := fun_mk (st := s_widest) l_widest c_widest k_widest
    bi_widest := (fun_mk (st := s_widest) l_widest c_widest k_widest).binds (ps := p_widest) fun _ _ _ _ _ _ us hl => match us, hl with | [_, _], _ => rfl
    g_widest := PySem.W.mg_of X G h_widest
    k_widest := k_widest
    f_new_process := fun_mk (st := s_new_process) l_new_process c_new_process k_new_process
    bi_new_process := (fun_mk (st := s_new_process) l_new_process c_new_process k_new_process).binds (ps := p_new_process) fun _ _ _ _ _ _ us hl => match us, hl with | [_], _ => rfl
    g_new_process := PySem.W.mg_of X G h_new_process
    k_new_process := k_new_process
    f_spawn := fun_mk (st := s_spawn) l_spawn c_spawn k_spawn
    bi_spawn := (fun_mk (st := s_spawn) l_spawn c_spawn k_spawn).binds (ps := p_spawn) fun _ _ _ _ _ _ us hl => match us, hl with | [_], _ => rfl
    g_spawn := PySem.W.mg_of X G h_spawn
    k_spawn := k_spawn
    f__law_well := fun_mk (st := s__law_well) l__law_well c__law_well k__law_well
    bi__law_well := (fun_mk (st := s__law_well) l__law_well c__law_well k__law_well).binds (ps := p__law_well) fun _ _ _ _ _ _ us hl => match us, hl with | [_], _ => rfl
    g__law_well := PySem.W.mg_of X G h__law_well
    k__law_well := k__law_well
    f__law_draw := fun_mk (st := s__law_draw) l__law_draw c__law_draw k__law_draw
    bi__law_draw := (fun_mk (st := s__law_draw) l__law_draw c__law_draw k__law_draw).binds (ps := p__law_draw) fun _ _ _ _ _ _ us hl => match us, hl with | [_, _], _ => rfl
    g__law_draw := PySem.W.mg_of X G h__law_draw
    k__law_draw := k__law_draw
    f__law_one := fun_mk (st := s__law_one) l__law_one c__law_one k__law_one
    bi__law_one := (fun_mk (st := s__law_one) l__law_one c__law_one k__law_one).binds (ps := p__law_one) fun _ _ _ _ _ _ us hl => match us, hl with | [_, _], _ => rfl
    g__law_one := PySem.W.mg_of X G h__law_one
    k__law_one := k__law_one
    f__law_fits := fun_mk (st := s__law_fits) l__law_fits c__law_fits k__law_fits
    bi__law_fits := (fun_mk (st := s__law_fits) l__law_fits c__law_fits k__law_fits).binds (ps := p__law_fits) fun _ _ _ _ _ _ us hl => match us, hl with | [_, _], _ => rfl
    g__law_fits := PySem.W.mg_of X G h__law_fits
    k__law_fits := k__law_fits
    f__law_said := fun_mk (st := s__law_said) l__law_said c__law_said k__law_said
    bi__law_said := (fun_mk (st := s__law_said) l__law_said c__law_said k__law_said).binds (ps := p__law_said) fun _ _ _ _ _ _ us hl => match us, hl with | [_], _ => rfl
    g__law_said := PySem.W.mg_of X G h__law_said
    k__law_said := k__law_said
    f__law_widest := fun_mk (st := s__law_widest) l__law_widest c__law_widest k__law_widest
    bi__law_widest := (fun_mk (st := s__law_widest) l__law_widest c__law_widest k__law_widest).binds (ps := p__law_widest) fun _ _ _ _ _ _ us hl => match us, hl with | [_], _ => rfl
    g__law_widest := PySem.W.mg_of X G h__law_widest
    k__law_widest := k__law_widest
    f__law_refused := fun_mk (st := s__law_refused) l__law_refused c__law_refused k__law_refused
    bi__law_refused := (fun_mk (st := s__law_refused) l__law_refused c__law_refused k__law_refused).binds (ps := p__law_refused) fun _ _ _ _ _ _ us hl => match us, hl with | [_, _, _], _ => rfl
    fl__law_refused := ⟨⟨_, _, _, _, _, _, _, _, rfl, l__law_refused, c__law_refused⟩⟩
    g__law_refused := PySem.W.mg_of X G h__law_refused
    k__law_refused := k__law_refused
    f_law := fun_mk (st := s_law) l_law c_law k_law
    bi_law := (fun_mk (st := s_law) l_law c_law k_law).binds (ps := p_law) fun _ _ _ _ _ _ us hl => match us, hl with | [_], _ => rfl
    fl_law := ⟨⟨_, _, _, _, _, _, _, _, rfl, l_law, c_law⟩⟩
    g_law := PySem.W.mg_of X G h_law
    k_law := k_law
    g_NoSystem := PySem.W.mg_of X G h_NoSystem
    g_NoProcess := PySem.W.mg_of X G h_NoProcess
    g_NoPages := PySem.W.mg_of X G h_NoPages
    g_PageError := PySem.W.mg_of X G h_PageError
    g_System := PySem.W.mg_of X G h_System
    g_Page := PySem.W.mg_of X G h_Page
    f_NoSystem_init := fun_mk (st := s_NoSystem_init) l_NoSystem_init c_NoSystem_init k_NoSystem_init
    bi_NoSystem_init := (fun_mk (st := s_NoSystem_init) l_NoSystem_init c_NoSystem_init k_NoSystem_init).binds (ps := p_NoSystem_init) fun _ _ _ _ _ _ us hl => match us, hl with | [_, _], _ => rfl
    f_NoProcess_init := fun_mk (st := s_NoProcess_init) l_NoProcess_init c_NoProcess_init k_NoProcess_init
    bi_NoProcess_init := (fun_mk (st := s_NoProcess_init) l_NoProcess_init c_NoProcess_init k_NoProcess_init).binds (ps := p_NoProcess_init) fun _ _ _ _ _ _ us hl => match us, hl with | [_, _], _ => rfl
    f_NoPages_init := fun_mk (st := s_NoPages_init) l_NoPages_init c_NoPages_init k_NoPages_init
    bi_NoPages_init := (fun_mk (st := s_NoPages_init) l_NoPages_init c_NoPages_init k_NoPages_init).binds (ps := p_NoPages_init) fun _ _ _ _ _ _ us hl => match us, hl with | [_, _], _ => rfl
    f_Page_init := fun_mk (st := s_Page_init) l_Page_init c_Page_init k_Page_init
    bi_Page_init := (fun_mk (st := s_Page_init) l_Page_init c_Page_init k_Page_init).binds (ps := p_Page_init) fun _ _ _ _ _ _ us hl => match us, hl with | [_, _, _, _, _, _, _], _ => rfl
    f_System_init := ⟨⟨_, _, _, _, _, _, _, _, _, _, rfl, l_System_init, c_System_init, .inl ⟨rfl, rfl⟩, .inr ⟨kD_System_init, rfl, by
      intro q hq
      simp only [kw_System_init, List.mem_cons, List.not_mem_nil, or_false] at hq
      rcases hq with h | h | h
      · subst h; exact ⟨_, kd_System_init_frames, rfl⟩
      · subst h; exact ⟨_, kd_System_init_slots, rfl⟩
      · subst h; exact ⟨_, kd_System_init_strict, rfl⟩⟩⟩, k_System_init⟩
    x_NoSystem := ⟨⟨_, _, _, _, _, _, _, _, _, _, _, _, _, _, _, xL_NoSystem, xR_NoSystem⟩, xS_NoSystem, xE_NoSystem, xT_NoSystem, xK_NoSystem⟩
    xf_NoSystem := ⟨xG_NoSystem, xH_NoSystem, xE_NoSystem, xD_NoSystem⟩
    xn_NoSystem := xN_NoSystem
    xi_NoSystem := h_NoSystem_init
    xt_NoSystem := xi_NoSystem
    x_NoProcess := ⟨⟨_, _, _, _, _, _, _, _, _, _, _, _, _, _, _, xL_NoProcess, xR_NoProcess⟩, xS_NoProcess, xE_NoProcess, xT_NoProcess, xK_NoProcess⟩
    xf_NoProcess := ⟨xG_NoProcess, xH_NoProcess, xE_NoProcess, xD_NoProcess⟩
    xn_NoProcess := xN_NoProcess
    xi_NoProcess := h_NoProcess_init
    xt_NoProcess := xi_NoProcess
    x_NoPages := ⟨⟨_, _, _, _, _, _, _, _, _, _, _, _, _, _, _, xL_NoPages, xR_NoPages⟩, xS_NoPages, xE_NoPages, xT_NoPages, xK_NoPages⟩
    xf_NoPages := ⟨xG_NoPages, xH_NoPages, xE_NoPages, xD_NoPages⟩
    xn_NoPages := xN_NoPages
    xi_NoPages := h_NoPages_init
    xt_NoPages := xi_NoPages
    x_PageError := ⟨⟨_, _, _, _, _, _, _, _, _, _, _, _, _, _, _, xL_PageError, xR_PageError⟩, xS_PageError, xE_PageError, xT_PageError, xK_PageError⟩
    xf_PageError := ⟨xG_PageError, xH_PageError, xE_PageError, xD_PageError⟩
    e_NoPages_NoPages := exm_is xE_NoPages xC_NoPages xT_NoPages xx_NoPages_NoPages
    e_NoProcess_NoPages := exm_is xE_NoPages xC_NoPages xT_NoPages xx_NoProcess_NoPages
    e_NoProcess_NoProcess := exm_is xE_NoProcess xC_NoProcess xT_NoProcess xx_NoProcess_NoProcess
    cl_System := ⟨pg_System, hd_System, po_System, sa_System⟩
    mk_System := ⟨mk_System, h_System_init, ii_System, kc_System⟩
    n_System_frames := na_System_frames
    n_System_slots := na_System_slots
    n_System_strict := na_System_strict
    n_System_steps_made := na_System_steps_made
    n_System_processes_made := na_System_processes_made
    n_System_objects_made := na_System_objects_made
    n_System_tables := na_System_tables
    n_System_objects := na_System_objects
    n_System_object_pages := na_System_object_pages
    n_System_files := na_System_files
    n_System_classes := na_System_classes
    n_System_touches := na_System_touches
    cl_Page := ⟨pg_Page, hd_Page, po_Page, sa_Page⟩
    mk_Page := ⟨mk_Page, h_Page_init, ii_Page, kc_Page⟩
    n_Page_rights := na_Page_rights
    n_Page_shared := na_Page_shared
    n_Page_source := na_Page_source
    n_Page_index := na_Page_index
    n_Page_flags := na_Page_flags
    n_Page_held := na_Page_held
    g_PAGES := PySem.W.mg_of X G gc_PAGES
    b_int := PySem.W.mg_none_of X G b_int
    b_len := PySem.W.mg_none_of X G b_len
    b_isinstance := PySem.W.mg_none_of X G b_isinstance
    b_bool := PySem.W.mg_none_of X G b_bool
    b_str := PySem.W.mg_none_of X G b_str
    b_list := PySem.W.mg_none_of X G b_list
    b_range := PySem.W.mg_none_of X G b_range
    b_enumerate := PySem.W.mg_none_of X G b_enumerate
    b_min := PySem.W.mg_none_of X G b_min
    b_max := PySem.W.mg_none_of X G b_max
    b_sorted := PySem.W.mg_none_of X G b_sorted
    g_RIGHTS := PySem.W.mg_of X G gR
    r_RIGHTS := rR }

theorem fin {l : PySem.W.OpenLaw} {w : World} {K : PySem.W.Frag} {mg : Str → Option Value} {fa : Addr} {h : Heap} {A : Adr} {e1 e2 : Value} {dd1 dd2 : Option Addr} {vs1 vs2 : Array Value} {sl1 sl2 : Array (Option Value)}
    (G : Txt K mg A) (KX : K.In h) (hmg : mg "law" = some (.ref fa))
    (lc1 : K.lookup A.co_law = some ⟨e1, dd1, .fields vs1, sl1⟩) (v1 : vs1[11]? = some (.ref A.ta_law)) (n1 : K.lookup A.ta_law = none) (d1 : PySem.W.codeHdIn K A.co_law A.ta_law = true)
    (t1 : h.get? A.ta_law = some { cls := .none, data := .fields #[] })
    (lc2 : K.lookup A.co__law_refused = some ⟨e2, dd2, .fields vs2, sl2⟩) (v2 : vs2[11]? = some (.ref A.ta__law_refused)) (n2 : K.lookup A.ta__law_refused = none) (d2 : PySem.W.codeHdIn K A.co__law_refused A.ta__law_refused = true)
    (t2 : h.get? A.ta__law_refused = some { cls := .none, data := .fields #[] }) (ne : A.ta_law ≠ A.ta__law_refused) : LamX.LawAtS l w K CX0 9 63 "script" mg fa h := by
  have ea : A.a_law = fa := by
    have := G.g_law.symm.trans hmg
    cases this
    rfl
  obtain ⟨oc, od, kV, doc, pm, an, ct, osl, hfd, lk, hcd⟩ := G.fl_law.ex
  refine ⟨A.fd_law, [(A.co_law, A.ta_law), (A.co__law_refused, A.ta__law_refused)], spLaw K A, ?_, ?_, ?_, ?_, ?_, ?_⟩
  · intro p hp
    rcases List.mem_cons.mp hp with rfl | hp
    · exact t1
    · rw [List.mem_singleton.mp hp]; exact t2
  · intro p hp
    rcases List.mem_cons.mp hp with rfl | hp
    · exact n1
    · rw [List.mem_singleton.mp hp]; exact n2
  · intro p hp
    rcases List.mem_cons.mp hp with rfl | hp
    · exact PySem.W.codeHd_of_K KX d1
    · rw [List.mem_singleton.mp hp]; exact PySem.W.codeHd_of_K KX d2
  · intro s u
    rw [hfd]
    exact .of_eq rfl
  · intro H a ns hn _ hT hS
    refine ⟨a, ns, rfl, hS, hn, fun p hp => ?_, fun _ => rfl⟩
    rcases List.mem_cons.mp hp with rfl | hp
    · exact LamX.TabS.nil (hT _ List.mem_cons_self)
    · rw [List.mem_singleton.mp hp]; exact LamX.TabS.nil (hT (A.co__law_refused, A.ta__law_refused) (List.mem_cons_of_mem _ (List.mem_singleton.mpr rfl)))
  · intro base _ _ hB
    rw [← ea]
    exact ok_law G ⟨hB _ List.mem_cons_self, hB (A.co__law_refused, A.ta__law_refused) (List.mem_cons_of_mem _ (List.mem_singleton.mpr rfl)), ne⟩
end My
open PySem PySem.W PyProof.Rows
set_option maxRecDepth 100000 in
set_option maxHeartbeats 0 in
theorem PySem.Challenge.cw_pageclass_k05_gaps_holds : PySem.Challenge.rw_pageclass_k05_gaps.Holds := by
  w_on; o_law; k_head; (case hw => w_witness2)
  k_fill
  refine LamX.walk_ofTs (l := PySem.Challenge.rw_pageclass_k05_gaps) (CX := fun _ => L2.CX0) (k := 9) (n := 63) (x := "script") rfl (by decide) rfl ⟨rfl, by decide, by decide⟩ (fun w h Y => PySem.W.km_in_of Y) ?F (fun _ _ _ _ _ z => z)
  case F =>
    intro w mg fa h Y KX G hmg
    refine' My.fin (My.all_mk KX G ?h_has_object ?l_has_object ?c_has_object ?k_has_object ?h_count_page ?l_count_page ?c_count_page ?k_count_page ?h_discount_page ?l_discount_page ?c_discount_page ?k_discount_page ?h_replace_pages ?l_replace_pages ?c_replace_pages ?k_replace_pages ?h_end_step ?l_end_step ?c_end_step ?k_end_step ?h_is_integer ?l_is_integer ?c_is_integer ?k_is_integer ?h_is_word ?l_is_word ?c_is_word ?k_is_word ?h_require ?l_require ?c_require ?k_require ?h_table_of ?l_table_of ?c_table_of ?k_table_of ?h_numbers_of ?l_numbers_of ?c_numbers_of ?k_numbers_of ?h_require_charge ?l_require_charge ?c_require_charge ?k_require_charge ?h_require_source ?l_require_source ?c_require_source ?k_require_source ?h_place_for ?l_place_for ?c_place_for ?k_place_for ?h_map_pages ?l_map_pages ?c_map_pages ?k_map_pages ?kd_map_pages_rights ?kd_map_pages_shared ?kd_map_pages_source ?kd_map_pages_index ?kd_map_pages_at ?h_new_pages ?l_new_pages ?c_new_pages ?k_new_pages ?h_unmap ?l_unmap ?c_unmap ?k_unmap ?h_regions ?l_regions ?c_regions ?k_regions ?h_free_runs ?l_free_runs ?c_free_runs ?k_free_runs ?h_lowest_gap ?l_lowest_gap ?c_lowest_gap ?k_lowest_gap ?h_gap ?l_gap ?c_gap ?k_gap ?h_widest ?l_widest ?c_widest ?k_widest ?h_new_process ?l_new_process ?c_new_process ?k_new_process ?h_spawn ?l_spawn ?c_spawn ?k_spawn ?h__law_well ?l__law_well ?c__law_well ?k__law_well ?h__law_draw ?l__law_draw ?c__law_draw ?k__law_draw ?h__law_one ?l__law_one ?c__law_one ?k__law_one ?h__law_fits ?l__law_fits ?c__law_fits ?k__law_fits ?h__law_said ?l__law_said ?c__law_said ?k__law_said ?h__law_widest ?l__law_widest ?c__law_widest ?k__law_widest ?h__law_refused ?l__law_refused ?c__law_refused ?k__law_refused ?h_law ?l_law ?c_law ?k_law ?h_NoSystem ?h_NoProcess ?h_NoPages ?h_PageError ?h_System ?h_Page ?h_NoSystem_init ?l_NoSystem_init ?c_NoSystem_init ?k_NoSystem_init ?h_NoProcess_init ?l_NoProcess_init ?c_NoProcess_init ?k_NoProcess_init ?h_NoPages_init ?l_NoPages_init ?c_NoPages_init ?k_NoPages_init ?h_Page_init ?l_Page_init ?c_Page_init ?k_Page_init ?h_System_init ?l_System_init ?c_System_init ?k_System_init ?kd_System_init_frames ?kd_System_init_slots ?kd_System_init_strict ?xL_NoSystem ?xR_NoSystem ?xS_NoSystem ?xE_NoSystem ?xT_NoSystem ?xK_NoSystem ?xG_NoSystem ?xH_NoSystem ?xD_NoSystem ?xC_NoSystem ?xN_NoSystem ?xi_NoSystem ?xL_NoProcess ?xR_NoProcess ?xS_NoProcess ?xE_NoProcess ?xT_NoProcess ?xK_NoProcess ?xG_NoProcess ?xH_NoProcess ?xD_NoProcess ?xC_NoProcess ?xN_NoProcess ?xi_NoProcess ?xL_NoPages ?xR_NoPages ?xS_NoPages ?xE_NoPages ?xT_NoPages ?xK_NoPages ?xG_NoPages ?xH_NoPages ?xD_NoPages ?xC_NoPages ?xN_NoPages ?xi_NoPages ?xL_PageError ?xR_PageError ?xS_PageError ?xE_PageError ?xT_PageError ?xK_PageError ?xG_PageError ?xH_PageError ?xD_PageError ?xC_PageError ?xx_NoPages_NoPages ?xx_NoProcess_NoPages ?xx_NoProcess_NoProcess ?pg_System ?hd_System ?po_System ?sa_System ?mk_System ?kc_System ?ii_System ?na_System_frames ?na_System_slots ?na_System_strict ?na_System_steps_made ?na_System_processes_made ?na_System_objects_made ?na_System_tables ?na_System_objects ?na_System_object_pages ?na_System_files ?na_System_classes ?na_System_touches ?pg_Page ?hd_Page ?po_Page ?sa_Page ?mk_Page ?kc_Page ?ii_Page ?na_Page_rights ?na_Page_shared ?na_Page_source ?na_Page_index ?na_Page_flags ?na_Page_held ?gc_PAGES ?b_int ?b_len ?b_isinstance ?b_bool ?b_str ?b_list ?b_range ?b_enumerate ?b_min ?b_max ?b_sorted ?gR ?rR) KX hmg ?lc1 ?v1 ?n1 ?d1 ?t1 ?lc2 ?v2 ?n2 ?d2 ?t2 ?ne
    (case h_has_object => k_is)
    (case l_has_object => k_is)
    (case c_has_object => k_is)
    (case k_has_object => k_is)
    (case h_count_page => k_is)
    (case l_count_page => k_is)
    (case c_count_page => k_is)
    (case k_count_page => k_is)
    (case h_discount_page => k_is)
    (case l_discount_page => k_is)
    (case c_discount_page => k_is)
    (case k_discount_page => k_is)
    (case h_replace_pages => k_is)
    (case l_replace_pages => k_is)
    (case c_replace_pages => k_is)
    (case k_replace_pages => k_is)
    (case h_end_step => k_is)
    (case l_end_step => k_is)
    (case c_end_step => k_is)
    (case k_end_step => k_is)
    (case h_is_integer => k_is)
    (case l_is_integer => k_is)
    (case c_is_integer => k_is)
    (case k_is_integer => k_is)
    (case h_is_word => k_is)
    (case l_is_word => k_is)
    (case c_is_word => k_is)
    (case k_is_word => k_is)
    (case h_require => k_is)
    (case l_require => k_is)
    (case c_require => k_is)
    (case k_require => k_is)
    (case h_table_of => k_is)
    (case l_table_of => k_is)
    (case c_table_of => k_is)
    (case k_table_of => k_is)
    (case h_numbers_of => k_is)
    (case l_numbers_of => k_is)
    (case c_numbers_of => k_is)
    (case k_numbers_of => k_is)
    (case h_require_charge => k_is)
    (case l_require_charge => k_is)
    (case c_require_charge => k_is)
    (case k_require_charge => k_is)
    (case h_require_source => k_is)
    (case l_require_source => k_is)
    (case c_require_source => k_is)
    (case k_require_source => k_is)
    (case h_place_for => k_is)
    (case l_place_for => k_is)
    (case c_place_for => k_is)
    (case k_place_for => k_is)
    (case h_map_pages => k_is)
    (case l_map_pages => k_is)
    (case c_map_pages => k_is)
    (case k_map_pages => k_is)
    (case kd_map_pages_rights => k_is)
    (case kd_map_pages_shared => k_is)
    (case kd_map_pages_source => k_is)
    (case kd_map_pages_index => k_is)
    (case kd_map_pages_at => k_is)
    (case h_new_pages => k_is)
    (case l_new_pages => k_is)
    (case c_new_pages => k_is)
    (case k_new_pages => k_is)
    (case h_unmap => k_is)
    (case l_unmap => k_is)
    (case c_unmap => k_is)
    (case k_unmap => k_is)
    (case h_regions => k_is)
    (case l_regions => k_is)
    (case c_regions => k_is)
    (case k_regions => k_is)
    (case h_free_runs => k_is)
    (case l_free_runs => k_is)
    (case c_free_runs => k_is)
    (case k_free_runs => k_is)
    (case h_lowest_gap => k_is)
    (case l_lowest_gap => k_is)
    (case c_lowest_gap => k_is)
    (case k_lowest_gap => k_is)
    (case h_gap => k_is)
    (case l_gap => k_is)
    (case c_gap => k_is)
    (case k_gap => k_is)
    (case h_widest => k_is)
    (case l_widest => k_is)
    (case c_widest => k_is)
    (case k_widest => k_is)
    (case h_new_process => k_is)
    (case l_new_process => k_is)
    (case c_new_process => k_is)
    (case k_new_process => k_is)
    (case h_spawn => k_is)
    (case l_spawn => k_is)
    (case c_spawn => k_is)
    (case k_spawn => k_is)
    (case h__law_well => k_is)
    (case l__law_well => k_is)
    (case c__law_well => k_is)
    (case k__law_well => k_is)
    (case h__law_draw => k_is)
    (case l__law_draw => k_is)
    (case c__law_draw => k_is)
    (case k__law_draw => k_is)
    (case h__law_one => k_is)
    (case l__law_one => k_is)
    (case c__law_one => k_is)
    (case k__law_one => k_is)
    (case h__law_fits => k_is)
    (case l__law_fits => k_is)
    (case c__law_fits => k_is)
    (case k__law_fits => k_is)
    (case h__law_said => k_is)
    (case l__law_said => k_is)
    (case c__law_said => k_is)
    (case k__law_said => k_is)
    (case h__law_widest => k_is)
    (case l__law_widest => k_is)
    (case c__law_widest => k_is)
    (case k__law_widest => k_is)
    (case h__law_refused => k_is)
    (case l__law_refused => k_is)
    (case c__law_refused => k_is)
    (case k__law_refused => k_is)
    (case h_law => k_is)
    (case l_law => k_is)
    (case c_law => k_is)
    (case k_law => k_is)
    (case h_NoSystem => k_is)
    (case h_NoProcess => k_is)
    (case h_NoPages => k_is)
    (case h_PageError => k_is)
    (case h_System => k_is)
    (case h_Page => k_is)
    (case h_NoSystem_init => k_is)
    (case l_NoSystem_init => k_is)
    (case c_NoSystem_init => k_is)
    (case k_NoSystem_init => k_is)
    (case h_NoProcess_init => k_is)
    (case l_NoProcess_init => k_is)
    (case c_NoProcess_init => k_is)
    (case k_NoProcess_init => k_is)
    (case h_NoPages_init => k_is)
    (case l_NoPages_init => k_is)
    (case c_NoPages_init => k_is)
    (case k_NoPages_init => k_is)
    (case h_Page_init => k_is)
    (case l_Page_init => k_is)
    (case c_Page_init => k_is)
    (case k_Page_init => k_is)
    (case h_System_init => k_is)
    (case l_System_init => k_is)
    (case c_System_init => k_is)
    (case k_System_init => k_is)
    (case kd_System_init_frames => k_is)
    (case kd_System_init_slots => k_is)
    (case kd_System_init_strict => k_is)
    (case xL_NoSystem => k_is)
    (case xR_NoSystem => first | k_is | rfl | decide +kernel)
    (case xS_NoSystem => k_is)
    (case xE_NoSystem => k_is)
    (case xT_NoSystem => k_is)
    (case xK_NoSystem => k_is)
    (case xG_NoSystem => k_is)
    (case xH_NoSystem => k_is)
    (case xD_NoSystem => k_is)
    (case xC_NoSystem => k_is)
    (case xN_NoSystem => k_is)
    (case xi_NoSystem => k_is)
    (case xL_NoProcess => k_is)
    (case xR_NoProcess => first | k_is | rfl | decide +kernel)
    (case xS_NoProcess => k_is)
    (case xE_NoProcess => k_is)
    (case xT_NoProcess => k_is)
    (case xK_NoProcess => k_is)
    (case xG_NoProcess => k_is)
    (case xH_NoProcess => k_is)
    (case xD_NoProcess => k_is)
    (case xC_NoProcess => k_is)
    (case xN_NoProcess => k_is)
    (case xi_NoProcess => k_is)
    (case xL_NoPages => k_is)
    (case xR_NoPages => first | k_is | rfl | decide +kernel)
    (case xS_NoPages => k_is)
    (case xE_NoPages => k_is)
    (case xT_NoPages => k_is)
    (case xK_NoPages => k_is)
    (case xG_NoPages => k_is)
    (case xH_NoPages => k_is)
    (case xD_NoPages => k_is)
    (case xC_NoPages => k_is)
    (case xN_NoPages => k_is)
    (case xi_NoPages => k_is)
    (case xL_PageError => k_is)
    (case xR_PageError => first | k_is | rfl | decide +kernel)
    (case xS_PageError => k_is)
    (case xE_PageError => k_is)
    (case xT_PageError => k_is)
    (case xK_PageError => k_is)
    (case xG_PageError => k_is)
    (case xH_PageError => k_is)
    (case xD_PageError => k_is)
    (case xC_PageError => k_is)
    (case xx_NoPages_NoPages => first | rfl | k_is)
    (case xx_NoProcess_NoPages => first | rfl | k_is)
    (case xx_NoProcess_NoProcess => first | rfl | k_is)
    (case pg_System => k_is)
    (case hd_System => k_is)
    (case po_System => k_is)
    (case sa_System => k_is)
    (case mk_System => k_is)
    (case kc_System => k_is)
    (case ii_System => k_is)
    (case na_System_frames => k_is)
    (case na_System_slots => k_is)
    (case na_System_strict => k_is)
    (case na_System_steps_made => k_is)
    (case na_System_processes_made => k_is)
    (case na_System_objects_made => k_is)
    (case na_System_tables => k_is)
    (case na_System_objects => k_is)
    (case na_System_object_pages => k_is)
    (case na_System_files => k_is)
    (case na_System_classes => k_is)
    (case na_System_touches => k_is)
    (case pg_Page => k_is)
    (case hd_Page => k_is)
    (case po_Page => k_is)
    (case sa_Page => k_is)
    (case mk_Page => k_is)
    (case kc_Page => k_is)
    (case ii_Page => k_is)
    (case na_Page_rights => k_is)
    (case na_Page_shared => k_is)
    (case na_Page_source => k_is)
    (case na_Page_index => k_is)
    (case na_Page_flags => k_is)
    (case na_Page_held => k_is)
    (case gc_PAGES => k_is)
    (case b_int => k_is)
    (case b_len => k_is)
    (case b_isinstance => k_is)
    (case b_bool => k_is)
    (case b_str => k_is)
    (case b_list => k_is)
    (case b_range => k_is)
    (case b_enumerate => k_is)
    (case b_min => k_is)
    (case b_max => k_is)
    (case b_sorted => k_is)
    (case gR => k_is)
    (case rR => first | rfl | decide +kernel)

    (case lc1 => k_is)
    (case v1 => rfl)
    (case n1 => first | rfl | decide +kernel)
    (case d1 => first | rfl | decide +kernel)
    (case t1 => exact PySem.W.km_tabs_of Y _ (by simp))
    (case lc2 => k_is)
    (case v2 => rfl)
    (case n2 => first | rfl | decide +kernel)
    (case d2 => first | rfl | decide +kernel)
    (case t2 => exact PySem.W.km_tabs_of Y _ (by simp))
    (case ne => decide)

