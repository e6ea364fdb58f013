import PyProof.Rows.All
import Wide.All
import OpenK.AllK
import Wide.FinOn
import HandS.ForMost
import HandS.ForExc
import HandS.ExcInit
import HandS.TryMany
import HandS.ExcCtx
import HandS.HotCalls
import HandS.IsInst
import HandS.Style
import HandS.Flow
import KE.KExcIs
import HandS.Codes
import HandS.TupAny
import HandS.EndBits
import PySem.Challenge.RW_wholefaces_k78_errors
section SecA1
set_option Elab.async false
set_option linter.all false
set_option maxRecDepth 100000
set_option maxHeartbeats 4000000
namespace Err
open PySem PySem.Spec PyProof.Rows L2

/-- what the written part tells of an error class at C -/
structure Ec (K : PySem.W.Frag) (C : Addr) : Prop where
  oex : OexC K C
  cl : (PySem.W.clsIn K C).isSome = true
  ga : PySem.W.findIn K (.ref C) "__getattribute__" = some (some (.builtin "BaseException.__getattribute__"))
  gg : PySem.W.findIn K (.ref C) "__getattr__" = some none
  hd : PySem.W.hasDictIn K C = true
  ca : PySem.W.findIn K (.ref C) "__class__" = some (some (.builtin "object.__class__"))
  cn : PySem.W.specialIn K (.builtin "object.__class__") "__get__" = some (some (.builtin "getset_descriptor.__get__"))
  ct : PySem.W.takesIn K (.builtin "object.__class__") = some true
  cm : PySem.W.mroIn K C (.type "object") = some true

/-- an error object of the class at C, its dict at d, stands at a -/
def At (h : Heap) (a C : Addr) (d : Option Addr) : Prop := ∃ (oe : Obj) (fv : Array Value), h.get? a = some oe ∧ oe.cls = .ref C ∧ oe.dict = d ∧ oe.data = .fields fv
/-- in each state of the context there is such an object -/
def Seen (X : Cx) (H : Hp) (a C : Addr) (d : Option Addr) : Prop := ∀ (pins : List (Addr × Obj)) (σ : L2.St) (s : Shared), Inv X pins σ H s → At s.heap a C d
/-- the dict of an error -/
def Dk (H : Hp) (d : Addr) (fs : List (Str × V)) : Prop := H d = some (.xd fs) ∨ H d = some (exd d fs)
theorem Dk.ns {P : Program} {w : World} {H : Hp} {h : Heap} {d : Addr} {fs : List (Str × V)} (ok : HOk P w H h) (k : Dk H d fs) : ∃ mA, h.Ns1 d mA ∧ ∀ f, RelO (fs.lookup f) (mA f) := by
  rcases k with k | k
  · have z : ObjOk P w H h d (.xd fs) := ok d _ k
    exact z
  · exact exd_at ok k
theorem Dk.mono {H H' : Hp} {d : Addr} {fs : List (Str × V)} (m : ∀ b o, H b = some o → H' b = some o) (k : Dk H d fs) : Dk H' d fs := by
  rcases k with k | k
  · exact .inl (m _ _ k)
  · exact .inr (m _ _ k)
/-- an error that is tracked -/
theorem seen_exo {X : Cx} {H : Hp} {a C : Addr} {d : Option Addr} (e : H a = some (exo a C d)) : Seen X H a C d := fun _ _ _ I => by
  obtain ⟨t1, q⟩ := exo_at I.hok e
  exact ⟨_, _, q, rfl, rfl, rfl⟩
/-- an error that the context holds fast -/
theorem seen_pin {X : Cx} {H : Hp} {a C : Addr} {d : Option Addr} {oe : Obj} (m : (a, oe) ∈ X.pn) (z : Zc (.ref C) d oe) (f : ∃ vs, oe.data = .fields vs) : Seen X H a C d := fun _ _ _ I => by
  obtain ⟨vs, hv⟩ := f
  exact ⟨oe, vs, (I.pin _ (List.mem_append_left _ m)).1, z.1, z.2, hv⟩
section
variable {X : Cx}
/-- as the library's rows want it -/
def DOb (h : Heap) : Option Addr → Option Obj → Prop
  | some dx, some o => h.get? dx = some o
  | none, none => True
  | _, _ => False
theorem inst_of {h : Heap} {a C : Addr} {d : Option Addr} {oe : Obj} {fv : Array Value} (e : h.get? a = some oe) (c : oe.cls = .ref C) (k : oe.dict = d) (f : oe.data = .fields fv) {od : Option Obj} (hd : DOb h d od) :
    PySem.W.InstAt h a oe C od := by
  subst k
  refine ⟨e, c, by unfold PySem.W.notCls; rw [f] <;> rfl, ?_⟩
  unfold DOb at hd
  revert hd
  cases oe.dict <;> cases od <;> exact fun z => z
/-- e.n of an error -/
def tAt (X : Cx) (n : Str) (te : TE) : TE := fun σ H Q => te σ H fun x H1 => ∃ (a C dd : Addr) (fs : List (Str × V)) (v : V), x = .ref a ∧ Ec X.K C ∧ PySem.W.findIn X.K (.ref C) n = some none ∧ Seen X H1 a C (some dd) ∧ Dk H1 dd fs ∧ fs.lookup n = some v ∧ Q v H1
theorem pe_at {e : Expr} {te : TE} {pos : Pos} {n : Str} (he : PE X e te) (hb : attributeBase e n X.env (eval e X.env) = eval e X.env := by rfl) : PE X (.Attribute e n pos) (tAt X n te) := by
  refine ⟨fun pins s σ H Q I h => attr_of hb (thn (he.run pins s σ H _ I h) fun u s1 hh => ?_)⟩
  obtain ⟨x, H1, I1, rx, a, C, dd, fs, v, ex, T, hno, sn, dk, l, q⟩ := hh
  subst ex
  cases (show u = Value.ref a from rx)
  obtain ⟨oe, fv, e1, e2, e3, e4⟩ := sn _ _ _ I1
  obtain ⟨mA, hns, hr⟩ := dk.ns I1.hok
  obtain ⟨od, ho, hl⟩ := lookIn_ns hns
  obtain ⟨y, hy, ry⟩ := RelO.some_of (v := v) (o := mA n) (by rw [← l]; exact hr n)
  exact HandSPX.exc_get I1.kIn (inst_of e1 e2 e3 e4 (od := some od) ho) T.ga T.gg T.oex.exC (PySem.W.findObj_own T.hd hno rfl (by rw [hl, hy])) (handed_of ry) ⟨v, H1, I1.tok _, ry, q⟩
/-- isinstance(e, c) of an error -/
def rIsA (X : Cx) : List V → Hp → VK → Prop := fun xs H Q => ∃ (a C : Addr) (d : Option Addr) (c : V) (cv : Value) (b : Bool), xs = [.ref a, c] ∧ ClsV c cv ∧ Ec X.K C ∧ Seen X H a C d ∧ (∀ dd, d = some dd → ∃ fs, Dk H dd fs) ∧ PySem.W.kitOne X.K (.ref C) cv = some b ∧ Q (.bl b) H
theorem call_isA : CallR X (.builtin "isinstance") (rIsA X) := by
  intro pins s σ H xs us Q I r h
  obtain ⟨a, C, d, c, cv, b, rfl, k, T, sn, hd, e, q⟩ := h
  obtain ⟨u1, u2, rfl, r1, r2⟩ := vals2 r
  have z := k.eq r2
  subst z
  cases (show u1 = Value.ref a from r1)
  obtain ⟨oe, fv, e1, e2, e3, e4⟩ := sn _ _ _ I
  obtain ⟨od, ho⟩ : ∃ od : Option Obj, DOb s.heap d od := by
    cases d with
    | none => exact ⟨none, True.intro⟩
    | some dd =>
      obtain ⟨fs, dk⟩ := hd dd rfl
      obtain ⟨mA, ⟨o, es, ep, ho, _⟩, hr⟩ := dk.ns I.hok
      exact ⟨some o, ho⟩
  have J := inst_of e1 e2 e3 e4 (od := od) ho
  exact PySem.W.kia_one (PySem.W.kitx_exc T.cl T.ga T.gg T.oex.exC T.ca T.cn T.ct T.cm) I.kIn J e (fun z => nomatch z) fun tk => ⟨.bl b, H, I.tok tk, rfl, q⟩
end
end Err
end SecA1
section SecA2
set_option Elab.async false
set_option linter.all false
set_option maxRecDepth 100000
set_option maxHeartbeats 4000000
namespace Err
open PySem PySem.Spec PyProof.Rows L2 L2H

/-- nothing is handled and nothing held, or the error at p is handled and held -/
inductive Mood (A : Around) (outer : List Env) (H : Hp) (s : Shared) : Bool → List (Addr × Obj) → Prop
  | calm (h : A.handled = none) : Mood A outer H s true []
  | hot (p : Addr × Obj) (h : Hot1 A p) (k : PinOk outer H s p) : Mood A outer H s false [p]
def cxB (P : Program) (w : World) (K : PySem.W.Frag) (mg : Str → Option Value) (base : Heap) (N : List Str) (qual : Str) (scope : Scope) (f : Addr) (cd : Value) (A : Around) (outer : List Env) (s : Shared) (H : Hp) (b : Bool) (pl : List (Addr × Obj)) : Cx :=
  { cxOf CX0 P w K mg base N qual scope f cd A outer s H E0 with calm := b, pn := pl }
/-- the mood of a context -/
inductive MoodC (X : Cx) : Bool → List (Addr × Obj) → Prop
  | calm (h : X.calm = true) : MoodC X true []
  | hot (p : Addr × Obj) (h : Hot1 X.A p) (m : p ∈ X.pn) : MoodC X false [p]
theorem MoodC.to {X : Cx} {pins : List (Addr × Obj)} {σ : L2.St} {H : Hp} {s : Shared} {b : Bool} {pl : List (Addr × Obj)} (m : MoodC X b pl) (I : Inv X pins σ H s) : Mood X.A X.stack H s b pl := by
  cases m with
  | calm h => exact .calm (I.ok.hd h)
  | hot p h m =>
    have z := I.pin p (List.mem_append_left _ m)
    exact .hot p h ⟨z.1, z.2.1, fun y => by
      rcases List.mem_cons.mp (I.stkSub p.1 y) with y | y
      · exact z.2.2.1 y
      · exact z.2.2.2.1 y, z.2.2.2.2⟩
/-- a def that may be called in both moods -/
structure FnB (P : Program) (w : World) (K : PySem.W.Frag) (mg : Str → Option Value) (base : Heap) (k : Nat) (f : Addr) (fd : FuncData) (ps : List Str) (sp : List (Addr × Obj) → Sp) : Prop where
  len : ∀ pl vs H Q E, sp pl vs H Q E → vs.length = ps.length
  run : ∀ (A : Around) (outer : List Env) (s : Shared) (H : Hp) (args : Args) (us : List Value) (vs : List V) (Q : VK) (b : Bool) (pl : List (Addr × Obj)), RoomH k A → Mood A outer H s b pl → Env0 P w K mg base A outer s H →
    BindsTo s fd args (ps.zip us) → Vals vs us → sp pl vs H Q E0 → codeAny (model P w) A (.call (.ref f) args) (CR CX0 outer P w H s Q E0) s
section
variable {P : Program} {w : World} {K : PySem.W.Frag} {mg : Str → Option Value} {base : Heap} {k : Nat} {f : Addr} {fd : FuncData} {N ps : List Str} {sp : List (Addr × Obj) → Sp}
theorem FnB.ok (F : FnB P w K mg base k f fd ps sp) : FnOk P w K mg base CX0 k f fd ps (fun vs H Q _ => sp [] vs H Q E0) :=
  ⟨fun vs H Q E h => F.len [] vs H Q E0 h, fun A outer s H args us vs Q E hr e0 hb r h => codeAny_mono (F.run A outer s H args us vs Q true [] (roomH_of hr) (.calm hr.hd) e0 hb r h) fun x s' z => by
    cases x with
    | error e => exact (show False from z).elim
    | ok fl => cases fl <;> exact z⟩
theorem startB {qual : Str} {scope : Scope} {cd : Value} {A : Around} {outer : List Env} {s s1 : Shared} {H : Hp} {us : List Value} {vs : List V} {b : Bool} {pl : List (Addr × Obj)} (S : FnScope N ps scope) (m : Mood A outer H s b pl) (e0 : Env0 P w K mg base A outer s H)
    (hl : vs.length = ps.length) (r : Vals vs us)
    (x : InCallC s s.heap.objs.size (bindL (envOfC qual scope s.heap.objs.size f cd).kindOf (ps.zip us) fun _ => none) (cellsFrom (s.heap.objs.size + 1) scope.names []) (bindC (envOfC qual scope s.heap.objs.size f cd).kindOf (ps.zip us) fun _ => none) s1) :
    Inv (cxB P w K mg base N qual scope f cd A outer s H b pl) [] (L2.start N vs) H s1 := by
  cases m with
  | calm h => exact inv_start (CX := CX0) (E := E0) S h e0 hl r x
  | hot p h k => exact inv_startH (CX := CX0) (E := E0) S k e0 hl r x
/-- a def of the text by its body, in both moods -/
theorem fnB_of {x qual : Str} {st : Stmt} (F : Fun K x qual st f fd) (S : FnScope N ps (defScope st)) (len : ∀ pl vs H Q E, sp pl vs H Q E → vs.length = ps.length)
    (hbody : ∀ (cdv : Value) (A : Around) (outer : List Env) (s : Shared) (H : Hp) (vs : List V) (Q : VK) (b : Bool) (pl : List (Addr × Obj)), RoomH k (A.deeper (envOfC qual (defScope st) s.heap.objs.size f cdv)) →
      MoodC (cxB P w K mg base N qual (defScope st) f cdv A outer s H b pl) b pl → sp pl vs H Q E0 →
      ∃ t, PSs (cxB P w K mg base N qual (defScope st) f cdv A outer s H b pl) (defBody st) t ∧ t { nx := fun _ H' => Q .non H', rt := Q } (L2.start N vs) H) :
    FnB P w K mg base (k + 1) f fd ps sp := by
  obtain ⟨oc, od, kV, doc, pm, an, cdv, ct, osl, rfl, lk, hcd⟩ := F.ex
  refine ⟨len, fun A outer s H args us vs Q b pl hr md e0 hb r hsp => ?_⟩
  have hl := len _ _ _ _ _ hsp
  have mk : ∀ {b' : Addr} {o : Obj}, base.get? b' = some o → s.heap.get? b' = some o := fun {b' o} e => (e0.bs b' o e).1
  have KX : K.In s.heap := e0.mod.kin.keeps fun b' o e => mk e
  have par : ∀ y ∈ ps.zip us, (defScope st).names.lookup y.1 = some .local ∨ ((defScope st).names.lookup y.1 = some .cell ∧ ((cellsFrom (s.heap.objs.size + 1) (defScope st).names []).lookup y.1).isSome = true) := by
    rintro ⟨n, v⟩ hy
    refine (S.par n (List.of_mem_zip hy).1).imp id fun q => ⟨q, ?_⟩
    exact PySem.W.cellsFrom_some _ _ _ (.inl q)
  refine codeAny_call_function hr.depth (KX _ _ lk) rfl S.co S.gen rfl (PySem.W.codeRec_of KX hcd) (hb _ _ _ _ (wpAny_newFunctionEnv_cells S.kind par fun env he s1 x => ?_))
  subst he
  have lim : s.heap.NoLimit := e0.mod.nolimit.keeps fun b' o e => mk e
  refine ⟨lim.keeps x.toInCall.keep, codeAny_func ?_⟩
  have mc : MoodC (cxB P w K mg base N qual (defScope st) f cdv A outer s H b pl) b pl := by
    cases md with
    | calm h => exact .calm rfl
    | hot p h k => exact .hot p h List.mem_cons_self
  obtain ⟨t, ht, hq⟩ := hbody cdv A outer s H vs Q b pl (hr.deeper _) mc hsp
  have I := startB (mg := mg) (f := f) S md e0 hl r x
  refine wpAny_mono (ht.run [] s1 (L2.start N vs) H _ I hq) (fun fl s' hs => ?_) fun e s' hs => hs
  cases fl with
  | ret u =>
    obtain ⟨v, σ', H', J, rv, q⟩ := hs
    exact ⟨v, H', J.os, J.bare, J.base, J.hok, rv, q⟩
  | next =>
    obtain ⟨σ', H', J, q⟩ := hs
    exact ⟨.non, H', J.os, J.bare, J.base, J.hok, rfl, q⟩
  | brk =>
    obtain ⟨_, _, _, q⟩ := hs
    exact q.elim
  | cont =>
    obtain ⟨_, _, _, q⟩ := hs
    exact q.elim
end
/-- f(e, ..) in any mood -/
def tCallB (sp : List (Addr × Obj) → Sp) (pl : List (Addr × Obj)) (t : TA) : TE := fun σ H Q => t σ H fun vs H1 => sp pl vs H1 Q E0
section
variable {X : Cx} {k : Nat} {f : Addr} {fd : FuncData} {ps : List Str} {sp : List (Addr × Obj) → Sp} {b : Bool} {pl : List (Addr × Obj)} {x : Str} {q pos : Pos} {e : Expr} {es : List Expr} {t : TA}
theorem pe_cB (F : FnB X.prog X.w X.K X.mg X.base k f fd ps sp) (hr : RoomH k X.A) (mc : MoodC X b pl) (hg : Gl X x) (hm : X.mg x = some (.ref f)) (hk : PySem.W.keepIn X.K (.ref f) = true) (hb : Binds X.K fd ps [])
    (ha : PA X (e :: es) t) (hdb : (x == ("__debug__" : Str)) = false := by decide) (he : starEach (e :: es) X.env = (false, eval e X.env) :: starEach es X.env := by rfl) (hpl : (backTo pos (starEach es X.env)).any (·.1) = false := by rfl) :
    PE X (.Call (.Name x q) (e :: es) [] pos) (tCallB sp pl t) := by
  refine ⟨fun pins s σ H Q I h => wpAny_Call_Name_kw (ld_glob I hg hm ?_ hdb)⟩
  refine PySem.W.callWith_K (h₀ := X.base) I.ok.mod.kin hk (thn (ha.run pos pins s σ H _ I h) fun us s1 ⟨vs, H1, I1, r, z⟩ => ⟨I1.kIn, ?_⟩) he hpl
  have hl : us.length = ps.length := by rw [← r.length]; exact F.len _ _ _ _ _ z
  have bt := hb s1 us I1.kIn (by rw [List.append_nil]; exact hl)
  rw [List.append_nil] at bt
  refine wpAny_call (codeAny_mono (F.run X.A X.stack s1 H1 ⟨us, []⟩ us vs Q b pl hr (mc.to I1) I1.env0 bt r z) fun y s' hq => ?_)
  cases y with
  | error er => exact (show False from hq).elim
  | ok fl =>
    cases fl with
    | ret u => exact I1.after hq
    | next => exact hq.elim
    | brk => exact hq.elim
    | cont => exact hq.elim
end
end Err
end SecA2
section SecA3
set_option Elab.async false
set_option linter.all false
set_option maxRecDepth 100000
set_option maxHeartbeats 4000000
namespace Err
open PySem PySem.Spec PyProof.Rows L2 L2H
/-- a comprehension's block that holds the handled error fast -/
abbrev blq (X : Cx) (s : Shared) (H : Hp) (scope : Scope) (ce : Env) (fp : List Addr) (pl : List (Addr × Obj)) : Cx := { X.blk s H scope ce fp with pn := pl }
theorem hold {X : Cx} {pl : List (Addr × Obj)} {σ : L2.St} {H : Hp} {s : Shared} (I : Inv X [] σ H s) (h : ∀ p ∈ pl, s.heap.get? p.1 = some p.2 ∧ H p.1 = none ∧ p.1 ≠ X.env.locals ∧ p.1 ∉ X.fs ∧ ∀ v, p.2.data ≠ .cell v) : Inv { X with pn := pl } [] σ H s :=
  ⟨⟨I.ok.mod, I.ok.kind, I.ok.glob, I.ok.blt, I.ok.above, I.ok.inj, I.ok.has, I.ok.cab, I.ok.hd, I.ok.frames, I.ok.stk, I.ok.exf, I.ok.bs, I.ok.bsz, I.ok.noex, I.ok.exfs, I.ok.funs, I.ok.frf⟩,
    I.os, I.bare, I.base, I.loc, I.cell, I.free, I.freeC, fun p hp => h p (by rw [List.append_nil] at hp; exact hp), I.hok, I.len⟩
section
variable {X : Cx}
/-- a comprehension while an error is handled; what is walked: range -/
theorem lcH {el tg it0 : Expr} {ifs : List Expr} {sc : Scope} {own : List (Str × Nat)} {pos : Pos} {wi : TI} {g : TG} {tt : TT} {te : TE} (p : Addr × Obj) (hot : Hot1 X.A p) (hm : p ∈ X.pn) (hN : X.N.Nodup) (hi : PIH X tg it0 wi) (ok : BlkOk X.N X.env.scope sc own)
    (hg : ∀ s H C cl fp, PG (blq X s H sc (compEnvC sc cl C X.env) fp [p]) tg g) (ht : ∀ s H C cl fp, PTs (blq X s H sc (compEnvC sc cl C X.env) fp [p]) ifs tt)
    (he : ∀ s H C cl fp, PE (blq X s H sc (compEnvC sc cl C X.env) fp [p]) el te) (hs : ∀ x, foldedSetIterable it0 X.env x = pure x := by intro _; rfl) :
    PE X (.ListComp el [⟨tg, it0, ifs, 0⟩] sc pos) (tLc wi g tt te (own.map (·.2))) := by
  refine ⟨fun pins s σ H Q I h => ?_⟩
  rw [eval_ListComp]
  have fr : ∀ y ∈ sc.names, y.2 = .free → ∃ c, X.env.cells.lookup y.1 = some c := fun y hy e => (ok.free y hy e).elim (fun k => I.ok.has _ (.inl k)) fun k => I.ok.has _ (.inr k)
  refine wpAny_comprehension_free rfl hs (closure_ok fr) ok.kind (fun y hy e => by rw [ok.uniq y hy, e]) (thn (hi.run pins s σ H _ I h) fun xv s1 hx => thn hx fun iv s2 h2 => ?_)
  obtain ⟨it, fp, tn, J, H2, e, I2, T, st2, f2, q⟩ := h2
  subst e
  refine wpAny_newObj_type (newEnv_comp ?_) (by show 0 ≤ sizeLine; decide)
  generalize hD : s2.heap.objs.size = D
  have dn : H2 D = none := I2.hok.fresh (Nat.le_of_eq hD)
  obtain ⟨W, ⟨m0, w0⟩, turn⟩ := q D dn
  generalize hs3 : ({ s2 with heap := s2.heap.push { cls := .type "list", data := .seq ([] : List Value).toArray } } : Shared) = s3
  have I3 : Inv X pins σ (upd H2 D (.lst [])) s3 := by
    subst hs3
    refine I2.laid (t' := s2.toks) (fun b o z => Heap.get?_push_of_some _ z) (Nat.le_of_eq hD) ⟨Nat.zero_le _, [], 0, .nil, ?_⟩
    subst hD
    exact Heap.get?_push_size _ rfl
  have h3 : s3.heap = s2.heap.push { cls := .type "list", data := .seq ([] : List Value).toArray } := by subst hs3; rfl
  have lt2 : ∀ b ∈ fp, b < s2.heap.objs.size := fun b hb => let ⟨o, z, _⟩ := T.obj _ _ st2 b hb; Heap.lt_size z
  have f3 : ∀ b ∈ fp, FpOk X pins (upd H2 D (.lst [])) b ∧ b < s3.heap.objs.size := fun b hb => by
    have y := lt2 b hb
    refine ⟨⟨?_, (f2 b hb).2⟩, by rw [h3, Heap.size_push]; exact Nat.lt_succ_of_lt y⟩
    rw [upd_ne (by subst hD; exact Nat.ne_of_lt y)]
    exact (f2 b hb).1
  have st3 : tn 0 s3.heap := T.keep _ _ _ st2 fun b _ o z => by rw [h3]; exact Heap.get?_push_of_some _ z
  have pp := I3.pin p (List.mem_append_left _ hm)
  have I4a := block_start I3 ok hN f3
  generalize hce : compEnvC sc (cellsFrom (s3.heap.objs.size + 1) sc.names (cloFrom X.env.cells sc.names [])) s3.heap.objs.size X.env = ce at I4a
  have cL : ce.locals = s3.heap.objs.size := by subst hce; rfl
  have up4 : ∀ b o, s3.heap.get? b = some o → (pushCells (s3.heap.push { cls := .type "dict", data := .dict #[] }) sc.names).get? b = some o := fun b o z => pushCells_keeps _ _ _ _ (Heap.get?_push_of_some _ z)
  have npst : p.1 ∉ frs X.stack := fun y => by
    rcases List.mem_cons.mp (I3.stkSub p.1 y) with y | y
    · exact pp.2.2.1 y
    · exact pp.2.2.2.1 y
  have I4 : Inv (blq X s3 (upd H2 D (.lst [])) sc ce fp [p]) [] (wipe σ (own.map (·.2))) (upd H2 D (.lst [])) { s3 with heap := pushCells (s3.heap.push { cls := .type "dict", data := .dict #[] }) sc.names } := hold I4a fun p' hp' => by
    have y : p' = p := by simpa using hp'
    subst y
    exact ⟨up4 _ _ pp.1, pp.2.1, by show p'.1 ≠ ce.locals; rw [cL]; exact Nat.ne_of_lt (Heap.lt_size pp.1), npst, pp.2.2.2.2⟩
  have pg := hg s3 (upd H2 D (.lst [])) s3.heap.objs.size (cellsFrom (s3.heap.objs.size + 1) sc.names (cloFrom X.env.cells sc.names [])) fp
  have pt := ht s3 (upd H2 D (.lst [])) s3.heap.objs.size (cellsFrom (s3.heap.objs.size + 1) sc.names (cloFrom X.env.cells sc.names [])) fp
  have pe := he s3 (upd H2 D (.lst [])) s3.heap.objs.size (cellsFrom (s3.heap.objs.size + 1) sc.names (cloFrom X.env.cells sc.names [])) fp
  show codeAny _ _ (.compStart _ 0 (.ref it) (.ref D) (compEnvC sc (cellsFrom (s3.heap.objs.size + 1) sc.names (cloFrom X.env.cells sc.names [])) s3.heap.objs.size X.env)) (compPost (model X.prog X.w) X.A X.xe none _ (.ref D) s3.heap.objs.size) { s3 with heap := pushCells (s3.heap.push { cls := .type "dict", data := .dict #[] }) sc.names }
  rw [hce] at pg pt pe ⊢
  have nfp : ∀ b ∈ fp, (upd H2 D (.lst [])) b = none := fun b hb => (f3 b hb).1.1
  generalize hH3 : upd H2 D (.lst []) = H3 at I3 I4 pg pt pe w0 nfp f3
  generalize hs4 : ({ s3 with heap := pushCells (s3.heap.push { cls := .type "dict", data := .dict #[] }) sc.names } : Shared) = s4 at I4 ⊢
  have st4 : tn 0 s4.heap := T.keep _ _ _ st3 fun b _ o z => by subst hs4; exact up4 _ _ z
  have hc : HotC (blq X s3 H3 sc ce fp [p]) := ⟨p, hot, List.mem_cons_self⟩
  have fpOk : ∀ {σ' : L2.St} {H' : Hp} {s' : Shared}, Inv (blq X s3 H3 sc ce fp [p]) [] σ' H' s' → (∀ b ∈ fp, H' b = none) → ∀ b ∈ fp, FpOk (blq X s3 H3 sc ce fp [p]) [] H' b := fun {σ' H' s'} I' hn b hb =>
    ⟨hn b hb, (I'.ok.exf b hb).1, I'.ok.exfs b hb, .inl hb, fun x c z => (I'.ok.exf b hb).2 x c z, fun p' hp' => by
      have y : p' = p := by
        have y' : p' ∈ [p] ++ ([] : List (Addr × Obj)) := hp'
        simpa using y'
      subst y
      exact (f3 b hb).1.2.2.2.2.2 p' (List.mem_append_left _ hm)⟩
  refine codeAny_compStart_list ?_ (T.self X.A 0 _ _ _ st4 ?_) <;>
  · refine compLoop_any (fun n s' => ∃ i H', Inv (blq X s3 H3 sc ce fp [p]) [] (wipe σ (own.map (·.2))) H' s' ∧ tn i s'.heap ∧ (∀ b ∈ fp, H' b = none) ∧ W i n H') ?_ m0 ⟨0, H3, I4, st4, nfp, w0⟩
    rintro n s5 ⟨i, H5, I5, st5, n5, w5⟩
    rcases turn i n H5 w5 with ⟨stop, qq⟩ | ⟨go, Nx, hNx, step⟩
    · refine thnF (T.done (blq X s3 H3 sc ce fp [p]) rfl rfl rfl hc i [] s5 _ H5 (fun _ _ => False) I5 (fpOk I5 n5) st5 stop) fun r s6 ⟨hr, I6⟩ => ?_
      subst hr
      have I7 : Inv X pins σ H5 s6 := I3.call' (ch := fp) I6.os I6.base I6.hok I6.bare fun b hb => let z := (f3 b hb).1.2; ⟨z.2.2.1, z.1, z.2.2.2.1, z.2.2.2.2⟩
      have nC : H5 s3.heap.objs.size = none := by
        have z : H5 ce.locals = none := I6.free
        rw [cL] at z
        exact z
      obtain ⟨m, hn, _⟩ := I6.loc
      have hn' : s6.heap.Ns s3.heap.objs.size m := by
        have z : s6.heap.Ns ce.locals m := hn
        rw [cL] at z
        exact z
      refine ⟨m, hn', fun h'' sb => ?_⟩
      obtain ⟨z0, z1, z2, z3, z4, z5⟩ := I3.fpOk (H' := H5) (Nat.le_refl _) nC
      exact ⟨.ref D, H5, I7.turned (t' := s6.toks) (fun b o hb z => (sb.2 b hb).trans z) z0 z1 z3 z4 z5, rfl, qq⟩
    · refine thnF (T.item (blq X s3 H3 sc ce fp [p]) rfl rfl rfl hc i [] s5 _ H5 (fun _ _ => False) I5 (fpOk I5 n5) st5 go) fun r s6 ⟨u, hr, h6⟩ => ?_
      subst hr
      refine thnF h6 fun _ s7 ⟨x, H7, I7, r7, y7, st7, n7⟩ => ?_
      have J7 := I7.pinned (fpOk I7 n7) (T.obj _ _ st7)
      refine thnF (pg.run _ s7 _ H7 x u _ J7 r7 (step x H7 y7)) fun _ s8 ⟨σ8, H8, I8, hw8, q8⟩ => thnF (pt.run _ s8 σ8 H8 _ I8 q8) fun b s9 ⟨H9, I9, q9⟩ => ?_
      have fin : ∀ {s' : Shared} {H' : Hp}, Inv (blq X s3 H3 sc ce fp [p]) ([] ++ pinsAt fp s7.heap) σ8 H' s' → Nx H' → ∃ m, m < n ∧ ∃ i H', Inv (blq X s3 H3 sc ce fp [p]) [] (wipe σ (own.map (·.2))) H' s' ∧ tn i s'.heap ∧ (∀ b ∈ fp, H' b = none) ∧ W i m H' := fun {s' H'} I' nx => by
        obtain ⟨m', lt, w'⟩ := hNx H' nx
        have at' : ∀ b ∈ fp, ∀ o, s7.heap.get? b = some o → s'.heap.get? b = some o ∧ H' b = none := fun b hb o z =>
          let y := I'.pin (b, o) (List.mem_append_right _ (List.mem_append_right _ (mem_pinsAt hb z)))
          ⟨y.1, y.2.1⟩
        refine ⟨m', lt, i + 1, H', (I'.unpinned (pins := [])).weak (by rw [← hw8, wipe_length]) (fun j v z => ?_), T.keep _ _ _ st7 fun b hb o z => (at' b hb o z).1, fun b hb => ?_, w'⟩
        · rw [← hw8] at z
          exact (wipe_some z).1
        · obtain ⟨o, z, _⟩ := T.obj _ _ st7 b hb
          exact (at' b hb o z).2
      cases b with
      | false =>
        simp only [Bool.false_eq_true, if_false] at q9 ⊢
        exact fin I9 q9
      | true =>
        simp only [if_true] at q9 ⊢
        exact thnF (pe.run _ s9 σ8 H9 _ I9 q9) fun z s10 ⟨yv, H10, I10, r10, acc, hD10, hz10, nx⟩ => app_ok (X := blq X s3 H3 sc ce fp [p]) I10 hD10 hz10 r10 fun s11 I11 => fin I11 nx
end
end Err
end SecA3
section SecA4
set_option Elab.async false
set_option linter.all false
set_option maxRecDepth 100000
set_option maxHeartbeats 4000000
namespace ErrK
open PySem PySem.HandSPX
section
variable {M : Model} {A : Around} {E : Value → Shared → Prop} {h : Heap} {g : Array GenState} {d : Drawn} {t : Nat} {os : OsState}
variable {nm q : Str} {C N : Addr} {bs bm bmB : List Value} {hdct : Bool} {sn : List Str} {sub : List Value} {ab : Bool} {col : Option Bool} {dd : Option Addr} {k0 k1 k2 k3 k5 : Option Value} {B newId initId : String}
theorem chkNew (F : ExcBaseFacts B newId initId bmB) (hT : ∀ X : String, bm.contains (.type X) = bmB.contains (.type X)) {us : List Value} {kw : List (Str × Value)} {Q : Unit → Shared → Prop}
    (oC : h.get? C = some (excClassObj nm q C N bs bm hdct sn sub ab col dd k0 k1 k2 k3 k5 newId)) (z : Q () ⟨h, g, d, t, os⟩) : wpAny M A (checkBuiltinCall newId ⟨.ref C :: us, kw⟩) Q E ⟨h, g, d, t, os⟩ := by
  have isB : (Value.ref C :: bm).contains (.type B) = true := by rw [List.contains_cons, hT, F.hasB, Bool.or_true]
  have nost := F.noStar
  simp only [checkBuiltinCall, F.newKind, F.newSplit, F.newRow]
  repeat (first | refine wpAny_loadPart_at oC ?_ | (refine wpAny_isSubtype_exc oC ?_; rw [isB]) | refine wpAny_staticBase_exc oC ?_ | refine wpAny_madeBy_exc oC ?_ | simp only [bne_self_eq_false, Bool.false_eq_true, if_false] | wp_step)
  exact z
theorem chkCall {us : List Value} {kw : List (Str × Value)} {Q : Unit → Shared → Prop} (oC : h.get? C = some (excClassObj nm q C N bs bm hdct sn sub ab col dd k0 k1 k2 k3 k5 newId)) (z : Q () ⟨h, g, d, t, os⟩) :
    wpAny M A (checkBuiltinCall "type.__call__" ⟨.ref C :: us, kw⟩) Q E ⟨h, g, d, t, os⟩ := by
  have y3 := tc_sub
  have yT : (⟨h, g, d, t, os⟩ : Shared).TypeIs (.ref C) "type" := ⟨_, oC, rfl⟩
  simp only [checkBuiltinCall, tc_kind, tc_split]
  repeat (any_goals (first | assumption | with_reducible refine wpAny_loadPart_at oC ?_ | with_reducible refine wpAny_onRaise ?_ | with_reducible refine wpAny_map ?_ | wp_step))
end
section
variable {prog : Program} {w : World} {A : Around} {E : Value → Shared → Prop} {R : Result → Shared → Prop} {h : Heap} {g : Array GenState} {d : Drawn} {t : Nat} {os : OsState}
variable {nm q : Str} {C N : Addr} {bs bm bmB : List Value} {hdct : Bool} {sn : List Str} {sub : List Value} {ab : Bool} {col : Option Bool} {dd : Option Addr} {k0 k1 k2 k3 k5 : Option Value} {B newId initId : String}
theorem newK (F : ExcBaseFacts B newId initId bmB) (hT : ∀ X : String, bm.contains (.type X) = bmB.contains (.type X)) {us : List Value} {kw : List (Str × Value)}
    (oC : h.get? C = some (excClassObj nm q C N bs bm hdct sn sub ab col dd k0 k1 k2 k3 k5 newId)) (hus : us.length ≤ sizeLine)
    (z : R (.ok (.ret (.ref (h.objs.size + 1)))) ⟨(h.push { cls := .type "tuple", data := .seq us.toArray }).push { cls := .ref C, data := .fields #[.ref h.objs.size, .none, .none, .none, .bool false, .none] }, g, d, t, os⟩) :
    codeAny (model prog w) A (.builtin newId ⟨.ref C :: us, kw⟩) R ⟨h, g, d, t, os⟩ := by
  have hrest := hus
  have ends := F.ends
  have isB : (Value.ref C :: bm).contains (.type B) = true := by rw [List.contains_cons, hT, F.hasB, Bool.or_true]
  have noA : (Value.ref C :: bm).contains (.type "AttributeError") = false := by rw [List.contains_cons, hT, F.noAttr]; rfl
  have noN : (Value.ref C :: bm).contains (.type "NameError") = false := by rw [List.contains_cons, hT, F.noName]; rfl
  refine codeAny_builtinAt F.entry ?_
  unfold Builtin.«BaseException.__new__»
  refine wpAt_bind ?_
  show wpAt _ _ _ (stack >>= _) _ _ _
  refine wpAt_bind (wpAt_stack fun p below => wpAt_of_wpAny ?_)
  wp_walk
  refine wpAt_of_wpAny ?_
  rw [F.owner]
  repeat (first | with_reducible refine wpAny_madeHere_exc F.canon oC ?_ | with_reducible refine wpAny_loadPart_at oC ?_ | (with_reducible refine wpAny_isSubtype_exc oC ?_; first | rw [isB] | rw [noA] | rw [noN]) | wp_step)
  show R _ _
  rw [Heap.size_push]
  exact z
theorem tcallK (F : ExcBaseFacts B newId initId bmB) (hT : ∀ X : String, bm.contains (.type X) = bmB.contains (.type X)) {us : List Value} {kw : List (Str × Value)} {fI : Addr} {Q : Fin → Shared → Prop}
    (oC : h.get? C = some (excClassObj nm q C N bs bm hdct sn sub ab col dd k0 k1 k2 k3 k5 newId))
    (li : W.Looks (model prog w) h (typeLookup (.ref C) "__init__") (some (.ref fI))) (lb : ∀ self, W.Looks (model prog w) h (bindSpecial (.ref fI) self) (.ref fI, [self])) (hus : us.length ≤ sizeLine)
    (z : codeAny (model prog w) A (.call (.ref fI) ⟨.ref (h.objs.size + 1) :: us, kw⟩)
      (fun r s' => match r with | .ok (.ret v) => v = .none ∧ Q (.done (.ret (.ref (h.objs.size + 1)))) s' | .ok _ => False | .error e => E e s') ⟨(h.push (W.kdv_tup us)).push (excO C h.objs.size), g, d, t, os⟩) :
    wpAny (model prog w) A (Builtin.«type.__call__» ⟨.ref C :: us, kw⟩) Q E ⟨h, g, d, t, os⟩ := by
  repeat (first | with_reducible refine wpAny_loadPart_at oC ?_ | with_reducible refine wpAny_madeBy_exc oC ?_ | wp_step)
  refine codeAny_call_builtin_code (Code.quiet_builtin _ F.quiet) (chkNew F hT oC (newK F hT oC hus ?_))
  show wpAny _ _ _ _ _ _
  have kp : ∀ b o, h.get? b = some o → ((h.push (W.kdv_tup us)).push (excO C h.objs.size)).get? b = some o := fun b o e => Heap.get?_push_of_some _ (Heap.get?_push_of_some _ e)
  have oC1 := kp _ _ oC
  have ge : ((h.push (W.kdv_tup us)).push (excO C h.objs.size)).get? (h.objs.size + 1) = some (excO C h.objs.size) := by heap_get
  have isC : (Value.ref C :: bm).contains (.ref C) = true := by simp
  have li1 := li.keeps kp
  have lb1 := (lb (.ref (h.objs.size + 1))).keeps kp
  unfold isInstance
  repeat (first | with_reducible refine wpAny_loadPart_at ge ?_ | (with_reducible refine wpAny_isSubtype_exc oC1 ?_; rw [isC]) | wp_step)
  show wpAny _ _ (typeLookup (.ref C) _) _ _ _
  refine li1.at (wpAny_holding (wpAny_bind (lb1.at (wpAny_bind (wpAny_call (codeAny_mono z fun r s' y => ?_))))))
  rcases r with e | (v | _ | _ | _) <;> first | exact y | exact y.elim | skip
  obtain ⟨rfl, y⟩ := y
  first
    | exact wpAny_pure (wpAny_pure y)
    | (wp_walk; exact y)
theorem callK (F : ExcBaseFacts B newId initId bmB) (hT : ∀ X : String, bm.contains (.type X) = bmB.contains (.type X)) {us : List Value} {kw : List (Str × Value)} {fI : Addr}
    (oC : h.get? C = some (excClassObj nm q C N bs bm hdct sn sub ab col dd k0 k1 k2 k3 k5 newId))
    (li : W.Looks (model prog w) h (typeLookup (.ref C) "__init__") (some (.ref fI))) (lb : ∀ self, W.Looks (model prog w) h (bindSpecial (.ref fI) self) (.ref fI, [self])) (hus : us.length ≤ sizeLine)
    (z : codeAny (model prog w) (A.under (.builtin "type.__call__" ⟨.ref C :: us, kw⟩)) (.call (.ref fI) ⟨.ref (h.objs.size + 1) :: us, kw⟩) (W.InitBack (h.objs.size + 1) R) ⟨(h.push (W.kdv_tup us)).push (excO C h.objs.size), g, d, t, os⟩) :
    codeAny (model prog w) A (.call (.ref C) ⟨us, kw⟩) R ⟨h, g, d, t, os⟩ := by
  have y1 := tc_lookup
  have y2 := tc_bind (.ref C)
  have yT : (⟨h, g, d, t, os⟩ : Shared).TypeIs (.ref C) "type" := ⟨_, oC, rfl⟩
  refine codeAny_of_tree ?_
  show wpAny _ _ (callAny (.ref C) _) _ _ _
  repeat (any_goals (first | assumption | with_reducible refine wpAny_loadPart_at oC ?_ | wp_step))
  refine ⟨rfl, codeAny_call_builtin_at (Code.quiet_builtin _ (by decide +kernel)) entry_typeCall (chkCall oC (tcallK F hT oC li lb hus (codeAny_mono z fun r s' y => ?_)))⟩
  rcases r with e | (v | _ | _ | _) <;> exact y
end
end ErrK
end SecA4
section SecA5
set_option Elab.async false
set_option linter.all false
set_option maxRecDepth 100000
set_option maxHeartbeats 4000000
namespace Err
open PySem PySem.Spec PyProof.Rows L2 L2H
section
variable {X : Cx} {CX : CXT} {C fI : Addr} {k : Nat} {fd : FuncData} {ps : List Str} {sp : Sp}
/-- an error is made: what is called, the values in the parameters' order -/
theorem run_mk {pins : List (Addr × Obj)} {σ : L2.St} {H : Hp} {s : Shared} {R : Value → Shared → Prop} {us zs : List Value} {kw : List (Str × Value)} {vz : List V} {Qs : Addr → VK} (T : OexC X.K C) (iC : PySem.W.findIn X.K (.ref C) "__init__" = some (some (.ref fI)))
    (tI : PySem.W.typeIn X.K (.ref fI) = some (.type "function")) (F1 : FnOk X.prog X.w X.K X.mg X.base CX k fI fd ps sp) (hr : Room (k + 1) X.A) (hx : Passes CX X (fun _ _ _ => False)) (I : Inv X pins σ H s) (rz : Vals vz zs)
    (hb : ∀ (s' : Shared) (u0 : Value), X.K.In s'.heap → BindsTo s' fd ⟨u0 :: us, kw⟩ (ps.zip (u0 :: zs))) (hl : us.length ≤ 1000) (h : ∀ a, H a = none → sp (.ref a :: vz) (upd H a (exo a C none)) (Qs a) (fun _ _ _ => False))
    (hR : ∀ (a : Addr) (v : V) (u : Value) (H2 : Hp) (s' : Shared), s.heap.objs.size ≤ a → (∀ b o, s.heap.get? b = some o → b ≠ a) → Un (frs X.stack) [] (upd H a (exo a C none)) H2 ((s.heap.push (PySem.W.kdv_tup us)).push (PySem.HandSPX.excO C s.heap.objs.size)) s'.heap →
      HOk X.prog X.w H2 s'.heap → s'.os = s.os → AllBare s'.gens → Inv X pins σ H2 s' → RelV v u → Qs a v H2 → u = .none ∧ R (.ref a) s') :
    wpAny (model X.prog X.w) X.A (call (.ref C) us kw) R X.xe s := by
  obtain ⟨nm, q, N, bs, bm, sn, sub, ab, col, dd, k0, k1, k2, k3, k5, hC, hbm⟩ := T.cls
  obtain ⟨hp, g, dr, tk, os⟩ := s
  have sz : hp.objs.size ≤ hp.objs.size + 1 := Nat.le_succ _
  have na : H (hp.objs.size + 1) = none := I.hok.fresh sz
  have hq := h (hp.objs.size + 1) na
  have kp : ∀ b o, hp.get? b = some o → ((hp.push (PySem.W.kdv_tup us)).push (PySem.HandSPX.excO C hp.objs.size)).get? b = some o := fun b o e => Heap.get?_push_of_some _ (Heap.get?_push_of_some _ e)
  have ge : ((hp.push (PySem.W.kdv_tup us)).push (PySem.HandSPX.excO C hp.objs.size)).get? (hp.objs.size + 1) = some (PySem.HandSPX.excO C hp.objs.size) := by heap_get
  have I2 : Inv X pins σ (upd H (hp.objs.size + 1) (exo (hp.objs.size + 1) C none)) ⟨(hp.push (PySem.W.kdv_tup us)).push (PySem.HandSPX.excO C hp.objs.size), g, dr, tk, os⟩ := I.laid (t' := tk) (a := hp.objs.size + 1) kp sz (exo_ok ge)
  have rs : Vals (V.ref (hp.objs.size + 1) :: vz) (Value.ref (hp.objs.size + 1) :: zs) := .cons rfl rz
  have ls : us.length ≤ sizeLine := by
    rw [sizeLine_eq]
    omega
  refine wpAny_call (ErrK.callK F.excBase_ValueError (fun Y => PySem.HandSPX.refsVE_contains Y bm hbm) (I.kIn _ _ hC) (PySem.W.looks_findIn I.kIn iC) (fun self => PySem.W.bind_fn I.kIn self tI) ls
    (codeAny_mono (F1.run _ X.stack _ _ ⟨Value.ref (hp.objs.size + 1) :: us, kw⟩ (Value.ref (hp.objs.size + 1) :: zs) _ _ (fun _ _ _ => False) (hr.make C us kw) (I2.env0.make C us kw) (hb _ _ I2.kIn) rs hq) fun r s' hq' => ?_))
  cases r with
  | error er => exact hx pins σ _ _ er s' I2 hq'
  | ok fl =>
    cases fl with
    | ret u =>
      have y := hq'
      obtain ⟨v, H2, os2, bare2, un2, hok2, rv, q2⟩ := hq'
      obtain ⟨v', H2', I3, rv', q3⟩ := I2.after (Q := fun v' H' => v' = v ∧ H' = H2) (u := u) ⟨v, H2, os2, bare2, un2, hok2, rv, rfl, rfl⟩
      obtain ⟨e1, e2⟩ := q3
      subst e1
      subst e2
      exact hR _ _ _ _ s' sz (fun b o e => Nat.ne_of_lt (Nat.lt_of_lt_of_le (Heap.lt_size e) sz)) un2 hok2 os2 bare2 I3 rv q2
    | next => exact hq'.elim
    | brk => exact hq'.elim
    | cont => exact hq'.elim
/-- C(e, ..) as a value -/
def tMkV (C : Addr) (sp : Sp) (ta : TA) : TE := fun σ H Q => ta σ H fun vs H1 => vs.length ≤ 1000 ∧ ∀ a, H1 a = none → sp (.ref a :: vs) (upd H1 a (exo a C none)) (fun v H2 => v = .non ∧ Q (.ref a) H2) (fun _ _ _ => False)
def tMkVK (C : Addr) (sp : Sp) (gV : List V → List V) (n : Nat) (tk : TA) : TE := fun σ H Q => tk σ H fun zs H1 => zs.length = n ∧ ∀ a, H1 a = none → sp (.ref a :: gV zs) (upd H1 a (exo a C none)) (fun v H2 => v = .non ∧ Q (.ref a) H2) (fun _ _ _ => False)
variable {x : Str} {p pos : Pos} {e : Expr} {es : List Expr} {ta : TA}
theorem pe_mkv (T : OexC X.K C) (iC : PySem.W.findIn X.K (.ref C) "__init__" = some (some (.ref fI))) (tI : PySem.W.typeIn X.K (.ref fI) = some (.type "function")) (F1 : FnOk X.prog X.w X.K X.mg X.base CX k fI fd ps sp) (hr : Room (k + 1) X.A)
    (hb : Binds X.K fd ps []) (hx : Passes CX X (fun _ _ _ => False)) (hg : Gl X x) (hm : X.mg x = some (.ref C)) (ha : PA X (e :: es) ta) (hdb : (x == ("__debug__" : Str)) = false := by decide)
    (he : starEach (e :: es) X.env = (false, eval e X.env) :: starEach es X.env := by rfl) (hpl : (backTo pos (starEach es X.env)).any (·.1) = false := by rfl) : PE X (.Call (.Name x p) (e :: es) [] pos) (tMkV C sp ta) := by
  refine ⟨fun pins s σ H Q I h => wpAny_Call_Name_kw (ld_glob I hg hm ?_ hdb)⟩
  refine PySem.W.callWith_K (h₀ := X.base) I.ok.mod.kin T.kC (thn (ha.run pos pins s σ H _ I h) fun us s1 ⟨vs, H1, I1, r1, hz, q1⟩ => ⟨I1.kIn, ?_⟩) he hpl
  have n1 := I1.hok.fresh (Nat.le_refl _)
  have ll : ∀ u0 : Value, ((u0 :: us) ++ ([] : List Value)).length = ps.length := fun u0 => by
    have y := F1.len _ _ _ _ (q1 _ n1)
    rw [List.append_nil, ← y, List.length_cons, List.length_cons, Paired.length r1]
  exact run_mk (us := us) T iC tI F1 hr hx I1 r1 (fun s' u0 kin => by
      have y := hb s' (u0 :: us) kin (ll u0)
      rw [List.append_nil] at y
      exact y) (by show us.length ≤ 1000; rw [← Paired.length r1]; exact hz) q1 fun a v u H2 s' _ _ _ _ _ _ I3 rv q3 => by
    obtain ⟨rfl, q3⟩ := q3
    exact ⟨rv, ⟨.ref a, H2, I3, rfl, q3⟩⟩
theorem pe_mkv0 (T : OexC X.K C) (iC : PySem.W.findIn X.K (.ref C) "__init__" = some (some (.ref fI))) (tI : PySem.W.typeIn X.K (.ref fI) = some (.type "function")) (F1 : FnOk X.prog X.w X.K X.mg X.base CX k fI fd ps sp) (hr : Room (k + 1) X.A)
    (hb : Binds X.K fd ps []) (hx : Passes CX X (fun _ _ _ => False)) (hg : Gl X x) (hm : X.mg x = some (.ref C)) (hdb : (x == ("__debug__" : Str)) = false := by decide) : PE X (.Call (.Name x p) [] [] pos) (tMkV C sp tNil) := by
  refine ⟨fun pins s σ H Q I h => wpAny_Call_Name_kw (ld_glob I hg hm ?_ hdb)⟩
  refine PySem.W.callWith_K0 I.kIn T.kC ?_
  obtain ⟨_, q1⟩ := h
  have n1 := I.hok.fresh (Nat.le_refl _)
  have ll : ∀ u0 : Value, ([u0] ++ ([] : List Value)).length = ps.length := fun u0 => by
    have y := F1.len _ _ _ _ (q1 _ n1)
    rw [← y]; rfl
  exact run_mk (us := []) T iC tI F1 hr hx I .nil (fun s' u0 kin => hb s' [u0] kin (ll u0)) (Nat.zero_le _) q1 fun a v u H2 s' _ _ _ _ _ _ I3 rv q3 => by
    obtain ⟨rfl, q3⟩ := q3
    exact ⟨rv, ⟨.ref a, H2, I3, rfl, q3⟩⟩
theorem pe_mkvK {ks : List Str} {kws : List Keyword} {tk : TA} {g : List Value → List Value} {gV : List V → List V} (T : OexC X.K C) (iC : PySem.W.findIn X.K (.ref C) "__init__" = some (some (.ref fI))) (tI : PySem.W.typeIn X.K (.ref fI) = some (.type "function"))
    (F1 : FnOk X.prog X.w X.K X.mg X.base CX k fI fd ps sp) (hr : Room (k + 1) X.A) (hb : ∀ (s : Shared) (u0 : Value) (ws : List Value), X.K.In s.heap → ws.length = ks.length → BindsTo s fd ⟨[u0], ks.zip ws⟩ (ps.zip (u0 :: g ws)))
    (hrel : ∀ {zs : List V} {ws : List Value}, zs.length = ks.length → Vals zs ws → Vals (gV zs) (g ws)) (hx : Passes CX X (fun _ _ _ => False)) (hg : Gl X x) (hm : X.mg x = some (.ref C)) (hkw : PK X kws tk)
    (hall : (backToKw pos (keywordEach kws X.env)).all (·.1.isSome) = true := by rfl) (hks : (backToKw pos (keywordEach kws X.env)).filterMap (·.1) = ks := by rfl) (hdb : (x == ("__debug__" : Str)) = false := by decide)
    (hpl : ((backTo pos (starEach [] X.env)).any (·.1) || (backToKw pos (keywordEach kws X.env)).any (·.1.isNone)) = false := by rfl) : PE X (.Call (.Name x p) [] kws pos) (tMkVK C sp gV ks.length tk) := by
  refine ⟨fun pins s σ H Q I h => wpAny_Call_Name_kw (ld_glob I hg hm ?_ hdb)⟩
  refine PySem.W.callWith_KW0 (h₀ := X.base) I.ok.mod.kin T.kC hall (thn (hkw.run pos pins s σ H _ I h) fun ws s2 ⟨zs, H2, I2, rz, lz, q2⟩ => ⟨I2.kIn, ?_⟩) hpl
  rw [hks]
  have lw : ws.length = ks.length := by rw [← Paired.length rz]; exact lz
  exact run_mk (us := []) T iC tI F1 hr hx I2 (hrel lz rz) (fun s' u0 kin => hb s' u0 ws kin lw) (Nat.zero_le _) q2 fun a v u H3 s' _ _ _ _ _ _ I3 rv q3 => by
    obtain ⟨rfl, q3⟩ := q3
    exact ⟨rv, ⟨.ref a, H3, I3, rfl, q3⟩⟩
/-- raise C(e, ..): the error leaves what is tracked, its dict stays -/
theorem pmk_n (T : OexC X.K C) (iC : PySem.W.findIn X.K (.ref C) "__init__" = some (some (.ref fI))) (tI : PySem.W.typeIn X.K (.ref fI) = some (.type "function")) (F1 : FnOk X.prog X.w X.K X.mg X.base CX k fI fd ps sp) (hr : Room (k + 1) X.A)
    (hb : Binds X.K fd ps []) (hx : Passes CX X (fun _ _ _ => False)) (hg : Gl X x) (hm : X.mg x = some (.ref C)) (ha : PA X (e :: es) ta) (hdb : (x == ("__debug__" : Str)) = false := by decide)
    (he : starEach (e :: es) X.env = (false, eval e X.env) :: starEach es X.env := by rfl) (hpl : (backTo pos (starEach es X.env)).any (·.1) = false := by rfl) : L2N.PMk X (.Call (.Name x p) (e :: es) [] pos) (tMkO C sp [] ta) := by
  intro pins s σ H Q I h
  refine wpAny_Call_Name_kw (ld_glob I hg hm ?_ hdb)
  refine PySem.W.callWith_K (h₀ := X.base) I.ok.mod.kin T.kC (thn (ha.run pos pins s σ H _ I h) fun us s1 ⟨vs, H1, I1, r1, hz, q1⟩ => ⟨I1.kIn, ?_⟩) he hpl
  rw [List.append_nil] at q1
  have n1 := I1.hok.fresh (Nat.le_refl _)
  have ll : ∀ u0 : Value, ((u0 :: us) ++ ([] : List Value)).length = ps.length := fun u0 => by
    have y := F1.len _ _ _ _ (q1 _ n1)
    rw [List.append_nil, ← y, List.length_cons, List.length_cons, Paired.length r1]
  refine run_mk (us := us) T iC tI F1 hr hx I1 r1 (fun s' u0 kin => by
      have y := hb s' (u0 :: us) kin (ll u0)
      rw [List.append_nil] at y
      exact y) (by show us.length ≤ 1000; rw [← Paired.length r1]; exact hz) q1 fun a v u H2 s' sz _ un2 hok2 os2 bare2 I3 rv q3 => ?_
  obtain ⟨rfl, d, fs, ea, ed, hd1, q3⟩ := q3
  obtain ⟨hp, g, dr, tk, os⟩ := s1
  obtain ⟨h2, g2, d2, t2, os'⟩ := s'
  refine ⟨rv, ?_⟩
  obtain ⟨t0, G, J, kG, gn, hoe, na⟩ := mk_end0 (d2 := d2) (t2 := t2) I1 sz (fun b o z => Heap.get?_push_of_some _ (Heap.get?_push_of_some _ z)) un2 hok2 os2 bare2 ea ed hd1
  exact ⟨a, _, _, ⟨G, g2, d2, t2, os'⟩, _, .ref C, some d, rfl, J, kG, gn, hoe, ⟨rfl, rfl, fun vs z => by cases z; rfl⟩, rfl, rfl, na, rfl, bare2, raises_own T.exC T.tyC, q3⟩
/-- raise C(), an error without fields -/
def tMkO0 (C : Addr) (sp : Sp) : L2.St → Hp → XK → Prop := fun _ H Q => ∀ a, H a = none → sp [.ref a] (upd H a (exo a C none)) (fun v H2 => v = .non ∧ H2 = upd H a (exo a C none) ∧ Q (.ref C) none H) (fun _ _ _ => False)
theorem pmk_n0 (T : OexC X.K C) (iC : PySem.W.findIn X.K (.ref C) "__init__" = some (some (.ref fI))) (tI : PySem.W.typeIn X.K (.ref fI) = some (.type "function")) (F1 : FnOk X.prog X.w X.K X.mg X.base CX k fI fd ps sp) (hr : Room (k + 1) X.A)
    (hb : Binds X.K fd ps []) (hx : Passes CX X (fun _ _ _ => False)) (hg : Gl X x) (hm : X.mg x = some (.ref C)) (hdb : (x == ("__debug__" : Str)) = false := by decide) : L2N.PMk X (.Call (.Name x p) [] [] pos) (tMkO0 C sp) := by
  intro pins s σ H Q I q1
  refine wpAny_Call_Name_kw (ld_glob I hg hm ?_ hdb)
  refine PySem.W.callWith_K0 I.kIn T.kC ?_
  have n1 := I.hok.fresh (Nat.le_refl _)
  have ll : ∀ u0 : Value, ([u0] ++ ([] : List Value)).length = ps.length := fun u0 => by
    have y := F1.len _ _ _ _ (q1 _ n1)
    rw [← y]; rfl
  refine run_mk (us := []) T iC tI F1 hr hx I .nil (fun s' u0 kin => hb s' [u0] kin (ll u0)) (Nat.zero_le _) q1 fun a v u H2 s' sz nea un2 hok2 os2 bare2 I3 rv q3 => ?_
  obtain ⟨rfl, e2, q3⟩ := q3
  subst e2
  refine ⟨rv, ?_⟩
  obtain ⟨hp, g, dr, tk, os⟩ := s
  obtain ⟨h2, g2, d2, t2, os'⟩ := s'
  have na : H a = none := I.hok.fresh sz
  obtain ⟨t0, hoe⟩ := exo_at hok2 (upd_same : upd H a (exo a C none) a = _)
  obtain ⟨G, ga, gb⟩ := restrict h2 fun b => decide (b ≠ a)
  have gk : ∀ b, b ≠ a → G.get? b = h2.get? b := fun b hb => ga b (decide_eq_true hb)
  have gn : G.get? a = none := gb a (by simp)
  have kp : ∀ b o, hp.get? b = some o → ((hp.push (PySem.W.kdv_tup [])).push (PySem.HandSPX.excO C hp.objs.size)).get? b = some o := fun b o z => Heap.get?_push_of_some _ (Heap.get?_push_of_some _ z)
  have off : ∀ {b : Addr} {o : HO}, H b = some o → b ≠ a := fun z => ne_of_none z na
  have U : Un (frs X.stack) [] H H hp G := {
    keep := fun b o z n hf hx => by rw [gk b (nea b o z)]; exact un2.keep b o (kp b o z) (by rw [upd_ne (nea b o z)]; exact n) hf hx
    slot := fun b o z n hf hx => by rw [gk b (nea b o z)]; exact un2.slot b o (kp b o z) (by rw [upd_ne (nea b o z)]; exact n) hf hx
    free := fun _ _ _ n _ => n
    there := fun b o z hx => by rw [gk b (nea b o z)]; exact un2.there b o (kp b o z) hx
    tups := fun _ _ z => z
    frzs := fun _ _ _ z => z
    tbls := fun b ps z => ⟨#[], by rw [z]; simp⟩ }
  have ok3 : HOk X.prog X.w H G := fun b o z => by
    have y := hok2 b o (by rw [upd_ne (off z)]; exact z)
    refine y.stay (fun c v hc r => ?_) (fun c hc => ?_) (fun c xs hc => ?_)
    · have hca : c ≠ a := by
        rcases hc with hc | hc
        · rw [hc]; exact off z
        · intro e
          rw [e, upd_same] at hc
          exact exo_own (Option.some.inj hc)
      rw [gk c hca]
      exact r
    · have hca : c ≠ a := fun e => by
        rw [e, upd_same] at hc
        exact exo_own (Option.some.inj hc)
      rw [upd_ne hca] at hc
      exact hc
    · have hca : c ≠ a := fun e => by
        rw [e, upd_same] at hc
        exact exo_tup (Option.some.inj hc)
      rw [upd_ne hca] at hc
      exact hc
  have J : Inv X pins σ H ⟨G, g2, d2, t2, os'⟩ := I.call' (ch := []) os2 U ok3 bare2 (fun b z => absurd z (by simp))
  refine ⟨a, _, _, ⟨G, g2, d2, t2, os'⟩, H, .ref C, none, rfl, J, fun b o z => ?_, gn, hoe, ⟨rfl, rfl, fun vs z => by cases z; rfl⟩, rfl, rfl, na, rfl, bare2, raises_own T.exC T.tyC, q3⟩
  by_cases hba : b = a
  · have z' : G.get? b = some o := z
    rw [hba, gn] at z'
    cases z'
  · exact (gk b hba).symm.trans z
end
end Err
end SecA5
section SecA6
set_option Elab.async false
set_option linter.all false
set_option maxRecDepth 100000
set_option maxHeartbeats 4000000
namespace Err
open PySem PySem.Spec PyProof.Rows L2
/-- a clause's test e: M tells of a class whether it matches -/
def Tst (X : Cx) (e : Expr) (M : Value → Bool → Prop) : Prop := ∀ (a : Addr) (oe : Obj) (pn : List (Addr × Obj)) (s : Shared) (σ : L2.St) (H : Hp) (cls : Value) (b : Bool) (Q : Bool → Shared → Prop) (E E2 : Value → Shared → Prop),
  Inv (X.suite a ((a, oe) :: pn)) [] σ H s → oe.cls = cls → M cls b → (∀ h', (∀ b o, s.heap.get? b = some o → h'.get? b = some o) → Q b { s with heap := h' }) →
  wpAny (model X.prog X.w) (X.A.mark (some (.ref a))) (eval e X.env) (fun c s1 => wpAny (model X.prog X.w) (X.A.mark (some (.ref a))) (excMatches (.ref a) c) Q E2 s1) E s
section
variable {X : Cx}
theorem name_at {a : Addr} {oe : Obj} {pn : List (Addr × Obj)} {s : Shared} {σ : L2.St} {H : Hp} {x : Str} {c : Value} {np : Pos} {Q : Value → Shared → Prop} {E : Value → Shared → Prop} (hc : Names X x c) (I : Inv (X.suite a ((a, oe) :: pn)) [] σ H s) (q : Q c s) :
    wpAny (model X.prog X.w) (X.A.mark (some (.ref a))) (eval (.Name x np) X.env) Q E s := by
  obtain ⟨hg, hdbg, hm | ⟨hm, hv, hnn⟩⟩ := hc
  · exact ld_glob (X := X.suite a ((a, oe) :: pn)) I hg hm q hdbg
  · exact ld_blt (X := X.suite a ((a, oe) :: pn)) I hg hm hv q hnn hdbg
theorem tst_name {x : Str} {c : Value} {np : Pos} (hc : Names X x c) : Tst X (.Name x np) (fun cls b => PySem.W.exmOne X.K cls c = some b) := fun a oe pn s σ H cls b Q E E2 I ec m q => by
  have g := (I.pin (a, oe) (List.mem_append_left _ List.mem_cons_self)).1
  have LT : PySem.W.Looks (model X.prog X.w) s.heap (typeOf (.ref a)) cls := fun A Q E s k z => wpAny_typeOf_ref (k _ _ g) (by rw [ec]; exact z)
  exact name_at hc I ((PySem.W.exm_one (M := model X.prog X.w) I.kIn LT m).here (q s.heap fun _ _ z => z))
theorem tst_pair {x1 x2 : Str} {c1 c2 : Value} {n1 n2 tp : Pos} {z1} (h1 : Names X x1 c1) (h2 : Names X x2 c2)
    (hs : starEach [.Name x1 n1, .Name x2 n2] X.env = [(false, eval (.Name x1 n1) X.env), (false, eval (.Name x2 n2) X.env)] := by rfl) :
    Tst X (.Tuple [.Name x1 n1, .Name x2 n2] z1 tp) (fun cls b => PySem.W.exmAny X.K cls [c1, c2] = some b) := fun a oe pn s σ H cls b Q E E2 I ec m q => by
  have g := (I.pin (a, oe) (List.mem_append_left _ List.mem_cons_self)).1
  refine wpAny_Tuple_spliced ?_
  rw [hs]
  show wpAny _ _ (spliced ((false, eval (.Name x1 n1) X.env) :: [(false, eval (.Name x2 n2) X.env)])) _ _ s
  refine Calls.spliced_cons (name_at h1 I (Calls.spliced_cons (name_at h2 I (Calls.spliced_nil ⟨by show 2 ≤ sizeLine; decide, ?_⟩))))
  have kp : ∀ b o, s.heap.get? b = some o → (s.heap.push { cls := .type "tuple", data := .seq [c1, c2].toArray }).get? b = some o := fun b o z => Heap.get?_push_of_some _ z
  have LT : PySem.W.Looks (model X.prog X.w) (s.heap.push { cls := .type "tuple", data := .seq [c1, c2].toArray }) (typeOf (.ref a)) cls := fun A Q E s k z => wpAny_typeOf_ref (k _ _ (kp _ _ g)) (by rw [ec]; exact z)
  exact (PySem.W.exm_tup2 (M := model X.prog X.w) (I.kIn.keeps kp) LT (Heap.get?_push_size _ rfl) m).here (q _ kp)
/-- where a suite ends -/
def endAt (i : Option Nat) (D : Ends) : Ends := match i with
  | none => D
  | some i => { nx := fun σ' H' => D.nx (σ'.set i none) H', rt := D.rt, bk := fun σ' H' => D.bk (σ'.set i none) H', ct := fun σ' H' => D.ct (σ'.set i none) H' }
def putAt (i : Option Nat) (a : Addr) (σ : L2.St) : L2.St := match i with
  | none => σ
  | some i => σ.set i (some (.ref a))
abbrev Cl := (Value → Bool → Prop) × Option Nat × (Addr → Value → Option Addr → TS)
/-- the wish of the clauses, one behind the other -/
def wCl (Wout : WX) (D : Ends) : List Cl → WX
  | [] => Wout
  | (M, i, ts) :: r => fun cls d σ H => ∃ b, M cls b ∧ (b = true → ∀ a, H a = none → ts a cls d (endAt i D) (putAt i a σ) H) ∧ (b = false → wCl Wout D r cls d σ H)
inductive ClOk (X : Cx) : List ExceptHandler → List Cl → Prop
  | nil : ClOk X [] []
  | as {t : Expr} {n : Str} {i : Nat} {M : Value → Bool → Prop} {ts : Addr → Value → Option Addr → TS} {b0 : Stmt} {suite : List Stmt} {pos' : Pos} {hds : List ExceptHandler} {l : List Cl} (ht : Tst X t M) (hi : X.N[i]? = some n) (hl : X.env.kindOf n = some .local)
      (hsu : ∀ (a : Addr) (oe : Obj) (cls : Value) (d : Option Addr) (pn : List (Addr × Obj)), L2N.Zn cls d oe → (∃ vs, oe.data = .fields vs) → PSs (X.suite a ((a, oe) :: pn)) (b0 :: suite) (ts a cls d)) (r : ClOk X hds l) :
      ClOk X (.ExceptHandler (some t) (some n) (b0 :: suite) pos' :: hds) ((M, some i, ts) :: l)
  | only {t : Expr} {M : Value → Bool → Prop} {ts : Addr → Value → Option Addr → TS} {b0 : Stmt} {suite : List Stmt} {pos' : Pos} {hds : List ExceptHandler} {l : List Cl} (ht : Tst X t M)
      (hsu : ∀ (a : Addr) (oe : Obj) (cls : Value) (d : Option Addr) (pn : List (Addr × Obj)), L2N.Zn cls d oe → (∃ vs, oe.data = .fields vs) → PSs (X.suite a ((a, oe) :: pn)) (b0 :: suite) (ts a cls d)) (r : ClOk X hds l) :
      ClOk X (.ExceptHandler (some t) none (b0 :: suite) pos' :: hds) ((M, none, ts) :: l)
theorem flying_grows {B h h' : Heap} {l : List Env} {a : Addr} {Z : Obj → Prop} (fl : HandSPX.FlyingZ B l a Z h) (k : ∀ b o, h.get? b = some o → h'.get? b = some o) : HandSPX.FlyingZ B l a Z h' := by
  obtain ⟨f1, f2, f3, oe, vs, T, oT, ts, e1, e2, e3, e4, e5, e6, e7, e8, e9⟩ := fl
  exact ⟨fun b o z => k _ _ (f1 b o z), f2, Heap.FunFrames.of_keeps (fun b o e _ => ⟨o, k b o e, rfl⟩) f3, oe, vs, T, oT, ts, k _ _ e1, e2, e3, e4, e5, e6, k _ _ e7, e8, e9⟩
theorem upto_grows {h h1 h2 : Heap} (u : h.UpToSlots h1) (k : ∀ b o, h1.get? b = some o → h2.get? b = some o) : h.UpToSlots h2 := u.trans (Heap.UpToSlots.of_keeps k)
variable {body : List Stmt} {h0 : ExceptHandler} {hds : List ExceptHandler} {l : List Cl} {pos : Pos} {tb : WX → TS} {Wout : WX}
theorem ps_trys (hs : X.stack = X.env :: X.outer) (hf : X.env.frame = some X.env.locals) (hN : X.N.Nodup) (tk : L2N.Takes X Wout)
    (hb : ∀ (W : WX) (pn : List (Addr × Obj)) (xe : Value → Shared → Prop), L2N.Takes (X.tr pn xe) W → PassesOwn (model X.prog X.w) X.A X.env xe → PSs (X.tr pn xe) body (tb W))
    (hh : ClOk X (h0 :: hds) l) : PS X (.Try body (h0 :: hds) [] [] pos) (fun D σ H => tb (wCl Wout D l) D σ H) := by
  refine ⟨fun pins s σ H D I h => ?_⟩
  have ok := I.ok
  have hfr : X.A.frames = some (X.env :: X.outer) := by rw [ok.frames, hs]
  refine wpAny_Try_except (wpAny_mono ((hb (wCl Wout D l) (X.pn ++ pins) (fun e s1 => wpAny (model X.prog X.w) X.A (noteFrame e X.env) (fun _ s2 => wpAny (model X.prog X.w) X.A (setFlight e none) (fun _ s3 =>
    wpAny (model X.prog X.w) X.A (handleBy e X.env (h0 :: hds)) (SP X pins D) X.xe s3) X.xe s2) X.xe s1) (fun u s' xx => ?_) PassesOwn.looking).run [] s σ H D (I.toTry _) h) (fun f s1 hsp => ?_) (fun e s1 he => he))
  · obtain ⟨a, B, sI, pins', σ1, H1, cls, d, rfl, J0, nb, up, sky, na, os, ag, w⟩ := xx
    have J : Inv X pins σ1 H1 sI := J0.ofTry ok
    have sky1 : Sky B (X.env :: X.outer) a (L2N.Zn cls d) X.env.locals s'.heap := by rw [← hs]; exact sky
    show wpAny (model X.prog X.w) X.A (noteFrame (.ref a) X.env) _ _ _
    refine L2N.Sky.land L2N.Zn.steady hfr hf sky1 fun h3 fl3 up3 => ?_
    have go : ∀ {hs1 : List ExceptHandler} {l1 : List Cl}, ClOk X hs1 l1 → ∀ h4, HandSPX.FlyingZ B (X.env :: X.outer) a (L2N.Zn cls d) h4 → sI.heap.UpToSlots h4 → wCl Wout D l1 cls d σ1 H1 →
        wpAny (model X.prog X.w) X.A (handleBy (.ref a) X.env hs1) (SP X pins D) X.xe { s' with heap := h4 } := by
      intro hs1 l1 hk
      -- what stands at any heap that the error flies over
      have land : ∀ h4, HandSPX.FlyingZ B (X.env :: X.outer) a (L2N.Zn cls d) h4 → sI.heap.UpToSlots h4 → ∃ oe, L2N.Zn cls d oe ∧ (∃ vs, oe.data = .fields vs) ∧ h4.get? a = some oe ∧ Inv (X.suite a ((a, oe) :: (X.pn ++ pins))) [] σ1 H1 { s' with heap := h4 } := fun h4 fl4 up4 => by
        have J4 : Inv X pins σ1 H1 { s' with heap := h4 } := J.landed nb fl4.1 up4 os ag
        obtain ⟨oe, vs, he, hz, hd⟩ := fl4.there
        have nfr : a ∉ frs (X.env :: X.outer) := fun y => by
          obtain ⟨_, o1, e1, hnf⟩ := fl4.2.2.1.mem y
          rw [he] at e1
          cases e1
          exact hnf _ hd
        refine ⟨oe, hz, ⟨vs, hd⟩, he, J4.suite he hd na (fun y => nfr ?_) fun y => nfr ?_⟩
        · exact List.mem_filterMap.mpr ⟨X.env, List.mem_cons_self, by rw [hf, y]⟩
        · obtain ⟨e1, m1, q1⟩ := List.mem_filterMap.mp y
          exact List.mem_filterMap.mpr ⟨e1, List.mem_cons_of_mem _ m1, q1⟩
      induction hk with
      | nil =>
        intro h4 fl4 up4 w
        refine wpAny_handleBy_nil ?_
        obtain ⟨k1, k2, k3, oe, vs, T, oT, ts', he, hz, hd, e1, hr⟩ := id fl4
        unfold PySem.passOn
        refine wpAny_bind (wpAny_field he hd e1 ?_)
        rw [if_neg (show ¬ ((Value.ref T == Value.none) = true) from by simp)]
        have fin : wpAny (model X.prog X.w) X.A (setFlight (.ref a) X.env.frame) (fun _ s4 => wpAny (model X.prog X.w) X.A (throw (.ref a) : Sem Flow) (SP X pins D) X.xe s4) X.xe { s' with heap := h4 } := by
          rw [hf]
          exact HandSPX.setFlight_upZ fl4 fun h5 fl5 up5 => wpAny_throw (tk _ _ ⟨a, B, sI, pins, σ1, H1, cls, d, rfl, J, nb, up4.trans up5, .inr (.inr (by rw [hs]; exact fl5)), na, os, ag, w⟩)
        first
          | exact wpAny_bind (wpAny_pure (wpAny_bind fin))
          | exact wpAny_bind fin
      | @as t n i M ts b0 suite pos' hds2 l2 ht hi hl hsu r ih =>
        intro h4 fl4 up4 w
        obtain ⟨b, hb1, yes, no⟩ := w
        obtain ⟨oe, hz, hd, he, S4⟩ := land h4 fl4 up4
        refine wpAny_handleBy_cons (codeAny_handlers_test (ht a oe _ _ _ _ cls b _ _ _ S4 hz.1 hb1 fun h5 k5 => ?_)) (by intro q; cases q)
        have fl5 := flying_grows fl4 k5
        have up5 := upto_grows up4 k5
        cases b with
        | true =>
          refine codeAny_handlers_suite_as (HandSPX.lands_againZ fl5 fun h6 fl6 up6 => ?_)
          obtain ⟨oe6, hz6, hd6, he6, S6⟩ := land h6 fl6 (up5.trans up6)
          refine store_ok (X := X.suite a ((a, oe6) :: (X.pn ++ pins))) (v := .ref a) S6 hN hi (.inl hl) rfl (fun s7 S7 => ?_) (.inr hl)
          refine wpAny_mono ((hsu a oe6 cls d (X.pn ++ pins) hz6 hd6).run [] s7 _ H1 _ S7 (yes rfl a na)) (fun f s8 hsp => ?_) (fun _ _ z => z.elim)
          have gone : ∀ {σ8 : L2.St} {H8 : Hp} {Q : Shared → Prop}, Inv (X.suite a ((a, oe6) :: (X.pn ++ pins))) [] σ8 H8 s8 → (∀ s9, Inv X pins (σ8.set i none) H8 s9 → Q s9) →
              wpAny (model X.prog X.w) X.A (do bindName X.env n .none; unbindBehindTheSuite X.env n pos') (fun _ s9 => Q s9) X.xe s8 := fun {σ8 H8 Q} S8 hq => gone_ok (S8.unsuite ok) hN hi hl hq
          cases f with
          | next =>
            obtain ⟨σ8, H8, S8, q8⟩ := hsp
            exact gone S8 fun s9 J9 => ⟨_, _, J9, q8⟩
          | brk =>
            obtain ⟨σ8, H8, S8, q8⟩ := hsp
            exact gone S8 fun s9 J9 => ⟨_, _, J9, q8⟩
          | cont =>
            obtain ⟨σ8, H8, S8, q8⟩ := hsp
            exact gone S8 fun s9 J9 => ⟨_, _, J9, q8⟩
          | ret u =>
            obtain ⟨v8, σ8, H8, S8, r8, q8⟩ := hsp
            exact gone S8 fun s9 J9 => ⟨_, _, _, J9, r8, q8⟩
        | false => exact ih h5 fl5 up5 (no rfl)
      | @only t M ts b0 suite pos' hds2 l2 ht hsu r ih =>
        intro h4 fl4 up4 w
        obtain ⟨b, hb1, yes, no⟩ := w
        obtain ⟨oe, hz, hd, he, S4⟩ := land h4 fl4 up4
        refine wpAny_handleBy_cons (codeAny_handlers_test (ht a oe _ _ _ _ cls b _ _ _ S4 hz.1 hb1 fun h5 k5 => ?_)) (by intro q; cases q)
        have fl5 := flying_grows fl4 k5
        have up5 := upto_grows up4 k5
        cases b with
        | true =>
          refine codeAny_handlers_suite (HandSPX.lands_againZ fl5 fun h6 fl6 up6 => ?_)
          obtain ⟨oe6, hz6, hd6, he6, S6⟩ := land h6 fl6 (up5.trans up6)
          refine wpAny_mono ((hsu a oe6 cls d (X.pn ++ pins) hz6 hd6).run [] _ _ H1 _ S6 (yes rfl a na)) (fun f s8 hsp => ?_) (fun _ _ z => z.elim)
          cases f with
          | next =>
            obtain ⟨σ8, H8, S8, q8⟩ := hsp
            exact ⟨_, _, S8.unsuite ok, q8⟩
          | brk =>
            obtain ⟨σ8, H8, S8, q8⟩ := hsp
            exact ⟨_, _, S8.unsuite ok, q8⟩
          | cont =>
            obtain ⟨σ8, H8, S8, q8⟩ := hsp
            exact ⟨_, _, S8.unsuite ok, q8⟩
          | ret u =>
            obtain ⟨v8, σ8, H8, S8, r8, q8⟩ := hsp
            exact ⟨_, _, _, S8.unsuite ok, r8, q8⟩
        | false => exact ih h5 fl5 up5 (no rfl)
    exact go hh h3 fl3 (up.trans up3) w
  · cases f with
    | next =>
      obtain ⟨σ1, H1, J1, q⟩ := hsp
      exact wpAny_execs_nil ⟨σ1, H1, J1.ofTry ok, q⟩
    | brk =>
      obtain ⟨σ1, H1, J1, q⟩ := hsp
      exact ⟨σ1, H1, J1.ofTry ok, q⟩
    | cont =>
      obtain ⟨σ1, H1, J1, q⟩ := hsp
      exact ⟨σ1, H1, J1.ofTry ok, q⟩
    | ret u =>
      obtain ⟨v1, σ1, H1, J1, r1, q⟩ := hsp
      exact ⟨v1, σ1, H1, J1.ofTry ok, r1, q⟩
end
end Err
end SecA6
section SecA7
set_option Elab.async false
set_option linter.all false
set_option maxRecDepth 100000
set_option maxHeartbeats 4000000
namespace Rd
open PySem PySem.Spec PyProof.Rows L2
section
variable {D : Ends} {σ : L2.St} {H : Hp} {Q : VK} {t1 t2 : TS} {te ta tb : TE} {g : TG} {i : Nat} {v x y : V} {c c1 c2 : TT} {K : PySem.W.Frag} {QB : Bool → Hp → Prop} {tl tr : TA} {QA : List V → Hp → Prop}
theorem seq (q : t1 { D with nx := t2 D } σ H) : tSeq t1 t2 D σ H := q
theorem asg (q : te σ H fun x H1 => g x σ H1 D.nx) : tAsg te g D σ H := q
theorem nm {Q : L2.St → Hp → Prop} (q : Q (σ.set i (some v)) H) : gName i v σ H Q := q
theorem sub {r : TSet} {Q : L2.St → Hp → Prop} (q : ta σ H fun o H1 => tb σ H1 fun i H2 => r o i v H2 fun H3 => Q σ H3) : gSub ta tb r v σ H Q := q
theorem ret (q : te σ H D.rt) : tRet te D σ H := q
theorem retN (q : D.rt .non H) : tRetN D σ H := q
theorem drop (q : te σ H fun _ H1 => D.nx σ H1) : tDrop te D σ H := q
theorem ifs (q : c σ H fun b H1 => if b = true then t1 D σ H1 else t2 D σ H1) : tIfS c t1 t2 D σ H := q
theorem next (q : D.nx σ H) : tNext D σ H := q
theorem var (h : σ[i]? = some (some v)) (q : Q v H) : tVar i σ H Q := ⟨v, h, q⟩
theorem cst (q : Q v H) : tC v σ H Q := q
theorem op {r : R2} (q : ta σ H fun x H1 => tb σ H1 fun y H2 => r x y H2 Q) : tOp r ta tb σ H Q := q
theorem un {r : V → Hp → VK → Prop} (q : ta σ H fun x H1 => r x H1 Q) : tUn r ta σ H Q := q
theorem test (q : te σ H fun x H' => ∃ k, x = .bl k ∧ QB k H') : tTest te σ H QB := q
theorem tb' (q : te σ H fun x H' => ∃ k, x = .bl k ∧ QB k H') : tB te σ H QB := q
theorem exb {Z : Bool → Prop} {b : Bool} (q : Z b) : ∃ k, V.bl b = .bl k ∧ Z k := ⟨b, rfl, q⟩
theorem and2 (q : c1 σ H fun b H1 => if b = true then c2 σ H1 QB else QB false H1) : tAnd c1 c2 σ H QB := q
theorem or2 (q : c1 σ H fun b H1 => if b = true then QB true H1 else c2 σ H1 QB) : tOr c1 c2 σ H QB := q
theorem not1 (q : c σ H fun b H1 => QB (!b) H1) : tNot c σ H QB := q
theorem andV (q : ta σ H fun x H1 => ∃ c, x = .bl c ∧ if c = true then tb σ H1 Q else Q (.bl false) H1) : tAndV ta tb σ H Q := q
theorem orV (q : ta σ H fun x H1 => ∃ c, x = .bl c ∧ if c = true then Q (.bl true) H1 else tb σ H1 Q) : tOrV ta tb σ H Q := q
theorem notV (q : ta σ H fun x H1 => ∃ c, x = .bl c ∧ Q (.bl (!c)) H1) : tNotV ta σ H Q := q
theorem nil (q : QA [] H) : tNil σ H QA := q
theorem cons (q : ta σ H fun x H1 => tr σ H1 fun xs H2 => QA (x :: xs) H2) : tCons ta tr σ H QA := q
theorem cb {r : List V → Hp → VK → Prop} (q : tl σ H fun vs H1 => r vs H1 Q) : tCB r tl σ H Q := q
theorem i0 {f : Int → Int → V} {a b : Int} (q : Q (f a b) H) : rI0 f (.int a) (.int b) H Q := ⟨a, b, rfl, rfl, q⟩
theorem i1 {C : Int → Int → Prop} {f : Int → Int → V} {a b : Int} (hc : C a b) (q : Q (f a b) H) : rI C f (.int a) (.int b) H Q := ⟨a, b, rfl, rfl, hc, q⟩
theorem u1 {f : Int → V} {a : Int} (q : Q (f a) H) : rU f (.int a) H Q := ⟨a, rfl, q⟩
theorem ixL {p : Addr} {xs : List V} {a : Int} (h : H p = some (.lst xs)) (ha : atI xs a = some v) (q : Q v H) : rIxL K (.ref p) (.int a) H Q := ⟨p, xs, a, v, rfl, rfl, SqL.of h, ha, q⟩
theorem ixT {p : Addr} {xs : List V} {a : Int} (h : H p = some (.tup xs)) (ha : atI xs a = some v) (q : Q v H) : rIxT K (.ref p) (.int a) H Q := ⟨p, xs, a, v, rfl, rfl, SqT.of h, ha, q⟩
theorem setL {p : Addr} {xs : List V} {a : Int} {j : Nat} {Q : Hp → Prop} (h : H p = some (.lst xs)) (ha : ixN xs.length a = some j) (q : Q (upd H p (.lst (xs.set j v)))) : rSetL (.ref p) (.int a) v H Q := ⟨p, xs, a, j, rfl, rfl, h, ha, q⟩
theorem eq (hs : scal x y = true) (q : Q (.bl (decide (x = y))) H) : rEq x y H Q := ⟨hs, q⟩
theorem ne (hs : scal x y = true) (q : Q (.bl (!decide (x = y))) H) : rNe x y H Q := ⟨hs, q⟩
theorem call {sp : Sp} {dvs : List V} {E : XK} (q : tl σ H fun vs H1 => sp (vs ++ dvs) H1 Q E) : tCall sp dvs E tl σ H Q := q
theorem tup (q : tl σ H fun xs H1 => xs.length ≤ sizeLine ∧ ∀ p, H1 p = none → Q (.ref p) (upd H1 p (.tup xs))) : tTup tl σ H Q := q
theorem lst (q : tl σ H fun xs H1 => xs.length ≤ sizeLine ∧ ∀ p, H1 p = none → Q (.ref p) (upd H1 p (.lst xs))) : tLst tl σ H Q := q
theorem sl {r : V → Option Int → Option Int → Hp → VK → Prop} {to tp : TO} (q : te σ H fun x H1 => to σ H1 fun l H2 => tp σ H2 fun u H3 => r x l u H3 Q) : tSl r te to tp σ H Q := q
theorem no {Q : Option Int → Hp → Prop} (q : Q none H) : tNoPart σ H Q := q
theorem part {Q : Option Int → Hp → Prop} (q : te σ H fun x H1 => ∃ i, x = .int i ∧ Q (some i) H1) : tPart te σ H Q := q
theorem exi {Z : Int → Prop} {a : Int} (q : Z a) : ∃ k, V.int a = .int k ∧ Z k := ⟨a, rfl, q⟩
theorem slL {p : Addr} {xs : List V} {lo hi : Option Int} (h : H p = some (.lst xs)) (q : ∀ p', H p' = none → Q (.ref p') (upd H p' (.lst (cutV xs lo hi)))) : rSlL K (.ref p) lo hi H Q := ⟨p, xs, rfl, SqL.of h, q⟩
theorem at_ {X : Cx} {n : Str} (q : te σ H fun x H1 => ∃ (a C dd : Addr) (fs : List (Str × V)) (v : V), x = .ref a ∧ Err.Ec X.K C ∧ PySem.W.findIn X.K (.ref C) n = some none ∧ Err.Seen X H1 a C (some dd) ∧ Err.Dk H1 dd fs ∧ fs.lookup n = some v ∧ Q v H1) :
    Err.tAt X n te σ H Q := q
theorem ifT {b : Bool} {A B : Prop} (h : b = true) (q : A) : if b = true then A else B := by rw [if_pos h]; exact q
theorem ifF {b : Bool} {A B : Prop} (h : b = false) (q : B) : if b = true then A else B := by rw [h, if_neg Bool.false_ne_true]; exact q
theorem ifB {b : Bool} {A B : Prop} (q1 : b = true → A) (q2 : b = false → B) : if b = true then A else B := by
  cases b with
  | true => rw [if_pos rfl]; exact q1 rfl
  | false => rw [if_neg Bool.false_ne_true]; exact q2 rfl
theorem lenL {p : Addr} {xs : List V} (h : H p = some (.lst xs)) (q : Q (.int (xs.length : Nat)) H) : ∃ (x : V) (n : Nat), [V.ref p] = [x] ∧ LenV K x H n ∧ Q (.int (n : Nat)) H := ⟨_, _, rfl, .inl ⟨xs, SqL.of h, rfl⟩, q⟩
theorem lenT {p : Addr} {xs : List V} (h : H p = some (.tup xs)) (q : Q (.int (xs.length : Nat)) H) : ∃ (x : V) (n : Nat), [V.ref p] = [x] ∧ LenV K x H n ∧ Q (.int (n : Nat)) H := ⟨_, _, rfl, .inr ⟨xs, SqT.of h, rfl⟩, q⟩
theorem lenS {z : Str} (h : z.length ≤ sizeLine) (q : Q (.int (z.length : Nat)) H) : ∃ (x : V) (n : Nat), [V.str z] = [x] ∧ LenV K x H n ∧ Q (.int (n : Nat)) H := ⟨_, _, rfl, ⟨h, rfl⟩, q⟩
theorem int1 {a : Int} (q : Q (.int a) H) : (∃ i, [V.int a] = [V.int i] ∧ Q (.int i) H) ∨ ∃ k, [V.int a] = [V.bl k] ∧ Q (.int (if k = true then 1 else 0)) H := .inl ⟨a, rfl, q⟩
theorem int1b {b : Bool} (q : Q (.int (if b = true then 1 else 0)) H) : (∃ i, [V.bl b] = [V.int i] ∧ Q (.int i) H) ∨ ∃ k, [V.bl b] = [V.bl k] ∧ Q (.int (if k = true then 1 else 0)) H := .inr ⟨b, rfl, q⟩
theorem abs1 {a : Int} (q : Q (.int (if a < 0 then -a else a)) H) : ∃ i, [V.int a] = [V.int i] ∧ Q (.int (if i < 0 then -i else i)) H := ⟨a, rfl, q⟩
def rLenK (K : PySem.W.Frag) : List V → Hp → VK → Prop := fun xs H Q => ∃ (x : V) (n : Nat), xs = [x] ∧ LenV K x H n ∧ Q (.int (n : Nat)) H
theorem lenKL {p : Addr} {xs : List V} (h : H p = some (.lst xs)) (q : Q (.int (xs.length : Nat)) H) : rLenK K [.ref p] H Q := ⟨_, _, rfl, .inl ⟨xs, SqL.of h, rfl⟩, q⟩
theorem lenKT {p : Addr} {xs : List V} (h : H p = some (.tup xs)) (q : Q (.int (xs.length : Nat)) H) : rLenK K [.ref p] H Q := ⟨_, _, rfl, .inr ⟨xs, SqT.of h, rfl⟩, q⟩
theorem lenKS {z : Str} (h : z.length ≤ sizeLine) (q : Q (.int (z.length : Nat)) H) : rLenK K [.str z] H Q := ⟨_, _, rfl, ⟨h, rfl⟩, q⟩
theorem lc {wi : TI} {tt : TT} {vs : List Nat} (q : wi σ H fun J H1 => ∀ d, H1 d = none → ∃ W : Nat → Nat → Hp → Prop, (∃ m, W 0 m (upd H1 d (.lst []))) ∧ ∀ i m H, W i m H →
  (J.stop i H ∧ Q (.ref d) H) ∨ (J.go i H ∧ ∃ Nx : Hp → Prop, (∀ H', Nx H' → ∃ m', m' < m ∧ W (i + 1) m' H') ∧ ∀ x H', J.yld i H x H' → g x (wipe σ vs) H' fun σ2 H2 => wipe σ2 vs = wipe σ vs ∧ tt σ2 H2 fun b H3 =>
    if b = true then te σ2 H3 fun y H4 => ∃ acc, H4 d = some (.lst acc) ∧ acc.length < sizeLine ∧ Nx (upd H4 d (.lst (acc ++ [y]))) else Nx H3)) : tLc wi g tt te vs σ H Q := q
theorem rng {R : It → Hp → Prop} (q : tl σ H fun vs H1 => ∃ j : Int, vs = [.int j] ∧ -(2 ^ 62) ≤ j ∧ j < 2 ^ 62 ∧ R (Itr 0 j.toNat) H1) : iRng1 tl σ H R := q
theorem fors {wi : TI} (q : wi σ H fun J H1 => ∃ W : Nat → Nat → L2.St → Hp → Prop, (∃ m, W 0 m σ H1) ∧ ∀ i m σ H, W i m σ H →
  (J.stop i H ∧ D.nx σ H) ∨ (J.go i H ∧ ∃ N : L2.St → Hp → Prop, (∀ σ' H', N σ' H' → ∃ m', m' < m ∧ W (i + 1) m' σ' H') ∧ ∀ x H', J.yld i H x H' → g x σ H' fun σ2 H2 => t1 { D with nx := N, ct := N, bk := D.nx } σ2 H2)) : tFor wi g t1 D σ H := q
theorem m1 {r : V → List V → Hp → VK → Prop} (q : ta σ H fun x H1 => (∃ a, x = .str a) ∧ tb σ H1 fun y H2 => r x [y] H2 Q) : tM1 r ta tb σ H Q := q
theorem exs {Z : Prop} {z : Str} (q : Z) : (∃ a, V.str z = .str a) ∧ Z := ⟨⟨z, rfl⟩, q⟩
theorem ixS {z : Str} {a : Int} {c : Nat} (hl : z.length ≤ sizeLine) (h : atI z.cps.toList a = some c) (q : Q (.str ⟨#[c]⟩) H) : rIxS (.str z) (.int a) H Q := ⟨z, a, c, rfl, rfl, hl, h, q⟩
theorem yes (q : QB true H) : tYes σ H QB := q
theorem ex2 {α β : Type} {A : α → β → Prop} {x : α} {n : β} (h : A x n) : ∃ x n, A x n := ⟨x, n, h⟩
theorem cut {t u : TS} (Mid : L2.St → Hp → Prop) (h : t { D with nx := Mid } σ H) (k : ∀ σ' H', Mid σ' H' → u D σ' H') : C8.tCut t u D σ H := ⟨Mid, h, k⟩
end
end Rd
end SecA7
section SecB0
set_option Elab.async false
set_option linter.all false
set_option maxRecDepth 100000
set_option maxHeartbeats 4000000
namespace K78
open PySem PySem.Spec PyProof.Rows L2 L2H Err
def topS (i : Nat) : Stmt := PySem.Challenge.pw_wholefaces_k78_errors.main.body.getD i (.Pass ⟨0, 0, 0, 0⟩)
/-- the built-in names that the text asks are no names of its own -/
structure Tx (mg : Str → Option Value) : Prop where
  n_int : mg "int" = none
  n_abs : mg "abs" = none
  n_len : mg "len" = none
  n_range : mg "range" = none
  n_tuple : mg "tuple" = none
  n_list : mg "list" = none
  n_bool : mg "bool" = none
  n_str : mg "str" = none
  n_all : mg "all" = none
  n_isinstance : mg "isinstance" = none
  n_ValueError : mg "ValueError" = none
/-- a def of the text, by its name -/
structure Dn (P : Program) (w : World) (K : PySem.W.Frag) (mg : Str → Option Value) (base : Heap) (CX : CXT) (x : Str) (k : Nat) (ps : List Str) (sp : Sp) : Prop where
  ex : ∃ f fd, FnOk P w K mg base CX k f fd ps sp ∧ mg x = some (.ref f) ∧ PySem.W.keepIn K (.ref f) = true ∧ Binds K fd ps []
section
variable {X : Cx} {x : Str} {k : Nat} {ps : List Str} {sp : Sp} {q pos : Pos} {e : Expr} {es : List Expr} {t : TA}
theorem pe_dn (D : Dn X.prog X.w X.K X.mg X.base CX0 x k ps sp) (hr : Room k X.A) (ha : PA X (e :: es) t) (hg : Gl X x := by rfl) (hdb : (x == ("__debug__" : Str)) = false := by decide)
    (he : starEach (e :: es) X.env = (false, eval e X.env) :: starEach es X.env := by rfl) (hpl : (backTo pos (starEach es X.env)).any (·.1) = false := by rfl) : PE X (.Call (.Name x q) (e :: es) [] pos) (tCall sp [] E0 t) := by
  obtain ⟨f, fd, F, hm, hk, hb⟩ := D.ex
  exact pe_call F hr hg hm hk hb .nil pass0 ha hdb he hpl
end
/-- what stands in H, but for t, stands in H' -/
def Keeps (t : Addr) (H H' : Hp) : Prop := ∀ b o, b ≠ t → H b = some o → H' b = some o
theorem Keeps.refl {t : Addr} {H : Hp} : Keeps t H H := fun _ _ _ h => h
theorem Keeps.trans {t : Addr} {H H1 H2 : Hp} (a : Keeps t H H1) (b : Keeps t H1 H2) : Keeps t H H2 := fun x o n h => b x o n (a x o n h)
theorem Keeps.of {t : Addr} {H H' : Hp} (s : Same H H') : Keeps t H H' := fun b o _ h => s b o h
/-- the tape at t, the script's copy at l -/
structure Tape (t l : Addr) (ns : List Int) (H : Hp) : Prop where
  ex : ∃ a b c : Int, H t = some (.lst [.int a, .int b, .int c, .ref l]) ∧ 0 ≤ c
  sc : H l = some (.lst (ns.map V.int))
theorem Tape.ne {t l : Addr} {ns : List Int} {H : Hp} (T : Tape t l ns H) : l ≠ t := by
  obtain ⟨a, b, c, e, _⟩ := T.ex
  refine ne_of T.sc e fun z => ?_
  have z' := HO.lst.inj z
  match ns, z' with
  | [], z' => cases z'
  | [_], z' => cases z'
  | [_, _], z' => cases z'
  | [_, _, _], z' => cases z'
  | _ :: _ :: _ :: w :: _, z' =>
    simp at z'
theorem Tape.mono {t l : Addr} {ns : List Int} {H H' : Hp} (T : Tape t l ns H) (s : Same H H') : Tape t l ns H' := by
  obtain ⟨a, b, c, e, h⟩ := T.ex
  exact ⟨⟨a, b, c, s _ _ e, h⟩, s _ _ T.sc⟩
/-- a number below m, not below 0; the tape goes on, all else stands -/
def spDraw : Sp := fun vs H Q _ => ∃ (t l : Addr) (ns : List Int) (m : Int), vs = [.ref t, .int m] ∧ Tape t l ns H ∧ ns.length ≤ 63 ∧ 0 < m ∧ m < 1000000 ∧
  ∀ (v : Int) (H' : Hp), 0 ≤ v → v < m → Tape t l ns H' → Keeps t H H' → Q (.int v) H'
end K78
end SecB0
section SecB1
set_option Elab.async false
set_option linter.all false
set_option maxRecDepth 100000
set_option maxHeartbeats 4000000
local macro_rules | `(tactic| walk_at "rd") => `(tactic| first
  | with_reducible refine Rd.seq ?_ | with_reducible refine Rd.asg ?_ | with_reducible refine Rd.nm ?_ | with_reducible refine Rd.sub ?_ | with_reducible refine Rd.ret ?_ | with_reducible refine Rd.retN ?_
  | with_reducible refine Rd.drop ?_ | with_reducible refine Rd.ifs ?_ | with_reducible refine Rd.next ?_ | with_reducible refine Rd.cst ?_ | with_reducible refine Rd.op ?_ | with_reducible refine Rd.un ?_
  | with_reducible refine Rd.test ?_ | with_reducible refine Rd.tb' ?_ | with_reducible refine Rd.exb ?_ | with_reducible refine Rd.exi ?_ | with_reducible refine Rd.and2 ?_ | with_reducible refine Rd.or2 ?_ | with_reducible refine Rd.not1 ?_
  | with_reducible refine Rd.andV ?_ | with_reducible refine Rd.orV ?_ | with_reducible refine Rd.notV ?_ | with_reducible refine Rd.nil ?_ | with_reducible refine Rd.cons ?_ | with_reducible refine Rd.cb ?_
  | with_reducible refine Rd.i0 ?_ | with_reducible refine Rd.u1 ?_ | with_reducible refine Rd.call ?_ | with_reducible refine Rd.tup ?_ | with_reducible refine Rd.lst ?_ | with_reducible refine Rd.sl ?_ | with_reducible refine Rd.no ?_ | with_reducible refine Rd.part ?_ | with_reducible refine Rd.at_ ?_
  | ((with_reducible refine' Rd.var ?hv ?_); (case hv => exact rfl))
  | ((with_reducible refine' Rd.ifT ?hv ?_); (case hv => exact rfl)) | ((with_reducible refine' Rd.ifF ?hv ?_); (case hv => exact rfl))
  | ((with_reducible refine' Rd.eq ?hv ?_); (case hv => exact rfl))
  | ((with_reducible refine' Rd.ne ?hv ?_); (case hv => exact rfl))
  | with_reducible refine Or.inl ⟨_, rfl, ?_⟩ | with_reducible refine Or.inr ⟨_, rfl, ?_⟩ | with_reducible refine ⟨_, rfl, ?_⟩
  | ((with_reducible refine' Rd.ex2 ⟨rfl, ?hl, ?_⟩); (case hl => first | exact Or.inl ⟨_, L2.SqL.of (by first | assumption | exact L2.upd_same), rfl⟩ | exact Or.inr ⟨_, L2.SqT.of (by first | assumption | exact L2.upd_same), rfl⟩))
  | ((with_reducible refine' Rd.i1 ?hv ?_); (case hv => first | exact ⟨by decide, by decide, by decide⟩ | exact Or.inr ⟨by decide, by decide⟩ | exact Or.inl ⟨by decide, by decide⟩ | exact ⟨by decide, by decide⟩ | decide | assumption | (show _ ≠ _; omega) | (refine ⟨?_, ?_⟩ <;> omega)))
  | ((with_reducible refine' Rd.ixL ?he ?hx ?_); (case he => first | assumption | exact L2.upd_same); (case hx => rfl))
  | ((with_reducible refine' Rd.ixT ?he ?hx ?_); (case he => first | assumption | exact L2.upd_same); (case hx => rfl))
  | ((with_reducible refine' Rd.setL ?he ?hx ?_); (case he => first | assumption | exact L2.upd_same); (case hx => rfl)))
local macro_rules | `(tactic| walk_at "rds") => `(tactic| repeat (first | walk_at "rd" | assumption))
namespace K78
open PySem PySem.Spec PyProof.Rows L2 L2H Err
abbrev sDraw : Stmt := topS 18
theorem scDraw : FnScope ["tape", "many", "cell", "value"] ["tape", "many"] (defScope sDraw) := ⟨rfl, rfl, rfl, by decide +kernel, rfl, by decide +kernel, by decide +kernel⟩

theorem upd_idem {H : Hp} {t : Addr} {o : HO} (h : H t = some o) : upd H t o = H := by
  funext b
  by_cases e : b = t
  · rw [e, upd_same, h]
  · rw [upd_ne e]
theorem fmod_in {a m : Int} (h : 0 < m) : 0 ≤ a.fmod m ∧ a.fmod m < m := by
  rw [Int.fmod_eq_emod_of_nonneg _ (Int.le_of_lt h)]
  exact ⟨Int.emod_nonneg _ (by omega), Int.emod_lt_of_pos _ h⟩
section
variable {P : Program} {w : World} {K : PySem.W.Frag} {mg : Str → Option Value} {base : Heap}
set_option pp.deepTerms false in
theorem okDraw {f : Addr} {fd : FuncData} (F : Fun K "_law_draw" "_law_draw" sDraw f fd) (T : Tx mg) : FnOk P w K mg base CX0 1 f fd ["tape", "many"] spDraw := by
  refine F.ok scDraw (fun vs H Q E h => ?_) (fun cdv A outer s H vs Q E hr h => ?_)
  · obtain ⟨t, l, ns, m, rfl, _⟩ := h
    rfl
  · obtain ⟨t, l, ns, m, rfl, Tp, hl, m0, m1, k⟩ := h
    obtain ⟨a, b, c, e, hc⟩ := Tp.ex
    have ne := Tp.ne
    have sc := Tp.sc
    refine ⟨_, (C8.pss_cut (ps_if (PW.pt (pw_and (pt_cmpR op_eq (pe_ix ix_list (pv 0) pe_int (fun _ _ => rfl)) pe_int (nomark _)) (pw_and1 (pt_cmpR op_lt (pe_ix ix_list (pv 0) pe_int (fun _ _ => rfl)) (pe_callB call_len (by rfl) T.n_len (by decide +kernel) (pa_cons (pe_ix ix_list (pv 0) pe_int (fun _ _ => rfl)) pa_nil)) (nomark _)))))
    (pss_cons (ps_set (i := 2) scDraw.nd rfl (Or.inl rfl) (pe_ix ix_list (pe_ix ix_list (pv 0) pe_int (fun _ _ => rfl)) (pe_ix ix_list (pv 0) pe_int (fun _ _ => rfl)) (fun _ _ => rfl)))
      (pss_cons (ps_asg (pe_op op_add (pe_ix ix_list (pv 0) pe_int (fun _ _ => rfl)) pe_int) (pg_sub (pv 0) pe_int set_list))
      (pss_one (ps_if (PW.pt (pw_or (pt_cmpR op_ge (pv 2) (pe_op op_pow pe_int pe_int) (nomark _)) (pw_or1 (pt_cmpR op_le (pv 2) (pe_un un_neg (pe_op op_pow pe_int pe_int)) (nomark _)))))
      (pss_one (ps_asg (pe_callB call_abs (by rfl) T.n_abs (by decide +kernel) (pa_cons (pv 2) pa_nil)) (pg_sub (pv 0) pe_int set_list)))
      (pss_one (ps_asg (pe_op op_modN (pe_callTy call_int1 (by rfl) T.n_int (by decide +kernel) (pa_cons (pe_op op_add (pe_op op_mul (pe_ix ix_list (pv 0) pe_int (fun _ _ => rfl)) pe_int) (pv 2)) pa_nil)) pe_int) (pg_sub (pv 0) pe_int set_list)))))))
    pss_nil)
    (pss_cons (ps_if (pt_cmpR op_gt (pe_ix ix_list (pv 0) pe_int (fun _ _ => rfl)) pe_int (nomark _))
    (pss_cons (ps_set (i := 3) scDraw.nd rfl (Or.inl rfl) (pe_op op_modN (pe_callTy call_int1 (by rfl) T.n_int (by decide +kernel) (pa_cons (pe_ix ix_list (pv 0) pe_int (fun _ _ => rfl)) pa_nil)) (pv 1)))
      (pss_cons (ps_asg (pe_op op_fdivN (pe_ix ix_list (pv 0) pe_int (fun _ _ => rfl)) (pv 1)) (pg_sub (pv 0) pe_int set_list))
      (pss_one (ps_ret (pv 3)))))
    pss_nil)
    (pss_cons (ps_asg (pe_op op_modN (pe_callTy call_int1 (by rfl) T.n_int (by decide +kernel) (pa_cons (pe_op op_add (pe_op op_mul (pe_ix ix_list (pv 0) pe_int (fun _ _ => rfl)) pe_int) pe_int) pa_nil)) pe_int) (pg_sub (pv 0) pe_int set_list))
    (pss_one (ps_ret (pe_op op_modN (pe_callTy call_int1 (by rfl) T.n_int (by decide +kernel) (pa_cons (pe_op op_fdivN (pe_ix ix_list (pv 0) pe_int (fun _ _ => rfl)) pe_int) pa_nil)) (pv 1))))))), ?_⟩
    have st0 : L2.start ["tape", "many", "cell", "value"] [V.ref t, V.int m] = [some (.ref t), some (.int m), none, none] := rfl
    rw [st0]
    refine Rd.cut (fun σ' H' => ∃ (x y : Option V) (a b c : Int), σ' = [some (.ref t), some (.int m), x, y] ∧ H' = upd H t (.lst [.int a, .int b, .int c, .ref l]) ∧ 0 ≤ c) ?_ ?_
    · have fin : ∀ (x y : Option V) (a b c : Int), 0 ≤ c → ∃ (x' y' : Option V) (a' b' c' : Int), [some (V.ref t), some (V.int m), x, y] = [some (.ref t), some (.int m), x', y'] ∧ upd H t (.lst [.int a, .int b, .int c, .ref l]) = upd H t (.lst [.int a', .int b', .int c', .ref l]) ∧ 0 ≤ c' :=
        fun x y a b c h => ⟨x, y, a, b, c, rfl, rfl, h⟩
      have stop : ∀ (x y : Option V), ∃ (x' y' : Option V) (a' b' c' : Int), [some (V.ref t), some (V.int m), x, y] = [some (.ref t), some (.int m), x', y'] ∧ H = upd H t (.lst [.int a', .int b', .int c', .ref l]) ∧ 0 ≤ c' :=
        fun x y => ⟨x, y, a, b, c, rfl, (upd_idem e).symm, hc⟩
      walk_at "rds"
      refine Rd.ifB (fun ha => ?_) fun _ => ?_
      · walk_at "rds"
        refine Rd.ifB (fun hb => ?_) fun _ => ?_
        · have hb' : c < (ns.length : Int) := by
            have y : c < ((ns.map V.int).length : Int) := of_decide_eq_true hb
            rw [List.length_map] at y
            exact y
          walk_at "rds"
          obtain ⟨j, ej⟩ : ∃ j : Nat, c = (j : Int) := ⟨c.toNat, by omega⟩
          have hj : j < ns.length := by omega
          refine Rd.ixL sc (v := .int ns[j]) (at_of (j := j) ej (by rw [List.getElem?_map, List.getElem?_eq_getElem hj]; rfl)) ?_
          walk_at "rds"
          refine Rd.ifB (fun _ => ?_) fun _ => ?_
          · walk_at "rds"
            rw [upd_upd]
            exact fin _ _ _ _ _ (by show 0 ≤ c + 1; omega)
          · walk_at "rds"
            refine Rd.ifB (fun _ => ?_) fun _ => ?_ <;>
            · walk_at "rds"
              rw [upd_upd]
              exact fin _ _ _ _ _ (by show 0 ≤ c + 1; omega)
        · walk_at "rds"
          exact stop _ _
      · walk_at "rds"
        exact stop _ _
    · rintro σ' H' ⟨x, y, a, b, c, rfl, rfl, hc⟩
      have tp : ∀ (a b : Int) (H' : Hp), H' = upd H t (.lst [.int a, .int b, .int c, .ref l]) → Tape t l ns H' ∧ Keeps t H H' := fun a b H' e => by
        rw [e]
        exact ⟨⟨⟨a, b, c, upd_same, hc⟩, by rw [upd_ne ne]; exact sc⟩, fun z o n h => by rw [upd_ne n]; exact h⟩
      walk_at "rds"
      refine Rd.ifB (fun _ => ?_) fun _ => ?_
      · walk_at "rds"
        obtain ⟨tp1, tp2⟩ := tp (a.fdiv m) b _ (show upd (upd H t (.lst [.int a, .int b, .int c, .ref l])) t (.lst [.int (a.fdiv m), .int b, .int c, .ref l]) = _ from upd_upd)
        exact k _ _ (fmod_in m0).1 (fmod_in m0).2 tp1 tp2
      · walk_at "rds"
        obtain ⟨tp1, tp2⟩ := tp a ((b * 51347 + 6151).fmod 1610612741) _ (show upd (upd H t (.lst [.int a, .int b, .int c, .ref l])) t (.lst [.int a, .int ((b * 51347 + 6151).fmod 1610612741), .int c, .ref l]) = _ from upd_upd)
        exact k _ _ (fmod_in m0).1 (fmod_in m0).2 tp1 tp2
end
end K78
end SecB1
section SecB2
set_option Elab.async false
set_option linter.all false
set_option maxRecDepth 100000
set_option maxHeartbeats 4000000
namespace K78
open PySem PySem.Spec PyProof.Rows L2 L2H Err
/-- x is True, x is False: x anything -/
def rIsT : R2 := fun x y H Q => ∃ b : Bool, y = .bl b ∧ Q (.bl (decide (x = .bl b))) H
def rNotT : R2 := fun x y H Q => ∃ b : Bool, y = .bl b ∧ Q (.bl (!decide (x = .bl b))) H
section
variable {X : Cx}
theorem plain_of {x : V} {v : Value} {b : Bool} (r : RelV x v) : PySem.plainIs v (.bool b) = true ∧ (v = .bool b ↔ x = .bl b) := by
  cases x with
  | non => cases (show v = Value.none from r); exact ⟨rfl, by simp⟩
  | bl c => cases (show v = Value.bool c from r); exact ⟨rfl, by simp⟩
  | int i => obtain ⟨t, e⟩ := (show ∃ t, v = Value.int i t from r); cases e; exact ⟨rfl, by simp⟩
  | str z => obtain ⟨t, e⟩ := (show ∃ t, v = Value.str z t from r); cases e; exact ⟨rfl, by simp⟩
  | byt z => obtain ⟨t, e⟩ := (show ∃ t, v = Value.bytes z t from r); cases e; exact ⟨rfl, by simp⟩
  | flt z => obtain ⟨t, e⟩ := (show ∃ t, v = Value.float z t from r); cases e; exact ⟨rfl, by simp⟩
  | ref a => cases (show v = Value.ref a from r); exact ⟨rfl, by simp⟩
  | ty n => cases (show v = Value.type n from r); exact ⟨rfl, by simp⟩
theorem op_is_bl : OpR X (compareOp .Is) rIsT := by
  intro pins s σ H x y v u Q I rx ry h
  obtain ⟨b, rfl, q⟩ := h
  cases (show u = Value.bool b from ry)
  obtain ⟨h1, h2⟩ := plain_of (b := b) rx
  by_cases e : x = .bl b
  · have ev := h2.mpr e
    subst ev
    rw [decide_eq_true e] at q
    exact wpAny_is_self h1 ⟨.bl true, H, I, rfl, q⟩
  · rw [decide_eq_false e] at q
    exact wpAny_is_other h1 (fun z => e (h2.mp z)) ⟨.bl false, H, I, rfl, q⟩
theorem op_isnot_bl : OpR X (compareOp .IsNot) rNotT := by
  intro pins s σ H x y v u Q I rx ry h
  obtain ⟨b, rfl, q⟩ := h
  cases (show u = Value.bool b from ry)
  obtain ⟨h1, h2⟩ := plain_of (b := b) rx
  by_cases e : x = .bl b
  · have ev := h2.mpr e
    subst ev
    rw [decide_eq_true e] at q
    exact wpAny_isNot_self h1 ⟨.bl false, H, I, rfl, q⟩
  · rw [decide_eq_false e] at q
    exact wpAny_isNot_other h1 (fun z => e (h2.mp z)) ⟨.bl true, H, I, rfl, q⟩
end
/-- two values that stand for the same: None, bools, ints, texts, tuples and lists of such, n deep; none of it stands at an address of B -/
inductive Eqd (B : Addr → Prop) (H : Hp) : Nat → V → V → Prop
  | non {n : Nat} : Eqd B H n .non .non
  | bl {n : Nat} (b : Bool) : Eqd B H n (.bl b) (.bl b)
  | int {n : Nat} (i : Int) : Eqd B H n (.int i) (.int i)
  | str {n : Nat} (z : Str) : Eqd B H n (.str z) (.str z)
  | tup {n : Nat} {p q : Addr} {xs ys : List V} (np : ¬ B p) (nq : ¬ B q) (ep : H p = some (.tup xs)) (eq : H q = some (.tup ys)) (l : xs.length = ys.length) (hl : xs.length ≤ 1000)
      (r : ∀ (i : Nat) (x y : V), xs[i]? = some x → ys[i]? = some y → Eqd B H n x y) : Eqd B H (n + 1) (.ref p) (.ref q)
  | lst {n : Nat} {p q : Addr} {xs ys : List V} (np : ¬ B p) (nq : ¬ B q) (ep : H p = some (.lst xs)) (eq : H q = some (.lst ys)) (l : xs.length = ys.length) (hl : xs.length ≤ 1000)
      (r : ∀ (i : Nat) (x y : V), xs[i]? = some x → ys[i]? = some y → Eqd B H n x y) : Eqd B H (n + 1) (.ref p) (.ref q)
def Kp (B : Addr → Prop) (H H' : Hp) : Prop := ∀ b o, ¬ B b → H b = some o → H' b = some o
theorem Kp.of {B : Addr → Prop} {H H' : Hp} (s : Same H H') : Kp B H H' := fun b o _ h => s b o h
theorem Keeps.kp {B : Addr → Prop} {t : Addr} {H H' : Hp} (k : Keeps t H H') (h : B t) : Kp B H H' := fun b o n e => k b o (fun z => n (by rw [z]; exact h)) e
theorem Kp.put {B : Addr → Prop} {H : Hp} {d : Addr} {o : HO} (h : B d) : Kp B H (upd H d o) := fun b u n e => by
  rw [upd_ne (fun z => n (by rw [z]; exact h))]
  exact e
theorem Eqd.mono {B : Addr → Prop} {H H' : Hp} (k : Kp B H H') : ∀ {n : Nat} {x y : V}, Eqd B H n x y → Eqd B H' n x y := by
  intro n x y h
  induction h with
  | non => exact .non
  | bl b => exact .bl b
  | int i => exact .int i
  | str z => exact .str z
  | tup np nq ep eq l hl r ih => exact .tup np nq (k _ _ np ep) (k _ _ nq eq) l hl ih
  | lst np nq ep eq l hl r ih => exact .lst np nq (k _ _ np ep) (k _ _ nq eq) l hl ih
theorem Eqd.up {B : Addr → Prop} {H : Hp} : ∀ {n : Nat} {x y : V}, Eqd B H n x y → ∀ {m : Nat}, n ≤ m → Eqd B H m x y := by
  intro n x y h
  induction h with
  | non => exact fun _ => .non
  | bl b => exact fun _ => .bl b
  | int i => exact fun _ => .int i
  | str z => exact fun _ => .str z
  | tup np nq ep eq l hl r ih =>
    intro m h
    obtain ⟨k, rfl⟩ : ∃ k, m = k + 1 := ⟨m - 1, by omega⟩
    exact .tup np nq ep eq l hl fun i x y h1 h2 => ih i x y h1 h2 (by omega)
  | lst np nq ep eq l hl r ih =>
    intro m h
    obtain ⟨k, rfl⟩ : ∃ k, m = k + 1 := ⟨m - 1, by omega⟩
    exact .lst np nq ep eq l hl fun i x y h1 h2 => ih i x y h1 h2 (by omega)
/-- more may be left out: what does not stand -/
theorem Eqd.off {B B' : Addr → Prop} {H : Hp} (h : ∀ p o, H p = some o → ¬ B p → ¬ B' p) : ∀ {n : Nat} {x y : V}, Eqd B H n x y → Eqd B' H n x y := by
  intro n x y k
  induction k with
  | non => exact .non
  | bl b => exact .bl b
  | int i => exact .int i
  | str z => exact .str z
  | tup np nq ep eq l hl r ih => exact .tup (h _ _ ep np) (h _ _ eq nq) ep eq l hl ih
  | lst np nq ep eq l hl r ih => exact .lst (h _ _ ep np) (h _ _ eq nq) ep eq l hl ih
def Std (B : Addr → Prop) (H : Hp) : Prop := ∀ b, B b → ∃ o, H b = some o
def And1 (B : Addr → Prop) (d : Addr) : Addr → Prop := fun b => B b ∨ b = d
theorem Eqd.and1 {B : Addr → Prop} {H : Hp} {d : Addr} {n : Nat} {x y : V} (h : H d = none) (k : Eqd B H n x y) : Eqd (And1 B d) H n x y :=
  k.off fun p o e np z => z.elim np fun z => by rw [z, h] at e; cases e
theorem Eqd.un1 {B : Addr → Prop} {H : Hp} {d : Addr} {n : Nat} {x y : V} (k : Eqd (And1 B d) H n x y) : Eqd B H n x y := k.off fun p o _ np z => np (.inl z)
/-- a copy, new in all its parts -/
def spCopy (n : Nat) : Sp := fun vs H Q _ => ∃ (B : Addr → Prop) (v : V), vs = [v] ∧ Std B H ∧ Eqd B H n v v ∧ ∀ (v' : V) (H' : Hp), Same H H' → Eqd B H' n v v' → Q v' H'
/-- True for the same -/
def spSame (n : Nat) : Sp := fun vs H Q _ => ∃ (B : Addr → Prop) (x y : V), vs = [x, y] ∧ Eqd B H n x y ∧ ∀ H' : Hp, Same H H' → Q (.bl true) H'
/-- a value: nothing, a bool, a number, a text, or rows of such -/
def dep (d : Int) : Nat := if d = 2 then 30 else d.toNat
def spValue (d : Int) : Sp := fun vs H Q _ => ∃ (t l : Addr) (ns : List Int) (B : Addr → Prop), vs = [.ref t, .int d] ∧ Tape t l ns H ∧ ns.length ≤ 63 ∧ B t ∧ Std B H ∧
  ∀ (v : V) (H' : Hp), Tape t l ns H' → Keeps t H H' → Eqd B H' (dep d) v v → Q v H'
theorem same_put {H H' : Hp} {d : Addr} {o : HO} (h : H d = none) (s : Same H H') : Same H (upd H' d o) := fun b u e => by rw [upd_ne (ne_of_none e h)]; exact s b u e
end K78
namespace Rd
open PySem PySem.Spec PyProof.Rows L2 L2H Err
section
variable {D : Ends} {σ : L2.St} {H : Hp} {Q : VK} {K : PySem.W.Frag} {x c : V} {t u : Value} {b : Bool}
theorem isi (hc : ClsV c u) (ty : TyX K H x t) (k : PySem.W.kitOne K t u = some b) (q : Q (.bl b) H) : rIsi K [x, c] H Q := ⟨x, c, t, u, b, rfl, hc, ty, k, q⟩
theorem isT {b : Bool} (q : Q (.bl (decide (x = .bl b))) H) : K78.rIsT x (.bl b) H Q := ⟨b, rfl, q⟩
theorem isnT {b : Bool} (q : Q (.bl (!decide (x = .bl b))) H) : K78.rNotT x (.bl b) H Q := ⟨b, rfl, q⟩
end
end Rd
end SecB2
section SecB3
set_option Elab.async false
set_option linter.all false
set_option maxRecDepth 100000
set_option maxHeartbeats 4000000
set_option pp.deepTerms false
local macro_rules | `(tactic| walk_at "rd") => `(tactic| first
  | with_reducible refine Rd.seq ?_ | with_reducible refine Rd.asg ?_ | with_reducible refine Rd.nm ?_ | with_reducible refine Rd.sub ?_ | with_reducible refine Rd.ret ?_ | with_reducible refine Rd.retN ?_
  | with_reducible refine Rd.drop ?_ | with_reducible refine Rd.ifs ?_ | with_reducible refine Rd.next ?_ | with_reducible refine Rd.cst ?_ | with_reducible refine Rd.op ?_ | with_reducible refine Rd.un ?_
  | with_reducible refine Rd.test ?_ | with_reducible refine Rd.tb' ?_ | with_reducible refine Rd.exb ?_ | with_reducible refine Rd.exi ?_ | with_reducible refine Rd.and2 ?_ | with_reducible refine Rd.or2 ?_ | with_reducible refine Rd.not1 ?_
  | with_reducible refine Rd.andV ?_ | with_reducible refine Rd.orV ?_ | with_reducible refine Rd.notV ?_ | with_reducible refine Rd.nil ?_ | with_reducible refine Rd.cons ?_ | with_reducible refine Rd.cb ?_
  | with_reducible refine Rd.i0 ?_ | with_reducible refine Rd.u1 ?_ | with_reducible refine Rd.call ?_ | with_reducible refine Rd.tup ?_ | with_reducible refine Rd.lst ?_ | with_reducible refine Rd.sl ?_ | with_reducible refine Rd.no ?_ | with_reducible refine Rd.part ?_ | with_reducible refine Rd.at_ ?_ | with_reducible refine Rd.yes ?_ | with_reducible refine Rd.lc ?_ | with_reducible refine Rd.rng ?_ | ((with_reducible refine' Rd.lenKL ?he ?_); (case he => first | assumption | exact L2.upd_same)) | ((with_reducible refine' Rd.lenKT ?he ?_); (case he => first | assumption | exact L2.upd_same))
  | ((with_reducible refine' Rd.var ?hv ?_); (case hv => exact rfl))
  | ((with_reducible refine' Rd.ifT ?hv ?_); (case hv => exact rfl)) | ((with_reducible refine' Rd.ifF ?hv ?_); (case hv => exact rfl))
  | ((with_reducible refine' Rd.eq ?hv ?_); (case hv => exact rfl))
  | ((with_reducible refine' Rd.ne ?hv ?_); (case hv => exact rfl))
  | with_reducible refine Or.inl ⟨_, rfl, ?_⟩ | with_reducible refine Or.inr ⟨_, rfl, ?_⟩ | with_reducible refine ⟨_, rfl, ?_⟩
  | ((with_reducible refine' Rd.ex2 ⟨rfl, ?hl, ?_⟩); (case hl => first | exact Or.inl ⟨_, L2.SqL.of (by first | assumption | exact L2.upd_same), rfl⟩ | exact Or.inr ⟨_, L2.SqT.of (by first | assumption | exact L2.upd_same), rfl⟩))
  | ((with_reducible refine' Rd.i1 ?hv ?_); (case hv => first | exact ⟨by decide, by decide, by decide⟩ | exact Or.inr ⟨by decide, by decide⟩ | exact Or.inl ⟨by decide, by decide⟩ | exact ⟨by decide, by decide⟩ | decide | assumption | (show _ ≠ _; omega) | (refine ⟨?_, ?_⟩ <;> omega)))
  | ((with_reducible refine' Rd.ixL ?he ?hx ?_); (case he => first | assumption | exact L2.upd_same); (case hx => rfl))
  | ((with_reducible refine' Rd.ixT ?he ?hx ?_); (case he => first | assumption | exact L2.upd_same); (case hx => rfl))
  | ((with_reducible refine' Rd.setL ?he ?hx ?_); (case he => first | assumption | exact L2.upd_same); (case hx => rfl)))
local macro_rules | `(tactic| walk_at "rd") => `(tactic| first
  | ((with_reducible refine' Rd.isi ?h1 ?h2 ?h3 ?_); (case h1 => first | exact L2.ClsV.ty _ | exact L2.ClsV.own _);
     (case h2 => first | exact L2.TyX.base L2.TyOf.non | exact L2.TyX.base (L2.TyOf.bl _) | exact L2.TyX.base (L2.TyOf.int _) | exact L2.TyX.base (L2.TyOf.str _) | exact L2.TyX.base (L2.TyOf.tup (by assumption)) | exact L2.TyX.base (L2.TyOf.lst (by assumption)));
     (case h3 => first | exact L2.kit_ty (r := true) (by decide +kernel) | exact L2.kit_ty (r := false) (by decide +kernel)))
  | with_reducible refine Rd.isT ?_ | with_reducible refine Rd.isnT ?_)
local macro_rules | `(tactic| walk_at "rds") => `(tactic| repeat (first | walk_at "rd" | assumption))
namespace K78
open PySem PySem.Spec PyProof.Rows L2 L2H Err
abbrev sCopy : Stmt := topS 20
theorem scCopy : FnScope ["value", "part"] ["value"] (defScope sCopy) := ⟨rfl, rfl, rfl, by decide +kernel, rfl, by decide +kernel, by decide +kernel⟩

section
variable {P : Program} {w : World} {K : PySem.W.Frag} {mg : Str → Option Value} {base : Heap}
theorem sz_small {i : Nat} {x : V} {xs ys : List V} (h : ys.length = i) (hx : xs[i]? = some x) (hl : xs.length ≤ 1000) : ys.length < sizeLine := by
  have y := (List.getElem?_eq_some_iff.mp hx).1
  rw [sizeLine_eq]
  omega
set_option pp.maxSteps 3000 in
theorem copyStep {f : Addr} {fd : FuncData} {k n : Nat} {R : Sp} (F : Fun K "_law_copy" "_law_copy" sCopy f fd) (T : Tx mg) (D : Dn P w K mg base CX0 "_law_copy" k ["value"] R) (hR : ∀ m, n = m + 1 → R = spCopy m) : FnOk P w K mg base CX0 (k + 1) f fd ["value"] (spCopy n) := by
  refine F.ok scCopy (fun vs H Q E h => ?_) (fun cdv A outer s H vs Q E hr h => ?_)
  · obtain ⟨t, v, rfl, _⟩ := h
    rfl
  · obtain ⟨B, v, rfl, ht, he, kk⟩ := h
    refine ⟨_, (pss_cons (ps_if (pt_val (pe_callB call_isi (by rfl) T.n_isinstance (by decide +kernel) (pa_cons (pv 0) (pa_cons (pe_bltn (v := .ty "tuple") (u := .type "tuple") rfl T.n_tuple (by decide +kernel) rfl) pa_nil))))
    (pss_one (ps_ret (pe_callTy call_tuple_of (by rfl) T.n_tuple (by decide +kernel) (pa_cons (pe_lc (own := [("part", 1)]) (g := gName 1) (by rfl) scCopy.nd (pi_tup (pv 0)) (blkOk_by (own := [("part", 1)]) (N := ["value", "part"]) (sc := defScope sCopy) (by decide +kernel)) (fun _ _ _ _ _ => pg_name (i := 1) scCopy.nd rfl (Or.inl rfl)) (fun _ _ _ _ _ => pts_nil) (fun _ _ _ _ _ => (pe_dn D (hr.mono (Nat.le_refl _)) (pa_cons (pv 1) pa_nil)))) pa_nil))))
    pss_nil)
    (pss_cons (ps_if (pt_val (pe_callB call_isi (by rfl) T.n_isinstance (by decide +kernel) (pa_cons (pv 0) (pa_cons (pe_bltn (v := .ty "list") (u := .type "list") rfl T.n_list (by decide +kernel) rfl) pa_nil))))
    (pss_one (ps_ret (pe_lc (own := [("part", 1)]) (g := gName 1) (by rfl) scCopy.nd (pi_list (pv 0)) (blkOk_by (own := [("part", 1)]) (N := ["value", "part"]) (sc := defScope sCopy) (by decide +kernel)) (fun _ _ _ _ _ => pg_name (i := 1) scCopy.nd rfl (Or.inl rfl)) (fun _ _ _ _ _ => pts_nil) (fun _ _ _ _ _ => (pe_dn D (hr.mono (Nat.le_refl _)) (pa_cons (pv 1) pa_nil))))))
    pss_nil)
    (pss_one (ps_ret (pv 0))))), ?_⟩
    have st0 : L2.start ["value", "part"] [v] = [some v, none] := rfl
    rw [st0]
    -- a row's copy: what is made so far
    have row : ∀ (m : Nat) (xs : List V) (d : Addr), n = m + 1 → (∀ (i : Nat) (x y : V), xs[i]? = some x → xs[i]? = some y → Eqd B H m x y) → H d = none → ∀ (i : Nat) (x : V) (H3 : Hp) (ys : List V), xs[i]? = some x → xs.length ≤ 1000 →
        ys.length = i → H3 d = some (.lst ys) → Same H H3 → (∀ (j : Nat) (x y : V), xs[j]? = some x → ys[j]? = some y → Eqd (And1 B d) H3 m x y) → ∀ (Q' : VK),
        (∀ (y : V) (H4 : Hp), H4 d = some (.lst ys) → Same H (upd H4 d (.lst (ys ++ [y]))) → (∀ (j : Nat) (x y' : V), xs[j]? = some x → (ys ++ [y])[j]? = some y' → Eqd (And1 B d) (upd H4 d (.lst (ys ++ [y]))) m x y') → Q' y H4) → R [x] H3 Q' E0 := by
      intro m xs d en r hd i x H3 ys hx hl ly e3 s3 r3 Q' k
      rw [hR m en]
      have st3 : Std (And1 B d) H3 := fun b hb => by
        rcases hb with hb | hb
        · obtain ⟨o, ho⟩ := ht b hb
          exact ⟨o, s3 _ _ ho⟩
        · exact ⟨_, by rw [hb]; exact e3⟩
      have ex : Eqd (And1 B d) H3 m x x := ((r i x x hx hx).and1 hd).mono (Kp.of s3)
      refine ⟨And1 B d, x, rfl, st3, ex, fun y H4 s4 ey => ?_⟩
      have kp : Kp (And1 B d) H4 (upd H4 d (.lst (ys ++ [y]))) := Kp.put (.inr rfl)
      refine k y H4 (s4 _ _ e3) (same_put hd (s3.trans s4)) fun j x' y' h1 h2 => ?_
      by_cases hj : j < ys.length
      · rw [List.getElem?_append_left hj] at h2
        exact ((r3 j x' y' h1 h2).mono (Kp.of s4)).mono kp
      · have ej : j = ys.length := by
          have := (List.getElem?_eq_some_iff.mp h2).1
          rw [List.length_append, List.length_singleton] at this
          omega
        rw [ej, List.getElem?_append_right (Nat.le_refl _)] at h2
        simp at h2
        subst h2
        rw [ej, ly, hx] at h1
        cases h1
        exact ey.mono kp
    cases he with
    | non =>
      walk_at "rds"
      exact kk _ _ (Same.refl _) .non
    | bl b =>
      walk_at "rds"
      exact kk _ _ (Same.refl _) (.bl b)
    | int i =>
      walk_at "rds"
      exact kk _ _ (Same.refl _) (.int i)
    | str z =>
      walk_at "rds"
      exact kk _ _ (Same.refl _) (.str z)
    | @tup m p _ xs ys0 np _ ep eq0 _ hl r =>
      have e0 : ys0 = xs := by
        rw [ep] at eq0
        exact (HO.tup.inj (Option.some.inj eq0)).symm
      subst e0
      walk_at "rds"
      refine ⟨_, rfl, _, rfl, ⟨_, SqT.of ep⟩, fun d hd => lc_tup (K := K) (a := p) (xs := ys0) (fun i H3 => ∃ ys : List V, ys.length = i ∧ H3 d = some (.lst ys) ∧ Same H H3 ∧ ∀ (j : Nat) (x y : V), ys0[j]? = some x → ys[j]? = some y → Eqd (And1 B d) H3 m x y)
        ⟨[], rfl, upd_same, same_put hd (Same.refl _), fun j x y _ h => by simp at h⟩ (fun i H3 _ ⟨ys, _, _, s3, _⟩ => SqT.of (s3 _ _ ep)) ?_ ?_⟩
      · rintro i x H3 hx ⟨ys, ly, e3, s3, r3⟩
        refine ⟨rfl, ?_⟩
        walk_at "rds"
        exact row m ys0 d rfl r hd i x H3 ys hx hl ly e3 s3 r3 _ fun y H4 e4 s5 r5 => ⟨ys, e4, sz_small ly hx hl, ys ++ [y], by rw [List.length_append, ly]; rfl, upd_same, s5, r5⟩
      · rintro H4 ⟨ys, ly, e4, s4, r4⟩
        refine ⟨_, _, rfl, .inl ⟨SqL.of e4, fun q hq => ?_⟩⟩
        have hq0 : H q = none := s4.free hq
        have s5 : Same H (upd H4 q (.tup ys)) := same_put hq0 s4
        refine kk _ _ s5 (.tup np (fun z => ?_) (s5 _ _ ep) upd_same ly.symm hl fun j x y h1 h2 => ?_)
        · obtain ⟨o, ho⟩ := ht q z
          rw [ho] at hq0
          cases hq0
        · exact ((r4 j x y h1 h2).un1).mono fun b o nb hb => by rw [upd_ne (ne_of_none hb hq)]; exact hb
    | @lst m p _ xs ys0 np _ ep eq0 _ hl r =>
      have e0 : ys0 = xs := by
        rw [ep] at eq0
        exact (HO.lst.inj (Option.some.inj eq0)).symm
      subst e0
      walk_at "rds"
      refine ⟨_, rfl, _, rfl, ⟨_, SqL.of ep⟩, fun d hd => lc_list (K := K) (a := p) (xs := ys0) (fun i H3 => ∃ ys : List V, ys.length = i ∧ H3 d = some (.lst ys) ∧ Same H H3 ∧ ∀ (j : Nat) (x y : V), ys0[j]? = some x → ys[j]? = some y → Eqd (And1 B d) H3 m x y)
        ⟨[], rfl, upd_same, same_put hd (Same.refl _), fun j x y _ h => by simp at h⟩ (fun i H3 _ ⟨ys, _, _, s3, _⟩ => SqL.of (s3 _ _ ep)) ?_ ?_⟩
      · rintro i x H3 hx ⟨ys, ly, e3, s3, r3⟩
        refine ⟨rfl, ?_⟩
        walk_at "rds"
        exact row m ys0 d rfl r hd i x H3 ys hx hl ly e3 s3 r3 _ fun y H4 e4 s5 r5 => ⟨ys, e4, sz_small ly hx hl, ys ++ [y], by rw [List.length_append, ly]; rfl, upd_same, s5, r5⟩
      · rintro H4 ⟨ys, ly, e4, s4, r4⟩
        refine kk _ _ s4 (.lst np (fun z => ?_) (s4 _ _ ep) e4 ly.symm hl fun j x y h1 h2 => (r4 j x y h1 h2).un1)
        obtain ⟨o, ho⟩ := ht d z
        rw [ho] at hd
        cases hd
end
end K78
end SecB3
section SecB4
set_option Elab.async false
set_option linter.all false
set_option maxRecDepth 100000
set_option maxHeartbeats 4000000
set_option pp.deepTerms false
local macro_rules | `(tactic| walk_at "rd") => `(tactic| first
  | with_reducible refine Rd.seq ?_ | with_reducible refine Rd.asg ?_ | with_reducible refine Rd.nm ?_ | with_reducible refine Rd.sub ?_ | with_reducible refine Rd.ret ?_ | with_reducible refine Rd.retN ?_
  | with_reducible refine Rd.drop ?_ | with_reducible refine Rd.ifs ?_ | with_reducible refine Rd.next ?_ | with_reducible refine Rd.cst ?_ | with_reducible refine Rd.op ?_ | with_reducible refine Rd.un ?_
  | with_reducible refine Rd.test ?_ | with_reducible refine Rd.tb' ?_ | with_reducible refine Rd.exb ?_ | with_reducible refine Rd.exi ?_ | with_reducible refine Rd.and2 ?_ | with_reducible refine Rd.or2 ?_ | with_reducible refine Rd.not1 ?_
  | with_reducible refine Rd.andV ?_ | with_reducible refine Rd.orV ?_ | with_reducible refine Rd.notV ?_ | with_reducible refine Rd.nil ?_ | with_reducible refine Rd.cons ?_ | with_reducible refine Rd.cb ?_
  | with_reducible refine Rd.i0 ?_ | with_reducible refine Rd.u1 ?_ | with_reducible refine Rd.call ?_ | with_reducible refine Rd.tup ?_ | with_reducible refine Rd.lst ?_ | with_reducible refine Rd.sl ?_ | with_reducible refine Rd.no ?_ | with_reducible refine Rd.part ?_ | with_reducible refine Rd.at_ ?_ | with_reducible refine Rd.yes ?_ | with_reducible refine Rd.lc ?_ | with_reducible refine Rd.rng ?_ | ((with_reducible refine' Rd.lenKL ?he ?_); (case he => first | assumption | exact L2.upd_same)) | ((with_reducible refine' Rd.lenKT ?he ?_); (case he => first | assumption | exact L2.upd_same))
  | ((with_reducible refine' Rd.var ?hv ?_); (case hv => exact rfl))
  | ((with_reducible refine' Rd.ifT ?hv ?_); (case hv => exact rfl)) | ((with_reducible refine' Rd.ifF ?hv ?_); (case hv => exact rfl))
  | ((with_reducible refine' Rd.eq ?hv ?_); (case hv => exact rfl))
  | ((with_reducible refine' Rd.ne ?hv ?_); (case hv => exact rfl))
  | with_reducible refine ⟨rfl, ?_⟩ | with_reducible refine Or.inl ⟨_, rfl, ?_⟩ | with_reducible refine Or.inr ⟨_, rfl, ?_⟩ | with_reducible refine ⟨_, rfl, ?_⟩
  | ((with_reducible refine' Rd.ex2 ⟨rfl, ?hl, ?_⟩); (case hl => first | exact Or.inl ⟨_, L2.SqL.of (by first | assumption | exact L2.upd_same), rfl⟩ | exact Or.inr ⟨_, L2.SqT.of (by first | assumption | exact L2.upd_same), rfl⟩))
  | ((with_reducible refine' Rd.i1 ?hv ?_); (case hv => first | exact ⟨by decide, by decide, by decide⟩ | exact Or.inr ⟨by decide, by decide⟩ | exact Or.inl ⟨by decide, by decide⟩ | exact ⟨by decide, by decide⟩ | decide | assumption | (show _ ≠ _; omega) | (refine ⟨?_, ?_⟩ <;> omega)))
  | ((with_reducible refine' Rd.ixL ?he ?hx ?_); (case he => first | assumption | exact L2.upd_same); (case hx => rfl))
  | ((with_reducible refine' Rd.ixT ?he ?hx ?_); (case he => first | assumption | exact L2.upd_same); (case hx => rfl))
  | ((with_reducible refine' Rd.setL ?he ?hx ?_); (case he => first | assumption | exact L2.upd_same); (case hx => rfl)))
local macro_rules | `(tactic| walk_at "rd") => `(tactic| first
  | ((with_reducible refine' Rd.isi ?h1 ?h2 ?h3 ?_); (case h1 => first | exact L2.ClsV.ty _ | exact L2.ClsV.own _);
     (case h2 => first | exact L2.TyX.base L2.TyOf.non | exact L2.TyX.base (L2.TyOf.bl _) | exact L2.TyX.base (L2.TyOf.int _) | exact L2.TyX.base (L2.TyOf.str _) | exact L2.TyX.base (L2.TyOf.tup (by assumption)) | exact L2.TyX.base (L2.TyOf.lst (by assumption)));
     (case h3 => first | exact L2.kit_ty (r := true) (by decide +kernel) | exact L2.kit_ty (r := false) (by decide +kernel)))
  | with_reducible refine Rd.isT ?_ | with_reducible refine Rd.isnT ?_)
local macro_rules | `(tactic| walk_at "rds") => `(tactic| repeat (first | walk_at "rd" | assumption))
namespace K78
open PySem PySem.Spec PyProof.Rows L2 L2H Err
abbrev sSame : Stmt := topS 21
theorem scSame : FnScope ["got", "due", "k"] ["got", "due"] (defScope sSame) := ⟨rfl, rfl, rfl, by decide +kernel, rfl, by decide +kernel, by decide +kernel⟩

section
variable {P : Program} {w : World} {K : PySem.W.Frag} {mg : Str → Option Value} {base : Heap}
set_option pp.maxSteps 3000 in
theorem sameStep {f : Addr} {fd : FuncData} {k n : Nat} {R : Sp} (F : Fun K "_law_same" "_law_same" sSame f fd) (T : Tx mg) (D : Dn P w K mg base CX0 "_law_same" k ["got", "due"] R) (hR : ∀ m, n = m + 1 → R = spSame m) : FnOk P w K mg base CX0 (k + 1) f fd ["got", "due"] (spSame n) := by
  refine F.ok scSame (fun vs H Q E h => ?_) (fun cdv A outer s H vs Q E hr h => ?_)
  · obtain ⟨t, v, w, rfl, _⟩ := h
    rfl
  · obtain ⟨B, v, u, rfl, he, kk⟩ := h
    refine ⟨_, (pss_cons (ps_if (pt_cmpR op_isN (pv 1) pe_non (nomark _))
    (pss_one (ps_ret (pe_cmpR op_isN (pv 0) pe_non (nomark _))))
    pss_nil)
    (pss_cons (ps_if (pt_cmpR op_is_bl (pv 1) pe_bl (nomark _))
    (pss_one (ps_ret (pe_cmpR op_is_bl (pv 0) pe_bl (nomark _))))
    pss_nil)
    (pss_cons (ps_if (pt_cmpR op_is_bl (pv 1) pe_bl (nomark _))
    (pss_one (ps_ret (pe_cmpR op_is_bl (pv 0) pe_bl (nomark _))))
    pss_nil)
    (pss_cons (ps_if (pt_val (pe_callB call_isi (by rfl) T.n_isinstance (by decide +kernel) (pa_cons (pv 1) (pa_cons (pe_bltn (v := .ty "int") (u := .type "int") rfl T.n_int (by decide +kernel) rfl) pa_nil))))
    (pss_one (ps_ret (pe_and (pe_callB call_isi (by rfl) T.n_isinstance (by decide +kernel) (pa_cons (pv 0) (pa_cons (pe_bltn (v := .ty "int") (u := .type "int") rfl T.n_int (by decide +kernel) rfl) pa_nil))) (pe_and (pe_not (pe_callB call_isi (by rfl) T.n_isinstance (by decide +kernel) (pa_cons (pv 0) (pa_cons (pe_bltn (v := .ty "bool") (u := .type "bool") rfl T.n_bool (by decide +kernel) rfl) pa_nil)))) (pe_one (pe_cmpR op_eq (pv 0) (pv 1) (nomark _)))))))
    pss_nil)
    (pss_cons (ps_if (pt_val (pe_callB call_isi (by rfl) T.n_isinstance (by decide +kernel) (pa_cons (pv 1) (pa_cons (pe_bltn (v := .ty "str") (u := .type "str") rfl T.n_str (by decide +kernel) rfl) pa_nil))))
    (pss_one (ps_ret (pe_and (pe_callB call_isi (by rfl) T.n_isinstance (by decide +kernel) (pa_cons (pv 0) (pa_cons (pe_bltn (v := .ty "str") (u := .type "str") rfl T.n_str (by decide +kernel) rfl) pa_nil))) (pe_one (pe_cmpR op_eq (pv 0) (pv 1) (nomark _))))))
    pss_nil)
    (pss_cons (ps_if (PW.pt (pw_and (pt_val (pe_callB call_isi (by rfl) T.n_isinstance (by decide +kernel) (pa_cons (pv 1) (pa_cons (pe_bltn (v := .ty "tuple") (u := .type "tuple") rfl T.n_tuple (by decide +kernel) rfl) pa_nil)))) (pw_and1 (pt_not (pt_val (pe_callB call_isi (by rfl) T.n_isinstance (by decide +kernel) (pa_cons (pv 0) (pa_cons (pe_bltn (v := .ty "tuple") (u := .type "tuple") rfl T.n_tuple (by decide +kernel) rfl) pa_nil))))))))
    (pss_one (ps_ret pe_bl))
    pss_nil)
    (pss_cons (ps_if (PW.pt (pw_and (pt_val (pe_callB call_isi (by rfl) T.n_isinstance (by decide +kernel) (pa_cons (pv 1) (pa_cons (pe_bltn (v := .ty "list") (u := .type "list") rfl T.n_list (by decide +kernel) rfl) pa_nil)))) (pw_and1 (pt_not (pt_val (pe_callB call_isi (by rfl) T.n_isinstance (by decide +kernel) (pa_cons (pv 0) (pa_cons (pe_bltn (v := .ty "list") (u := .type "list") rfl T.n_list (by decide +kernel) rfl) pa_nil))))))))
    (pss_one (ps_ret pe_bl))
    pss_nil)
    (pss_one (ps_ret (pe_and (pe_cmpR op_eq (pe_callB call_len (by rfl) T.n_len (by decide +kernel) (pa_cons (pv 0) pa_nil)) (pe_callB call_len (by rfl) T.n_len (by decide +kernel) (pa_cons (pv 1) pa_nil)) (nomark _)) (pe_one (pe_callB (cr_all rfl) (by rfl) T.n_all (by decide +kernel) (pa_cons (pe_lc (own := [("k", 2)]) (g := gName 2) (by rfl) scSame.nd (pi_range1 rfl T.n_range (pa_cons (pe_callB call_len (by rfl) T.n_len (by decide +kernel) (pa_cons (pv 1) pa_nil)) pa_nil)) (blkOk_by (own := [("k", 2)]) (N := ["got", "due", "k"]) (sc := defScope sSame) (by decide +kernel)) (fun _ _ _ _ _ => pg_name (i := 2) scSame.nd rfl (Or.inl rfl)) (fun _ _ _ _ _ => pts_nil) (fun _ _ _ _ _ => (pe_dn D (hr.mono (Nat.le_refl _)) (pa_cons (pe_ix (r := rIx K) ix_seq (pv 0) (pv 2) (fun _ _ => rfl)) (pa_cons (pe_ix (r := rIx K) ix_seq (pv 1) (pv 2) (fun _ _ => rfl)) pa_nil))))) pa_nil))))))))))))), ?_⟩
    have st0 : L2.start ["got", "due", "k"] [v, u] = [some v, some u, none] := rfl
    rw [st0]
    cases he with
    | non =>
      walk_at "rds"
      exact kk _ (Same.refl _)
    | bl b =>
      cases b <;>
      · walk_at "rds"
        exact kk _ (Same.refl _)
    | int i =>
      walk_at "rds"
      show Q (V.bl (decide (V.int i = V.int i))) H
      rw [decide_eq_true rfl]
      exact kk _ (Same.refl _)
    | str z =>
      walk_at "rds"
      show Q (V.bl (decide (V.str z = V.str z))) H
      rw [decide_eq_true rfl]
      exact kk _ (Same.refl _)
    | @tup m p q xs ys np nq ep eq l hl r =>
      walk_at "rds"
      refine Rd.ifT (decide_eq_true (by rw [l])) ?_
      walk_at "rds"
      refine ⟨by omega, by omega, fun d hd => ?_⟩
      rw [Int.toNat_natCast]
      refine lc_range (lo := 0) (n := ys.length) (fun i H3 => H3 d = some (.lst ((List.replicate i true).map V.bl)) ∧ Same H H3) ⟨upd_same, same_put hd (Same.refl _)⟩ ?_ ?_
      · rintro i H3 hi ⟨e3, s3⟩
        have hi' : i < xs.length := by omega
        refine ⟨rfl, ?_⟩
        walk_at "rds"
        refine .inr (.inl (Rd.ixT (s3 _ _ ep) (v := xs[i]) (at_of (j := i) (by omega) (List.getElem?_eq_getElem hi')) ?_))
        walk_at "rds"
        refine .inr (.inl (Rd.ixT (s3 _ _ eq) (v := ys[i]) (at_of (j := i) (by omega) (List.getElem?_eq_getElem hi)) ?_))
        walk_at "rds"
        show R [xs[i], ys[i]] H3 _ E0
        rw [hR m rfl]
        refine ⟨B, _, _, rfl, (r i _ _ (List.getElem?_eq_getElem hi') (List.getElem?_eq_getElem hi)).mono (Kp.of s3), fun H4 s4 => ⟨_, s4 _ _ e3, ?_, ?_, same_put hd (s3.trans s4)⟩⟩
        · rw [List.length_map, List.length_replicate, sizeLine_eq]
          omega
        · rw [upd_same, List.replicate_succ', List.map_append]
          rfl
      · rintro H4 ⟨e4, s4⟩
        walk_at "rds"
        refine ⟨d, _, rfl, SqL.of e4, ?_⟩
        have ea : (List.replicate ys.length true).all id = true := by simp
        rw [ea]
        exact kk _ s4
    | @lst m p q xs ys np nq ep eq l hl r =>
      walk_at "rds"
      refine Rd.ifT (decide_eq_true (by rw [l])) ?_
      walk_at "rds"
      refine ⟨by omega, by omega, fun d hd => ?_⟩
      rw [Int.toNat_natCast]
      refine lc_range (lo := 0) (n := ys.length) (fun i H3 => H3 d = some (.lst ((List.replicate i true).map V.bl)) ∧ Same H H3) ⟨upd_same, same_put hd (Same.refl _)⟩ ?_ ?_
      · rintro i H3 hi ⟨e3, s3⟩
        have hi' : i < xs.length := by omega
        refine ⟨rfl, ?_⟩
        walk_at "rds"
        refine .inl (Rd.ixL (s3 _ _ ep) (v := xs[i]) (at_of (j := i) (by omega) (List.getElem?_eq_getElem hi')) ?_)
        walk_at "rds"
        refine .inl (Rd.ixL (s3 _ _ eq) (v := ys[i]) (at_of (j := i) (by omega) (List.getElem?_eq_getElem hi)) ?_)
        walk_at "rds"
        show R [xs[i], ys[i]] H3 _ E0
        rw [hR m rfl]
        refine ⟨B, _, _, rfl, (r i _ _ (List.getElem?_eq_getElem hi') (List.getElem?_eq_getElem hi)).mono (Kp.of s3), fun H4 s4 => ⟨_, s4 _ _ e3, ?_, ?_, same_put hd (s3.trans s4)⟩⟩
        · rw [List.length_map, List.length_replicate, sizeLine_eq]
          omega
        · rw [upd_same, List.replicate_succ', List.map_append]
          rfl
      · rintro H4 ⟨e4, s4⟩
        walk_at "rds"
        refine ⟨d, _, rfl, SqL.of e4, ?_⟩
        have ea : (List.replicate ys.length true).all id = true := by simp
        rw [ea]
        exact kk _ s4
end
end K78
end SecB4
section SecB5
set_option Elab.async false
set_option linter.all false
set_option maxRecDepth 100000
set_option maxHeartbeats 4000000
set_option pp.deepTerms false
local macro_rules | `(tactic| walk_at "rd") => `(tactic| first
  | with_reducible refine Rd.seq ?_ | with_reducible refine Rd.asg ?_ | with_reducible refine Rd.nm ?_ | with_reducible refine Rd.sub ?_ | with_reducible refine Rd.ret ?_ | with_reducible refine Rd.retN ?_
  | with_reducible refine Rd.drop ?_ | with_reducible refine Rd.ifs ?_ | with_reducible refine Rd.next ?_ | with_reducible refine Rd.cst ?_ | with_reducible refine Rd.op ?_ | with_reducible refine Rd.un ?_
  | with_reducible refine Rd.test ?_ | with_reducible refine Rd.tb' ?_ | with_reducible refine Rd.exb ?_ | with_reducible refine Rd.exi ?_ | with_reducible refine Rd.and2 ?_ | with_reducible refine Rd.or2 ?_ | with_reducible refine Rd.not1 ?_
  | with_reducible refine Rd.andV ?_ | with_reducible refine Rd.orV ?_ | with_reducible refine Rd.notV ?_ | with_reducible refine Rd.nil ?_ | with_reducible refine Rd.cons ?_ | with_reducible refine Rd.cb ?_
  | with_reducible refine Rd.i0 ?_ | with_reducible refine Rd.u1 ?_ | with_reducible refine Rd.call ?_ | with_reducible refine Rd.tup ?_ | with_reducible refine Rd.lst ?_ | with_reducible refine Rd.sl ?_ | with_reducible refine Rd.no ?_ | with_reducible refine Rd.part ?_ | with_reducible refine Rd.at_ ?_ | with_reducible refine Rd.yes ?_ | with_reducible refine Rd.fors ?_ | with_reducible refine Rd.m1 ?_ | with_reducible refine Rd.exs ?_ | with_reducible refine Rd.lc ?_ | with_reducible refine Rd.rng ?_ | ((with_reducible refine' Rd.lenKL ?he ?_); (case he => first | assumption | exact L2.upd_same)) | ((with_reducible refine' Rd.lenKT ?he ?_); (case he => first | assumption | exact L2.upd_same))
  | ((with_reducible refine' Rd.var ?hv ?_); (case hv => exact rfl))
  | ((with_reducible refine' Rd.ifT ?hv ?_); (case hv => exact rfl)) | ((with_reducible refine' Rd.ifF ?hv ?_); (case hv => exact rfl))
  | ((with_reducible refine' Rd.eq ?hv ?_); (case hv => exact rfl))
  | ((with_reducible refine' Rd.ne ?hv ?_); (case hv => exact rfl))
  | with_reducible refine ⟨rfl, ?_⟩ | with_reducible refine Or.inl ⟨_, rfl, ?_⟩ | with_reducible refine Or.inr ⟨_, rfl, ?_⟩ | with_reducible refine ⟨_, rfl, ?_⟩
  | ((with_reducible refine' Rd.ex2 ⟨rfl, ?hl, ?_⟩); (case hl => first | exact Or.inl ⟨_, L2.SqL.of (by first | assumption | exact L2.upd_same), rfl⟩ | exact Or.inr ⟨_, L2.SqT.of (by first | assumption | exact L2.upd_same), rfl⟩))
  | ((with_reducible refine' Rd.i1 ?hv ?_); (case hv => first | exact ⟨by decide, by decide, by decide⟩ | exact Or.inr ⟨by decide, by decide⟩ | exact Or.inl ⟨by decide, by decide⟩ | exact ⟨by decide, by decide⟩ | decide | assumption | (show _ ≠ _; omega) | (refine ⟨?_, ?_⟩ <;> omega) | (refine Or.inl ⟨?_, ?_⟩ <;> omega)))
  | ((with_reducible refine' Rd.ixL ?he ?hx ?_); (case he => first | assumption | exact L2.upd_same); (case hx => rfl))
  | ((with_reducible refine' Rd.ixT ?he ?hx ?_); (case he => first | assumption | exact L2.upd_same); (case hx => rfl))
  | ((with_reducible refine' Rd.setL ?he ?hx ?_); (case he => first | assumption | exact L2.upd_same); (case hx => rfl)))
local macro_rules | `(tactic| walk_at "rd") => `(tactic| first
  | ((with_reducible refine' Rd.isi ?h1 ?h2 ?h3 ?_); (case h1 => first | exact L2.ClsV.ty _ | exact L2.ClsV.own _);
     (case h2 => first | exact L2.TyX.base L2.TyOf.non | exact L2.TyX.base (L2.TyOf.bl _) | exact L2.TyX.base (L2.TyOf.int _) | exact L2.TyX.base (L2.TyOf.str _) | exact L2.TyX.base (L2.TyOf.tup (by assumption)) | exact L2.TyX.base (L2.TyOf.lst (by assumption)));
     (case h3 => first | exact L2.kit_ty (r := true) (by decide +kernel) | exact L2.kit_ty (r := false) (by decide +kernel)))
  | with_reducible refine Rd.isT ?_ | with_reducible refine Rd.isnT ?_)
local macro_rules | `(tactic| walk_at "rds") => `(tactic| repeat (first | walk_at "rd" | assumption))
namespace K78
open PySem PySem.Spec PyProof.Rows L2 L2H Err
abbrev sValue : Stmt := topS 19
theorem scValue : FnScope ["tape", "deep", "kind", "small", "signs", "k", "row", "turn"] ["tape", "deep"] (defScope sValue) := ⟨rfl, rfl, rfl, by decide +kernel, rfl, by decide +kernel, by decide +kernel⟩

theorem ones : ∀ (zs : List Str), (∀ z ∈ zs, z.length = 1) → (zs.map (fun x => x.length)).sum = zs.length
  | [], _ => rfl
  | z :: zs, h => by
    rw [List.map_cons, List.sum_cons, ones zs (fun y hy => h y (List.mem_cons_of_mem _ hy)), h z List.mem_cons_self, List.length_cons]
    omega
theorem Tape.some {t l : Addr} {ns : List Int} {H : Hp} (T : Tape t l ns H) : ∃ o, H t = some o := by
  obtain ⟨a, b, c, e, _⟩ := T.ex
  exact ⟨_, e⟩
theorem ne_new {H : Hp} {a d : Addr} (h : ∃ o, H a = some o) (n : H d = none) : d ≠ a := fun z => by
  obtain ⟨o, ho⟩ := h
  rw [z, ho] at n
  cases n
theorem Tape.put {t l d : Addr} {ns : List Int} {H : Hp} {o : HO} (T : Tape t l ns H) (n1 : d ≠ t) (n2 : d ≠ l) : Tape t l ns (upd H d o) := by
  obtain ⟨a, b, c, e, h⟩ := T.ex
  exact ⟨⟨a, b, c, by rw [upd_ne n1.symm]; exact e, h⟩, by rw [upd_ne n2.symm]; exact T.sc⟩
theorem keeps_put {t d : Addr} {H H' : Hp} {o : HO} (h : H d = none) (k : Keeps t H H') : Keeps t H (upd H' d o) := fun b u n e => by
  rw [upd_ne (ne_of_none e h)]
  exact k b u n e
theorem dep_step {d : Int} (h : 0 < d) (h2 : d ≤ 2) : dep (d - 1) + 1 ≤ dep d := by
  unfold dep
  split <;> split <;> omega
theorem dep_two : dep (2 - 1) + 1 + 24 ≤ dep 2 := by decide
section
variable {P : Program} {w : World} {K : PySem.W.Frag} {mg : Str → Option Value} {base : Heap}
set_option pp.maxSteps 3000 in
theorem valueStep {f : Addr} {fd : FuncData} {k : Nat} {d : Int} {R : Sp} (hk : 1 ≤ k) (F : Fun K "_law_value" "_law_value" sValue f fd) (T : Tx mg) (DD : Dn P w K mg base CX0 "_law_draw" 1 ["tape", "many"] spDraw) (D : Dn P w K mg base CX0 "_law_value" k ["tape", "deep"] R)
    (h0 : 0 ≤ d) (h2 : d ≤ 2) (hR : 0 < d → R = spValue (d - 1)) : FnOk P w K mg base CX0 (k + 1) f fd ["tape", "deep"] (spValue d) := by
  refine F.ok scValue (fun vs H Q E h => ?_) (fun cdv A outer s H vs Q E hr h => ?_)
  · obtain ⟨t, l, ns, B, rfl, _⟩ := h
    rfl
  · obtain ⟨t, l, ns, B, rfl, Tp, hl, Bt, hB, kk⟩ := h
    refine ⟨_, (pss_cons (ps_set (i := 2) scValue.nd rfl (Or.inl rfl) (pe_dn DD (hr.mono (by omega)) (pa_cons (pv 0) (pa_cons pe_int pa_nil))))
    (pss_cons (ps_set (i := 3) scValue.nd rfl (Or.inl rfl) (pe_op op_sub (pe_dn DD (hr.mono (by omega)) (pa_cons (pv 0) (pa_cons pe_int pa_nil))) pe_int))
    (pss_cons (ps_if (pt_cmpR op_eq (pv 2) pe_int (nomark _))
    (pss_one (ps_ret pe_non))
    pss_nil)
    (pss_cons (ps_if (pt_cmpR op_eq (pv 2) pe_int (nomark _))
    (pss_one (ps_ret (pe_cmpR op_eq (pe_dn DD (hr.mono (by omega)) (pa_cons (pv 0) (pa_cons pe_int pa_nil))) pe_int (nomark _))))
    pss_nil)
    (pss_cons (ps_if (pt_cmpR op_eq (pv 2) pe_int (nomark _))
    (pss_one (ps_ret (pe_op op_mul (pv 3) (pe_op op_pow pe_int pe_int))))
    pss_nil)
    (pss_cons (ps_if (pt_cmpR op_lt (pv 2) pe_int (nomark _))
    (pss_cons (ps_set (i := 4) scValue.nd rfl (Or.inr rfl) pe_str)
      (pss_one (ps_ret (pe_join pe_str (pe_lc (own := [("k", 5)]) (g := gName 5) (by rfl) scValue.nd (pi_range1 rfl T.n_range (pa_cons (pe_dn DD (hr.mono (by omega)) (pa_cons (pv 0) (pa_cons pe_int pa_nil))) pa_nil)) (blkOk_by (own := [("k", 5)]) (N := ["tape", "deep", "kind", "small", "signs", "k", "row", "turn"]) (sc := defScope sValue) (by decide +kernel)) (fun _ _ _ _ _ => pg_name (i := 5) scValue.nd rfl (Or.inl rfl)) (fun _ _ _ _ _ => pts_nil) (fun _ _ _ _ _ => (pe_ix (r := rIxS) ix_str (pv 4) (pe_dn DD (hr.mono (by omega)) (pa_cons (pv 0) (pa_cons (pe_callB (r := Rd.rLenK K) call_len (by rfl) T.n_len (by decide +kernel) (pa_cons (pv 4) pa_nil)) pa_nil))) (fun _ _ => rfl))))))))
    pss_nil)
    (pss_cons (ps_if (PW.pt (pw_and (pt_cmpR op_gt (pv 2) pe_int (nomark _)) (pw_and1 (pt_cmpR op_gt (pv 1) pe_int (nomark _)))))
    (pss_cons (ps_setLc (i := 6) (own := [("k", 5)]) (g := gName 5) (by rfl) scValue.nd rfl rfl (sw_true rfl rfl rfl (by decide +kernel)) (pi_range1 rfl T.n_range (pa_cons (pe_dn DD (hr.mono (by omega)) (pa_cons (pv 0) (pa_cons pe_int pa_nil))) pa_nil)) (blkOk_by (own := [("k", 5)]) (N := ["tape", "deep", "kind", "small", "signs", "k", "row", "turn"]) (sc := defScope sValue) (by decide +kernel)) (fun _ _ _ _ _ => pg_name (i := 5) scValue.nd rfl (Or.inl rfl)) (fun _ _ _ _ _ => pts_nil) (fun _ _ _ _ _ => (pe_dn D (hr.mono (by omega)) (pa_cons (pv 0) (pa_cons (pe_op op_sub (pv 1) pe_int) pa_nil)))))
      (pss_cons (ps_if (pt_cmpR op_lt (pv 2) pe_int (nomark _))
      (pss_one (ps_ret (pe_callTy call_tuple_of (by rfl) T.n_tuple (by decide +kernel) (pa_cons (pv 6) pa_nil))))
      pss_nil)
      (pss_cons (ps_for PassesOwn.never rfl (pi_range1 rfl T.n_range (pa_cons (pe_op op_mul pe_int (pe_callTy call_int1 (by rfl) T.n_int (by decide +kernel) (pa_cons (pe_and (pe_cmpR op_eq (pv 2) pe_int (nomark _)) (pe_one (pe_cmpR op_eq (pv 1) pe_int (nomark _)))) pa_nil))) pa_nil)) (pg_name (i := 7) scValue.nd rfl (Or.inl rfl))
      (pss_one (ps_set (i := 6) scValue.nd rfl (Or.inl rfl) (pe_lst (pa_cons (pv 6) pa_nil)))))
      (pss_one (ps_ret (pv 6))))))
    pss_nil)
    (pss_one (ps_ret (pv 3)))))))))), ?_⟩
    have st0 : L2.start ["tape", "deep", "kind", "small", "signs", "k", "row", "turn"] [V.ref t, V.int d] = [some (V.ref t), some (.int d), none, none, none, none, none, none] := rfl
    rw [st0]
    walk_at "rds"
    refine ⟨t, l, ns, 12, rfl, Tp, hl, by decide, by decide, fun kind H1 p1 p2 T1 k1 => ?_⟩
    walk_at "rds"
    refine ⟨t, l, ns, 41, rfl, T1, hl, by decide, by decide, fun sm H2 q1 q2 T2 k2 => ?_⟩
    walk_at "rds"
    have k12 := k1.trans k2
    refine Rd.ifB (fun _ => ?_) fun _ => ?_
    · walk_at "rds"
      exact kk _ _ T2 k12 .non
    walk_at "rds"
    refine Rd.ifB (fun _ => ?_) fun _ => ?_
    · walk_at "rds"
      refine ⟨t, l, ns, 2, rfl, T2, hl, by decide, by decide, fun v H3 _ _ T3 k3 => ?_⟩
      walk_at "rds"
      exact kk _ _ T3 (k12.trans k3) (.bl _)
    walk_at "rds"
    refine Rd.ifB (fun _ => ?_) fun _ => ?_
    · walk_at "rds"
      exact kk _ _ T2 k12 (.int _)
    walk_at "rds"
    refine Rd.ifB (fun _ => ?_) fun _ => ?_
    · walk_at "rds"
      refine ⟨t, l, ns, 9, rfl, T2, hl, by decide, by decide, fun n H3 n1 n2 T3 k3 => ?_⟩
      walk_at "rds"
      refine ⟨by omega, by omega, fun dd hd => ?_⟩
      have nt : dd ≠ t := ne_new T3.some hd
      have nl : dd ≠ l := ne_new ⟨_, T3.sc⟩ hd
      refine lc_range (lo := 0) (n := n.toNat) (fun i H4 => ∃ zs : List Str, zs.length = i ∧ (∀ z ∈ zs, z.length = 1) ∧ H4 dd = some (.lst (zs.map V.str)) ∧ Tape t l ns H4 ∧ Keeps t H3 H4)
        ⟨[], rfl, (fun z hz => by cases hz), upd_same, T3.put nt nl, keeps_put hd Keeps.refl⟩ ?_ ?_
      · rintro i H4 hi ⟨zs, lz, z1, e4, T4, k4⟩
        refine ⟨rfl, ?_⟩
        walk_at "rds"
        refine Rd.lenKS (by decide) ?_
        walk_at "rds"
        refine ⟨t, l, ns, _, rfl, T4, hl, by decide, by decide, fun v H5 v0 v1 T5 k5 => ?_⟩
        have hv : v.toNat < (Str.ofString "abz XY09_-+/:.,;!?()[]{}<>=*&#@|~^$").cps.toList.length := by
          rw [Array.length_toList]
          have v1' : v < ((Str.ofString "abz XY09_-+/:.,;!?()[]{}<>=*&#@|~^$").cps.size : Int) := v1
          omega
        refine Rd.ixS (by decide) (c := (Str.ofString "abz XY09_-+/:.,;!?()[]{}<>=*&#@|~^$").cps.toList[v.toNat]) (by have e1 := atI_nat (List.getElem?_eq_getElem hv); rw [show ((v.toNat : Nat) : Int) = v by omega] at e1; exact e1) ?_
        refine ⟨_, k5 _ _ nt e4, ?_, zs ++ [_], by rw [List.length_append, lz]; rfl, fun z hz => ?_, by rw [upd_same, List.map_append]; rfl, T5.put nt nl, keeps_put hd (k4.trans k5)⟩
        · rw [List.length_map, lz, sizeLine_eq]
          omega
        · rcases List.mem_append.mp hz with h | h
          · exact z1 z h
          · rw [List.mem_singleton.mp h]
            rfl
      · rintro H4 ⟨zs, lz, z1, e4, T4, k4⟩
        walk_at "rds"
        refine ⟨_, dd, zs, rfl, rfl, .inl (SqL.of e4), ?_, ?_⟩
        · rw [ones zs z1, lz]
          have ze : (Str.ofString "").length = 0 := by decide
          rw [ze]
          omega
        · exact kk _ _ T4 ((k12.trans k3).trans k4) (.str _)
    walk_at "rds"
    have last : ∀ (x y z w : Option V) (H' : Hp), H' = H2 → Q (.int (sm - 20)) H' := fun _ _ _ _ H' e => by
      rw [e]
      exact kk _ _ T2 k12 (.int _)
    refine Rd.ifB (fun hq => ?_) fun _ => ?_
    · walk_at "rds"
      refine Rd.ifB (fun hd0 => ?_) fun _ => ?_
      · have d0 : 0 < d := of_decide_eq_true hd0
        walk_at "rds"
        refine ⟨t, l, ns, 4, rfl, T2, hl, by decide, by decide, fun n H3 n1 n2 T3 k3 => ?_⟩
        walk_at "rds"
        refine ⟨by omega, by omega, fun dd hd => ?_⟩
        have nt : dd ≠ t := ne_new T3.some hd
        have nl : dd ≠ l := ne_new ⟨_, T3.sc⟩ hd
        refine lc_range (lo := 0) (n := n.toNat) (fun i H4 => ∃ ys : List V, ys.length = i ∧ H4 dd = some (.lst ys) ∧ Tape t l ns H4 ∧ Keeps t H3 H4 ∧ ∀ y ∈ ys, Eqd (And1 B dd) H4 (dep (d - 1)) y y)
          ⟨[], rfl, upd_same, T3.put nt nl, keeps_put hd Keeps.refl, (fun z hz => by cases hz)⟩ ?_ ?_
        · rintro i H4 hi ⟨ys, ly, e4, T4, k4, r4⟩
          refine ⟨rfl, ?_⟩
          walk_at "rds"
          show R [V.ref t, V.int (d - 1)] H4 _ E0
          rw [hR d0]
          have k0 := (k12.trans k3).trans k4
          have st : Std (And1 B dd) H4 := fun b hb => by
            rcases hb with hb | hb
            · by_cases hbt : b = t
              · rw [hbt]
                exact T4.some
              · obtain ⟨o, ho⟩ := hB b hb
                exact ⟨o, k0 b o hbt ho⟩
            · exact ⟨_, by rw [hb]; exact e4⟩
          refine ⟨t, l, ns, And1 B dd, rfl, T4, hl, .inl Bt, st, fun v H5 T5 k5 e5 => ⟨_, k5 _ _ nt e4, ?_, ys ++ [v], by rw [List.length_append, ly]; rfl, upd_same, T5.put nt nl, keeps_put hd (k4.trans k5), fun y hy => ?_⟩⟩
          · rw [ly, sizeLine_eq]
            omega
          · have kp : Kp (And1 B dd) H5 (upd H5 dd (.lst (ys ++ [v]))) := Kp.put (.inr rfl)
            rcases List.mem_append.mp hy with h | h
            · exact ((r4 y h).mono (k5.kp (.inl Bt))).mono kp
            · rw [List.mem_singleton.mp h]
              exact e5.mono kp
        · rintro H4 ⟨ys, ly, e4, T4, k4, r4⟩
          have k0 := (k12.trans k3).trans k4
          have nB : ¬ B dd := fun hb => by
            obtain ⟨o, ho⟩ := hB dd hb
            rw [(k12.trans k3) _ _ nt ho] at hd
            cases hd
          have lys : ys.length ≤ 1000 := by omega
          have rys : ∀ (i : Nat) (x y : V), ys[i]? = some x → ys[i]? = some y → Eqd B H4 (dep (d - 1)) x y := fun i x y h1 h2 => by
            rw [h1] at h2
            cases h2
            exact (r4 x (List.mem_of_getElem? h1)).un1
          have erow : Eqd B H4 (dep (d - 1) + 1) (.ref dd) (.ref dd) := .lst nB nB e4 e4 rfl lys rys
          walk_at "rds"
          refine Rd.ifB (fun _ => ?_) fun _ => ?_
          · walk_at "rds"
            refine ⟨_, _, rfl, .inl ⟨SqL.of e4, fun q hq => ?_⟩⟩
            have nq : ¬ B q := fun hb => by
              by_cases hbt : q = t
              · obtain ⟨o, ho⟩ := T4.some
                rw [hbt, ho] at hq
                cases hq
              · obtain ⟨o, ho⟩ := hB q hb
                rw [k0 _ _ hbt ho] at hq
                cases hq
            have s5 : Same H4 (upd H4 q (.tup ys)) := same_put hq (Same.refl _)
            exact kk _ _ (T4.mono s5) (k0.trans (Keeps.of s5)) (Eqd.up (.tup nq nq upd_same upd_same rfl lys fun i x y h1 h2 => (rys i x y h1 h2).mono (Kp.of s5)) (dep_step d0 h2))
          · walk_at "rds"
            have tw : ∀ b : Bool, (b = true → d = 2) → ∃ m : Nat, (24 : Int) * (if b = true then 1 else 0) = (m : Int) ∧ m ≤ 24 ∧ dep (d - 1) + 1 + m ≤ dep d := fun b h => by
              cases b with
              | false => exact ⟨0, rfl, by omega, dep_step d0 h2⟩
              | true =>
                rw [h rfl]
                exact ⟨24, rfl, Nat.le_refl _, dep_two⟩
            have turnOk : ∀ (i : Nat) (v : V) (H' : Hp) (p : Addr), Tape t l ns H' → Keeps t H2 H' → Eqd B H' (dep (d - 1) + 1 + i) v v → H' p = none → Tape t l ns (upd H' p (.lst [v])) ∧ Keeps t H2 (upd H' p (.lst [v])) ∧ Eqd B (upd H' p (.lst [v])) (dep (d - 1) + 1 + (i + 1)) (.ref p) (.ref p) := by
              intro i v H' p T' k' e' hp
              have s5 : Same H' (upd H' p (.lst [v])) := same_put hp (Same.refl _)
              have np : ¬ B p := fun hb => by
                by_cases hbt : p = t
                · obtain ⟨o, ho⟩ := T'.some
                  rw [hbt, ho] at hp
                  cases hp
                · obtain ⟨o, ho⟩ := hB p hb
                  rw [(k12.trans k') _ _ hbt ho] at hp
                  cases hp
              refine ⟨T'.mono s5, k'.trans (Keeps.of s5), .lst np np upd_same upd_same rfl (by show 1 ≤ 1000; decide) fun j x y h1 h2 => ?_⟩
              have ej : j = 0 := by
                have z := (List.getElem?_eq_some_iff.mp h1).1
                simp at z
                exact z
              subst ej
              cases h1
              cases h2
              exact e'.mono (Kp.of s5)
            have endOk : ∀ (m : Nat) (v : V) (H' : Hp), dep (d - 1) + 1 + m ≤ dep d → Tape t l ns H' → Keeps t H2 H' → Eqd B H' (dep (d - 1) + 1 + m) v v → Q v H' := fun m v H' hm T' k' e' => kk _ _ T' (k12.trans k') (e'.up hm)
            refine Rd.ifB (fun _ => ?_) fun _ => ?_
            · walk_at "rds"
              obtain ⟨m, hm, m24, hmd⟩ := tw (decide (V.int d = V.int 2)) (fun h => V.int.inj (of_decide_eq_true h))
              rw [hm]
              refine ⟨by omega, by omega, ?_⟩
              rw [Int.toNat_natCast]
              refine for_range (lo := 0) (n := m) (fun i σ H' => ∃ (v : V) (x : Option V), σ = [some (.ref t), some (.int d), some (.int kind), some (.int (sm - 20)), none, none, some v, x] ∧ Tape t l ns H' ∧ Keeps t H2 H' ∧ Eqd B H' (dep (d - 1) + 1 + i) v v)
                ⟨.ref dd, none, rfl, T4, k3.trans k4, erow⟩ ?_ ?_
              · rintro i σ' H' hi ⟨v, x, rfl, T', k', e'⟩
                walk_at "rds"
                refine ⟨by show 1 ≤ sizeLine; decide, fun p hp => ?_⟩
                walk_at "rds"
                obtain ⟨z1, z2, z3⟩ := turnOk i v H' p T' k' e' hp
                exact ⟨.ref p, _, rfl, z1, z2, z3⟩
              · rintro σ' H' ⟨v, x, rfl, T', k', e'⟩
                walk_at "rds"
                exact endOk m v H' hmd T' k' e'
            · walk_at "rds"
              obtain ⟨m, hm, m24, hmd⟩ := tw false (fun h => by cases h)
              rw [hm]
              refine ⟨by omega, by omega, ?_⟩
              rw [Int.toNat_natCast]
              refine for_range (lo := 0) (n := m) (fun i σ H' => ∃ (v : V) (x : Option V), σ = [some (.ref t), some (.int d), some (.int kind), some (.int (sm - 20)), none, none, some v, x] ∧ Tape t l ns H' ∧ Keeps t H2 H' ∧ Eqd B H' (dep (d - 1) + 1 + i) v v)
                ⟨.ref dd, none, rfl, T4, k3.trans k4, erow⟩ ?_ ?_
              · rintro i σ' H' hi ⟨v, x, rfl, T', k', e'⟩
                walk_at "rds"
                refine ⟨by show 1 ≤ sizeLine; decide, fun p hp => ?_⟩
                walk_at "rds"
                obtain ⟨z1, z2, z3⟩ := turnOk i v H' p T' k' e' hp
                exact ⟨.ref p, _, rfl, z1, z2, z3⟩
              · rintro σ' H' ⟨v, x, rfl, T', k', e'⟩
                walk_at "rds"
                exact endOk m v H' hmd T' k' e'
      · walk_at "rds"
        exact last none none none none _ rfl
    · walk_at "rds"
      exact last none none none none _ rfl
end
end K78
end SecB5
section SecB7
set_option Elab.async false
set_option linter.all false
set_option maxRecDepth 100000
set_option maxHeartbeats 4000000
namespace K78
open PySem PySem.Spec PyProof.Rows L2 L2H Err
/-- __init__ of an error with the fields nm, made at a: its dict is new, or there is none -/
def spI (C : Addr) (nm : List Str) : Sp := fun vs H Q _ => ∃ (a : Addr) (vals : List V), vs = .ref a :: vals ∧ vals.length = nm.length ∧ H a = some (exo a C none) ∧ (nm = [] → Q .non H) ∧
  (nm ≠ [] → ∀ (d : Addr) (H' : Hp), H d = none → d ≠ a → H' a = some (exo a C (some d)) → H' d = some (exd d (nm.zip vals).reverse) → (∀ b o, b ≠ a → H b = some o → H' b = some o) → Q .non H')
/-- a class of errors of the text -/
structure Kl (P : Program) (w : World) (K : PySem.W.Frag) (mg : Str → Option Value) (base : Heap) (x : Str) (C : Addr) (nm : List Str) : Prop where
  ec : Ec K C
  g : mg x = some (.ref C)
  no : ∀ f ∈ nm, PySem.W.findIn K (.ref C) f = some none
  ini : ∃ fI fd, PySem.W.findIn K (.ref C) "__init__" = some (some (.ref fI)) ∧ PySem.W.typeIn K (.ref fI) = some (.type "function") ∧ FnOk P w K mg base CX0 1 fI fd (("self" : Str) :: nm) (spI C nm) ∧ Binds K fd (("self" : Str) :: nm) [] ∧
    ∀ (s : Shared) (u0 : Value) (ws : List Value), K.In s.heap → ws.length = nm.reverse.length → BindsTo s fd ⟨[u0], nm.reverse.zip ws⟩ ((("self" : Str) :: nm).zip (u0 :: ws.reverse))
/-- the error stands, its fields in the sequence of its dict -/
def ErrO (H : Hp) (a C : Addr) (fs : List (Str × V)) : Prop := (fs = [] ∧ H a = some (exo a C none)) ∨ ∃ d, H a = some (exo a C (some d)) ∧ H d = some (exd d fs)
theorem ErrO.mono {H H' : Hp} {a C : Addr} {fs : List (Str × V)} (s : Same H H') (h : ErrO H a C fs) : ErrO H' a C fs := by
  rcases h with ⟨e, h⟩ | ⟨d, h1, h2⟩
  · exact .inl ⟨e, s _ _ h⟩
  · exact .inr ⟨d, s _ _ h1, s _ _ h2⟩
section
variable {X : Cx} {x : Str} {C : Addr} {nm : List Str} {p pos pos2 : Pos} {e : Expr} {es : List Expr} {ta : TA}
theorem pe_new (L : Kl X.prog X.w X.K X.mg X.base x C nm) (hr : Room 2 X.A) (ha : PA X (e :: es) ta) (hg : Gl X x := by rfl) (hdb : (x == ("__debug__" : Str)) = false := by decide)
    (he : starEach (e :: es) X.env = (false, eval e X.env) :: starEach es X.env := by rfl) (hpl : (backTo pos (starEach es X.env)).any (·.1) = false := by rfl) : PE X (.Call (.Name x p) (e :: es) [] pos) (tMkV C (spI C nm) ta) := by
  obtain ⟨fI, fd, iC, tI, F1, hb, _⟩ := L.ini
  exact pe_mkv L.ec.oex iC tI F1 hr hb pass0 hg L.g ha hdb he hpl
theorem pe_new0 (L : Kl X.prog X.w X.K X.mg X.base x C nm) (hr : Room 2 X.A) (hg : Gl X x := by rfl) (hdb : (x == ("__debug__" : Str)) = false := by decide) : PE X (.Call (.Name x p) [] [] pos) (tMkV C (spI C nm) tNil) := by
  obtain ⟨fI, fd, iC, tI, F1, hb, _⟩ := L.ini
  exact pe_mkv0 L.ec.oex iC tI F1 hr hb pass0 hg L.g hdb
theorem pe_newK {kws : List Keyword} {tk : TA} (L : Kl X.prog X.w X.K X.mg X.base x C nm) (hr : Room 2 X.A) (hkw : PK X kws tk) (hks : (backToKw pos (keywordEach kws X.env)).filterMap (·.1) = nm.reverse := by rfl) (hg : Gl X x := by rfl)
    (hdb : (x == ("__debug__" : Str)) = false := by decide) (hall : (backToKw pos (keywordEach kws X.env)).all (·.1.isSome) = true := by rfl)
    (hpl : ((backTo pos (starEach [] X.env)).any (·.1) || (backToKw pos (keywordEach kws X.env)).any (·.1.isNone)) = false := by rfl) : PE X (.Call (.Name x p) [] kws pos) (tMkVK C (spI C nm) List.reverse nm.reverse.length tk) := by
  obtain ⟨fI, fd, iC, tI, F1, hb, hk⟩ := L.ini
  exact pe_mkvK (g := List.reverse) (gV := List.reverse) (ks := nm.reverse) L.ec.oex iC tI F1 hr hk (fun {zs ws} _ r => by
    have go : ∀ {as : List V} {bs : List Value}, Vals as bs → Vals as.reverse bs.reverse := by
      intro as bs h
      induction h with
      | nil => exact .nil
      | cons a t ih =>
        rw [List.reverse_cons, List.reverse_cons]
        exact ih.append (.cons a .nil)
    exact go r) pass0 hg L.g hkw hall hks hdb hpl
theorem ps_rse (E : XK) (L : Kl X.prog X.w X.K X.mg X.base x C nm) (hc : X.calm = true) (hr : Room 2 X.A) (tk : L2N.Takes X (fun cls d _ H => E cls d H)) (ha : PA X (e :: es) ta) (hg : Gl X x := by rfl) (hdb : (x == ("__debug__" : Str)) = false := by decide)
    (he : starEach (e :: es) X.env = (false, eval e X.env) :: starEach es X.env := by rfl) (hpl : (backTo pos (starEach es X.env)).any (·.1) = false := by rfl) : PS X (.Raise (some (.Call (.Name x p) (e :: es) [] pos)) none pos2) (fun _ σ H => tMkO C (spI C nm) [] ta σ H fun cls d H' => E cls d H') := by
  obtain ⟨fI, fd, iC, tI, F1, hb, _⟩ := L.ini
  exact L2N.ps_raise hc tk (pmk_n L.ec.oex iC tI F1 hr hb pass0 hg L.g ha hdb he hpl)
theorem ps_rse0 (E : XK) (L : Kl X.prog X.w X.K X.mg X.base x C nm) (hc : X.calm = true) (hr : Room 2 X.A) (tk : L2N.Takes X (fun cls d _ H => E cls d H)) (hg : Gl X x := by rfl) (hdb : (x == ("__debug__" : Str)) = false := by decide) :
    PS X (.Raise (some (.Call (.Name x p) [] [] pos)) none pos2) (fun _ σ H => tMkO0 C (spI C nm) σ H fun cls d H' => E cls d H') := by
  obtain ⟨fI, fd, iC, tI, F1, hb, _⟩ := L.ini
  exact L2N.ps_raise hc tk (pmk_n0 L.ec.oex iC tI F1 hr hb pass0 hg L.g hdb)
end
/-- what the making of an error reads -/
theorem made_end {C : Addr} {nm : List Str} {vs : List V} {H : Hp} {Q : VK} (hl : vs.length = nm.length) (h1 : vs.length ≤ 1000) (q : ∀ (a : Addr) (H' : Hp), H a = none → ErrO H' a C (nm.zip vs).reverse → Same H H' → Q (.ref a) H') :
    vs.length ≤ 1000 ∧ ∀ a, H a = none → spI C nm (.ref a :: vs) (upd H a (exo a C none)) (fun v H2 => v = .non ∧ Q (.ref a) H2) (fun _ _ _ => False) := by
  refine ⟨h1, fun a na => ⟨a, vs, rfl, hl, upd_same, fun e => ⟨rfl, ?_⟩, fun ne d H' nd nda e1 e2 k => ⟨rfl, ?_⟩⟩⟩
  · subst e
    exact q a _ na (.inl ⟨rfl, upd_same⟩) (same_put na (Same.refl _))
  · refine q a H' na (.inr ⟨d, e1, e2⟩) fun b o e => ?_
    have nb : b ≠ a := ne_of_none e na
    exact k b o nb (by rw [upd_ne nb]; exact e)
/-- what the raising of an error reads -/
theorem raised_end {C : Addr} {nm : List Str} {vs : List V} {H : Hp} {E : XK} (hl : vs.length = nm.length) (h1 : vs.length ≤ 1000) (hn : nm ≠ []) (q : ∀ (d : Addr) (H' : Hp), H' d = some (.xd (nm.zip vs).reverse) → Same H H' → E (.ref C) (some d) H') :
    vs.length ≤ 1000 ∧ ∀ a, H a = none → spI C nm (.ref a :: (vs ++ [])) (upd H a (exo a C none)) (fun v H2 => v = .non ∧ ∃ (d : Addr) (fs : List (Str × V)), H2 a = some (exo a C (some d)) ∧ H2 d = some (exd d fs) ∧ H d = none ∧ E (.ref C) (some d) (upd (del H2 a) d (.xd fs))) (fun _ _ _ => False) := by
  refine ⟨h1, fun a na => ⟨a, vs ++ [], rfl, by rw [List.append_nil]; exact hl, upd_same, fun e => absurd e hn, fun ne d H' nd nda e1 e2 k => ?_⟩⟩
  rw [List.append_nil] at e2
  have nd0 : H d = none := by
    rw [upd_ne nda] at nd
    exact nd
  refine ⟨rfl, d, _, e1, e2, nd0, q d _ upd_same fun b o e => ?_⟩
  have nb : b ≠ a := ne_of_none e na
  rw [upd_ne (ne_of_none e nd0), del_ne nb]
  exact k b o nb (by rw [upd_ne nb]; exact e)
/-! the eleven classes -/
def nmC : Nat → Str
  | 0 => "InvalidPaper" | 1 => "NotUsable" | 2 => "NotClosed" | 3 => "StillNeeded" | 4 => "CutRoot" | 5 => "EmptySolid" | 6 => "Refused" | 7 => "NoDeed" | 8 => "NotStanding" | 9 => "InvalidText" | _ => "InvalidForm"
def nmI : Nat → List Str
  | 0 => ["word", "at"] | 1 => ["word", "at"] | 2 => ["point", "need"] | 3 => ["point", "other"] | 4 => ["root"] | 5 => [] | 6 => ["chain"] | 7 => ["place"] | 8 => ["name"] | 9 => ["line", "at"] | _ => ["line", "at"]
def nmF : Nat → Str
  | 0 => "PaperError" | 1 => "ShapeError" | 2 => "LiveError" | _ => "TextError"
def famI : Nat → Nat
  | 0 => 0 | 1 => 1 | 2 => 1 | 3 => 1 | 4 => 1 | 5 => 1 | 6 => 1 | 7 => 2 | 8 => 2 | 9 => 3 | _ => 3
def manyI (i : Nat) : Nat := (nmI i).length
/-- the fields as the dict has them; their values -/
def flds (i : Nat) (u v : V) : List (Str × V) := ((nmI i).zip [u, v]).reverse
def valsI (i : Nat) (u v : V) : List V := [u, v].take (manyI i)
structure Cf (P : Program) (w : World) (K : PySem.W.Frag) (mg : Str → Option Value) (base : Heap) (Cs Fs : Nat → Addr) (M : Addr) : Prop where
  kl : ∀ i, i < 11 → Kl P w K mg base (nmC i) (Cs i) (nmI i)
  gF : ∀ j, j < 4 → mg (nmF j) = some (.ref (Fs j))
  gM : mg "MeshError" = some (.ref M)
  kCC : ∀ i j, i < 11 → j < 11 → PySem.W.kitOne K (.ref (Cs i)) (.ref (Cs j)) = some (i == j)
  kCF : ∀ i j, i < 11 → j < 4 → PySem.W.kitOne K (.ref (Cs i)) (.ref (Fs j)) = some (famI i == j)
  kCM : ∀ i, i < 11 → PySem.W.kitOne K (.ref (Cs i)) (.ref M) = some true
  kCV : ∀ i, i < 11 → PySem.W.kitOne K (.ref (Cs i)) (.type "ValueError") = some true
  xCC : ∀ i j, i < 11 → j < 11 → PySem.W.exmOne K (.ref (Cs i)) (.ref (Cs j)) = some (i == j)
  xCF : ∀ i j, i < 11 → j < 4 → PySem.W.exmOne K (.ref (Cs i)) (.ref (Fs j)) = some (famI i == j)
  xCM : ∀ i, i < 11 → PySem.W.exmOne K (.ref (Cs i)) (.ref M) = some true
  xP : ∀ i, i < 11 → PySem.W.exmAny K (.ref (Cs i)) [.ref (Cs 0), .ref (Cs 1)] = some (i == 0 || i == 1)
/-- the error at a, tracked or held fast -/
def EAt (pl : List (Addr × Obj)) (H : Hp) (a C : Addr) (d : Option Addr) : Prop := H a = some (exo a C d) ∨ ∃ oe, (a, oe) ∈ pl ∧ Zc (.ref C) d oe ∧ ∃ vs, oe.data = .fields vs
def ErrX (pl : List (Addr × Obj)) (H : Hp) (a C : Addr) (fs : List (Str × V)) : Prop := (fs = [] ∧ EAt pl H a C none) ∨ ∃ d, EAt pl H a C (some d) ∧ Dk H d fs
theorem ErrO.x {pl : List (Addr × Obj)} {H : Hp} {a C : Addr} {fs : List (Str × V)} (h : ErrO H a C fs) : ErrX pl H a C fs := by
  rcases h with ⟨e, h⟩ | ⟨d, h1, h2⟩
  · exact .inl ⟨e, .inl h⟩
  · exact .inr ⟨d, .inl h1, .inr h2⟩
theorem EAt.mono {pl : List (Addr × Obj)} {H H' : Hp} {a C : Addr} {d : Option Addr} (s : Same H H') (h : EAt pl H a C d) : EAt pl H' a C d := by
  rcases h with h | h
  · exact .inl (s _ _ h)
  · exact .inr h
theorem ErrX.mono {pl : List (Addr × Obj)} {H H' : Hp} {a C : Addr} {fs : List (Str × V)} (s : Same H H') (h : ErrX pl H a C fs) : ErrX pl H' a C fs := by
  rcases h with ⟨e, h⟩ | ⟨d, h1, h2⟩
  · exact .inl ⟨e, h.mono s⟩
  · exact .inr ⟨d, h1.mono s, h2.mono s⟩
theorem EAt.seen {X : Cx} {H : Hp} {a C : Addr} {d : Option Addr} (h : EAt X.pn H a C d) : Seen X H a C d := by
  rcases h with h | ⟨oe, m, z, f⟩
  · exact seen_exo h
  · exact seen_pin m z f
/-- the promises -/
def spMany : Sp := fun vs H Q _ => ∃ i : Nat, vs = [.int i] ∧ i < 11 ∧ ∀ H' : Hp, Same H H' → Q (.int (manyI i)) H'
def spFamily : Sp := fun vs H Q _ => ∃ i : Nat, vs = [.int i] ∧ i < 11 ∧ ∀ H' : Hp, Same H H' → Q (.int (famI i)) H'
def spMade (Cs : Nat → Addr) : Sp := fun vs H Q _ => ∃ (i : Nat) (u v : V), vs = [.int i, u, v] ∧ i < 11 ∧ ∀ (a : Addr) (H' : Hp), H a = none → ErrO H' a (Cs i) (flds i u v) → Same H H' → Q (.ref a) H'
def spThrown (Cs : Nat → Addr) : Sp := fun vs H _ E => ∃ (i : Nat) (u v : V), vs = [.int i, u, v] ∧ i < 11 ∧
  ((nmI i = [] → E (.ref (Cs i)) none H) ∧ (nmI i ≠ [] → ∀ (d : Addr) (H' : Hp), H' d = some (.xd (flds i u v)) → Same H H' → E (.ref (Cs i)) (some d) H'))
def spFields (Cs : Nat → Addr) (pl : List (Addr × Obj)) : Sp := fun vs H Q _ => ∃ (i : Nat) (a : Addr) (u v : V), vs = [.int i, .ref a] ∧ i < 11 ∧ ErrX pl H a (Cs i) (flds i u v) ∧ ∀ (p : Addr) (H' : Hp), H p = none → H' p = some (.tup (valsI i u v)) → Same H H' → Q (.ref p) H'
def spKinds (Cs : Nat → Addr) (pl : List (Addr × Obj)) : Sp := fun vs H Q _ => ∃ (i : Nat) (a : Addr) (fs : List (Str × V)), vs = [.ref a] ∧ i < 11 ∧ ErrX pl H a (Cs i) fs ∧ ∀ (p : Addr) (H' : Hp), H' p = some (.lst ((List.range 11).map fun k => V.bl (i == k))) → Same H H' → Q (.ref p) H'
def spFamilies (Cs : Nat → Addr) (pl : List (Addr × Obj)) : Sp := fun vs H Q _ => ∃ (i : Nat) (a : Addr) (fs : List (Str × V)), vs = [.ref a] ∧ i < 11 ∧ ErrX pl H a (Cs i) fs ∧ ∀ (p : Addr) (H' : Hp), H' p = some (.lst ((List.range 4).map fun k => V.bl (famI i == k))) → Same H H' → Q (.ref p) H'
def spStands (Cs : Nat → Addr) (pl : List (Addr × Obj)) : Sp := fun vs H Q _ => ∃ (i : Nat) (a : Addr) (fs : List (Str × V)), vs = [.int i, .ref a] ∧ i < 11 ∧ ErrX pl H a (Cs i) fs ∧ ∀ H' : Hp, Same H H' → Q (.bl true) H'
/-- what is told of the error that was caught: a pair, behind it the fields -/
def spBy (x : Nat → V) : Sp := fun vs H Q _ => ∃ (i : Nat) (u v : V), vs = [.int i, u, v] ∧ i < 11 ∧ ∀ (p q : Addr) (H' : Hp), H' p = some (.tup [x i, .ref q]) → H' q = some (.tup (valsI i u v)) → Same H H' → Q (.ref p) H'
end K78
end SecB7
section SecB6
set_option Elab.async false
set_option linter.all false
set_option maxRecDepth 100000
set_option maxHeartbeats 4000000
set_option pp.deepTerms false
local macro_rules | `(tactic| walk_at "rd") => `(tactic| first
  | with_reducible refine Rd.seq ?_ | with_reducible refine Rd.asg ?_ | with_reducible refine Rd.nm ?_ | with_reducible refine Rd.sub ?_ | with_reducible refine Rd.ret ?_ | with_reducible refine Rd.retN ?_
  | with_reducible refine Rd.drop ?_ | with_reducible refine Rd.ifs ?_ | with_reducible refine Rd.next ?_ | with_reducible refine Rd.cst ?_ | with_reducible refine Rd.op ?_ | with_reducible refine Rd.un ?_
  | with_reducible refine Rd.test ?_ | with_reducible refine Rd.tb' ?_ | with_reducible refine Rd.exb ?_ | with_reducible refine Rd.exi ?_ | with_reducible refine Rd.and2 ?_ | with_reducible refine Rd.or2 ?_ | with_reducible refine Rd.not1 ?_
  | with_reducible refine Rd.andV ?_ | with_reducible refine Rd.orV ?_ | with_reducible refine Rd.notV ?_ | with_reducible refine Rd.nil ?_ | with_reducible refine Rd.cons ?_ | with_reducible refine Rd.cb ?_
  | with_reducible refine Rd.i0 ?_ | with_reducible refine Rd.u1 ?_ | with_reducible refine Rd.call ?_ | with_reducible refine Rd.tup ?_ | with_reducible refine Rd.lst ?_ | with_reducible refine Rd.sl ?_ | with_reducible refine Rd.no ?_ | with_reducible refine Rd.part ?_ | with_reducible refine Rd.at_ ?_ | with_reducible refine Rd.yes ?_ | with_reducible refine Rd.fors ?_ | with_reducible refine Rd.m1 ?_ | with_reducible refine Rd.exs ?_ | with_reducible refine Rd.lc ?_ | with_reducible refine Rd.rng ?_ | ((with_reducible refine' Rd.lenKL ?he ?_); (case he => first | assumption | exact L2.upd_same)) | ((with_reducible refine' Rd.lenKT ?he ?_); (case he => first | assumption | exact L2.upd_same))
  | ((with_reducible refine' Rd.var ?hv ?_); (case hv => exact rfl))
  | ((with_reducible refine' Rd.ifT ?hv ?_); (case hv => exact rfl)) | ((with_reducible refine' Rd.ifF ?hv ?_); (case hv => exact rfl))
  | ((with_reducible refine' Rd.eq ?hv ?_); (case hv => exact rfl))
  | ((with_reducible refine' Rd.ne ?hv ?_); (case hv => exact rfl))
  | with_reducible refine ⟨rfl, ?_⟩ | with_reducible refine Or.inl ⟨_, rfl, ?_⟩ | with_reducible refine Or.inr ⟨_, rfl, ?_⟩ | with_reducible refine ⟨_, rfl, ?_⟩
  | ((with_reducible refine' Rd.ex2 ⟨rfl, ?hl, ?_⟩); (case hl => first | exact Or.inl ⟨_, L2.SqL.of (by first | assumption | exact L2.upd_same), rfl⟩ | exact Or.inr ⟨_, L2.SqT.of (by first | assumption | exact L2.upd_same), rfl⟩))
  | ((with_reducible refine' Rd.i1 ?hv ?_); (case hv => first | exact ⟨by decide, by decide, by decide⟩ | exact Or.inr ⟨by decide, by decide⟩ | exact Or.inl ⟨by decide, by decide⟩ | exact ⟨by decide, by decide⟩ | decide | assumption | (show _ ≠ _; omega) | (refine ⟨?_, ?_⟩ <;> omega) | (refine Or.inl ⟨?_, ?_⟩ <;> omega)))
  | ((with_reducible refine' Rd.ixL ?he ?hx ?_); (case he => first | assumption | exact L2.upd_same); (case hx => rfl))
  | ((with_reducible refine' Rd.ixT ?he ?hx ?_); (case he => first | assumption | exact L2.upd_same); (case hx => rfl))
  | ((with_reducible refine' Rd.setL ?he ?hx ?_); (case he => first | assumption | exact L2.upd_same); (case hx => rfl)))
local macro_rules | `(tactic| walk_at "rd") => `(tactic| first
  | ((with_reducible refine' Rd.isi ?h1 ?h2 ?h3 ?_); (case h1 => first | exact L2.ClsV.ty _ | exact L2.ClsV.own _);
     (case h2 => first | exact L2.TyX.base L2.TyOf.non | exact L2.TyX.base (L2.TyOf.bl _) | exact L2.TyX.base (L2.TyOf.int _) | exact L2.TyX.base (L2.TyOf.str _) | exact L2.TyX.base (L2.TyOf.tup (by assumption)) | exact L2.TyX.base (L2.TyOf.lst (by assumption)));
     (case h3 => first | exact L2.kit_ty (r := true) (by decide +kernel) | exact L2.kit_ty (r := false) (by decide +kernel)))
  | with_reducible refine Rd.isT ?_ | with_reducible refine Rd.isnT ?_)
local macro_rules | `(tactic| walk_at "rds") => `(tactic| repeat (first | walk_at "rd" | assumption))
namespace K78
open PySem PySem.Spec PyProof.Rows L2 L2H Err
section
variable {P : Program} {w : World} {K : PySem.W.Frag} {mg : Str → Option Value} {base : Heap}
abbrev siInvalidPaper : Stmt := inClass (topS 6) 0
theorem sciInvalidPaper : FnScope ["self", "word", "at"] ["self", "word", "at"] (defScope siInvalidPaper) := ⟨rfl, rfl, rfl, by decide +kernel, rfl, by decide +kernel, by decide +kernel⟩
theorem iniInvalidPaper {f C : Addr} {fd : FuncData} (F : Fun K "__init__" "InvalidPaper.__init__" siInvalidPaper f fd) (T : OexC K C) (h1 : PySem.W.findIn K (.ref C) "word" = some none) (h2 : PySem.W.findIn K (.ref C) "at" = some none) : FnOk P w K mg base CX0 1 f fd ["self", "word", "at"] (spI C ["word", "at"]) := by
  refine F.ok sciInvalidPaper (fun vs H Q E h => ?_) (fun cdv A outer s H vs Q E hr h => ?_)
  · obtain ⟨a, vals, rfl, hl, _⟩ := h
    show vals.length + 1 = _
    rw [hl]
    rfl
  · obtain ⟨a, vals, rfl, hl, ha, _, kk⟩ := h
    obtain ⟨v1, v2, rfl⟩ : ∃ v1 v2, vals = [v1, v2] := by
      match vals, hl with
      | [x, y], _ => exact ⟨x, y, rfl⟩
    refine ⟨_, pss_cons (ps_ost (pv 0) (pv 1)) (pss_one (ps_ost (pv 0) (pv 2))), ?_⟩
    refine ⟨_, rfl, _, rfl, a, C, rfl, T, h1, .inl ⟨ha, fun d nd ne => ?_⟩⟩
    refine ⟨_, rfl, _, rfl, a, C, rfl, T, h2, .inr ⟨d, _, upd_same, by rw [upd_ne ne, upd_same], by show 1 ≤ 900; decide, ?_⟩⟩
    refine kk (by decide) d _ nd ne (by rw [upd_ne ne.symm, upd_same]) upd_same fun b o nb e => ?_
    rw [upd_ne (ne_of_none e nd), upd_ne nb, upd_ne (ne_of_none e nd)]
    exact e
abbrev siNotUsable : Stmt := inClass (topS 7) 0
theorem sciNotUsable : FnScope ["self", "word", "at"] ["self", "word", "at"] (defScope siNotUsable) := ⟨rfl, rfl, rfl, by decide +kernel, rfl, by decide +kernel, by decide +kernel⟩
theorem iniNotUsable {f C : Addr} {fd : FuncData} (F : Fun K "__init__" "NotUsable.__init__" siNotUsable f fd) (T : OexC K C) (h1 : PySem.W.findIn K (.ref C) "word" = some none) (h2 : PySem.W.findIn K (.ref C) "at" = some none) : FnOk P w K mg base CX0 1 f fd ["self", "word", "at"] (spI C ["word", "at"]) := by
  refine F.ok sciNotUsable (fun vs H Q E h => ?_) (fun cdv A outer s H vs Q E hr h => ?_)
  · obtain ⟨a, vals, rfl, hl, _⟩ := h
    show vals.length + 1 = _
    rw [hl]
    rfl
  · obtain ⟨a, vals, rfl, hl, ha, _, kk⟩ := h
    obtain ⟨v1, v2, rfl⟩ : ∃ v1 v2, vals = [v1, v2] := by
      match vals, hl with
      | [x, y], _ => exact ⟨x, y, rfl⟩
    refine ⟨_, pss_cons (ps_ost (pv 0) (pv 1)) (pss_one (ps_ost (pv 0) (pv 2))), ?_⟩
    refine ⟨_, rfl, _, rfl, a, C, rfl, T, h1, .inl ⟨ha, fun d nd ne => ?_⟩⟩
    refine ⟨_, rfl, _, rfl, a, C, rfl, T, h2, .inr ⟨d, _, upd_same, by rw [upd_ne ne, upd_same], by show 1 ≤ 900; decide, ?_⟩⟩
    refine kk (by decide) d _ nd ne (by rw [upd_ne ne.symm, upd_same]) upd_same fun b o nb e => ?_
    rw [upd_ne (ne_of_none e nd), upd_ne nb, upd_ne (ne_of_none e nd)]
    exact e
abbrev siNotClosed : Stmt := inClass (topS 8) 0
theorem sciNotClosed : FnScope ["self", "point", "need"] ["self", "point", "need"] (defScope siNotClosed) := ⟨rfl, rfl, rfl, by decide +kernel, rfl, by decide +kernel, by decide +kernel⟩
theorem iniNotClosed {f C : Addr} {fd : FuncData} (F : Fun K "__init__" "NotClosed.__init__" siNotClosed f fd) (T : OexC K C) (h1 : PySem.W.findIn K (.ref C) "point" = some none) (h2 : PySem.W.findIn K (.ref C) "need" = some none) : FnOk P w K mg base CX0 1 f fd ["self", "point", "need"] (spI C ["point", "need"]) := by
  refine F.ok sciNotClosed (fun vs H Q E h => ?_) (fun cdv A outer s H vs Q E hr h => ?_)
  · obtain ⟨a, vals, rfl, hl, _⟩ := h
    show vals.length + 1 = _
    rw [hl]
    rfl
  · obtain ⟨a, vals, rfl, hl, ha, _, kk⟩ := h
    obtain ⟨v1, v2, rfl⟩ : ∃ v1 v2, vals = [v1, v2] := by
      match vals, hl with
      | [x, y], _ => exact ⟨x, y, rfl⟩
    refine ⟨_, pss_cons (ps_ost (pv 0) (pv 1)) (pss_one (ps_ost (pv 0) (pv 2))), ?_⟩
    refine ⟨_, rfl, _, rfl, a, C, rfl, T, h1, .inl ⟨ha, fun d nd ne => ?_⟩⟩
    refine ⟨_, rfl, _, rfl, a, C, rfl, T, h2, .inr ⟨d, _, upd_same, by rw [upd_ne ne, upd_same], by show 1 ≤ 900; decide, ?_⟩⟩
    refine kk (by decide) d _ nd ne (by rw [upd_ne ne.symm, upd_same]) upd_same fun b o nb e => ?_
    rw [upd_ne (ne_of_none e nd), upd_ne nb, upd_ne (ne_of_none e nd)]
    exact e
abbrev siStillNeeded : Stmt := inClass (topS 9) 0
theorem sciStillNeeded : FnScope ["self", "point", "other"] ["self", "point", "other"] (defScope siStillNeeded) := ⟨rfl, rfl, rfl, by decide +kernel, rfl, by decide +kernel, by decide +kernel⟩
theorem iniStillNeeded {f C : Addr} {fd : FuncData} (F : Fun K "__init__" "StillNeeded.__init__" siStillNeeded f fd) (T : OexC K C) (h1 : PySem.W.findIn K (.ref C) "point" = some none) (h2 : PySem.W.findIn K (.ref C) "other" = some none) : FnOk P w K mg base CX0 1 f fd ["self", "point", "other"] (spI C ["point", "other"]) := by
  refine F.ok sciStillNeeded (fun vs H Q E h => ?_) (fun cdv A outer s H vs Q E hr h => ?_)
  · obtain ⟨a, vals, rfl, hl, _⟩ := h
    show vals.length + 1 = _
    rw [hl]
    rfl
  · obtain ⟨a, vals, rfl, hl, ha, _, kk⟩ := h
    obtain ⟨v1, v2, rfl⟩ : ∃ v1 v2, vals = [v1, v2] := by
      match vals, hl with
      | [x, y], _ => exact ⟨x, y, rfl⟩
    refine ⟨_, pss_cons (ps_ost (pv 0) (pv 1)) (pss_one (ps_ost (pv 0) (pv 2))), ?_⟩
    refine ⟨_, rfl, _, rfl, a, C, rfl, T, h1, .inl ⟨ha, fun d nd ne => ?_⟩⟩
    refine ⟨_, rfl, _, rfl, a, C, rfl, T, h2, .inr ⟨d, _, upd_same, by rw [upd_ne ne, upd_same], by show 1 ≤ 900; decide, ?_⟩⟩
    refine kk (by decide) d _ nd ne (by rw [upd_ne ne.symm, upd_same]) upd_same fun b o nb e => ?_
    rw [upd_ne (ne_of_none e nd), upd_ne nb, upd_ne (ne_of_none e nd)]
    exact e
abbrev siCutRoot : Stmt := inClass (topS 10) 0
theorem sciCutRoot : FnScope ["self", "root"] ["self", "root"] (defScope siCutRoot) := ⟨rfl, rfl, rfl, by decide +kernel, rfl, by decide +kernel, by decide +kernel⟩
theorem iniCutRoot {f C : Addr} {fd : FuncData} (F : Fun K "__init__" "CutRoot.__init__" siCutRoot f fd) (T : OexC K C) (h1 : PySem.W.findIn K (.ref C) "root" = some none) : FnOk P w K mg base CX0 1 f fd ["self", "root"] (spI C ["root"]) := by
  refine F.ok sciCutRoot (fun vs H Q E h => ?_) (fun cdv A outer s H vs Q E hr h => ?_)
  · obtain ⟨a, vals, rfl, hl, _⟩ := h
    show vals.length + 1 = _
    rw [hl]
    rfl
  · obtain ⟨a, vals, rfl, hl, ha, _, kk⟩ := h
    obtain ⟨v1, rfl⟩ : ∃ v1, vals = [v1] := by
      match vals, hl with
      | [x], _ => exact ⟨x, rfl⟩
    refine ⟨_, pss_one (ps_ost (pv 0) (pv 1)), ?_⟩
    refine ⟨_, rfl, _, rfl, a, C, rfl, T, h1, .inl ⟨ha, fun d nd ne => ?_⟩⟩
    refine kk (by decide) d _ nd ne upd_same (by rw [upd_ne ne, upd_same]; rfl) fun b o nb e => ?_
    rw [upd_ne nb, upd_ne (ne_of_none e nd)]
    exact e
abbrev siEmptySolid : Stmt := inClass (topS 11) 0
theorem sciEmptySolid : FnScope ["self"] ["self"] (defScope siEmptySolid) := ⟨rfl, rfl, rfl, by decide +kernel, rfl, by decide +kernel, by decide +kernel⟩
theorem iniEmptySolid {f C : Addr} {fd : FuncData} (F : Fun K "__init__" "EmptySolid.__init__" siEmptySolid f fd) (T : OexC K C) : FnOk P w K mg base CX0 1 f fd ["self"] (spI C []) := by
  refine F.ok sciEmptySolid (fun vs H Q E h => ?_) (fun cdv A outer s H vs Q E hr h => ?_)
  · obtain ⟨a, vals, rfl, hl, _⟩ := h
    show vals.length + 1 = _
    rw [hl]
    rfl
  · obtain ⟨a, vals, rfl, hl, ha, kk, _⟩ := h
    obtain rfl : vals = [] := List.eq_nil_of_length_eq_zero hl
    refine ⟨_, pss_one ps_pass, ?_⟩
    exact kk rfl
abbrev siRefused : Stmt := inClass (topS 12) 0
theorem sciRefused : FnScope ["self", "chain"] ["self", "chain"] (defScope siRefused) := ⟨rfl, rfl, rfl, by decide +kernel, rfl, by decide +kernel, by decide +kernel⟩
theorem iniRefused {f C : Addr} {fd : FuncData} (F : Fun K "__init__" "Refused.__init__" siRefused f fd) (T : OexC K C) (h1 : PySem.W.findIn K (.ref C) "chain" = some none) : FnOk P w K mg base CX0 1 f fd ["self", "chain"] (spI C ["chain"]) := by
  refine F.ok sciRefused (fun vs H Q E h => ?_) (fun cdv A outer s H vs Q E hr h => ?_)
  · obtain ⟨a, vals, rfl, hl, _⟩ := h
    show vals.length + 1 = _
    rw [hl]
    rfl
  · obtain ⟨a, vals, rfl, hl, ha, _, kk⟩ := h
    obtain ⟨v1, rfl⟩ : ∃ v1, vals = [v1] := by
      match vals, hl with
      | [x], _ => exact ⟨x, rfl⟩
    refine ⟨_, pss_one (ps_ost (pv 0) (pv 1)), ?_⟩
    refine ⟨_, rfl, _, rfl, a, C, rfl, T, h1, .inl ⟨ha, fun d nd ne => ?_⟩⟩
    refine kk (by decide) d _ nd ne upd_same (by rw [upd_ne ne, upd_same]; rfl) fun b o nb e => ?_
    rw [upd_ne nb, upd_ne (ne_of_none e nd)]
    exact e
abbrev siNoDeed : Stmt := inClass (topS 13) 0
theorem sciNoDeed : FnScope ["self", "place"] ["self", "place"] (defScope siNoDeed) := ⟨rfl, rfl, rfl, by decide +kernel, rfl, by decide +kernel, by decide +kernel⟩
theorem iniNoDeed {f C : Addr} {fd : FuncData} (F : Fun K "__init__" "NoDeed.__init__" siNoDeed f fd) (T : OexC K C) (h1 : PySem.W.findIn K (.ref C) "place" = some none) : FnOk P w K mg base CX0 1 f fd ["self", "place"] (spI C ["place"]) := by
  refine F.ok sciNoDeed (fun vs H Q E h => ?_) (fun cdv A outer s H vs Q E hr h => ?_)
  · obtain ⟨a, vals, rfl, hl, _⟩ := h
    show vals.length + 1 = _
    rw [hl]
    rfl
  · obtain ⟨a, vals, rfl, hl, ha, _, kk⟩ := h
    obtain ⟨v1, rfl⟩ : ∃ v1, vals = [v1] := by
      match vals, hl with
      | [x], _ => exact ⟨x, rfl⟩
    refine ⟨_, pss_one (ps_ost (pv 0) (pv 1)), ?_⟩
    refine ⟨_, rfl, _, rfl, a, C, rfl, T, h1, .inl ⟨ha, fun d nd ne => ?_⟩⟩
    refine kk (by decide) d _ nd ne upd_same (by rw [upd_ne ne, upd_same]; rfl) fun b o nb e => ?_
    rw [upd_ne nb, upd_ne (ne_of_none e nd)]
    exact e
abbrev siNotStanding : Stmt := inClass (topS 14) 0
theorem sciNotStanding : FnScope ["self", "name"] ["self", "name"] (defScope siNotStanding) := ⟨rfl, rfl, rfl, by decide +kernel, rfl, by decide +kernel, by decide +kernel⟩
theorem iniNotStanding {f C : Addr} {fd : FuncData} (F : Fun K "__init__" "NotStanding.__init__" siNotStanding f fd) (T : OexC K C) (h1 : PySem.W.findIn K (.ref C) "name" = some none) : FnOk P w K mg base CX0 1 f fd ["self", "name"] (spI C ["name"]) := by
  refine F.ok sciNotStanding (fun vs H Q E h => ?_) (fun cdv A outer s H vs Q E hr h => ?_)
  · obtain ⟨a, vals, rfl, hl, _⟩ := h
    show vals.length + 1 = _
    rw [hl]
    rfl
  · obtain ⟨a, vals, rfl, hl, ha, _, kk⟩ := h
    obtain ⟨v1, rfl⟩ : ∃ v1, vals = [v1] := by
      match vals, hl with
      | [x], _ => exact ⟨x, rfl⟩
    refine ⟨_, pss_one (ps_ost (pv 0) (pv 1)), ?_⟩
    refine ⟨_, rfl, _, rfl, a, C, rfl, T, h1, .inl ⟨ha, fun d nd ne => ?_⟩⟩
    refine kk (by decide) d _ nd ne upd_same (by rw [upd_ne ne, upd_same]; rfl) fun b o nb e => ?_
    rw [upd_ne nb, upd_ne (ne_of_none e nd)]
    exact e
abbrev siInvalidText : Stmt := inClass (topS 15) 0
theorem sciInvalidText : FnScope ["self", "line", "at"] ["self", "line", "at"] (defScope siInvalidText) := ⟨rfl, rfl, rfl, by decide +kernel, rfl, by decide +kernel, by decide +kernel⟩
theorem iniInvalidText {f C : Addr} {fd : FuncData} (F : Fun K "__init__" "InvalidText.__init__" siInvalidText f fd) (T : OexC K C) (h1 : PySem.W.findIn K (.ref C) "line" = some none) (h2 : PySem.W.findIn K (.ref C) "at" = some none) : FnOk P w K mg base CX0 1 f fd ["self", "line", "at"] (spI C ["line", "at"]) := by
  refine F.ok sciInvalidText (fun vs H Q E h => ?_) (fun cdv A outer s H vs Q E hr h => ?_)
  · obtain ⟨a, vals, rfl, hl, _⟩ := h
    show vals.length + 1 = _
    rw [hl]
    rfl
  · obtain ⟨a, vals, rfl, hl, ha, _, kk⟩ := h
    obtain ⟨v1, v2, rfl⟩ : ∃ v1 v2, vals = [v1, v2] := by
      match vals, hl with
      | [x, y], _ => exact ⟨x, y, rfl⟩
    refine ⟨_, pss_cons (ps_ost (pv 0) (pv 1)) (pss_one (ps_ost (pv 0) (pv 2))), ?_⟩
    refine ⟨_, rfl, _, rfl, a, C, rfl, T, h1, .inl ⟨ha, fun d nd ne => ?_⟩⟩
    refine ⟨_, rfl, _, rfl, a, C, rfl, T, h2, .inr ⟨d, _, upd_same, by rw [upd_ne ne, upd_same], by show 1 ≤ 900; decide, ?_⟩⟩
    refine kk (by decide) d _ nd ne (by rw [upd_ne ne.symm, upd_same]) upd_same fun b o nb e => ?_
    rw [upd_ne (ne_of_none e nd), upd_ne nb, upd_ne (ne_of_none e nd)]
    exact e
abbrev siInvalidForm : Stmt := inClass (topS 16) 0
theorem sciInvalidForm : FnScope ["self", "line", "at"] ["self", "line", "at"] (defScope siInvalidForm) := ⟨rfl, rfl, rfl, by decide +kernel, rfl, by decide +kernel, by decide +kernel⟩
theorem iniInvalidForm {f C : Addr} {fd : FuncData} (F : Fun K "__init__" "InvalidForm.__init__" siInvalidForm f fd) (T : OexC K C) (h1 : PySem.W.findIn K (.ref C) "line" = some none) (h2 : PySem.W.findIn K (.ref C) "at" = some none) : FnOk P w K mg base CX0 1 f fd ["self", "line", "at"] (spI C ["line", "at"]) := by
  refine F.ok sciInvalidForm (fun vs H Q E h => ?_) (fun cdv A outer s H vs Q E hr h => ?_)
  · obtain ⟨a, vals, rfl, hl, _⟩ := h
    show vals.length + 1 = _
    rw [hl]
    rfl
  · obtain ⟨a, vals, rfl, hl, ha, _, kk⟩ := h
    obtain ⟨v1, v2, rfl⟩ : ∃ v1 v2, vals = [v1, v2] := by
      match vals, hl with
      | [x, y], _ => exact ⟨x, y, rfl⟩
    refine ⟨_, pss_cons (ps_ost (pv 0) (pv 1)) (pss_one (ps_ost (pv 0) (pv 2))), ?_⟩
    refine ⟨_, rfl, _, rfl, a, C, rfl, T, h1, .inl ⟨ha, fun d nd ne => ?_⟩⟩
    refine ⟨_, rfl, _, rfl, a, C, rfl, T, h2, .inr ⟨d, _, upd_same, by rw [upd_ne ne, upd_same], by show 1 ≤ 900; decide, ?_⟩⟩
    refine kk (by decide) d _ nd ne (by rw [upd_ne ne.symm, upd_same]) upd_same fun b o nb e => ?_
    rw [upd_ne (ne_of_none e nd), upd_ne nb, upd_ne (ne_of_none e nd)]
    exact e
end
end K78
end SecB6
section SecB7r
set_option Elab.async false
set_option linter.all false
set_option maxRecDepth 100000
namespace Rd
open PySem PySem.Spec PyProof.Rows L2 L2H Err K78
section
variable {D : Ends} {σ : L2.St} {H : Hp} {Q : VK} {C : Addr} {sp : Sp} {ta : TA} {gV : List V → List V} {n : Nat} {E : XK}
theorem mkv (q : ta σ H fun vs H1 => vs.length ≤ 1000 ∧ ∀ a, H1 a = none → sp (.ref a :: vs) (upd H1 a (exo a C none)) (fun v H2 => v = .non ∧ Q (.ref a) H2) (fun _ _ _ => False)) : tMkV C sp ta σ H Q := q
theorem mkvK (q : ta σ H fun zs H1 => zs.length = n ∧ ∀ a, H1 a = none → sp (.ref a :: gV zs) (upd H1 a (exo a C none)) (fun v H2 => v = .non ∧ Q (.ref a) H2) (fun _ _ _ => False)) : tMkVK C sp gV n ta σ H Q := q
theorem mko {dvs : List V} (q : ta σ H fun vs H1 => vs.length ≤ 1000 ∧ ∀ a, H1 a = none → sp (.ref a :: (vs ++ dvs)) (upd H1 a (exo a C none))
  (fun v H2 => v = .non ∧ ∃ (d : Addr) (fs : List (Str × V)), H2 a = some (exo a C (some d)) ∧ H2 d = some (exd d fs) ∧ H1 d = none ∧ E (.ref C) (some d) (upd (del H2 a) d (.xd fs))) (fun _ _ _ => False)) : tMkO C sp dvs ta σ H E := q
theorem callB {sp : List (Addr × Obj) → Sp} {pl : List (Addr × Obj)} (q : ta σ H fun vs H1 => sp pl vs H1 Q E0) : tCallB sp pl ta σ H Q := q
end
end Rd
end SecB7r
section SecB8
set_option Elab.async false
set_option linter.all false
set_option maxRecDepth 100000
set_option maxHeartbeats 4000000
set_option pp.deepTerms false
local macro_rules | `(tactic| walk_at "rd") => `(tactic| first
  | with_reducible refine Rd.seq ?_ | with_reducible refine Rd.asg ?_ | with_reducible refine Rd.nm ?_ | with_reducible refine Rd.sub ?_ | with_reducible refine Rd.ret ?_ | with_reducible refine Rd.retN ?_
  | with_reducible refine Rd.drop ?_ | with_reducible refine Rd.ifs ?_ | with_reducible refine Rd.next ?_ | with_reducible refine Rd.cst ?_ | with_reducible refine Rd.op ?_ | with_reducible refine Rd.un ?_
  | with_reducible refine Rd.test ?_ | with_reducible refine Rd.tb' ?_ | with_reducible refine Rd.exb ?_ | with_reducible refine Rd.exi ?_ | with_reducible refine Rd.and2 ?_ | with_reducible refine Rd.or2 ?_ | with_reducible refine Rd.not1 ?_
  | with_reducible refine Rd.andV ?_ | with_reducible refine Rd.orV ?_ | with_reducible refine Rd.notV ?_ | with_reducible refine Rd.nil ?_ | with_reducible refine Rd.cons ?_ | with_reducible refine Rd.cb ?_
  | with_reducible refine Rd.i0 ?_ | with_reducible refine Rd.u1 ?_ | with_reducible refine Rd.call ?_ | with_reducible refine Rd.tup ?_ | with_reducible refine Rd.lst ?_ | with_reducible refine Rd.sl ?_ | with_reducible refine Rd.no ?_ | with_reducible refine Rd.part ?_ | with_reducible refine Rd.at_ ?_ | with_reducible refine Rd.yes ?_ | with_reducible refine Rd.fors ?_ | with_reducible refine Rd.m1 ?_ | with_reducible refine Rd.exs ?_ | with_reducible refine Rd.lc ?_ | with_reducible refine Rd.rng ?_ | ((with_reducible refine' Rd.lenKL ?he ?_); (case he => first | assumption | exact L2.upd_same)) | ((with_reducible refine' Rd.lenKT ?he ?_); (case he => first | assumption | exact L2.upd_same))
  | ((with_reducible refine' Rd.var ?hv ?_); (case hv => exact rfl))
  | ((with_reducible refine' Rd.ifT ?hv ?_); (case hv => exact rfl)) | ((with_reducible refine' Rd.ifF ?hv ?_); (case hv => exact rfl))
  | ((with_reducible refine' Rd.eq ?hv ?_); (case hv => exact rfl))
  | ((with_reducible refine' Rd.ne ?hv ?_); (case hv => exact rfl))
  | with_reducible refine ⟨rfl, ?_⟩ | with_reducible refine Or.inl ⟨_, rfl, ?_⟩ | with_reducible refine Or.inr ⟨_, rfl, ?_⟩ | with_reducible refine ⟨_, rfl, ?_⟩
  | ((with_reducible refine' Rd.ex2 ⟨rfl, ?hl, ?_⟩); (case hl => first | exact Or.inl ⟨_, L2.SqL.of (by first | assumption | exact L2.upd_same), rfl⟩ | exact Or.inr ⟨_, L2.SqT.of (by first | assumption | exact L2.upd_same), rfl⟩))
  | ((with_reducible refine' Rd.i1 ?hv ?_); (case hv => first | exact ⟨by decide, by decide, by decide⟩ | exact Or.inr ⟨by decide, by decide⟩ | exact Or.inl ⟨by decide, by decide⟩ | exact ⟨by decide, by decide⟩ | decide | assumption | (show _ ≠ _; omega) | (refine ⟨?_, ?_⟩ <;> omega) | (refine Or.inl ⟨?_, ?_⟩ <;> omega)))
  | ((with_reducible refine' Rd.ixL ?he ?hx ?_); (case he => first | assumption | exact L2.upd_same); (case hx => rfl))
  | ((with_reducible refine' Rd.ixT ?he ?hx ?_); (case he => first | assumption | exact L2.upd_same); (case hx => rfl))
  | ((with_reducible refine' Rd.setL ?he ?hx ?_); (case he => first | assumption | exact L2.upd_same); (case hx => rfl)))
local macro_rules | `(tactic| walk_at "rd") => `(tactic| first
  | ((with_reducible refine' Rd.isi ?h1 ?h2 ?h3 ?_); (case h1 => first | exact L2.ClsV.ty _ | exact L2.ClsV.own _);
     (case h2 => first | exact L2.TyX.base L2.TyOf.non | exact L2.TyX.base (L2.TyOf.bl _) | exact L2.TyX.base (L2.TyOf.int _) | exact L2.TyX.base (L2.TyOf.str _) | exact L2.TyX.base (L2.TyOf.tup (by assumption)) | exact L2.TyX.base (L2.TyOf.lst (by assumption)));
     (case h3 => first | exact L2.kit_ty (r := true) (by decide +kernel) | exact L2.kit_ty (r := false) (by decide +kernel)))
  | with_reducible refine Rd.isT ?_ | with_reducible refine Rd.isnT ?_)
local macro_rules | `(tactic| walk_at "rd") => `(tactic| first | with_reducible refine Rd.mkv ?_ | with_reducible refine Rd.mkvK ?_ | with_reducible refine Rd.mko ?_)
local macro_rules | `(tactic| walk_at "rds") => `(tactic| repeat (first | walk_at "rd" | assumption))
namespace K78
open PySem PySem.Spec PyProof.Rows L2 L2H Err
abbrev sMany : Stmt := topS 22
theorem scMany : FnScope ["which"] ["which"] (defScope sMany) := ⟨rfl, rfl, rfl, by decide +kernel, rfl, by decide +kernel, by decide +kernel⟩
abbrev sFamily : Stmt := topS 23
theorem scFamily : FnScope ["which"] ["which"] (defScope sFamily) := ⟨rfl, rfl, rfl, by decide +kernel, rfl, by decide +kernel, by decide +kernel⟩
abbrev sMade : Stmt := topS 24
theorem scMade : FnScope ["which", "one", "other"] ["which", "one", "other"] (defScope sMade) := ⟨rfl, rfl, rfl, by decide +kernel, rfl, by decide +kernel, by decide +kernel⟩
abbrev sNamed : Stmt := topS 25
theorem scNamed : FnScope ["which", "one", "other"] ["which", "one", "other"] (defScope sNamed) := ⟨rfl, rfl, rfl, by decide +kernel, rfl, by decide +kernel, by decide +kernel⟩
section
variable {P : Program} {w : World} {K : PySem.W.Frag} {mg : Str → Option Value} {base : Heap} {Cs Fs : Nat → Addr} {M : Addr}
set_option pp.maxSteps 3000
theorem okMany {f : Addr} {fd : FuncData} (F : Fun K "_law_many" "_law_many" sMany f fd) (T : Tx mg) : FnOk P w K mg base CX0 1 f fd ["which"] spMany := by
  refine F.ok scMany (fun vs H Q E h => ?_) (fun cdv A outer s H vs Q E hr h => ?_)
  · obtain ⟨i, rfl, _⟩ := h
    rfl
  · obtain ⟨i, rfl, hi, kk⟩ := h
    refine ⟨_, (pss_one (ps_ret (pe_ix ix_list (pe_lst (pa_cons pe_int (pa_cons pe_int (pa_cons pe_int (pa_cons pe_int (pa_cons pe_int (pa_cons pe_int (pa_cons pe_int (pa_cons pe_int (pa_cons pe_int (pa_cons pe_int (pa_cons pe_int pa_nil)))))))))))) (pv 0) (fun _ _ => rfl)))), ?_⟩
    rcases (by omega : i = 0 ∨ i = 1 ∨ i = 2 ∨ i = 3 ∨ i = 4 ∨ i = 5 ∨ i = 6 ∨ i = 7 ∨ i = 8 ∨ i = 9 ∨ i = 10) with rfl | rfl | rfl | rfl | rfl | rfl | rfl | rfl | rfl | rfl | rfl <;>
    · walk_at "rds"
      refine ⟨by show 11 ≤ sizeLine; decide, fun p hp => ?_⟩
      walk_at "rds"
      exact kk _ (same_put hp (Same.refl _))
theorem okFamily {f : Addr} {fd : FuncData} (F : Fun K "_law_family" "_law_family" sFamily f fd) (T : Tx mg) : FnOk P w K mg base CX0 1 f fd ["which"] spFamily := by
  refine F.ok scFamily (fun vs H Q E h => ?_) (fun cdv A outer s H vs Q E hr h => ?_)
  · obtain ⟨i, rfl, _⟩ := h
    rfl
  · obtain ⟨i, rfl, hi, kk⟩ := h
    refine ⟨_, (pss_one (ps_ret (pe_ix ix_list (pe_lst (pa_cons pe_int (pa_cons pe_int (pa_cons pe_int (pa_cons pe_int (pa_cons pe_int (pa_cons pe_int (pa_cons pe_int (pa_cons pe_int (pa_cons pe_int (pa_cons pe_int (pa_cons pe_int pa_nil)))))))))))) (pv 0) (fun _ _ => rfl)))), ?_⟩
    rcases (by omega : i = 0 ∨ i = 1 ∨ i = 2 ∨ i = 3 ∨ i = 4 ∨ i = 5 ∨ i = 6 ∨ i = 7 ∨ i = 8 ∨ i = 9 ∨ i = 10) with rfl | rfl | rfl | rfl | rfl | rfl | rfl | rfl | rfl | rfl | rfl <;>
    · walk_at "rds"
      refine ⟨by show 11 ≤ sizeLine; decide, fun p hp => ?_⟩
      walk_at "rds"
      exact kk _ (same_put hp (Same.refl _))
theorem okMade {f : Addr} {fd : FuncData} (F : Fun K "_law_made" "_law_made" sMade f fd) (T : Tx mg) (C : Cf P w K mg base Cs Fs M) : FnOk P w K mg base CX0 3 f fd ["which", "one", "other"] (spMade Cs) := by
  refine F.ok scMade (fun vs H Q E h => ?_) (fun cdv A outer s H vs Q E hr h => ?_)
  · obtain ⟨i, u, v, rfl, _⟩ := h
    rfl
  · obtain ⟨i, u, v, rfl, hi, kk⟩ := h
    refine ⟨_, (pss_cons (ps_if (pt_cmpR op_eq (pv 0) pe_int (nomark _))
    (pss_one (ps_ret (pe_new (C.kl 0 (by decide)) (hr.mono (by omega)) (pa_cons (pv 1) (pa_cons (pv 2) pa_nil)))))
    pss_nil)
    (pss_cons (ps_if (pt_cmpR op_eq (pv 0) pe_int (nomark _))
    (pss_one (ps_ret (pe_new (C.kl 1 (by decide)) (hr.mono (by omega)) (pa_cons (pv 1) (pa_cons (pv 2) pa_nil)))))
    pss_nil)
    (pss_cons (ps_if (pt_cmpR op_eq (pv 0) pe_int (nomark _))
    (pss_one (ps_ret (pe_new (C.kl 2 (by decide)) (hr.mono (by omega)) (pa_cons (pv 1) (pa_cons (pv 2) pa_nil)))))
    pss_nil)
    (pss_cons (ps_if (pt_cmpR op_eq (pv 0) pe_int (nomark _))
    (pss_one (ps_ret (pe_new (C.kl 3 (by decide)) (hr.mono (by omega)) (pa_cons (pv 1) (pa_cons (pv 2) pa_nil)))))
    pss_nil)
    (pss_cons (ps_if (pt_cmpR op_eq (pv 0) pe_int (nomark _))
    (pss_one (ps_ret (pe_new (C.kl 4 (by decide)) (hr.mono (by omega)) (pa_cons (pv 1) pa_nil))))
    pss_nil)
    (pss_cons (ps_if (pt_cmpR op_eq (pv 0) pe_int (nomark _))
    (pss_one (ps_ret (pe_new0 (C.kl 5 (by decide)) (hr.mono (by omega)))))
    pss_nil)
    (pss_cons (ps_if (pt_cmpR op_eq (pv 0) pe_int (nomark _))
    (pss_one (ps_ret (pe_new (C.kl 6 (by decide)) (hr.mono (by omega)) (pa_cons (pv 1) pa_nil))))
    pss_nil)
    (pss_cons (ps_if (pt_cmpR op_eq (pv 0) pe_int (nomark _))
    (pss_one (ps_ret (pe_new (C.kl 7 (by decide)) (hr.mono (by omega)) (pa_cons (pv 1) pa_nil))))
    pss_nil)
    (pss_cons (ps_if (pt_cmpR op_eq (pv 0) pe_int (nomark _))
    (pss_one (ps_ret (pe_new (C.kl 8 (by decide)) (hr.mono (by omega)) (pa_cons (pv 1) pa_nil))))
    pss_nil)
    (pss_cons (ps_if (pt_cmpR op_eq (pv 0) pe_int (nomark _))
    (pss_one (ps_ret (pe_new (C.kl 9 (by decide)) (hr.mono (by omega)) (pa_cons (pv 1) (pa_cons (pv 2) pa_nil)))))
    pss_nil)
    (pss_one (ps_ret (pe_new (C.kl 10 (by decide)) (hr.mono (by omega)) (pa_cons (pv 1) (pa_cons (pv 2) pa_nil))))))))))))))), ?_⟩
    rcases (by omega : i = 0 ∨ i = 1 ∨ i = 2 ∨ i = 3 ∨ i = 4 ∨ i = 5 ∨ i = 6 ∨ i = 7 ∨ i = 8 ∨ i = 9 ∨ i = 10) with rfl | rfl | rfl | rfl | rfl | rfl | rfl | rfl | rfl | rfl | rfl <;>
    · walk_at "rds"
      exact made_end (by rfl) (by first | (show 2 ≤ 1000; decide) | (show 1 ≤ 1000; decide) | (show 0 ≤ 1000; decide)) fun a H' na e s => kk a H' na e s
theorem okNamed {f : Addr} {fd : FuncData} (F : Fun K "_law_named" "_law_named" sNamed f fd) (T : Tx mg) (C : Cf P w K mg base Cs Fs M) : FnOk P w K mg base CX0 3 f fd ["which", "one", "other"] (spMade Cs) := by
  refine F.ok scNamed (fun vs H Q E h => ?_) (fun cdv A outer s H vs Q E hr h => ?_)
  · obtain ⟨i, u, v, rfl, _⟩ := h
    rfl
  · obtain ⟨i, u, v, rfl, hi, kk⟩ := h
    refine ⟨_, (pss_cons (ps_if (pt_cmpR op_eq (pv 0) pe_int (nomark _))
    (pss_one (ps_ret (pe_newK (C.kl 0 (by decide)) (hr.mono (by omega)) (pk_cons (pv 2) (pk_cons (pv 1) pk_nil)))))
    pss_nil)
    (pss_cons (ps_if (pt_cmpR op_eq (pv 0) pe_int (nomark _))
    (pss_one (ps_ret (pe_newK (C.kl 1 (by decide)) (hr.mono (by omega)) (pk_cons (pv 2) (pk_cons (pv 1) pk_nil)))))
    pss_nil)
    (pss_cons (ps_if (pt_cmpR op_eq (pv 0) pe_int (nomark _))
    (pss_one (ps_ret (pe_newK (C.kl 2 (by decide)) (hr.mono (by omega)) (pk_cons (pv 2) (pk_cons (pv 1) pk_nil)))))
    pss_nil)
    (pss_cons (ps_if (pt_cmpR op_eq (pv 0) pe_int (nomark _))
    (pss_one (ps_ret (pe_newK (C.kl 3 (by decide)) (hr.mono (by omega)) (pk_cons (pv 2) (pk_cons (pv 1) pk_nil)))))
    pss_nil)
    (pss_cons (ps_if (pt_cmpR op_eq (pv 0) pe_int (nomark _))
    (pss_one (ps_ret (pe_newK (C.kl 4 (by decide)) (hr.mono (by omega)) (pk_cons (pv 1) pk_nil))))
    pss_nil)
    (pss_cons (ps_if (pt_cmpR op_eq (pv 0) pe_int (nomark _))
    (pss_one (ps_ret (pe_new0 (C.kl 5 (by decide)) (hr.mono (by omega)))))
    pss_nil)
    (pss_cons (ps_if (pt_cmpR op_eq (pv 0) pe_int (nomark _))
    (pss_one (ps_ret (pe_newK (C.kl 6 (by decide)) (hr.mono (by omega)) (pk_cons (pv 1) pk_nil))))
    pss_nil)
    (pss_cons (ps_if (pt_cmpR op_eq (pv 0) pe_int (nomark _))
    (pss_one (ps_ret (pe_newK (C.kl 7 (by decide)) (hr.mono (by omega)) (pk_cons (pv 1) pk_nil))))
    pss_nil)
    (pss_cons (ps_if (pt_cmpR op_eq (pv 0) pe_int (nomark _))
    (pss_one (ps_ret (pe_newK (C.kl 8 (by decide)) (hr.mono (by omega)) (pk_cons (pv 1) pk_nil))))
    pss_nil)
    (pss_cons (ps_if (pt_cmpR op_eq (pv 0) pe_int (nomark _))
    (pss_one (ps_ret (pe_newK (C.kl 9 (by decide)) (hr.mono (by omega)) (pk_cons (pv 2) (pk_cons (pv 1) pk_nil)))))
    pss_nil)
    (pss_one (ps_ret (pe_newK (C.kl 10 (by decide)) (hr.mono (by omega)) (pk_cons (pv 2) (pk_cons (pv 1) pk_nil))))))))))))))), ?_⟩
    rcases (by omega : i = 0 ∨ i = 1 ∨ i = 2 ∨ i = 3 ∨ i = 4 ∨ i = 5 ∨ i = 6 ∨ i = 7 ∨ i = 8 ∨ i = 9 ∨ i = 10) with rfl | rfl | rfl | rfl | rfl | rfl | rfl | rfl | rfl | rfl | rfl <;>
    · walk_at "rds"
      first | exact made_end (by rfl) (by first | (show 0 ≤ 1000; decide)) (fun a H' na e s => kk a H' na e s) | exact (made_end (vs := [u, v]) (by rfl) (by show 2 ≤ 1000; decide) (fun a H' na e s => kk a H' na e s)).2 | exact (made_end (vs := [u]) (by rfl) (by show 1 ≤ 1000; decide) (fun a H' na e s => kk a H' na e s)).2
end
end K78
end SecB8
section SecB9
set_option Elab.async false
set_option linter.all false
set_option maxRecDepth 100000
set_option maxHeartbeats 4000000
set_option pp.deepTerms false
local macro_rules | `(tactic| walk_at "rd") => `(tactic| first
  | with_reducible refine Rd.seq ?_ | with_reducible refine Rd.asg ?_ | with_reducible refine Rd.nm ?_ | with_reducible refine Rd.sub ?_ | with_reducible refine Rd.ret ?_ | with_reducible refine Rd.retN ?_
  | with_reducible refine Rd.drop ?_ | with_reducible refine Rd.ifs ?_ | with_reducible refine Rd.next ?_ | with_reducible refine Rd.cst ?_ | with_reducible refine Rd.op ?_ | with_reducible refine Rd.un ?_
  | with_reducible refine Rd.test ?_ | with_reducible refine Rd.tb' ?_ | with_reducible refine Rd.exb ?_ | with_reducible refine Rd.exi ?_ | with_reducible refine Rd.and2 ?_ | with_reducible refine Rd.or2 ?_ | with_reducible refine Rd.not1 ?_
  | with_reducible refine Rd.andV ?_ | with_reducible refine Rd.orV ?_ | with_reducible refine Rd.notV ?_ | with_reducible refine Rd.nil ?_ | with_reducible refine Rd.cons ?_ | with_reducible refine Rd.cb ?_
  | with_reducible refine Rd.i0 ?_ | with_reducible refine Rd.u1 ?_ | with_reducible refine Rd.call ?_ | with_reducible refine Rd.tup ?_ | with_reducible refine Rd.lst ?_ | with_reducible refine Rd.sl ?_ | with_reducible refine Rd.no ?_ | with_reducible refine Rd.part ?_ | with_reducible refine Rd.at_ ?_ | with_reducible refine Rd.yes ?_ | with_reducible refine Rd.fors ?_ | with_reducible refine Rd.m1 ?_ | with_reducible refine Rd.exs ?_ | with_reducible refine Rd.lc ?_ | with_reducible refine Rd.rng ?_ | ((with_reducible refine' Rd.lenKL ?he ?_); (case he => first | assumption | exact L2.upd_same)) | ((with_reducible refine' Rd.lenKT ?he ?_); (case he => first | assumption | exact L2.upd_same))
  | ((with_reducible refine' Rd.var ?hv ?_); (case hv => exact rfl))
  | ((with_reducible refine' Rd.ifT ?hv ?_); (case hv => exact rfl)) | ((with_reducible refine' Rd.ifF ?hv ?_); (case hv => exact rfl))
  | ((with_reducible refine' Rd.eq ?hv ?_); (case hv => exact rfl))
  | ((with_reducible refine' Rd.ne ?hv ?_); (case hv => exact rfl))
  | with_reducible refine ⟨rfl, ?_⟩ | with_reducible refine Or.inl ⟨_, rfl, ?_⟩ | with_reducible refine Or.inr ⟨_, rfl, ?_⟩ | with_reducible refine ⟨_, rfl, ?_⟩
  | ((with_reducible refine' Rd.ex2 ⟨rfl, ?hl, ?_⟩); (case hl => first | exact Or.inl ⟨_, L2.SqL.of (by first | assumption | exact L2.upd_same), rfl⟩ | exact Or.inr ⟨_, L2.SqT.of (by first | assumption | exact L2.upd_same), rfl⟩))
  | ((with_reducible refine' Rd.i1 ?hv ?_); (case hv => first | exact ⟨by decide, by decide, by decide⟩ | exact Or.inr ⟨by decide, by decide⟩ | exact Or.inl ⟨by decide, by decide⟩ | exact ⟨by decide, by decide⟩ | decide | assumption | (show _ ≠ _; omega) | (refine ⟨?_, ?_⟩ <;> omega) | (refine Or.inl ⟨?_, ?_⟩ <;> omega)))
  | ((with_reducible refine' Rd.ixL ?he ?hx ?_); (case he => first | assumption | exact L2.upd_same); (case hx => rfl))
  | ((with_reducible refine' Rd.ixT ?he ?hx ?_); (case he => first | assumption | exact L2.upd_same); (case hx => rfl))
  | ((with_reducible refine' Rd.setL ?he ?hx ?_); (case he => first | assumption | exact L2.upd_same); (case hx => rfl)))
local macro_rules | `(tactic| walk_at "rd") => `(tactic| first
  | ((with_reducible refine' Rd.isi ?h1 ?h2 ?h3 ?_); (case h1 => first | exact L2.ClsV.ty _ | exact L2.ClsV.own _);
     (case h2 => first | exact L2.TyX.base L2.TyOf.non | exact L2.TyX.base (L2.TyOf.bl _) | exact L2.TyX.base (L2.TyOf.int _) | exact L2.TyX.base (L2.TyOf.str _) | exact L2.TyX.base (L2.TyOf.tup (by assumption)) | exact L2.TyX.base (L2.TyOf.lst (by assumption)));
     (case h3 => first | exact L2.kit_ty (r := true) (by decide +kernel) | exact L2.kit_ty (r := false) (by decide +kernel)))
  | with_reducible refine Rd.isT ?_ | with_reducible refine Rd.isnT ?_)
local macro_rules | `(tactic| walk_at "rd") => `(tactic| first | with_reducible refine Rd.mkv ?_ | with_reducible refine Rd.mkvK ?_ | with_reducible refine Rd.mko ?_)
local macro_rules | `(tactic| walk_at "rds") => `(tactic| repeat (first | walk_at "rd" | assumption))
namespace K78
open PySem PySem.Spec PyProof.Rows L2 L2H Err
abbrev sThrown : Stmt := topS 30
theorem scThrown : FnScope ["which", "one", "other"] ["which", "one", "other"] (defScope sThrown) := ⟨rfl, rfl, rfl, by decide +kernel, rfl, by decide +kernel, by decide +kernel⟩
abbrev sFields : Stmt := topS 26
theorem scFields : FnScope ["which", "error"] ["which", "error"] (defScope sFields) := ⟨rfl, rfl, rfl, by decide +kernel, rfl, by decide +kernel, by decide +kernel⟩
section
variable {P : Program} {w : World} {K : PySem.W.Frag} {mg : Str → Option Value} {base : Heap} {Cs Fs : Nat → Addr} {M : Addr}
set_option pp.maxSteps 3000
/-- a def that may raise where nothing is handled -/
theorem okN {x qual : Str} {st : Stmt} {f : Addr} {fd : FuncData} {N ps : List Str} {k : Nat} {sp : Sp} (F : Fun K x qual st f fd) (S : FnScope N ps (defScope st)) (len : ∀ vs H Q E, sp vs H Q E → vs.length = ps.length)
    (body : ∀ (cdv : Value) (A : Around) (outer : List Env) (s : Shared) (H : Hp) (vs : List V) (Q : VK) (E : XK), Room k (A.deeper (envOfC qual (defScope st) s.heap.objs.size f cdv)) → sp vs H Q E →
      ∃ t, PSs (cxOf (L2N.CX P w) P w K mg base N qual (defScope st) f cdv A outer s H E) (defBody st) t ∧ t { nx := fun _ H' => Q .non H', rt := Q } (L2.start N vs) H) : FnOk P w K mg base (L2N.CX P w) (k + 1) f fd ps sp := by
  obtain ⟨oc, od, kV, doc, pm, an, cdv, ct, osl, rfl, lk, hcd⟩ := F.ex
  exact fn_of lk hcd S len fun A outer s H vs Q E hr h => body cdv A outer s H vs Q E hr h
theorem okThrown {f : Addr} {fd : FuncData} (F : Fun K "_law_thrown" "_law_thrown" sThrown f fd) (T : Tx mg) (C : Cf P w K mg base Cs Fs M) : FnOk P w K mg base (L2N.CX P w) 3 f fd ["which", "one", "other"] (spThrown Cs) := by
  refine okN F scThrown (fun vs H Q E h => ?_) (fun cdv A outer s H vs Q E hr h => ?_)
  · obtain ⟨i, u, v, rfl, _⟩ := h
    rfl
  · obtain ⟨i, u, v, rfl, hi, kk⟩ := h
    refine ⟨_, (pss_cons (ps_if (pt_cmpR op_eq (pv 0) pe_int (nomark _))
    (pss_one (ps_rse E (C.kl 0 (by decide)) rfl (hr.mono (by omega)) (L2N.takes_of rfl rfl rfl rfl) (pa_cons (pv 1) (pa_cons (pv 2) pa_nil))))
    pss_nil)
    (pss_cons (ps_if (pt_cmpR op_eq (pv 0) pe_int (nomark _))
    (pss_one (ps_rse E (C.kl 1 (by decide)) rfl (hr.mono (by omega)) (L2N.takes_of rfl rfl rfl rfl) (pa_cons (pv 1) (pa_cons (pv 2) pa_nil))))
    pss_nil)
    (pss_cons (ps_if (pt_cmpR op_eq (pv 0) pe_int (nomark _))
    (pss_one (ps_rse E (C.kl 2 (by decide)) rfl (hr.mono (by omega)) (L2N.takes_of rfl rfl rfl rfl) (pa_cons (pv 1) (pa_cons (pv 2) pa_nil))))
    pss_nil)
    (pss_cons (ps_if (pt_cmpR op_eq (pv 0) pe_int (nomark _))
    (pss_one (ps_rse E (C.kl 3 (by decide)) rfl (hr.mono (by omega)) (L2N.takes_of rfl rfl rfl rfl) (pa_cons (pv 1) (pa_cons (pv 2) pa_nil))))
    pss_nil)
    (pss_cons (ps_if (pt_cmpR op_eq (pv 0) pe_int (nomark _))
    (pss_one (ps_rse E (C.kl 4 (by decide)) rfl (hr.mono (by omega)) (L2N.takes_of rfl rfl rfl rfl) (pa_cons (pv 1) pa_nil)))
    pss_nil)
    (pss_cons (ps_if (pt_cmpR op_eq (pv 0) pe_int (nomark _))
    (pss_one (ps_rse0 E (C.kl 5 (by decide)) rfl (hr.mono (by omega)) (L2N.takes_of rfl rfl rfl rfl)))
    pss_nil)
    (pss_cons (ps_if (pt_cmpR op_eq (pv 0) pe_int (nomark _))
    (pss_one (ps_rse E (C.kl 6 (by decide)) rfl (hr.mono (by omega)) (L2N.takes_of rfl rfl rfl rfl) (pa_cons (pv 1) pa_nil)))
    pss_nil)
    (pss_cons (ps_if (pt_cmpR op_eq (pv 0) pe_int (nomark _))
    (pss_one (ps_rse E (C.kl 7 (by decide)) rfl (hr.mono (by omega)) (L2N.takes_of rfl rfl rfl rfl) (pa_cons (pv 1) pa_nil)))
    pss_nil)
    (pss_cons (ps_if (pt_cmpR op_eq (pv 0) pe_int (nomark _))
    (pss_one (ps_rse E (C.kl 8 (by decide)) rfl (hr.mono (by omega)) (L2N.takes_of rfl rfl rfl rfl) (pa_cons (pv 1) pa_nil)))
    pss_nil)
    (pss_cons (ps_if (pt_cmpR op_eq (pv 0) pe_int (nomark _))
    (pss_one (ps_rse E (C.kl 9 (by decide)) rfl (hr.mono (by omega)) (L2N.takes_of rfl rfl rfl rfl) (pa_cons (pv 1) (pa_cons (pv 2) pa_nil))))
    pss_nil)
    (pss_one (ps_rse E (C.kl 10 (by decide)) rfl (hr.mono (by omega)) (L2N.takes_of rfl rfl rfl rfl) (pa_cons (pv 1) (pa_cons (pv 2) pa_nil)))))))))))))), ?_⟩
    rcases (by omega : i = 0 ∨ i = 1 ∨ i = 2 ∨ i = 3 ∨ i = 4 ∨ i = 5 ∨ i = 6 ∨ i = 7 ∨ i = 8 ∨ i = 9 ∨ i = 10) with rfl | rfl | rfl | rfl | rfl | rfl | rfl | rfl | rfl | rfl | rfl <;>
    · walk_at "rds"
      first
        | exact raised_end (by rfl) (by first | (show 2 ≤ 1000; decide) | (show 1 ≤ 1000; decide)) (by decide) fun d H' e s => kk.2 (by decide) d H' e s
        | exact fun a na => ⟨a, [], rfl, rfl, upd_same, fun _ => ⟨rfl, rfl, kk.1 rfl⟩, fun h => absurd rfl h⟩
theorem fld_of {pl : List (Addr × Obj)} {H : Hp} {a C : Addr} {p : Str × V} {r : List (Str × V)} (h : ErrX pl H a C (p :: r)) : ∃ d, EAt pl H a C (some d) ∧ Dk H d (p :: r) := by
  rcases h with ⟨e, _⟩ | h
  · cases e
  · exact h
theorem okFields {f : Addr} {fd : FuncData} (F : Fun K "_law_fields" "_law_fields" sFields f fd) (T : Tx mg) (C : Cf P w K mg base Cs Fs M) : FnB P w K mg base 1 f fd ["which", "error"] (spFields Cs) := by
  refine fnB_of F scFields (fun pl vs H Q E h => ?_) (fun cdv A outer s H vs Q b pl hr mc h => ?_)
  · obtain ⟨i, a, u, v, rfl, _⟩ := h
    rfl
  · obtain ⟨i, a, u, v, rfl, hi, he, kk⟩ := h
    refine ⟨_, (pss_cons (ps_if (pt_cmpR op_lt (pv 0) pe_int (nomark _))
    (pss_one (ps_ret (pe_tup (pa_cons (pe_at (pv 1)) (pa_cons (pe_at (pv 1)) pa_nil)))))
    pss_nil)
    (pss_cons (ps_if (pt_cmpR op_eq (pv 0) pe_int (nomark _))
    (pss_one (ps_ret (pe_tup (pa_cons (pe_at (pv 1)) (pa_cons (pe_at (pv 1)) pa_nil)))))
    pss_nil)
    (pss_cons (ps_if (pt_cmpR op_eq (pv 0) pe_int (nomark _))
    (pss_one (ps_ret (pe_tup (pa_cons (pe_at (pv 1)) (pa_cons (pe_at (pv 1)) pa_nil)))))
    pss_nil)
    (pss_cons (ps_if (pt_cmpR op_eq (pv 0) pe_int (nomark _))
    (pss_one (ps_ret (pe_tup (pa_cons (pe_at (pv 1)) pa_nil))))
    pss_nil)
    (pss_cons (ps_if (pt_cmpR op_eq (pv 0) pe_int (nomark _))
    (pss_one (ps_ret (pe_tup pa_nil)))
    pss_nil)
    (pss_cons (ps_if (pt_cmpR op_eq (pv 0) pe_int (nomark _))
    (pss_one (ps_ret (pe_tup (pa_cons (pe_at (pv 1)) pa_nil))))
    pss_nil)
    (pss_cons (ps_if (pt_cmpR op_eq (pv 0) pe_int (nomark _))
    (pss_one (ps_ret (pe_tup (pa_cons (pe_at (pv 1)) pa_nil))))
    pss_nil)
    (pss_cons (ps_if (pt_cmpR op_eq (pv 0) pe_int (nomark _))
    (pss_one (ps_ret (pe_tup (pa_cons (pe_at (pv 1)) pa_nil))))
    pss_nil)
    (pss_one (ps_ret (pe_tup (pa_cons (pe_at (pv 1)) (pa_cons (pe_at (pv 1)) pa_nil))))))))))))), ?_⟩
    rcases (by omega : i = 5 ∨ i ≠ 5) with rfl | h5
    · walk_at "rds"
      refine ⟨by show 0 ≤ sizeLine; decide, fun p hp => ?_⟩
      walk_at "rds"
      exact kk p _ hp upd_same (same_put hp (Same.refl _))
    rcases (by omega : i = 0 ∨ i = 1 ∨ i = 2 ∨ i = 3 ∨ i = 4 ∨ i = 6 ∨ i = 7 ∨ i = 8 ∨ i = 9 ∨ i = 10) with rfl | rfl | rfl | rfl | rfl | rfl | rfl | rfl | rfl | rfl <;>
    · obtain ⟨d, hE, hD⟩ := fld_of he
      walk_at "rds"
      refine ⟨a, _, d, _, u, rfl, (C.kl _ hi).ec, (C.kl _ hi).no _ (by first | exact List.mem_cons_self | exact List.mem_cons_of_mem _ List.mem_cons_self), EAt.seen hE, hD, by rfl, ?_⟩
      walk_at "rds"
      first
        | (refine ⟨a, _, d, _, v, rfl, (C.kl _ hi).ec, (C.kl _ hi).no _ (by first | exact List.mem_cons_of_mem _ List.mem_cons_self | exact List.mem_cons_self), EAt.seen hE, hD, by rfl, ?_⟩
           walk_at "rds"
           refine ⟨by show 2 ≤ sizeLine; decide, fun p hp => ?_⟩
           walk_at "rds"
           exact kk p _ hp upd_same (same_put hp (Same.refl _)))
        | (refine ⟨by show 1 ≤ sizeLine; decide, fun p hp => ?_⟩
           walk_at "rds"
           exact kk p _ hp upd_same (same_put hp (Same.refl _)))
end
end K78
end SecB9
section SecB10
set_option Elab.async false
set_option linter.all false
set_option maxRecDepth 100000
set_option maxHeartbeats 4000000
set_option pp.deepTerms false
local macro_rules | `(tactic| walk_at "rd") => `(tactic| first
  | with_reducible refine Rd.seq ?_ | with_reducible refine Rd.asg ?_ | with_reducible refine Rd.nm ?_ | with_reducible refine Rd.sub ?_ | with_reducible refine Rd.ret ?_ | with_reducible refine Rd.retN ?_
  | with_reducible refine Rd.drop ?_ | with_reducible refine Rd.ifs ?_ | with_reducible refine Rd.next ?_ | with_reducible refine Rd.cst ?_ | with_reducible refine Rd.op ?_ | with_reducible refine Rd.un ?_
  | with_reducible refine Rd.test ?_ | with_reducible refine Rd.tb' ?_ | with_reducible refine Rd.exb ?_ | with_reducible refine Rd.exi ?_ | with_reducible refine Rd.and2 ?_ | with_reducible refine Rd.or2 ?_ | with_reducible refine Rd.not1 ?_
  | with_reducible refine Rd.andV ?_ | with_reducible refine Rd.orV ?_ | with_reducible refine Rd.notV ?_ | with_reducible refine Rd.nil ?_ | with_reducible refine Rd.cons ?_ | with_reducible refine Rd.cb ?_
  | with_reducible refine Rd.i0 ?_ | with_reducible refine Rd.u1 ?_ | with_reducible refine Rd.call ?_ | with_reducible refine Rd.tup ?_ | with_reducible refine Rd.lst ?_ | with_reducible refine Rd.sl ?_ | with_reducible refine Rd.no ?_ | with_reducible refine Rd.part ?_ | with_reducible refine Rd.at_ ?_ | with_reducible refine Rd.yes ?_ | with_reducible refine Rd.fors ?_ | with_reducible refine Rd.m1 ?_ | with_reducible refine Rd.exs ?_ | with_reducible refine Rd.lc ?_ | with_reducible refine Rd.rng ?_ | ((with_reducible refine' Rd.lenKL ?he ?_); (case he => first | assumption | exact L2.upd_same)) | ((with_reducible refine' Rd.lenKT ?he ?_); (case he => first | assumption | exact L2.upd_same))
  | ((with_reducible refine' Rd.var ?hv ?_); (case hv => exact rfl))
  | ((with_reducible refine' Rd.ifT ?hv ?_); (case hv => exact rfl)) | ((with_reducible refine' Rd.ifF ?hv ?_); (case hv => exact rfl))
  | ((with_reducible refine' Rd.eq ?hv ?_); (case hv => exact rfl))
  | ((with_reducible refine' Rd.ne ?hv ?_); (case hv => exact rfl))
  | with_reducible refine ⟨rfl, ?_⟩ | with_reducible refine Or.inl ⟨_, rfl, ?_⟩ | with_reducible refine Or.inr ⟨_, rfl, ?_⟩ | with_reducible refine ⟨_, rfl, ?_⟩
  | ((with_reducible refine' Rd.ex2 ⟨rfl, ?hl, ?_⟩); (case hl => first | exact Or.inl ⟨_, L2.SqL.of (by first | assumption | exact L2.upd_same), rfl⟩ | exact Or.inr ⟨_, L2.SqT.of (by first | assumption | exact L2.upd_same), rfl⟩))
  | ((with_reducible refine' Rd.i1 ?hv ?_); (case hv => first | exact ⟨by decide, by decide, by decide⟩ | exact Or.inr ⟨by decide, by decide⟩ | exact Or.inl ⟨by decide, by decide⟩ | exact ⟨by decide, by decide⟩ | decide | assumption | (show _ ≠ _; omega) | (refine ⟨?_, ?_⟩ <;> omega) | (refine Or.inl ⟨?_, ?_⟩ <;> omega)))
  | ((with_reducible refine' Rd.ixL ?he ?hx ?_); (case he => first | assumption | exact L2.upd_same); (case hx => rfl))
  | ((with_reducible refine' Rd.ixT ?he ?hx ?_); (case he => first | assumption | exact L2.upd_same); (case hx => rfl))
  | ((with_reducible refine' Rd.setL ?he ?hx ?_); (case he => first | assumption | exact L2.upd_same); (case hx => rfl)))
local macro_rules | `(tactic| walk_at "rd") => `(tactic| first
  | ((with_reducible refine' Rd.isi ?h1 ?h2 ?h3 ?_); (case h1 => first | exact L2.ClsV.ty _ | exact L2.ClsV.own _);
     (case h2 => first | exact L2.TyX.base L2.TyOf.non | exact L2.TyX.base (L2.TyOf.bl _) | exact L2.TyX.base (L2.TyOf.int _) | exact L2.TyX.base (L2.TyOf.str _) | exact L2.TyX.base (L2.TyOf.tup (by assumption)) | exact L2.TyX.base (L2.TyOf.lst (by assumption)));
     (case h3 => first | exact L2.kit_ty (r := true) (by decide +kernel) | exact L2.kit_ty (r := false) (by decide +kernel)))
  | with_reducible refine Rd.isT ?_ | with_reducible refine Rd.isnT ?_)
local macro_rules | `(tactic| walk_at "rd") => `(tactic| first | with_reducible refine Rd.mkv ?_ | with_reducible refine Rd.mkvK ?_ | with_reducible refine Rd.mko ?_ | with_reducible refine Rd.callB ?_)
local macro_rules | `(tactic| walk_at "rds") => `(tactic| repeat (first | walk_at "rd" | assumption))
namespace K78
open PySem PySem.Spec PyProof.Rows L2 L2H Err
abbrev sKinds : Stmt := topS 27
theorem scKinds : FnScope ["error", "row"] ["error"] (defScope sKinds) := ⟨rfl, rfl, rfl, by decide +kernel, rfl, by decide +kernel, by decide +kernel⟩
abbrev sFamilies : Stmt := topS 28
theorem scFamilies : FnScope ["error", "row"] ["error"] (defScope sFamilies) := ⟨rfl, rfl, rfl, by decide +kernel, rfl, by decide +kernel, by decide +kernel⟩
abbrev sStands : Stmt := topS 29
theorem scStands : FnScope ["which", "error", "k"] ["which", "error"] (defScope sStands) := ⟨rfl, rfl, rfl, by decide +kernel, rfl, by decide +kernel, by decide +kernel⟩
abbrev sFamilyB : Stmt := topS 23
theorem scFamilyB : FnScope ["which"] ["which"] (defScope sFamilyB) := ⟨rfl, rfl, rfl, by decide +kernel, rfl, by decide +kernel, by decide +kernel⟩
/-- a def of the text that may be called in both moods -/
structure Dm (P : Program) (w : World) (K : PySem.W.Frag) (mg : Str → Option Value) (base : Heap) (x : Str) (k : Nat) (ps : List Str) (sp : List (Addr × Obj) → Sp) : Prop where
  ex : ∃ f fd, FnB P w K mg base k f fd ps sp ∧ mg x = some (.ref f) ∧ PySem.W.keepIn K (.ref f) = true ∧ Binds K fd ps []
theorem Dm.dn {P : Program} {w : World} {K : PySem.W.Frag} {mg : Str → Option Value} {base : Heap} {x : Str} {k : Nat} {ps : List Str} {sp : List (Addr × Obj) → Sp} (D : Dm P w K mg base x k ps sp) : Dn P w K mg base CX0 x k ps (fun vs H Q _ => sp [] vs H Q E0) := by
  obtain ⟨f, fd, F, r⟩ := D.ex
  exact ⟨f, fd, F.ok, r⟩
theorem MoodC.blk {X : Cx} {b : Bool} {pl : List (Addr × Obj)} (m : MoodC X b pl) (s : Shared) (H : Hp) (sc : Scope) (ce : Env) (fp : List Addr) : MoodC (blq X s H sc ce fp pl) b pl := by
  cases m with
  | calm h => exact .calm h
  | hot p h m => exact .hot p h List.mem_cons_self
section
variable {X : Cx} {x : Str} {k : Nat} {ps : List Str} {sp : List (Addr × Obj) → Sp} {b : Bool} {pl : List (Addr × Obj)} {q pos : Pos} {e : Expr} {es : List Expr} {t : TA}
theorem pe_cls {C : Addr} (hm : X.mg x = some (.ref C)) (hg : Gl X x := by rfl) (hd : (x == ("__debug__" : Str)) = false := by decide) : PE X (.Name x q) (tC (.ref C)) := pe_glob (v := .ref C) hg hm rfl hd
theorem pe_dm (D : Dm X.prog X.w X.K X.mg X.base x k ps sp) (hr : RoomH k X.A) (mc : MoodC X b pl) (ha : PA X (e :: es) t) (hg : Gl X x := by rfl) (hdb : (x == ("__debug__" : Str)) = false := by decide)
    (he : starEach (e :: es) X.env = (false, eval e X.env) :: starEach es X.env := by rfl) (hpl : (backTo pos (starEach es X.env)).any (·.1) = false := by rfl) : PE X (.Call (.Name x q) (e :: es) [] pos) (tCallB sp pl t) := by
  obtain ⟨f, fd, F, hm, hk, hb⟩ := D.ex
  exact pe_cB F hr mc hg hm hk hb ha hdb he hpl
/-- a list made over a range, in both moods -/
theorem pe_lcM {el tg n : Expr} {ifs : List Expr} {sc : Scope} {own : List (Str × Nat)} {pos p2 p3 : Pos} {ta : TA} {g : TG} {tt : TT} {te : TE} (mc : MoodC X b pl) (hN : X.N.Nodup) (hgl : Gl X "range") (hm : X.mg "range" = none) (ha : PA X [n] ta) (ok : BlkOk X.N X.env.scope sc own)
    (hg : ∀ s H C cl fp, PG (blq X s H sc (compEnvC sc cl C X.env) fp pl) tg g) (ht : ∀ s H C cl fp, PTs (blq X s H sc (compEnvC sc cl C X.env) fp pl) ifs tt) (he : ∀ s H C cl fp, PE (blq X s H sc (compEnvC sc cl C X.env) fp pl) el te)
    (hn : starEach [n] X.env = [(false, eval n X.env)] := by rfl) (hs : ∀ x, foldedSetIterable (.Call (.Name "range" p2) [n] [] p3) X.env x = pure x := by intro _; rfl) :
    PE X (.ListComp el [⟨tg, .Call (.Name "range" p2) [n] [] p3, ifs, 0⟩] sc pos) (tLc (iRng1 ta) g tt te (own.map (·.2))) := by
  cases mc with
  | calm h => exact pe_lc h hN (pi_range1 hgl hm ha hn) ok hg ht he hs
  | hot p h m => exact lcH p h m hN (pi_range1H hgl hm ha hn) ok hg ht he hs
end
theorem dp_bools {K : PySem.W.Frag} {H : Hp} : ∀ (bs : List Bool), DpAll K H (bs.map V.bl) (bs.map PyData.bool)
  | [] => .nil
  | b :: bs => .cons (.bl b) (dp_bools bs)
theorem map_bl (f : Nat → Bool) (n : Nat) : ((List.range n).map fun k => V.bl (f k)) = ((List.range n).map f).map V.bl := by rw [List.map_map]; rfl
theorem shaped_bools (f : Nat → Bool) : SeqAt.shaped (.list (((List.range 11).map f).map PyData.bool)) = true ∧ SeqAt.shaped (.list (((List.range 4).map f).map PyData.bool)) = true := by
  constructor <;> rfl
theorem neD_bools {K : PySem.W.Frag} {H : Hp} {p q : Addr} {Q : VK} {f : Nat → Bool} (hp : H p = some (.lst ((List.range 11).map fun k => V.bl (f k)))) (hq : H q = some (.lst ((List.range 11).map fun k => V.bl (f k)))) (k : Q (.bl false) H) : rNeD K (.ref p) (.ref q) H Q := by
  rw [map_bl] at hp hq
  have sh := (shaped_bools f).1
  refine ⟨_, _, .lst (SqL.of hp) (dp_bools _), .lst (SqL.of hq) (dp_bools _), sh, sh, ?_⟩
  rw [SeqAt.eqv_refl _ (SeqAt.canLay_of_shaped sh)]
  exact k
theorem eqD_bools {K : PySem.W.Frag} {H : Hp} {p q : Addr} {Q : VK} {f : Nat → Bool} (hp : H p = some (.lst ((List.range 4).map fun k => V.bl (f k)))) (hq : H q = some (.lst ((List.range 4).map fun k => V.bl (f k)))) (k : Q (.bl true) H) : rEqD K (.ref p) (.ref q) H Q := by
  rw [map_bl] at hp hq
  have sh := (shaped_bools f).2
  refine ⟨_, _, .lst (SqL.of hp) (dp_bools _), .lst (SqL.of hq) (dp_bools _), sh, sh, ?_⟩
  rw [SeqAt.eqv_refl _ (SeqAt.canLay_of_shaped sh)]
  exact k
theorem hu2 {k : Nat} {A : Around} (r : RoomH k A) : A.units + 64 < cLine := by
  have := r.un
  omega
theorem dec_ij (i j : Nat) : decide (V.int (0 + (j : Int)) = V.int (i : Int)) = (i == j) := by
  rw [Bool.eq_iff_iff]
  simp
  omega
section
variable {P : Program} {w : World} {K : PySem.W.Frag} {mg : Str → Option Value} {base : Heap} {Cs Fs : Nat → Addr} {M : Addr}
set_option pp.maxSteps 3000
theorem newK {H J : Hp} {p : Addr} {o : HO} (e : upd H p o = J) (h : H p = none) : J p = some o ∧ Same H J := by
  subst e
  exact ⟨upd_same, same_put h (Same.refl _)⟩
theorem isA_of {X : Cx} {a : Addr} {C : Addr} {fs : List (Str × V)} {H : Hp} {c : V} {cv : Value} {b : Bool} {Q : VK} (T : Ec X.K C) (h : ErrX X.pn H a C fs) (hc : ClsV c cv) (k : PySem.W.kitOne X.K (.ref C) cv = some b) (q : Q (.bl b) H) : rIsA X [.ref a, c] H Q := by
  rcases h with ⟨_, h⟩ | ⟨d, h, hd⟩
  · exact ⟨a, C, none, c, cv, b, rfl, hc, T, h.seen, (fun dd e => by cases e), k, q⟩
  · exact ⟨a, C, some d, c, cv, b, rfl, hc, T, h.seen, (fun dd e => by cases e; exact ⟨fs, hd⟩), k, q⟩
theorem okFamilyB {f : Addr} {fd : FuncData} (F : Fun K "_law_family" "_law_family" sFamilyB f fd) (T : Tx mg) : FnB P w K mg base 1 f fd ["which"] (fun _ => spFamily) := by
  refine fnB_of F scFamilyB (fun pl vs H Q E h => ?_) (fun cdv A outer s H vs Q b pl hr mc h => ?_)
  · obtain ⟨i, rfl, _⟩ := h
    rfl
  · obtain ⟨i, rfl, hi, kk⟩ := h
    refine ⟨_, (pss_one (ps_ret (pe_ix ix_list (pe_lst (pa_cons pe_int (pa_cons pe_int (pa_cons pe_int (pa_cons pe_int (pa_cons pe_int (pa_cons pe_int (pa_cons pe_int (pa_cons pe_int (pa_cons pe_int (pa_cons pe_int (pa_cons pe_int pa_nil)))))))))))) (pv 0) (fun _ _ => rfl)))), ?_⟩
    rcases (by omega : i = 0 ∨ i = 1 ∨ i = 2 ∨ i = 3 ∨ i = 4 ∨ i = 5 ∨ i = 6 ∨ i = 7 ∨ i = 8 ∨ i = 9 ∨ i = 10) with rfl | rfl | rfl | rfl | rfl | rfl | rfl | rfl | rfl | rfl | rfl <;>
    · walk_at "rds"
      refine ⟨by show 11 ≤ sizeLine; decide, fun p hp => ?_⟩
      walk_at "rds"
      exact kk _ (same_put hp (Same.refl _))
theorem okKinds {f : Addr} {fd : FuncData} (F : Fun K "_law_kinds" "_law_kinds" sKinds f fd) (T : Tx mg) (C : Cf P w K mg base Cs Fs M) : FnB P w K mg base 1 f fd ["error"] (spKinds Cs) := by
  refine fnB_of F scKinds (fun pl vs H Q E h => ?_) (fun cdv A outer s H vs Q b pl hr mc h => ?_)
  · obtain ⟨i, a, fs, rfl, _⟩ := h
    rfl
  · obtain ⟨i, a, fs, rfl, hi, he, kk⟩ := h
    refine ⟨_, (pss_cons (ps_set (i := 1) scKinds.nd rfl (Or.inl rfl) (pe_lst (pa_cons (pe_callB call_isA (by rfl) T.n_isinstance (by decide +kernel) (pa_cons (pv 0) (pa_cons (pe_cls (C.kl 0 (by decide)).g) pa_nil))) (pa_cons (pe_callB call_isA (by rfl) T.n_isinstance (by decide +kernel) (pa_cons (pv 0) (pa_cons (pe_cls (C.kl 1 (by decide)).g) pa_nil))) (pa_cons (pe_callB call_isA (by rfl) T.n_isinstance (by decide +kernel) (pa_cons (pv 0) (pa_cons (pe_cls (C.kl 2 (by decide)).g) pa_nil))) pa_nil)))))
    (pss_cons (ps_set (i := 1) scKinds.nd rfl (Or.inl rfl) (pe_op op_cat (pv 1) (pe_lst (pa_cons (pe_callB call_isA (by rfl) T.n_isinstance (by decide +kernel) (pa_cons (pv 0) (pa_cons (pe_cls (C.kl 3 (by decide)).g) pa_nil))) (pa_cons (pe_callB call_isA (by rfl) T.n_isinstance (by decide +kernel) (pa_cons (pv 0) (pa_cons (pe_cls (C.kl 4 (by decide)).g) pa_nil))) (pa_cons (pe_callB call_isA (by rfl) T.n_isinstance (by decide +kernel) (pa_cons (pv 0) (pa_cons (pe_cls (C.kl 5 (by decide)).g) pa_nil))) pa_nil))))))
    (pss_cons (ps_set (i := 1) scKinds.nd rfl (Or.inl rfl) (pe_op op_cat (pv 1) (pe_lst (pa_cons (pe_callB call_isA (by rfl) T.n_isinstance (by decide +kernel) (pa_cons (pv 0) (pa_cons (pe_cls (C.kl 6 (by decide)).g) pa_nil))) (pa_cons (pe_callB call_isA (by rfl) T.n_isinstance (by decide +kernel) (pa_cons (pv 0) (pa_cons (pe_cls (C.kl 7 (by decide)).g) pa_nil))) (pa_cons (pe_callB call_isA (by rfl) T.n_isinstance (by decide +kernel) (pa_cons (pv 0) (pa_cons (pe_cls (C.kl 8 (by decide)).g) pa_nil))) pa_nil))))))
    (pss_one (ps_ret (pe_op op_cat (pv 1) (pe_lst (pa_cons (pe_callB call_isA (by rfl) T.n_isinstance (by decide +kernel) (pa_cons (pv 0) (pa_cons (pe_cls (C.kl 9 (by decide)).g) pa_nil))) (pa_cons (pe_callB call_isA (by rfl) T.n_isinstance (by decide +kernel) (pa_cons (pv 0) (pa_cons (pe_cls (C.kl 10 (by decide)).g) pa_nil))) pa_nil))))))))), ?_⟩
    have ec := (C.kl i hi).ec
    walk_at "rds"
    refine isA_of ec he (.own _) (C.kCC i 0 hi (by decide)) ?_
    walk_at "rds"
    refine isA_of ec he (.own _) (C.kCC i 1 hi (by decide)) ?_
    walk_at "rds"
    refine isA_of ec he (.own _) (C.kCC i 2 hi (by decide)) ?_
    walk_at "rds"
    refine ⟨(by show 3 ≤ sizeLine; decide), fun p0 h0 => ?_⟩
    generalize hK0 : upd _ p0 _ = K0
    obtain ⟨r0, t0⟩ := newK hK0 h0
    have e0 := he.mono t0
    walk_at "rds"
    refine isA_of ec e0 (.own _) (C.kCC i 3 hi (by decide)) ?_
    walk_at "rds"
    refine isA_of ec e0 (.own _) (C.kCC i 4 hi (by decide)) ?_
    walk_at "rds"
    refine isA_of ec e0 (.own _) (C.kCC i 5 hi (by decide)) ?_
    walk_at "rds"
    refine ⟨(by show 3 ≤ sizeLine; decide), fun p1 h1 => ?_⟩
    generalize hK1 : upd _ p1 _ = K1
    obtain ⟨s1, u1⟩ := newK hK1 h1
    refine ⟨_, _, _, _, rfl, rfl, u1 _ _ r0, s1, (by show 6 ≤ sizeLine; decide), fun q1 g1 => ?_⟩
    generalize hL1 : upd _ q1 _ = L1
    obtain ⟨r1, v1⟩ := newK hL1 g1
    have t1 := (t0.trans u1).trans v1
    have e1 := he.mono t1
    walk_at "rds"
    refine isA_of ec e1 (.own _) (C.kCC i 6 hi (by decide)) ?_
    walk_at "rds"
    refine isA_of ec e1 (.own _) (C.kCC i 7 hi (by decide)) ?_
    walk_at "rds"
    refine isA_of ec e1 (.own _) (C.kCC i 8 hi (by decide)) ?_
    walk_at "rds"
    refine ⟨(by show 3 ≤ sizeLine; decide), fun p2 h2 => ?_⟩
    generalize hK2 : upd _ p2 _ = K2
    obtain ⟨s2, u2⟩ := newK hK2 h2
    refine ⟨_, _, _, _, rfl, rfl, u2 _ _ r1, s2, (by show 9 ≤ sizeLine; decide), fun q2 g2 => ?_⟩
    generalize hL2 : upd _ q2 _ = L2
    obtain ⟨r2, v2⟩ := newK hL2 g2
    have t2 := (t1.trans u2).trans v2
    have e2 := he.mono t2
    walk_at "rds"
    refine isA_of ec e2 (.own _) (C.kCC i 9 hi (by decide)) ?_
    walk_at "rds"
    refine isA_of ec e2 (.own _) (C.kCC i 10 hi (by decide)) ?_
    walk_at "rds"
    refine ⟨(by show 2 ≤ sizeLine; decide), fun p3 h3 => ?_⟩
    generalize hK3 : upd _ p3 _ = K3
    obtain ⟨s3, u3⟩ := newK hK3 h3
    refine ⟨_, _, _, _, rfl, rfl, u3 _ _ r2, s3, (by show 11 ≤ sizeLine; decide), fun q3 g3 => ?_⟩
    generalize hL3 : upd _ q3 _ = L3
    obtain ⟨r3, v3⟩ := newK hL3 g3
    have t3 := (t2.trans u3).trans v3
    have e3 := he.mono t3
    walk_at "rds"
    exact kk _ _ (r3.trans (by rfl)) t3
theorem okFamilies {f : Addr} {fd : FuncData} (F : Fun K "_law_families" "_law_families" sFamilies f fd) (T : Tx mg) (C : Cf P w K mg base Cs Fs M) : FnB P w K mg base 1 f fd ["error"] (spFamilies Cs) := by
  refine fnB_of F scFamilies (fun pl vs H Q E h => ?_) (fun cdv A outer s H vs Q b pl hr mc h => ?_)
  · obtain ⟨i, a, fs, rfl, _⟩ := h
    rfl
  · obtain ⟨i, a, fs, rfl, hi, he, kk⟩ := h
    refine ⟨_, (pss_cons (ps_set (i := 1) scFamilies.nd rfl (Or.inl rfl) (pe_lst (pa_cons (pe_callB call_isA (by rfl) T.n_isinstance (by decide +kernel) (pa_cons (pv 0) (pa_cons (pe_cls (C.gF 0 (by decide))) pa_nil))) (pa_cons (pe_callB call_isA (by rfl) T.n_isinstance (by decide +kernel) (pa_cons (pv 0) (pa_cons (pe_cls (C.gF 1 (by decide))) pa_nil))) (pa_cons (pe_callB call_isA (by rfl) T.n_isinstance (by decide +kernel) (pa_cons (pv 0) (pa_cons (pe_cls (C.gF 2 (by decide))) pa_nil))) pa_nil)))))
    (pss_one (ps_ret (pe_op op_cat (pv 1) (pe_lst (pa_cons (pe_callB call_isA (by rfl) T.n_isinstance (by decide +kernel) (pa_cons (pv 0) (pa_cons (pe_cls (C.gF 3 (by decide))) pa_nil))) pa_nil)))))), ?_⟩
    have ec := (C.kl i hi).ec
    walk_at "rds"
    refine isA_of ec he (.own _) (C.kCF i 0 hi (by decide)) ?_
    walk_at "rds"
    refine isA_of ec he (.own _) (C.kCF i 1 hi (by decide)) ?_
    walk_at "rds"
    refine isA_of ec he (.own _) (C.kCF i 2 hi (by decide)) ?_
    walk_at "rds"
    refine ⟨(by show 3 ≤ sizeLine; decide), fun p0 h0 => ?_⟩
    generalize hK0 : upd _ p0 _ = K0
    obtain ⟨r0, t0⟩ := newK hK0 h0
    have e0 := he.mono t0
    walk_at "rds"
    refine isA_of ec e0 (.own _) (C.kCF i 3 hi (by decide)) ?_
    walk_at "rds"
    refine ⟨(by show 1 ≤ sizeLine; decide), fun p1 h1 => ?_⟩
    generalize hK1 : upd _ p1 _ = K1
    obtain ⟨s1, u1⟩ := newK hK1 h1
    refine ⟨_, _, _, _, rfl, rfl, u1 _ _ r0, s1, (by show 4 ≤ sizeLine; decide), fun q1 g1 => ?_⟩
    generalize hL1 : upd _ q1 _ = L1
    obtain ⟨r1, v1⟩ := newK hL1 g1
    have t1 := (t0.trans u1).trans v1
    have e1 := he.mono t1
    walk_at "rds"
    exact kk _ _ (r1.trans (by rfl)) t1
theorem okStands {f : Addr} {fd : FuncData} (F : Fun K "_law_stands" "_law_stands" sStands f fd) (T : Tx mg) (C : Cf P w K mg base Cs Fs M) (DK : Dm P w K mg base "_law_kinds" 1 ["error"] (spKinds Cs)) (DF : Dm P w K mg base "_law_families" 1 ["error"] (spFamilies Cs)) (DY : Dm P w K mg base "_law_family" 1 ["which"] (fun _ => spFamily)) :
    FnB P w K mg base 2 f fd ["which", "error"] (spStands Cs) := by
  refine fnB_of F scStands (fun pl vs H Q E h => ?_) (fun cdv A outer s H vs Q b pl hr mc h => ?_)
  · obtain ⟨i, a, fs, rfl, _⟩ := h
    rfl
  · obtain ⟨i, a, fs, rfl, hi, he, kk⟩ := h
    refine ⟨_, (pss_cons (ps_if (PW.pt (pw_or (pt_not (pt_val (pe_callB call_isA (by rfl) T.n_isinstance (by decide +kernel) (pa_cons (pv 1) (pa_cons (pe_cls C.gM) pa_nil))))) (pw_or1 (pt_not (pt_val (pe_callB call_isA (by rfl) T.n_isinstance (by decide +kernel) (pa_cons (pv 1) (pa_cons (pe_bltn (v := .ty "ValueError") (u := .type "ValueError") rfl T.n_ValueError (by decide +kernel) rfl) pa_nil))))))))
    (pss_one (ps_ret pe_bl))
    pss_nil)
    (pss_cons (ps_if (pt_cmpR (op_neD (hu2 hr)) (pe_dm DK (hr.mono (by omega)) mc (pa_cons (pv 1) pa_nil)) (pe_lcM mc (own := [("k", 2)]) (g := gName 2) scStands.nd rfl T.n_range (pa_cons pe_int pa_nil) (blkOk_by (own := [("k", 2)]) (N := ["which", "error", "k"]) (sc := defScope sStands) (by decide +kernel)) (fun _ _ _ _ _ => pg_name (i := 2) scStands.nd rfl (Or.inl rfl)) (fun _ _ _ _ _ => pts_nil) (fun _ _ _ _ _ => (pe_cmpR op_eq (pv 2) (pv 0) (nomark _)))) (nomark _))
    (pss_one (ps_ret pe_bl))
    pss_nil)
    (pss_one (ps_ret (pe_cmpR (op_eqD (hu2 hr)) (pe_dm DF (hr.mono (by omega)) mc (pa_cons (pv 1) pa_nil)) (pe_lcM mc (own := [("k", 2)]) (g := gName 2) scStands.nd rfl T.n_range (pa_cons pe_int pa_nil) (blkOk_by (own := [("k", 2)]) (N := ["which", "error", "k"]) (sc := defScope sStands) (by decide +kernel)) (fun _ _ _ _ _ => pg_name (i := 2) scStands.nd rfl (Or.inl rfl)) (fun _ _ _ _ _ => pts_nil) (fun _ _ _ _ _ => (pe_cmpR op_eq (pv 2) (pe_dm DY (hr.mono (by omega)) (MoodC.blk mc _ _ _ _ _) (pa_cons (pv 0) pa_nil)) (nomark _)))) (nomark _)))))), ?_⟩
    have ec := (C.kl i hi).ec
    walk_at "rds"
    refine isA_of ec he (.own _) (C.kCM i hi) ?_
    walk_at "rds"
    refine isA_of ec he (.ty _) (C.kCV i hi) ?_
    walk_at "rds"
    refine ⟨i, a, fs, rfl, hi, he, fun p1 H1 r1 s1 => ?_⟩
    walk_at "rds"
    refine ⟨by decide, by decide, fun d hd => ?_⟩
    refine lc_range (lo := 0) (n := 11) (fun j H2 => H2 d = some (.lst ((List.range j).map fun k => V.bl (i == k))) ∧ Same H1 H2) ⟨upd_same, same_put hd (Same.refl _)⟩ ?_ ?_
    · rintro j H2 hj ⟨e2, s2⟩
      refine ⟨rfl, ?_⟩
      walk_at "rds"
      refine ⟨_, e2, ?_, ?_, same_put hd s2⟩
      · rw [List.length_map, List.length_range, sizeLine_eq]
        omega
      · rw [upd_same, List.range_succ, List.map_append, dec_ij]
        have ec : (i == j) = (j == i) := by rw [Bool.eq_iff_iff]; simp; omega
        first | rfl | (rw [ec]; rfl) | (rw [← ec]; rfl)
    · rintro H2 ⟨e2, s2⟩
      refine neD_bools (f := fun k => i == k) (s2 _ _ r1) e2 ?_
      walk_at "rds"
      have s12 := s1.trans s2
      refine ⟨i, a, fs, rfl, hi, he.mono s12, fun p3 H3 r3 s3 => ?_⟩
      walk_at "rds"
      refine ⟨by decide, by decide, fun d4 hd4 => ?_⟩
      refine lc_range (lo := 0) (n := 4) (fun j H4 => H4 d4 = some (.lst ((List.range j).map fun k => V.bl (famI i == k))) ∧ Same H3 H4) ⟨upd_same, same_put hd4 (Same.refl _)⟩ ?_ ?_
      · rintro j H4 hj ⟨e4, s4⟩
        refine ⟨rfl, ?_⟩
        walk_at "rds"
        refine ⟨i, rfl, hi, fun H5 s5 => ?_⟩
        walk_at "rds"
        refine ⟨_, s5 _ _ e4, ?_, ?_, same_put hd4 (s4.trans s5)⟩
        · rw [List.length_map, List.length_range, sizeLine_eq]
          omega
        · rw [upd_same, List.range_succ, List.map_append, dec_ij]
          have ec : (famI i == j) = (j == famI i) := by rw [Bool.eq_iff_iff]; simp; omega
          first | rfl | (rw [ec]; rfl) | (rw [← ec]; rfl)
      · rintro H4 ⟨e4, s4⟩
        refine eqD_bools (f := fun k => famI i == k) (s4 _ _ r3) e4 ?_
        walk_at "rds"
        exact kk _ ((s12.trans s3).trans s4)
end
end K78
end SecB10
section SecB11
set_option Elab.async false
set_option linter.all false
set_option maxRecDepth 100000
set_option maxHeartbeats 4000000
set_option pp.deepTerms false
local macro_rules | `(tactic| walk_at "rd") => `(tactic| first
  | with_reducible refine Rd.seq ?_ | with_reducible refine Rd.asg ?_ | with_reducible refine Rd.nm ?_ | with_reducible refine Rd.sub ?_ | with_reducible refine Rd.ret ?_ | with_reducible refine Rd.retN ?_
  | with_reducible refine Rd.drop ?_ | with_reducible refine Rd.ifs ?_ | with_reducible refine Rd.next ?_ | with_reducible refine Rd.cst ?_ | with_reducible refine Rd.op ?_ | with_reducible refine Rd.un ?_
  | with_reducible refine Rd.test ?_ | with_reducible refine Rd.tb' ?_ | with_reducible refine Rd.exb ?_ | with_reducible refine Rd.exi ?_ | with_reducible refine Rd.and2 ?_ | with_reducible refine Rd.or2 ?_ | with_reducible refine Rd.not1 ?_
  | with_reducible refine Rd.andV ?_ | with_reducible refine Rd.orV ?_ | with_reducible refine Rd.notV ?_ | with_reducible refine Rd.nil ?_ | with_reducible refine Rd.cons ?_ | with_reducible refine Rd.cb ?_
  | with_reducible refine Rd.i0 ?_ | with_reducible refine Rd.u1 ?_ | with_reducible refine Rd.call ?_ | with_reducible refine Rd.tup ?_ | with_reducible refine Rd.lst ?_ | with_reducible refine Rd.sl ?_ | with_reducible refine Rd.no ?_ | with_reducible refine Rd.part ?_ | with_reducible refine Rd.at_ ?_ | with_reducible refine Rd.yes ?_ | with_reducible refine Rd.fors ?_ | with_reducible refine Rd.m1 ?_ | with_reducible refine Rd.exs ?_ | with_reducible refine Rd.lc ?_ | with_reducible refine Rd.rng ?_ | ((with_reducible refine' Rd.lenKL ?he ?_); (case he => first | assumption | exact L2.upd_same)) | ((with_reducible refine' Rd.lenKT ?he ?_); (case he => first | assumption | exact L2.upd_same))
  | ((with_reducible refine' Rd.var ?hv ?_); (case hv => exact rfl))
  | ((with_reducible refine' Rd.ifT ?hv ?_); (case hv => exact rfl)) | ((with_reducible refine' Rd.ifF ?hv ?_); (case hv => exact rfl))
  | ((with_reducible refine' Rd.eq ?hv ?_); (case hv => exact rfl))
  | ((with_reducible refine' Rd.ne ?hv ?_); (case hv => exact rfl))
  | with_reducible refine ⟨rfl, ?_⟩ | with_reducible refine Or.inl ⟨_, rfl, ?_⟩ | with_reducible refine Or.inr ⟨_, rfl, ?_⟩ | with_reducible refine ⟨_, rfl, ?_⟩
  | ((with_reducible refine' Rd.ex2 ⟨rfl, ?hl, ?_⟩); (case hl => first | exact Or.inl ⟨_, L2.SqL.of (by first | assumption | exact L2.upd_same), rfl⟩ | exact Or.inr ⟨_, L2.SqT.of (by first | assumption | exact L2.upd_same), rfl⟩))
  | ((with_reducible refine' Rd.i1 ?hv ?_); (case hv => first | exact ⟨by decide, by decide, by decide⟩ | exact Or.inr ⟨by decide, by decide⟩ | exact Or.inl ⟨by decide, by decide⟩ | exact ⟨by decide, by decide⟩ | decide | assumption | (show _ ≠ _; omega) | (refine ⟨?_, ?_⟩ <;> omega) | (refine Or.inl ⟨?_, ?_⟩ <;> omega)))
  | ((with_reducible refine' Rd.ixL ?he ?hx ?_); (case he => first | assumption | exact L2.upd_same); (case hx => rfl))
  | ((with_reducible refine' Rd.ixT ?he ?hx ?_); (case he => first | assumption | exact L2.upd_same); (case hx => rfl))
  | ((with_reducible refine' Rd.setL ?he ?hx ?_); (case he => first | assumption | exact L2.upd_same); (case hx => rfl)))
local macro_rules | `(tactic| walk_at "rd") => `(tactic| first
  | ((with_reducible refine' Rd.isi ?h1 ?h2 ?h3 ?_); (case h1 => first | exact L2.ClsV.ty _ | exact L2.ClsV.own _);
     (case h2 => first | exact L2.TyX.base L2.TyOf.non | exact L2.TyX.base (L2.TyOf.bl _) | exact L2.TyX.base (L2.TyOf.int _) | exact L2.TyX.base (L2.TyOf.str _) | exact L2.TyX.base (L2.TyOf.tup (by assumption)) | exact L2.TyX.base (L2.TyOf.lst (by assumption)));
     (case h3 => first | exact L2.kit_ty (r := true) (by decide +kernel) | exact L2.kit_ty (r := false) (by decide +kernel)))
  | with_reducible refine Rd.isT ?_ | with_reducible refine Rd.isnT ?_)
local macro_rules | `(tactic| walk_at "rd") => `(tactic| first | with_reducible refine Rd.mkv ?_ | with_reducible refine Rd.mkvK ?_ | with_reducible refine Rd.mko ?_ | with_reducible refine Rd.callB ?_)
local macro_rules | `(tactic| walk_at "rds") => `(tactic| repeat (first | walk_at "rd" | assumption))
namespace K78
open PySem PySem.Spec PyProof.Rows L2 L2H Err
/-- a suite that knows the error it holds -/
def tsAll (cls : Value) (d : Option Addr) (t : Obj → List (Addr × Obj) → TS) : TS := fun D σ H => ∀ (oe : Obj) (pn : List (Addr × Obj)), L2N.Zn cls d oe → (∃ vs, oe.data = .fields vs) → t oe pn D σ H
theorem pss_all {X : Cx} {ss : List Stmt} {cls : Value} {d : Option Addr} {t : Obj → List (Addr × Obj) → TS} {oe : Obj} {pn : List (Addr × Obj)} (hz : L2N.Zn cls d oe) (hf : ∃ vs, oe.data = .fields vs) (h : PSs X ss (t oe pn)) : PSs X ss (tsAll cls d t) :=
  ⟨fun pins s σ H D I q => h.run pins s σ H D I (q oe pn hz hf)⟩
theorem mood_suite {X : Cx} {a : Addr} {oe : Obj} {cls : Value} {d : Option Addr} {pn : List (Addr × Obj)} (hz : L2N.Zn cls d oe) (hf : ∃ vs, oe.data = .fields vs) : MoodC (X.suite a ((a, oe) :: pn)) false [(a, oe)] := by
  obtain ⟨vs, hv⟩ := hf
  exact .hot (a, oe) ⟨rfl, vs, hv, hz.2.2 vs hv⟩ List.mem_cons_self
theorem takes0N {X : Cx} : L2N.Takes X (fun _ _ _ _ => False) := fun _ _ x => by
  obtain ⟨_, _, _, _, _, _, _, _, _, _, _, _, _, _, _, _, w⟩ := x
  exact w.elim
theorem errX_hot {i : Nat} {u v : V} {H : Hp} {a C : Addr} {d : Option Addr} {oe : Obj} {pn : List (Addr × Obj)} (hz : L2N.Zn (.ref C) d oe) (hf : ∃ vs, oe.data = .fields vs)
    (h : (d = none ∧ nmI i = []) ∨ ∃ dd, d = some dd ∧ H dd = some (.xd (flds i u v))) : ErrX ((a, oe) :: pn) H a C (flds i u v) := by
  rcases h with ⟨rfl, e⟩ | ⟨dd, rfl, e⟩
  · exact .inl ⟨by unfold flds; rw [e]; rfl, .inr ⟨oe, List.mem_cons_self, ⟨hz.1, hz.2.1⟩, hf⟩⟩
  · exact .inr ⟨dd, .inr ⟨oe, List.mem_cons_self, ⟨hz.1, hz.2.1⟩, hf⟩, .inl e⟩
theorem thrown_of {Cs : Nat → Addr} {i : Nat} {u v : V} {H : Hp} {Q : VK} {E : XK} (hi : i < 11) (h : ∀ (d : Option Addr) (H' : Hp), ((d = none ∧ nmI i = []) ∨ ∃ dd, d = some dd ∧ H' dd = some (.xd (flds i u v))) → Same H H' → E (.ref (Cs i)) d H') :
    spThrown Cs [.int i, u, v] H Q E :=
  ⟨i, u, v, rfl, hi, fun e => h none H (.inl ⟨rfl, e⟩) (Same.refl _), fun _ d H' e s => h (some d) H' (.inr ⟨d, rfl, e⟩) s⟩
section
variable {X : Cx} {x : Str} {k : Nat} {ps : List Str} {sp : Sp} {q pos : Pos} {e : Expr} {es : List Expr} {t : TA}
theorem pe_dnS {W : WX} (D : Dn X.prog X.w X.K X.mg X.base (L2N.CX X.prog X.w) x k ps sp) (hr : Room k X.A) (tk : L2N.Takes X W) (ha : PA X (e :: es) t) (hg : Gl X x := by rfl) (hdb : (x == ("__debug__" : Str)) = false := by decide)
    (he : starEach (e :: es) X.env = (false, eval e X.env) :: starEach es X.env := by rfl) (hpl : (backTo pos (starEach es X.env)).any (·.1) = false := by rfl) : PE X (.Call (.Name x q) (e :: es) [] pos) (tCallS sp (WE W) t) := by
  obtain ⟨f, fd, F, hm, hk, hb⟩ := D.ex
  exact pe_callS F hr hg hm hk hb (fun σ => L2N.passAt tk σ) ha hdb he hpl
end
theorem roomH_mk {k : Nat} {A : Around} (r : Room k A) (h : Option Value) : RoomH k (A.mark h) := ⟨r.dp, r.un⟩
theorem famI_lt (i : Nat) : famI i < 4 := by
  unfold famI
  split <;> decide
/-- the pair behind a suite -/
theorem pair_end {i : Nat} {u v : V} {x : V} {H H' H2 : Hp} {q p : Addr} {R : V → Hp → Prop} (kk : ∀ (p q : Addr) (H' : Hp), H' p = some (.tup [x, .ref q]) → H' q = some (.tup (valsI i u v)) → Same H H' → R (.ref p) H')
    (s : Same H H') (s2 : Same H' H2) (hq : H2 q = some (.tup (valsI i u v))) (hp : H2 p = none) : R (.ref p) (upd H2 p (.tup [x, .ref q])) :=
  kk p q _ upd_same (by rw [upd_ne (ne_of_none hq hp)]; exact hq) ((s.trans s2).trans (same_put hp (Same.refl _)))
end K78
namespace Rd
open PySem PySem.Spec PyProof.Rows L2 L2H Err K78
section
variable {D : Ends} {σ : L2.St} {H : Hp} {Q : VK} {sp : Sp} {E : L2.St → XK} {ta : TA}
theorem callS (q : ta σ H fun vs H1 => sp vs H1 Q (E σ)) : tCallS sp E ta σ H Q := q
end
end Rd
local macro_rules | `(tactic| walk_at "rd") => `(tactic| first | with_reducible refine Rd.callS ?_)
local macro_rules | `(tactic| walk_at "rds") => `(tactic| repeat (first | walk_at "rd" | assumption))
namespace K78
open PySem PySem.Spec PyProof.Rows L2 L2H Err
abbrev sByFamily : Stmt := topS 31
theorem scByFamily : FnScope ["which", "one", "other", "e"] ["which", "one", "other"] (defScope sByFamily) := ⟨rfl, rfl, rfl, by decide +kernel, rfl, by decide +kernel, by decide +kernel⟩
section
variable {P : Program} {w : World} {K : PySem.W.Frag} {mg : Str → Option Value} {base : Heap} {Cs Fs : Nat → Addr} {M : Addr}
set_option pp.maxSteps 3000
theorem okByFamily {f : Addr} {fd : FuncData} (F : Fun K "_law_by_family" "_law_by_family" sByFamily f fd) (T : Tx mg) (C : Cf P w K mg base Cs Fs M) (DT : Dn P w K mg base (L2N.CX P w) "_law_thrown" 3 ["which", "one", "other"] (spThrown Cs)) (DF : Dm P w K mg base "_law_fields" 1 ["which", "error"] (spFields Cs)) :
    FnOk P w K mg base CX0 4 f fd ["which", "one", "other"] (spBy fun i => .int (famI i)) := by
  refine F.ok scByFamily (fun vs H Q E h => ?_) (fun cdv A outer s H vs Q E hr h => ?_)
  · obtain ⟨i, u, v, rfl, _⟩ := h
    rfl
  · obtain ⟨i, u, v, rfl, hi, kk⟩ := h
    refine ⟨_, (pss_cons (ps_trys (Wout := fun _ _ _ _ => False) (tb := fun W => tDrop (tCallS (spThrown Cs) (WE W) (tCons (tVar 0) (tCons (tVar 1) (tCons (tVar 2) tNil))))) rfl rfl scByFamily.nd takes0N
      (fun W pn xe tk _ => pss_one (ps_expr (pe_dnS DT (hr.mono (by omega)) tk (pa_cons (pv 0) (pa_cons (pv 1) (pa_cons (pv 2) pa_nil))))))
      (ClOk.as (i := 3) (ts := fun a cls d => tsAll cls d fun oe pn => _) (tst_name ⟨rfl, by decide, .inl (C.gF 3 (by decide))⟩) rfl rfl (fun a oe cls d pn hz hf => pss_all (pn := pn) hz hf (pss_one (ps_ret (pe_tup (pa_cons pe_int (pa_cons (pe_dm DF (roomH_mk (hr.mono (by omega)) _) (mood_suite hz hf) (pa_cons (pv 0) (pa_cons (pv 3) pa_nil))) pa_nil))))))
      (ClOk.as (i := 3) (ts := fun a cls d => tsAll cls d fun oe pn => _) (tst_name ⟨rfl, by decide, .inl (C.gF 2 (by decide))⟩) rfl rfl (fun a oe cls d pn hz hf => pss_all (pn := pn) hz hf (pss_one (ps_ret (pe_tup (pa_cons pe_int (pa_cons (pe_dm DF (roomH_mk (hr.mono (by omega)) _) (mood_suite hz hf) (pa_cons (pv 0) (pa_cons (pv 3) pa_nil))) pa_nil))))))
      (ClOk.as (i := 3) (ts := fun a cls d => tsAll cls d fun oe pn => _) (tst_name ⟨rfl, by decide, .inl (C.gF 1 (by decide))⟩) rfl rfl (fun a oe cls d pn hz hf => pss_all (pn := pn) hz hf (pss_one (ps_ret (pe_tup (pa_cons pe_int (pa_cons (pe_dm DF (roomH_mk (hr.mono (by omega)) _) (mood_suite hz hf) (pa_cons (pv 0) (pa_cons (pv 3) pa_nil))) pa_nil))))))
      (ClOk.as (i := 3) (ts := fun a cls d => tsAll cls d fun oe pn => _) (tst_name ⟨rfl, by decide, .inl (C.gF 0 (by decide))⟩) rfl rfl (fun a oe cls d pn hz hf => pss_all (pn := pn) hz hf (pss_one (ps_ret (pe_tup (pa_cons pe_int (pa_cons (pe_dm DF (roomH_mk (hr.mono (by omega)) _) (mood_suite hz hf) (pa_cons (pv 0) (pa_cons (pv 3) pa_nil))) pa_nil))))))
      ClOk.nil)))))
      (pss_one (ps_ret (pe_tup (pa_cons pe_int (pa_cons (pe_tup pa_nil) pa_nil)))))), ?_⟩
    have st0 : L2.start ["which", "one", "other", "e"] [V.int i, u, v] = [some (.int i), some u, some v, none] := rfl
    rw [st0]
    walk_at "rds"
    refine thrown_of hi fun d H' hd s' => ?_
    refine ⟨_, C.xCF i 3 hi (by decide), fun hy a na => ?_, fun n3 => ?_⟩
    · intro oe pn hz hf
      have ex : famI i = 3 := by simpa using hy
      refine Rd.ret ?_
      walk_at "rds"
      refine ⟨i, a, u, v, rfl, hi, errX_hot hz hf hd, fun q H2 nq eq s2 => ?_⟩
      walk_at "rds"
      refine ⟨by show 2 ≤ sizeLine; decide, fun p hp => ?_⟩
      simp only [ex] at kk
      exact pair_end (R := Q) kk s' s2 eq hp
    refine ⟨_, C.xCF i 2 hi (by decide), fun hy a na => ?_, fun n2 => ?_⟩
    · intro oe pn hz hf
      have ex : famI i = 2 := by simpa using hy
      refine Rd.ret ?_
      walk_at "rds"
      refine ⟨i, a, u, v, rfl, hi, errX_hot hz hf hd, fun q H2 nq eq s2 => ?_⟩
      walk_at "rds"
      refine ⟨by show 2 ≤ sizeLine; decide, fun p hp => ?_⟩
      simp only [ex] at kk
      exact pair_end (R := Q) kk s' s2 eq hp
    refine ⟨_, C.xCF i 1 hi (by decide), fun hy a na => ?_, fun n1 => ?_⟩
    · intro oe pn hz hf
      have ex : famI i = 1 := by simpa using hy
      refine Rd.ret ?_
      walk_at "rds"
      refine ⟨i, a, u, v, rfl, hi, errX_hot hz hf hd, fun q H2 nq eq s2 => ?_⟩
      walk_at "rds"
      refine ⟨by show 2 ≤ sizeLine; decide, fun p hp => ?_⟩
      simp only [ex] at kk
      exact pair_end (R := Q) kk s' s2 eq hp
    refine ⟨_, C.xCF i 0 hi (by decide), fun hy a na => ?_, fun n0 => ?_⟩
    · intro oe pn hz hf
      have ex : famI i = 0 := by simpa using hy
      refine Rd.ret ?_
      walk_at "rds"
      refine ⟨i, a, u, v, rfl, hi, errX_hot hz hf hd, fun q H2 nq eq s2 => ?_⟩
      walk_at "rds"
      refine ⟨by show 2 ≤ sizeLine; decide, fun p hp => ?_⟩
      simp only [ex] at kk
      exact pair_end (R := Q) kk s' s2 eq hp
    exfalso
    have z := famI_lt i
    simp at n3 n2 n1 n0
    omega
end
end K78
end SecB11
section SecB12
set_option Elab.async false
set_option linter.all false
set_option maxRecDepth 100000
set_option maxHeartbeats 4000000
set_option pp.deepTerms false
local macro_rules | `(tactic| walk_at "rd") => `(tactic| first
  | with_reducible refine Rd.seq ?_ | with_reducible refine Rd.asg ?_ | with_reducible refine Rd.nm ?_ | with_reducible refine Rd.sub ?_ | with_reducible refine Rd.ret ?_ | with_reducible refine Rd.retN ?_
  | with_reducible refine Rd.drop ?_ | with_reducible refine Rd.ifs ?_ | with_reducible refine Rd.next ?_ | with_reducible refine Rd.cst ?_ | with_reducible refine Rd.op ?_ | with_reducible refine Rd.un ?_
  | with_reducible refine Rd.test ?_ | with_reducible refine Rd.tb' ?_ | with_reducible refine Rd.exb ?_ | with_reducible refine Rd.exi ?_ | with_reducible refine Rd.and2 ?_ | with_reducible refine Rd.or2 ?_ | with_reducible refine Rd.not1 ?_
  | with_reducible refine Rd.andV ?_ | with_reducible refine Rd.orV ?_ | with_reducible refine Rd.notV ?_ | with_reducible refine Rd.nil ?_ | with_reducible refine Rd.cons ?_ | with_reducible refine Rd.cb ?_
  | with_reducible refine Rd.i0 ?_ | with_reducible refine Rd.u1 ?_ | with_reducible refine Rd.call ?_ | with_reducible refine Rd.tup ?_ | with_reducible refine Rd.lst ?_ | with_reducible refine Rd.sl ?_ | with_reducible refine Rd.no ?_ | with_reducible refine Rd.part ?_ | with_reducible refine Rd.at_ ?_ | with_reducible refine Rd.yes ?_ | with_reducible refine Rd.fors ?_ | with_reducible refine Rd.m1 ?_ | with_reducible refine Rd.exs ?_ | with_reducible refine Rd.lc ?_ | with_reducible refine Rd.rng ?_ | ((with_reducible refine' Rd.lenKL ?he ?_); (case he => first | assumption | exact L2.upd_same)) | ((with_reducible refine' Rd.lenKT ?he ?_); (case he => first | assumption | exact L2.upd_same))
  | ((with_reducible refine' Rd.var ?hv ?_); (case hv => exact rfl))
  | ((with_reducible refine' Rd.ifT ?hv ?_); (case hv => exact rfl)) | ((with_reducible refine' Rd.ifF ?hv ?_); (case hv => exact rfl))
  | ((with_reducible refine' Rd.eq ?hv ?_); (case hv => exact rfl))
  | ((with_reducible refine' Rd.ne ?hv ?_); (case hv => exact rfl))
  | with_reducible refine ⟨rfl, ?_⟩ | with_reducible refine Or.inl ⟨_, rfl, ?_⟩ | with_reducible refine Or.inr ⟨_, rfl, ?_⟩ | with_reducible refine ⟨_, rfl, ?_⟩
  | ((with_reducible refine' Rd.ex2 ⟨rfl, ?hl, ?_⟩); (case hl => first | exact Or.inl ⟨_, L2.SqL.of (by first | assumption | exact L2.upd_same), rfl⟩ | exact Or.inr ⟨_, L2.SqT.of (by first | assumption | exact L2.upd_same), rfl⟩))
  | ((with_reducible refine' Rd.i1 ?hv ?_); (case hv => first | exact ⟨by decide, by decide, by decide⟩ | exact Or.inr ⟨by decide, by decide⟩ | exact Or.inl ⟨by decide, by decide⟩ | exact ⟨by decide, by decide⟩ | decide | assumption | (show _ ≠ _; omega) | (refine ⟨?_, ?_⟩ <;> omega) | (refine Or.inl ⟨?_, ?_⟩ <;> omega)))
  | ((with_reducible refine' Rd.ixL ?he ?hx ?_); (case he => first | assumption | exact L2.upd_same); (case hx => rfl))
  | ((with_reducible refine' Rd.ixT ?he ?hx ?_); (case he => first | assumption | exact L2.upd_same); (case hx => rfl))
  | ((with_reducible refine' Rd.setL ?he ?hx ?_); (case he => first | assumption | exact L2.upd_same); (case hx => rfl)))
local macro_rules | `(tactic| walk_at "rd") => `(tactic| first
  | ((with_reducible refine' Rd.isi ?h1 ?h2 ?h3 ?_); (case h1 => first | exact L2.ClsV.ty _ | exact L2.ClsV.own _);
     (case h2 => first | exact L2.TyX.base L2.TyOf.non | exact L2.TyX.base (L2.TyOf.bl _) | exact L2.TyX.base (L2.TyOf.int _) | exact L2.TyX.base (L2.TyOf.str _) | exact L2.TyX.base (L2.TyOf.tup (by assumption)) | exact L2.TyX.base (L2.TyOf.lst (by assumption)));
     (case h3 => first | exact L2.kit_ty (r := true) (by decide +kernel) | exact L2.kit_ty (r := false) (by decide +kernel)))
  | with_reducible refine Rd.isT ?_ | with_reducible refine Rd.isnT ?_)
local macro_rules | `(tactic| walk_at "rd") => `(tactic| first | with_reducible refine Rd.mkv ?_ | with_reducible refine Rd.mkvK ?_ | with_reducible refine Rd.mko ?_ | with_reducible refine Rd.callB ?_)
local macro_rules | `(tactic| walk_at "rds") => `(tactic| repeat (first | walk_at "rd" | assumption))
local macro_rules | `(tactic| walk_at "rd") => `(tactic| first | with_reducible refine Rd.callS ?_)
local macro_rules | `(tactic| walk_at "rds") => `(tactic| repeat (first | walk_at "rd" | assumption))
namespace K78
open PySem PySem.Spec PyProof.Rows L2 L2H Err
abbrev sByClass : Stmt := topS 32
theorem scByClass : FnScope ["which", "one", "other", "e"] ["which", "one", "other"] (defScope sByClass) := ⟨rfl, rfl, rfl, by decide +kernel, rfl, by decide +kernel, by decide +kernel⟩
section
variable {P : Program} {w : World} {K : PySem.W.Frag} {mg : Str → Option Value} {base : Heap} {Cs Fs : Nat → Addr} {M : Addr}
set_option pp.maxSteps 3000
theorem okByClass {f : Addr} {fd : FuncData} (F : Fun K "_law_by_class" "_law_by_class" sByClass f fd) (T : Tx mg) (C : Cf P w K mg base Cs Fs M) (DT : Dn P w K mg base (L2N.CX P w) "_law_thrown" 3 ["which", "one", "other"] (spThrown Cs)) (DF : Dm P w K mg base "_law_fields" 1 ["which", "error"] (spFields Cs)) :
    FnOk P w K mg base CX0 4 f fd ["which", "one", "other"] (spBy fun i => .int i) := by
  refine F.ok scByClass (fun vs H Q E h => ?_) (fun cdv A outer s H vs Q E hr h => ?_)
  · obtain ⟨i, u, v, rfl, _⟩ := h
    rfl
  · obtain ⟨i, u, v, rfl, hi, kk⟩ := h
    refine ⟨_, (pss_cons (ps_trys (Wout := fun _ _ _ _ => False) (tb := fun W => tDrop (tCallS (spThrown Cs) (WE W) (tCons (tVar 0) (tCons (tVar 1) (tCons (tVar 2) tNil))))) rfl rfl scByClass.nd takes0N
      (fun W pn xe tk _ => pss_one (ps_expr (pe_dnS DT (hr.mono (by omega)) tk (pa_cons (pv 0) (pa_cons (pv 1) (pa_cons (pv 2) pa_nil))))))
      (ClOk.as (i := 3) (ts := fun a cls d => tsAll cls d fun oe pn => _) (tst_pair ⟨rfl, by decide, .inl (C.kl 0 (by decide)).g⟩ ⟨rfl, by decide, .inl (C.kl 1 (by decide)).g⟩) rfl rfl (fun a oe cls d pn hz hf => pss_all (pn := pn) hz hf (pss_one (ps_ret (pe_tup (pa_cons (pe_callTy call_int1 (by rfl) T.n_int (by decide +kernel) (pa_cons (pe_callB call_isA (by rfl) T.n_isinstance (by decide +kernel) (pa_cons (pv 3) (pa_cons (pe_cls (C.kl 1 (by decide)).g) pa_nil))) pa_nil)) (pa_cons (pe_dm DF (roomH_mk (hr.mono (by omega)) _) (mood_suite hz hf) (pa_cons (pv 0) (pa_cons (pv 3) pa_nil))) pa_nil))))))
      (ClOk.as (i := 3) (ts := fun a cls d => tsAll cls d fun oe pn => _) (tst_name ⟨rfl, by decide, .inl (C.kl 2 (by decide)).g⟩) rfl rfl (fun a oe cls d pn hz hf => pss_all (pn := pn) hz hf (pss_one (ps_ret (pe_tup (pa_cons pe_int (pa_cons (pe_dm DF (roomH_mk (hr.mono (by omega)) _) (mood_suite hz hf) (pa_cons (pv 0) (pa_cons (pv 3) pa_nil))) pa_nil))))))
      (ClOk.as (i := 3) (ts := fun a cls d => tsAll cls d fun oe pn => _) (tst_name ⟨rfl, by decide, .inl (C.kl 3 (by decide)).g⟩) rfl rfl (fun a oe cls d pn hz hf => pss_all (pn := pn) hz hf (pss_one (ps_ret (pe_tup (pa_cons pe_int (pa_cons (pe_dm DF (roomH_mk (hr.mono (by omega)) _) (mood_suite hz hf) (pa_cons (pv 0) (pa_cons (pv 3) pa_nil))) pa_nil))))))
      (ClOk.as (i := 3) (ts := fun a cls d => tsAll cls d fun oe pn => _) (tst_name ⟨rfl, by decide, .inl (C.kl 4 (by decide)).g⟩) rfl rfl (fun a oe cls d pn hz hf => pss_all (pn := pn) hz hf (pss_one (ps_ret (pe_tup (pa_cons pe_int (pa_cons (pe_dm DF (roomH_mk (hr.mono (by omega)) _) (mood_suite hz hf) (pa_cons (pv 0) (pa_cons (pv 3) pa_nil))) pa_nil))))))
      (ClOk.only (ts := fun a cls d => tsAll cls d fun oe pn => _) (tst_name ⟨rfl, by decide, .inl (C.kl 5 (by decide)).g⟩) (fun a oe cls d pn hz hf => pss_all (pn := pn) hz hf (pss_one (ps_ret (pe_tup (pa_cons pe_int (pa_cons (pe_tup pa_nil) pa_nil))))))
      (ClOk.as (i := 3) (ts := fun a cls d => tsAll cls d fun oe pn => _) (tst_name ⟨rfl, by decide, .inl (C.kl 6 (by decide)).g⟩) rfl rfl (fun a oe cls d pn hz hf => pss_all (pn := pn) hz hf (pss_one (ps_ret (pe_tup (pa_cons pe_int (pa_cons (pe_dm DF (roomH_mk (hr.mono (by omega)) _) (mood_suite hz hf) (pa_cons (pv 0) (pa_cons (pv 3) pa_nil))) pa_nil))))))
      (ClOk.as (i := 3) (ts := fun a cls d => tsAll cls d fun oe pn => _) (tst_name ⟨rfl, by decide, .inl (C.kl 7 (by decide)).g⟩) rfl rfl (fun a oe cls d pn hz hf => pss_all (pn := pn) hz hf (pss_one (ps_ret (pe_tup (pa_cons pe_int (pa_cons (pe_dm DF (roomH_mk (hr.mono (by omega)) _) (mood_suite hz hf) (pa_cons (pv 0) (pa_cons (pv 3) pa_nil))) pa_nil))))))
      (ClOk.as (i := 3) (ts := fun a cls d => tsAll cls d fun oe pn => _) (tst_name ⟨rfl, by decide, .inl (C.kl 8 (by decide)).g⟩) rfl rfl (fun a oe cls d pn hz hf => pss_all (pn := pn) hz hf (pss_one (ps_ret (pe_tup (pa_cons pe_int (pa_cons (pe_dm DF (roomH_mk (hr.mono (by omega)) _) (mood_suite hz hf) (pa_cons (pv 0) (pa_cons (pv 3) pa_nil))) pa_nil))))))
      (ClOk.as (i := 3) (ts := fun a cls d => tsAll cls d fun oe pn => _) (tst_name ⟨rfl, by decide, .inl (C.kl 9 (by decide)).g⟩) rfl rfl (fun a oe cls d pn hz hf => pss_all (pn := pn) hz hf (pss_one (ps_ret (pe_tup (pa_cons pe_int (pa_cons (pe_dm DF (roomH_mk (hr.mono (by omega)) _) (mood_suite hz hf) (pa_cons (pv 0) (pa_cons (pv 3) pa_nil))) pa_nil))))))
      (ClOk.as (i := 3) (ts := fun a cls d => tsAll cls d fun oe pn => _) (tst_name ⟨rfl, by decide, .inl (C.kl 10 (by decide)).g⟩) rfl rfl (fun a oe cls d pn hz hf => pss_all (pn := pn) hz hf (pss_one (ps_ret (pe_tup (pa_cons pe_int (pa_cons (pe_dm DF (roomH_mk (hr.mono (by omega)) _) (mood_suite hz hf) (pa_cons (pv 0) (pa_cons (pv 3) pa_nil))) pa_nil))))))
      ClOk.nil)))))))))))
      (pss_one (ps_ret (pe_tup (pa_cons pe_int (pa_cons (pe_tup pa_nil) pa_nil)))))), ?_⟩
    have st0 : L2.start ["which", "one", "other", "e"] [V.int i, u, v] = [some (.int i), some u, some v, none] := rfl
    rw [st0]
    walk_at "rds"
    refine thrown_of hi fun d H' hd s' => ?_
    refine ⟨_, C.xP i hi, fun hy a na => ?_, fun n0 => ?_⟩
    · intro oe pn hz hf
      refine Rd.ret ?_
      walk_at "rds"
      refine isA_of (C.kl i hi).ec (errX_hot hz hf hd) (.own _) (C.kCC i 1 hi (by decide)) ?_
      walk_at "rds"
      refine ⟨i, a, u, v, rfl, hi, errX_hot hz hf hd, fun q H2 nq eq s2 => ?_⟩
      walk_at "rds"
      refine ⟨by show 2 ≤ sizeLine; decide, fun p hp => ?_⟩
      have h01 : i = 0 ∨ i = 1 := by simpa using hy
      have ex : (if (i == 1) = true then (1 : Int) else 0) = (i : Int) := by
        rcases h01 with e | e <;> rw [e] <;> rfl
      rw [ex]
      exact pair_end (R := Q) kk s' s2 eq hp
    refine ⟨_, C.xCC i 2 hi (by decide), fun hy a na => ?_, fun n2 => ?_⟩
    · intro oe pn hz hf
      have ex : i = 2 := by simpa using hy
      refine Rd.ret ?_
      walk_at "rds"
      refine ⟨i, a, u, v, rfl, hi, errX_hot hz hf hd, fun q H2 nq eq s2 => ?_⟩
      walk_at "rds"
      refine ⟨by show 2 ≤ sizeLine; decide, fun p hp => ?_⟩
      have ek : (fun i : Nat => V.int i) i = V.int 2 := by rw [ex]; rfl
      rw [ek] at kk
      exact pair_end (R := Q) kk s' s2 eq hp
    refine ⟨_, C.xCC i 3 hi (by decide), fun hy a na => ?_, fun n3 => ?_⟩
    · intro oe pn hz hf
      have ex : i = 3 := by simpa using hy
      refine Rd.ret ?_
      walk_at "rds"
      refine ⟨i, a, u, v, rfl, hi, errX_hot hz hf hd, fun q H2 nq eq s2 => ?_⟩
      walk_at "rds"
      refine ⟨by show 2 ≤ sizeLine; decide, fun p hp => ?_⟩
      have ek : (fun i : Nat => V.int i) i = V.int 3 := by rw [ex]; rfl
      rw [ek] at kk
      exact pair_end (R := Q) kk s' s2 eq hp
    refine ⟨_, C.xCC i 4 hi (by decide), fun hy a na => ?_, fun n4 => ?_⟩
    · intro oe pn hz hf
      have ex : i = 4 := by simpa using hy
      refine Rd.ret ?_
      walk_at "rds"
      refine ⟨i, a, u, v, rfl, hi, errX_hot hz hf hd, fun q H2 nq eq s2 => ?_⟩
      walk_at "rds"
      refine ⟨by show 2 ≤ sizeLine; decide, fun p hp => ?_⟩
      have ek : (fun i : Nat => V.int i) i = V.int 4 := by rw [ex]; rfl
      rw [ek] at kk
      exact pair_end (R := Q) kk s' s2 eq hp
    refine ⟨_, C.xCC i 5 hi (by decide), fun hy a na => ?_, fun n5 => ?_⟩
    · intro oe pn hz hf
      have ex : i = 5 := by simpa using hy
      refine Rd.ret ?_
      walk_at "rds"
      refine ⟨by show 0 ≤ sizeLine; decide, fun q hq => ?_⟩
      walk_at "rds"
      refine ⟨by show 2 ≤ sizeLine; decide, fun p hp => ?_⟩
      simp only [ex] at kk
      exact pair_end (R := Q) (i := 5) kk s' (same_put hq (Same.refl _)) upd_same hp
    refine ⟨_, C.xCC i 6 hi (by decide), fun hy a na => ?_, fun n6 => ?_⟩
    · intro oe pn hz hf
      have ex : i = 6 := by simpa using hy
      refine Rd.ret ?_
      walk_at "rds"
      refine ⟨i, a, u, v, rfl, hi, errX_hot hz hf hd, fun q H2 nq eq s2 => ?_⟩
      walk_at "rds"
      refine ⟨by show 2 ≤ sizeLine; decide, fun p hp => ?_⟩
      have ek : (fun i : Nat => V.int i) i = V.int 6 := by rw [ex]; rfl
      rw [ek] at kk
      exact pair_end (R := Q) kk s' s2 eq hp
    refine ⟨_, C.xCC i 7 hi (by decide), fun hy a na => ?_, fun n7 => ?_⟩
    · intro oe pn hz hf
      have ex : i = 7 := by simpa using hy
      refine Rd.ret ?_
      walk_at "rds"
      refine ⟨i, a, u, v, rfl, hi, errX_hot hz hf hd, fun q H2 nq eq s2 => ?_⟩
      walk_at "rds"
      refine ⟨by show 2 ≤ sizeLine; decide, fun p hp => ?_⟩
      have ek : (fun i : Nat => V.int i) i = V.int 7 := by rw [ex]; rfl
      rw [ek] at kk
      exact pair_end (R := Q) kk s' s2 eq hp
    refine ⟨_, C.xCC i 8 hi (by decide), fun hy a na => ?_, fun n8 => ?_⟩
    · intro oe pn hz hf
      have ex : i = 8 := by simpa using hy
      refine Rd.ret ?_
      walk_at "rds"
      refine ⟨i, a, u, v, rfl, hi, errX_hot hz hf hd, fun q H2 nq eq s2 => ?_⟩
      walk_at "rds"
      refine ⟨by show 2 ≤ sizeLine; decide, fun p hp => ?_⟩
      have ek : (fun i : Nat => V.int i) i = V.int 8 := by rw [ex]; rfl
      rw [ek] at kk
      exact pair_end (R := Q) kk s' s2 eq hp
    refine ⟨_, C.xCC i 9 hi (by decide), fun hy a na => ?_, fun n9 => ?_⟩
    · intro oe pn hz hf
      have ex : i = 9 := by simpa using hy
      refine Rd.ret ?_
      walk_at "rds"
      refine ⟨i, a, u, v, rfl, hi, errX_hot hz hf hd, fun q H2 nq eq s2 => ?_⟩
      walk_at "rds"
      refine ⟨by show 2 ≤ sizeLine; decide, fun p hp => ?_⟩
      have ek : (fun i : Nat => V.int i) i = V.int 9 := by rw [ex]; rfl
      rw [ek] at kk
      exact pair_end (R := Q) kk s' s2 eq hp
    refine ⟨_, C.xCC i 10 hi (by decide), fun hy a na => ?_, fun n10 => ?_⟩
    · intro oe pn hz hf
      have ex : i = 10 := by simpa using hy
      refine Rd.ret ?_
      walk_at "rds"
      refine ⟨i, a, u, v, rfl, hi, errX_hot hz hf hd, fun q H2 nq eq s2 => ?_⟩
      walk_at "rds"
      refine ⟨by show 2 ≤ sizeLine; decide, fun p hp => ?_⟩
      have ek : (fun i : Nat => V.int i) i = V.int 10 := by rw [ex]; rfl
      rw [ek] at kk
      exact pair_end (R := Q) kk s' s2 eq hp
    exfalso
    simp at n0 n2 n3 n4 n5 n6 n7 n8 n9 n10
    omega
end
end K78
end SecB12
section SecB13
set_option Elab.async false
set_option linter.all false
set_option maxRecDepth 100000
set_option maxHeartbeats 4000000
set_option pp.deepTerms false
local macro_rules | `(tactic| walk_at "rd") => `(tactic| first
  | with_reducible refine Rd.seq ?_ | with_reducible refine Rd.asg ?_ | with_reducible refine Rd.nm ?_ | with_reducible refine Rd.sub ?_ | with_reducible refine Rd.ret ?_ | with_reducible refine Rd.retN ?_
  | with_reducible refine Rd.drop ?_ | with_reducible refine Rd.ifs ?_ | with_reducible refine Rd.next ?_ | with_reducible refine Rd.cst ?_ | with_reducible refine Rd.op ?_ | with_reducible refine Rd.un ?_
  | with_reducible refine Rd.test ?_ | with_reducible refine Rd.tb' ?_ | with_reducible refine Rd.exb ?_ | with_reducible refine Rd.exi ?_ | with_reducible refine Rd.and2 ?_ | with_reducible refine Rd.or2 ?_ | with_reducible refine Rd.not1 ?_
  | with_reducible refine Rd.andV ?_ | with_reducible refine Rd.orV ?_ | with_reducible refine Rd.notV ?_ | with_reducible refine Rd.nil ?_ | with_reducible refine Rd.cons ?_ | with_reducible refine Rd.cb ?_
  | with_reducible refine Rd.i0 ?_ | with_reducible refine Rd.u1 ?_ | with_reducible refine Rd.call ?_ | with_reducible refine Rd.tup ?_ | with_reducible refine Rd.lst ?_ | with_reducible refine Rd.sl ?_ | with_reducible refine Rd.no ?_ | with_reducible refine Rd.part ?_ | with_reducible refine Rd.at_ ?_ | with_reducible refine Rd.yes ?_ | with_reducible refine Rd.fors ?_ | with_reducible refine Rd.m1 ?_ | with_reducible refine Rd.exs ?_ | with_reducible refine Rd.lc ?_ | with_reducible refine Rd.rng ?_ | ((with_reducible refine' Rd.lenKL ?he ?_); (case he => first | assumption | exact L2.upd_same)) | ((with_reducible refine' Rd.lenKT ?he ?_); (case he => first | assumption | exact L2.upd_same))
  | ((with_reducible refine' Rd.var ?hv ?_); (case hv => exact rfl))
  | ((with_reducible refine' Rd.ifT ?hv ?_); (case hv => exact rfl)) | ((with_reducible refine' Rd.ifF ?hv ?_); (case hv => exact rfl))
  | ((with_reducible refine' Rd.eq ?hv ?_); (case hv => exact rfl))
  | ((with_reducible refine' Rd.ne ?hv ?_); (case hv => exact rfl))
  | with_reducible refine ⟨rfl, ?_⟩ | with_reducible refine Or.inl ⟨_, rfl, ?_⟩ | with_reducible refine Or.inr ⟨_, rfl, ?_⟩ | with_reducible refine ⟨_, rfl, ?_⟩
  | ((with_reducible refine' Rd.ex2 ⟨rfl, ?hl, ?_⟩); (case hl => first | exact Or.inl ⟨_, L2.SqL.of (by first | assumption | exact L2.upd_same), rfl⟩ | exact Or.inr ⟨_, L2.SqT.of (by first | assumption | exact L2.upd_same), rfl⟩))
  | ((with_reducible refine' Rd.i1 ?hv ?_); (case hv => first | exact ⟨by decide, by decide, by decide⟩ | exact Or.inr ⟨by decide, by decide⟩ | exact Or.inl ⟨by decide, by decide⟩ | exact ⟨by decide, by decide⟩ | decide | assumption | (show _ ≠ _; omega) | (refine ⟨?_, ?_⟩ <;> omega) | (refine Or.inl ⟨?_, ?_⟩ <;> omega)))
  | ((with_reducible refine' Rd.ixL ?he ?hx ?_); (case he => first | assumption | exact L2.upd_same); (case hx => rfl))
  | ((with_reducible refine' Rd.ixT ?he ?hx ?_); (case he => first | assumption | exact L2.upd_same); (case hx => rfl))
  | ((with_reducible refine' Rd.setL ?he ?hx ?_); (case he => first | assumption | exact L2.upd_same); (case hx => rfl)))
local macro_rules | `(tactic| walk_at "rd") => `(tactic| first
  | ((with_reducible refine' Rd.isi ?h1 ?h2 ?h3 ?_); (case h1 => first | exact L2.ClsV.ty _ | exact L2.ClsV.own _);
     (case h2 => first | exact L2.TyX.base L2.TyOf.non | exact L2.TyX.base (L2.TyOf.bl _) | exact L2.TyX.base (L2.TyOf.int _) | exact L2.TyX.base (L2.TyOf.str _) | exact L2.TyX.base (L2.TyOf.tup (by assumption)) | exact L2.TyX.base (L2.TyOf.lst (by assumption)));
     (case h3 => first | exact L2.kit_ty (r := true) (by decide +kernel) | exact L2.kit_ty (r := false) (by decide +kernel)))
  | with_reducible refine Rd.isT ?_ | with_reducible refine Rd.isnT ?_)
local macro_rules | `(tactic| walk_at "rd") => `(tactic| first | with_reducible refine Rd.mkv ?_ | with_reducible refine Rd.mkvK ?_ | with_reducible refine Rd.mko ?_ | with_reducible refine Rd.callB ?_)
local macro_rules | `(tactic| walk_at "rds") => `(tactic| repeat (first | walk_at "rd" | assumption))
local macro_rules | `(tactic| walk_at "rd") => `(tactic| first | with_reducible refine Rd.callS ?_)
local macro_rules | `(tactic| walk_at "rds") => `(tactic| repeat (first | walk_at "rd" | assumption))
namespace K78
open PySem PySem.Spec PyProof.Rows L2 L2H Err
abbrev sByBase : Stmt := topS 33
theorem scByBase : FnScope ["which", "one", "other", "e"] ["which", "one", "other"] (defScope sByBase) := ⟨rfl, rfl, rfl, by decide +kernel, rfl, by decide +kernel, by decide +kernel⟩
section
variable {P : Program} {w : World} {K : PySem.W.Frag} {mg : Str → Option Value} {base : Heap} {Cs Fs : Nat → Addr} {M : Addr}
set_option pp.maxSteps 3000
theorem okByBase {f : Addr} {fd : FuncData} (F : Fun K "_law_by_base" "_law_by_base" sByBase f fd) (T : Tx mg) (C : Cf P w K mg base Cs Fs M) (DT : Dn P w K mg base (L2N.CX P w) "_law_thrown" 3 ["which", "one", "other"] (spThrown Cs)) (DF : Dm P w K mg base "_law_fields" 1 ["which", "error"] (spFields Cs)) (DS : Dm P w K mg base "_law_stands" 2 ["which", "error"] (spStands Cs)) :
    FnOk P w K mg base CX0 4 f fd ["which", "one", "other"] (spBy fun i => .bl true) := by
  refine F.ok scByBase (fun vs H Q E h => ?_) (fun cdv A outer s H vs Q E hr h => ?_)
  · obtain ⟨i, u, v, rfl, _⟩ := h
    rfl
  · obtain ⟨i, u, v, rfl, hi, kk⟩ := h
    refine ⟨_, (pss_cons (ps_trys (Wout := fun _ _ _ _ => False) (tb := fun W => tDrop (tCallS (spThrown Cs) (WE W) (tCons (tVar 0) (tCons (tVar 1) (tCons (tVar 2) tNil))))) rfl rfl scByBase.nd takes0N
      (fun W pn xe tk _ => pss_one (ps_expr (pe_dnS DT (hr.mono (by omega)) tk (pa_cons (pv 0) (pa_cons (pv 1) (pa_cons (pv 2) pa_nil))))))
      (ClOk.as (i := 3) (ts := fun a cls d => tsAll cls d fun oe pn => _) (tst_name ⟨rfl, by decide, .inl C.gM⟩) rfl rfl (fun a oe cls d pn hz hf => pss_all (pn := pn) hz hf (pss_one (ps_ret (pe_tup (pa_cons (pe_dm DS (roomH_mk (hr.mono (by omega)) _) (mood_suite hz hf) (pa_cons (pv 0) (pa_cons (pv 3) pa_nil))) (pa_cons (pe_dm DF (roomH_mk (hr.mono (by omega)) _) (mood_suite hz hf) (pa_cons (pv 0) (pa_cons (pv 3) pa_nil))) pa_nil))))))
      ClOk.nil))
      (pss_one (ps_ret (pe_tup (pa_cons pe_bl (pa_cons (pe_tup pa_nil) pa_nil)))))), ?_⟩
    have st0 : L2.start ["which", "one", "other", "e"] [V.int i, u, v] = [some (.int i), some u, some v, none] := rfl
    rw [st0]
    walk_at "rds"
    refine thrown_of hi fun d H' hd s' => ?_
    refine ⟨_, C.xCM i hi, fun hy a na => ?_, fun n => by cases n⟩
    intro oe pn hz hf
    refine Rd.ret ?_
    walk_at "rds"
    refine ⟨i, a, _, rfl, hi, errX_hot hz hf hd, fun H1 s1 => ?_⟩
    walk_at "rds"
    refine ⟨i, a, u, v, rfl, hi, (errX_hot hz hf hd).mono s1, fun q H2 nq eq s2 => ?_⟩
    walk_at "rds"
    refine ⟨by show 2 ≤ sizeLine; decide, fun p hp => ?_⟩
    exact pair_end (R := Q) kk s' (s1.trans s2) eq hp
end
end K78
end SecB13
section SecB14p
set_option Elab.async false
set_option linter.all false
set_option maxRecDepth 100000
set_option maxHeartbeats 4000000
set_option pp.deepTerms false
namespace K78
open PySem PySem.Spec PyProof.Rows L2 L2H Err
abbrev B0 : Addr → Prop := fun _ => False
theorem nb {p : Addr} : ¬ B0 p := fun h => h
theorem std0 {H : Hp} : Std B0 H := fun _ h => h.elim
theorem manyI_le (i : Nat) : manyI i ≤ 2 := by
  unfold manyI nmI
  split <;> decide
theorem take2 {α : Type} {a b x : α} {m i : Nat} (h : ([a, b].take m)[i]? = some x) : (i = 0 ∧ 0 < m ∧ x = a) ∨ (i = 1 ∧ 1 < m ∧ x = b) := by
  rw [List.getElem?_take] at h
  split at h
  · rename_i hm
    match i, h, hm with
    | 0, h, hm => cases h; exact .inl ⟨rfl, hm, rfl⟩
    | 1, h, hm => cases h; exact .inr ⟨rfl, hm, rfl⟩
    | n + 2, h, hm => simp at h
  · cases h
theorem ne_head {a b c : V} {m : Nat} {l1 l2 : List V} {q : Prop} [Decidable q] (h : a ≠ c) : [a, b].take m ≠ if q then c :: l1 else c :: l2 := fun z => by
  split at z <;> (match m, z with
    | 0, z => cases z
    | n + 1, z => exact h (List.cons.inj z).1)
theorem ne_head2 {a b c : V} {m : Nat} {l1 l2 l3 : List V} {q r : Prop} [Decidable q] [Decidable r] (h : a ≠ c) : [a, b].take m ≠ if q then c :: l1 else if r then c :: l2 else c :: l3 := fun z => by
  split at z
  · exact ne_head (q := True) h (l1 := l1) (l2 := l1) (by rw [if_pos trivial]; exact z)
  · exact ne_head h z
theorem take_len {α : Type} {a b : α} {m : Nat} (h : m ≤ 2) : ([a, b].take m).length = m := by
  rw [List.length_take]
  show min m 2 = m
  omega
theorem eqd_pair {H : Hp} {p q : Addr} {m n : Nat} {a b c d : V} (hm : m ≤ 2) (hp : H p = some (.tup ([a, b].take m))) (hq : H q = some (.tup ([c, d].take m))) (h0 : 0 < m → Eqd B0 H n a c) (h1 : 1 < m → Eqd B0 H n b d) : Eqd B0 H (n + 1) (.ref p) (.ref q) := by
  refine .tup nb nb hp hq (by rw [take_len hm, take_len hm]) (by rw [take_len hm]; omega) fun i x y hx hy => ?_
  rcases take2 hx with ⟨e1, z1, rfl⟩ | ⟨e1, z1, rfl⟩ <;> rcases take2 hy with ⟨e2, z2, rfl⟩ | ⟨e2, z2, rfl⟩
  · exact h0 z1
  · omega
  · omega
  · exact h1 z1
theorem eqd_row {H : Hp} {p q : Addr} {n : Nat} {xs : List V} (hp : H p = some (.lst xs)) (hq : H q = some (.lst xs)) (hl : xs.length ≤ 1000) (h : ∀ x ∈ xs, Eqd B0 H n x x) : Eqd B0 H (n + 1) (.ref p) (.ref q) :=
  .lst nb nb hp hq rfl hl fun i x y hx hy => by
    rw [hx] at hy
    cases hy
    exact h x (List.mem_of_getElem? hx)
theorem eqd_at {H : Hp} {n : Nat} {p q : Addr} {w : V} {xs : List V} (e : Eqd B0 H n (.ref q) w) (hq : H q = some (.tup xs)) (hp : H p = some (.tup xs)) : Eqd B0 H n (.ref p) w := by
  cases e with
  | tup np nq ep eq l hl r =>
    rw [hq] at ep
    cases ep
    exact .tup nb nb hp eq l hl r
  | lst np nq ep eq l hl r =>
    rw [hq] at ep
    cases ep
theorem slA2 {K : PySem.W.Frag} {H : Hp} {p : Addr} {a b : V} {m : Nat} {Q : VK} (hm : m ≤ 2) (hp : H p = some (.tup [a, b])) (q : ∀ (p' : Addr) (H' : Hp), H' p' = some (.tup ([a, b].take m)) → Same H H' → Q (.ref p') H') : rSlA K (.ref p) none (some (m : Int)) H Q := by
  refine ⟨p, _, rfl, SqT.of hp, fun hw => ?_, fun _ p' n' => ?_⟩
  · rcases (by omega : m = 0 ∨ m = 1 ∨ m = 2) with rfl | rfl | rfl
    · exact absurd hw.2 (show ¬ HT.sIx 2 2 (some ((0 : Nat) : Int)) = 2 by decide)
    · exact absurd hw.2 (show ¬ HT.sIx 2 2 (some ((1 : Nat) : Int)) = 2 by decide)
    · exact q p H hp (Same.refl _)
  · refine q p' _ ?_ (same_put n' (Same.refl _))
    rw [upd_same]
    rcases (by omega : m = 0 ∨ m = 1 ∨ m = 2) with rfl | rfl | rfl <;> rfl
theorem slL2 {K : PySem.W.Frag} {H : Hp} {p : Addr} {a b : V} {m : Nat} {Q : VK} (hm : m ≤ 2) (hp : H p = some (.lst [a, b])) (q : ∀ (p' : Addr) (H' : Hp), H' p' = some (.lst ([a, b].take m)) → Same H H' → Q (.ref p') H') : rSlL K (.ref p) none (some (m : Int)) H Q := by
  refine ⟨p, _, rfl, SqL.of hp, fun p' n' => ?_⟩
  refine q p' _ ?_ (same_put n' (Same.refl _))
  rw [upd_same]
  rcases (by omega : m = 0 ∨ m = 1 ∨ m = 2) with rfl | rfl | rfl <;> rfl
theorem ErrO.put {H : Hp} {p a C : Addr} {fs : List (Str × V)} {c : List V} {o : HO} (h : ErrO H a C fs) (e : H p = some (.lst c)) : ErrO (upd H p o) a C fs := by
  have ne1 : ∀ {x : Addr} {φ : Heap → Prop}, H x = some (.ext φ) → x ≠ p := fun h => ne_of h e fun z => by cases z
  rcases h with ⟨e0, h⟩ | ⟨d, h1, h2⟩
  · exact .inl ⟨e0, by rw [upd_ne (ne1 h)]; exact h⟩
  · exact .inr ⟨d, by rw [upd_ne (ne1 h1)]; exact h1, by rw [upd_ne (ne1 h2)]; exact h2⟩
/-- two lists of one's own, an error that holds them -/
structure VS (Cs : Nat → Addr) (H0 H : Hp) (i : Nat) (p1 p2 a : Addr) (c1 c2 : List V) : Prop where
  s : Same H0 H
  e1 : H p1 = some (.lst c1)
  e2 : H p2 = some (.lst c2)
  er : ErrO H a (Cs i) (flds i (.ref p1) (.ref p2))
  n1 : H0 p1 = none
  n2 : H0 p2 = none
  n12 : p1 ≠ p2
theorem VS.mono {Cs : Nat → Addr} {H0 H H' : Hp} {i : Nat} {p1 p2 a : Addr} {c1 c2 : List V} (v : VS Cs H0 H i p1 p2 a c1 c2) (s : Same H H') : VS Cs H0 H' i p1 p2 a c1 c2 :=
  ⟨v.s.trans s, s _ _ v.e1, s _ _ v.e2, v.er.mono s, v.n1, v.n2, v.n12⟩
theorem VS.put1 {Cs : Nat → Addr} {H0 H : Hp} {i : Nat} {p1 p2 a : Addr} {c1 c2 c : List V} (v : VS Cs H0 H i p1 p2 a c1 c2) : VS Cs H0 (upd H p1 (.lst c)) i p1 p2 a c c2 :=
  ⟨same_put v.n1 v.s, upd_same, by rw [upd_ne v.n12.symm]; exact v.e2, v.er.put v.e1, v.n1, v.n2, v.n12⟩
theorem VS.put2 {Cs : Nat → Addr} {H0 H : Hp} {i : Nat} {p1 p2 a : Addr} {c1 c2 c : List V} (v : VS Cs H0 H i p1 p2 a c1 c2) : VS Cs H0 (upd H p2 (.lst c)) i p1 p2 a c1 c :=
  ⟨same_put v.n2 v.s, by rw [upd_ne v.n12]; exact v.e1, upd_same, v.er.put v.e2, v.n1, v.n2, v.n12⟩
def spVery : Sp := fun vs H Q _ => ∃ (i : Nat) (b : Bool), vs = [.int i, .bl b] ∧ i < 11 ∧ ∀ H' : Hp, Same H H' → Q (.bl true) H'
def spOne : Sp := fun vs H Q _ => ∃ (i : Nat) (u v : V), vs = [.int i, u, v] ∧ i < 11 ∧ Eqd B0 H 30 u u ∧ Eqd B0 H 30 v v ∧ ∀ H' : Hp, Same H H' → Q (.bl true) H'
/-- the defs that the law's parts call -/
structure Ds (P : Program) (w : World) (K : PySem.W.Frag) (mg : Str → Option Value) (base : Heap) (Cs : Nat → Addr) : Prop where
  Draw : Dn P w K mg base CX0 "_law_draw" 1 ["tape", "many"] spDraw
  Value : Dn P w K mg base CX0 "_law_value" 4 ["tape", "deep"] (spValue 2)
  Copy : Dn P w K mg base CX0 "_law_copy" 33 ["value"] (spCopy 31)
  Same : Dn P w K mg base CX0 "_law_same" 33 ["got", "due"] (spSame 31)
  Many : Dn P w K mg base CX0 "_law_many" 1 ["which"] spMany
  Family : Dn P w K mg base CX0 "_law_family" 1 ["which"] spFamily
  Made : Dn P w K mg base CX0 "_law_made" 3 ["which", "one", "other"] (spMade Cs)
  Named : Dn P w K mg base CX0 "_law_named" 3 ["which", "one", "other"] (spMade Cs)
  Fields : Dn P w K mg base CX0 "_law_fields" 1 ["which", "error"] (fun vs H Q _ => spFields Cs [] vs H Q E0)
  Stands : Dn P w K mg base CX0 "_law_stands" 2 ["which", "error"] (fun vs H Q _ => spStands Cs [] vs H Q E0)
  ByFamily : Dn P w K mg base CX0 "_law_by_family" 4 ["which", "one", "other"] (spBy fun i => .int (famI i))
  ByClass : Dn P w K mg base CX0 "_law_by_class" 4 ["which", "one", "other"] (spBy fun i => .int i)
  ByBase : Dn P w K mg base CX0 "_law_by_base" 4 ["which", "one", "other"] (spBy fun _ => .bl true)
end K78
namespace Rd
open PySem PySem.Spec PyProof.Rows L2 L2H Err K78
section
variable {D : Ends} {σ : L2.St} {H : Hp} {Q : VK} {K : PySem.W.Frag} {te : TE} {ta : TA} {p : Addr} {xs : List V}
theorem bm {T : String} {r : V → List V → Hp → VK → Prop} (q : te σ H fun x H1 => tyV K T x H1 ∧ ta σ H1 fun xs H2 => r x xs H2 Q) : tBM K T r te ta σ H Q := q
theorem itl {R : It → Hp → Prop} (q : te σ H fun x H1 => ∃ a, x = .ref a ∧ (∃ xs, SqL K H1 a xs) ∧ R (Itl K a) H1) : iList K te σ H R := q
theorem itt {R : It → Hp → Prop} (q : te σ H fun x H1 => ∃ a, x = .ref a ∧ (∃ xs, SqT K H1 a xs) ∧ R (Itt K a) H1) : iTup K te σ H R := q
/-- xs.append(y) -/
theorem app {y : V} (h : H p = some (.lst xs)) (hl : xs.length < sizeLine) (q : Q .non (upd H p (.lst (xs ++ [y])))) : rAppend (.ref p) [y] H Q := ⟨p, xs, y, rfl, rfl, h, hl, q⟩
end
end Rd
end SecB14p
section SecB14
set_option Elab.async false
set_option linter.all false
set_option maxRecDepth 100000
set_option maxHeartbeats 4000000
set_option pp.deepTerms false
local macro_rules | `(tactic| walk_at "rd") => `(tactic| first
  | with_reducible refine Rd.seq ?_ | with_reducible refine Rd.asg ?_ | with_reducible refine Rd.nm ?_ | with_reducible refine Rd.sub ?_ | with_reducible refine Rd.ret ?_ | with_reducible refine Rd.retN ?_
  | with_reducible refine Rd.drop ?_ | with_reducible refine Rd.ifs ?_ | with_reducible refine Rd.next ?_ | with_reducible refine Rd.cst ?_ | with_reducible refine Rd.op ?_ | with_reducible refine Rd.un ?_
  | with_reducible refine Rd.test ?_ | with_reducible refine Rd.tb' ?_ | with_reducible refine Rd.exb ?_ | with_reducible refine Rd.exi ?_ | with_reducible refine Rd.and2 ?_ | with_reducible refine Rd.or2 ?_ | with_reducible refine Rd.not1 ?_
  | with_reducible refine Rd.andV ?_ | with_reducible refine Rd.orV ?_ | with_reducible refine Rd.notV ?_ | with_reducible refine Rd.nil ?_ | with_reducible refine Rd.cons ?_ | with_reducible refine Rd.cb ?_
  | with_reducible refine Rd.i0 ?_ | with_reducible refine Rd.u1 ?_ | with_reducible refine Rd.call ?_ | with_reducible refine Rd.tup ?_ | with_reducible refine Rd.lst ?_ | with_reducible refine Rd.sl ?_ | with_reducible refine Rd.no ?_ | with_reducible refine Rd.part ?_ | with_reducible refine Rd.at_ ?_ | with_reducible refine Rd.yes ?_ | with_reducible refine Rd.fors ?_ | with_reducible refine Rd.m1 ?_ | with_reducible refine Rd.exs ?_ | with_reducible refine Rd.lc ?_ | with_reducible refine Rd.rng ?_ | ((with_reducible refine' Rd.lenKL ?he ?_); (case he => first | assumption | exact L2.upd_same)) | ((with_reducible refine' Rd.lenKT ?he ?_); (case he => first | assumption | exact L2.upd_same))
  | ((with_reducible refine' Rd.var ?hv ?_); (case hv => exact rfl))
  | ((with_reducible refine' Rd.ifT ?hv ?_); (case hv => exact rfl)) | ((with_reducible refine' Rd.ifF ?hv ?_); (case hv => exact rfl))
  | ((with_reducible refine' Rd.eq ?hv ?_); (case hv => exact rfl))
  | ((with_reducible refine' Rd.ne ?hv ?_); (case hv => exact rfl))
  | with_reducible refine ⟨rfl, ?_⟩ | with_reducible refine Or.inl ⟨_, rfl, ?_⟩ | with_reducible refine Or.inr ⟨_, rfl, ?_⟩ | with_reducible refine ⟨_, rfl, ?_⟩
  | ((with_reducible refine' Rd.ex2 ⟨rfl, ?hl, ?_⟩); (case hl => first | exact Or.inl ⟨_, L2.SqL.of (by first | assumption | exact L2.upd_same), rfl⟩ | exact Or.inr ⟨_, L2.SqT.of (by first | assumption | exact L2.upd_same), rfl⟩))
  | ((with_reducible refine' Rd.i1 ?hv ?_); (case hv => first | exact ⟨by decide, by decide, by decide⟩ | exact Or.inr ⟨by decide, by decide⟩ | exact Or.inl ⟨by decide, by decide⟩ | exact ⟨by decide, by decide⟩ | decide | assumption | (show _ ≠ _; omega) | (refine ⟨?_, ?_⟩ <;> omega) | (refine Or.inl ⟨?_, ?_⟩ <;> omega)))
  | ((with_reducible refine' Rd.ixL ?he ?hx ?_); (case he => first | assumption | exact L2.upd_same); (case hx => rfl))
  | ((with_reducible refine' Rd.ixT ?he ?hx ?_); (case he => first | assumption | exact L2.upd_same); (case hx => rfl))
  | ((with_reducible refine' Rd.setL ?he ?hx ?_); (case he => first | assumption | exact L2.upd_same); (case hx => rfl)))
local macro_rules | `(tactic| walk_at "rd") => `(tactic| first
  | ((with_reducible refine' Rd.isi ?h1 ?h2 ?h3 ?_); (case h1 => first | exact L2.ClsV.ty _ | exact L2.ClsV.own _);
     (case h2 => first | exact L2.TyX.base L2.TyOf.non | exact L2.TyX.base (L2.TyOf.bl _) | exact L2.TyX.base (L2.TyOf.int _) | exact L2.TyX.base (L2.TyOf.str _) | exact L2.TyX.base (L2.TyOf.tup (by assumption)) | exact L2.TyX.base (L2.TyOf.lst (by assumption)));
     (case h3 => first | exact L2.kit_ty (r := true) (by decide +kernel) | exact L2.kit_ty (r := false) (by decide +kernel)))
  | with_reducible refine Rd.isT ?_ | with_reducible refine Rd.isnT ?_)
local macro_rules | `(tactic| walk_at "rd") => `(tactic| first | with_reducible refine Rd.mkv ?_ | with_reducible refine Rd.mkvK ?_ | with_reducible refine Rd.mko ?_ | with_reducible refine Rd.callB ?_)
local macro_rules | `(tactic| walk_at "rds") => `(tactic| repeat (first | walk_at "rd" | assumption))
local macro_rules | `(tactic| walk_at "rd") => `(tactic| first | with_reducible refine Rd.callS ?_ | with_reducible refine Rd.bm ?_ | with_reducible refine Rd.itl ?_ | with_reducible refine Rd.itt ?_)
local macro_rules | `(tactic| walk_at "rds") => `(tactic| repeat (first | walk_at "rd" | assumption))
namespace K78
open PySem PySem.Spec PyProof.Rows L2 L2H Err
abbrev sVery : Stmt := topS 34
theorem scVery : FnScope ["which", "by_name", "one", "other", "error", "held", "row", "fields", "dues", "part"] ["which", "by_name"] (defScope sVery) := ⟨rfl, rfl, rfl, by decide +kernel, rfl, by decide +kernel, by decide +kernel⟩
section
variable {P : Program} {w : World} {K : PySem.W.Frag} {mg : Str → Option Value} {base : Heap} {Cs Fs : Nat → Addr} {M : Addr}
set_option pp.maxSteps 3000
theorem okVery {f : Addr} {fd : FuncData} (F : Fun K "_law_very" "_law_very" sVery f fd) (T : Tx mg) (D : Ds P w K mg base Cs) : FnOk P w K mg base CX0 34 f fd ["which", "by_name"] spVery := by
  refine F.ok scVery (fun vs H Q E h => ?_) (fun cdv A outer s H vs Q E hr h => ?_)
  · obtain ⟨i, b, rfl, _⟩ := h
    rfl
  · obtain ⟨i, b, rfl, hi, kk⟩ := h
    have hm := manyI_le i
    refine ⟨_, (pss_cons (ps_set (i := 2) scVery.nd rfl (Or.inl rfl) (pe_lst (pa_cons pe_str pa_nil)))
    (pss_cons (ps_set (i := 3) scVery.nd rfl (Or.inl rfl) (pe_lst (pa_cons pe_int pa_nil)))
    (pss_cons (ps_set (i := 4) scVery.nd rfl (Or.inl rfl) (pe_dn D.Made (hr.mono (by omega)) (pa_cons (pv 0) (pa_cons (pv 2) (pa_cons (pv 3) pa_nil)))))
    (C8.pss_cut (ps_if (pt_val (pv 1))
    (pss_one (ps_set (i := 4) scVery.nd rfl (Or.inl rfl) (pe_dn D.Named (hr.mono (by omega)) (pa_cons (pv 0) (pa_cons (pv 2) (pa_cons (pv 3) pa_nil))))))
    pss_nil)
    (pss_cons (ps_set (i := 5) scVery.nd rfl (Or.inl rfl) (pe_slice sl_list (pe_lst (pa_cons (pv 2) (pa_cons (pv 3) pa_nil))) po_none (po_some (pe_dn D.Many (hr.mono (by omega)) (pa_cons (pv 0) pa_nil)))))
    (pss_cons (ps_for PassesOwn.never rfl (pi_list (pv 5)) (pg_name (i := 6) scVery.nd rfl (Or.inl rfl))
    (pss_one (ps_expr (pe_bm PySem.F.plainAttrs_list PySem.F.slot_list_append PySem.F.type_list_append mt_append (pv 6) (pa_cons pe_bl pa_nil)))))
    (pss_cons (ps_set (i := 7) scVery.nd rfl (Or.inl rfl) (pe_dn D.Fields (hr.mono (by omega)) (pa_cons (pv 0) (pa_cons (pv 4) pa_nil))))
    (pss_cons (ps_set (i := 8) scVery.nd rfl (Or.inl rfl) (pe_slice sl_tupA (pe_tup (pa_cons (pe_lst (pa_cons pe_str (pa_cons pe_bl pa_nil))) (pa_cons (pe_lst (pa_cons pe_int (pa_cons pe_bl pa_nil))) pa_nil))) po_none (po_some (pe_dn D.Many (hr.mono (by omega)) (pa_cons (pv 0) pa_nil)))))
    (pss_cons (ps_if (pt_not (pt_val (pe_dn D.Same (hr.mono (by omega)) (pa_cons (pv 7) (pa_cons (pv 8) pa_nil)))))
    (pss_one (ps_ret pe_bl))
    pss_nil)
    (pss_cons (ps_for PassesOwn.never rfl (pi_tup (pv 7)) (pg_name (i := 9) scVery.nd rfl (Or.inl rfl))
    (pss_one (ps_expr (pe_bm PySem.F.plainAttrs_list PySem.F.slot_list_append PySem.F.type_list_append mt_append (pv 9) (pa_cons pe_non pa_nil)))))
    (pss_one (ps_ret (pe_dn D.Same (hr.mono (by omega)) (pa_cons (pe_callTy call_tuple_of (by rfl) T.n_tuple (by decide +kernel) (pa_cons (pv 5) pa_nil)) (pa_cons (pe_slice sl_tupA (pe_tup (pa_cons (pe_lst (pa_cons pe_str (pa_cons pe_bl (pa_cons pe_non pa_nil)))) (pa_cons (pe_lst (pa_cons pe_int (pa_cons pe_bl (pa_cons pe_non pa_nil)))) pa_nil))) po_none (po_some (pe_dn D.Many (hr.mono (by omega)) (pa_cons (pv 0) pa_nil)))) pa_nil))))))))))))))), ?_⟩
    have st0 : L2.start ["which", "by_name", "one", "other", "error", "held", "row", "fields", "dues", "part"] [V.int i, V.bl b] = [some (.int i), some (.bl b), none, none, none, none, none, none, none, none] := rfl
    rw [st0]
    walk_at "rds"
    refine ⟨by show 1 ≤ sizeLine; decide, fun p1 h1 => ?_⟩
    generalize hK1 : upd _ p1 _ = K1
    obtain ⟨r1, t1⟩ := newK hK1 h1
    walk_at "rds"
    refine ⟨by show 1 ≤ sizeLine; decide, fun p2 h2 => ?_⟩
    generalize hK2 : upd _ p2 _ = K2
    obtain ⟨r2, t2⟩ := newK hK2 h2
    walk_at "rds"
    refine ⟨i, _, _, rfl, hi, fun a0 H3 n3 e3 t3 => ?_⟩
    have n2 : H p2 = none := t1.free h2
    have v3 : VS Cs H H3 i p1 p2 a0 [.str "a"] [.int 1] := ⟨(t1.trans t2).trans t3, t3 _ _ (t2 _ _ r1), t3 _ _ r2, e3, h1, n2, ne_of_none r1 h2⟩
    walk_at "rds"
    refine Rd.cut (fun σ' H' => ∃ a, σ' = [some (.int i), some (.bl b), some (.ref p1), some (.ref p2), some (.ref a), none, none, none, none, none] ∧ VS Cs H H' i p1 p2 a [.str "a"] [.int 1]) ?_ ?_
    · walk_at "rds"
      refine Rd.ifB (fun _ => ?_) fun _ => ?_
      · walk_at "rds"
        refine ⟨i, _, _, rfl, hi, fun a4 H4 n4 e4 t4 => ?_⟩
        walk_at "rds"
        exact ⟨v3.s.trans t4, t4 _ _ v3.e1, t4 _ _ v3.e2, e4, v3.n1, v3.n2, v3.n12⟩
      · walk_at "rds"
    · rintro σ' H4 ⟨a, rfl, v4⟩
      walk_at "rds"
      refine ⟨by show 2 ≤ sizeLine; decide, fun p5 h5 => ?_⟩
      generalize hK5 : upd _ p5 _ = K5
      obtain ⟨r5, t5⟩ := newK hK5 h5
      walk_at "rds"
      refine ⟨i, rfl, hi, fun H6 t6 => ?_⟩
      walk_at "rds"
      refine slL2 hm (t6 _ _ r5) fun ph H7 r7 t7 => ?_
      have v7 := ((v4.mono t5).mono t6).mono t7
      walk_at "rds"
      refine ⟨⟨_, SqL.of r7⟩, ?_⟩
      refine for_list (K := K) (a := ph) (xs := [V.ref p1, V.ref p2].take (manyI i)) (fun j σ' H' => ∃ x6, σ' = [some (.int i), some (.bl b), some (.ref p1), some (.ref p2), some (.ref a), some (.ref ph), x6, none, none, none] ∧
        VS Cs H H' i p1 p2 a (if 0 < j then [.str "a", .bl true] else [.str "a"]) (if 1 < j then [.int 1, .bl true] else [.int 1]) ∧ H' ph = some (.lst ([V.ref p1, V.ref p2].take (manyI i))))
        ⟨none, rfl, v7, r7⟩ (fun j σ' H' _ ⟨_, _, _, r'⟩ => SqL.of r') ?_ ?_
      · rintro j x σ' H' hx ⟨x6, rfl, v', r'⟩
        have ph1 : ph ≠ p1 := ne_of r' v'.e1 fun z => ne_head (by simp) (HO.lst.inj z)
        have ph2 : ph ≠ p2 := ne_of r' v'.e2 fun z => ne_head (by simp) (HO.lst.inj z)
        walk_at "rds"
        rcases take2 hx with ⟨rfl, z, rfl⟩ | ⟨rfl, z, rfl⟩
        · refine ⟨.inl ⟨rfl, _, SqL.of v'.e1⟩, ?_⟩
          walk_at "rds"
          refine Rd.app v'.e1 (by show 1 < sizeLine; decide) ?_
          walk_at "rds"
          exact ⟨v'.put1, by rw [upd_ne ph1]; exact r'⟩
        · refine ⟨.inl ⟨rfl, _, SqL.of v'.e2⟩, ?_⟩
          walk_at "rds"
          refine Rd.app v'.e2 (by show 1 < sizeLine; decide) ?_
          walk_at "rds"
          exact ⟨v'.put2, by rw [upd_ne ph2]; exact r'⟩
      · rintro σ' H8 ⟨x6, rfl, v8, r8⟩
        rw [take_len hm] at v8
        walk_at "rds"
        refine ⟨i, a, _, _, rfl, hi, v8.er.x, fun q9 H9 n9 r9 t9 => ?_⟩
        have v9 := v8.mono t9
        walk_at "rds"
        refine ⟨by show 2 ≤ sizeLine; decide, fun d1 h10 => ?_⟩
        generalize hK10 : upd _ d1 _ = K10
        obtain ⟨r10, t10⟩ := newK hK10 h10
        walk_at "rds"
        refine ⟨by show 2 ≤ sizeLine; decide, fun d2 h11 => ?_⟩
        generalize hK11 : upd _ d2 _ = K11
        obtain ⟨r11, t11⟩ := newK hK11 h11
        walk_at "rds"
        refine ⟨by show 2 ≤ sizeLine; decide, fun q12 h12 => ?_⟩
        generalize hK12 : upd _ q12 _ = K12
        obtain ⟨r12, t12⟩ := newK hK12 h12
        walk_at "rds"
        refine ⟨i, rfl, hi, fun H13 t13 => ?_⟩
        walk_at "rds"
        refine slA2 hm (t13 _ _ r12) fun q14 H14 r14 t14 => ?_
        have s14 : Same H9 H14 := (((t10.trans t11).trans t12).trans t13).trans t14
        have v14 := v9.mono s14
        have rd1 : H14 d1 = some (.lst [.str "a", .bl true]) := t14 _ _ (t13 _ _ (t12 _ _ (t11 _ _ r10)))
        have rd2 : H14 d2 = some (.lst [.int 1, .bl true]) := t14 _ _ (t13 _ _ (t12 _ _ r11))
        have e14 : Eqd B0 H14 31 (.ref q9) (.ref q14) := eqd_pair (n := 30) hm (s14 _ _ r9) r14
          (fun z => by have e := v14.e1; rw [if_pos z] at e; exact eqd_row (n := 29) e rd1 (by show 2 ≤ 1000; decide) fun x hx => by rcases List.mem_cons.mp hx with rfl | hx; exact .str _; rcases List.mem_cons.mp hx with rfl | hx; exact .bl _; cases hx)
          (fun z => by have e := v14.e2; rw [if_pos z] at e; exact eqd_row (n := 29) e rd2 (by show 2 ≤ 1000; decide) fun x hx => by rcases List.mem_cons.mp hx with rfl | hx; exact .int _; rcases List.mem_cons.mp hx with rfl | hx; exact .bl _; cases hx)
        walk_at "rds"
        refine ⟨B0, _, _, rfl, e14, fun H15 t15 => ?_⟩
        have v15 := v14.mono t15
        have rq15 : H15 q9 = some (.tup ([V.ref p1, V.ref p2].take (manyI i))) := t15 _ _ (s14 _ _ r9)
        have rh15 : H15 ph = some (.lst ([V.ref p1, V.ref p2].take (manyI i))) := t15 _ _ (s14 _ _ (t9 _ _ r8))
        walk_at "rds"
        refine ⟨⟨_, SqT.of rq15⟩, ?_⟩
        refine for_tup (K := K) (a := q9) (xs := [V.ref p1, V.ref p2].take (manyI i)) (fun j σ' H' => ∃ x9, σ' = [some (.int i), some (.bl b), some (.ref p1), some (.ref p2), some (.ref a), some (.ref ph), x6, some (.ref q9), some (.ref q14), x9] ∧
          VS Cs H H' i p1 p2 a (if 0 < j then [.str "a", .bl true, .non] else if 0 < manyI i then [.str "a", .bl true] else [.str "a"]) (if 1 < j then [.int 1, .bl true, .non] else if 1 < manyI i then [.int 1, .bl true] else [.int 1]) ∧
          H' ph = some (.lst ([V.ref p1, V.ref p2].take (manyI i))) ∧ H' q9 = some (.tup ([V.ref p1, V.ref p2].take (manyI i))))
          ⟨none, rfl, v15, rh15, rq15⟩ (fun j σ' H' _ ⟨_, _, _, _, r'⟩ => SqT.of r') ?_ ?_
        · rintro j x σ' H' hx ⟨x9, rfl, v', rh', rq'⟩
          have q1 : q9 ≠ p1 := ne_of rq' v'.e1 fun z => by cases z
          have q2 : q9 ≠ p2 := ne_of rq' v'.e2 fun z => by cases z
          walk_at "rds"
          rcases take2 hx with ⟨rfl, z, rfl⟩ | ⟨rfl, z, rfl⟩
          · have ph1 : ph ≠ p1 := ne_of rh' v'.e1 fun z => ne_head2 (by simp) (HO.lst.inj z)
            have e' : H' p1 = some (.lst [.str "a", .bl true]) := by have e := v'.e1; rw [if_neg (Nat.lt_irrefl 0), if_pos z] at e; exact e
            refine ⟨.inl ⟨rfl, _, SqL.of e'⟩, ?_⟩
            walk_at "rds"
            refine Rd.app e' (by show 2 < sizeLine; decide) ?_
            walk_at "rds"
            exact ⟨v'.put1, by rw [upd_ne ph1]; exact rh', by rw [upd_ne q1]; exact rq'⟩
          · have ph2 : ph ≠ p2 := ne_of rh' v'.e2 fun z => ne_head2 (by simp) (HO.lst.inj z)
            have e' : H' p2 = some (.lst [.int 1, .bl true]) := by have e := v'.e2; rw [if_neg (Nat.lt_irrefl 1), if_pos z] at e; exact e
            refine ⟨.inl ⟨rfl, _, SqL.of e'⟩, ?_⟩
            walk_at "rds"
            refine Rd.app e' (by show 2 < sizeLine; decide) ?_
            walk_at "rds"
            exact ⟨v'.put2, by rw [upd_ne ph2]; exact rh', by rw [upd_ne q2]; exact rq'⟩
        · rintro σ' H16 ⟨x9, rfl, v16, rh16, rq16⟩
          rw [take_len hm] at v16
          walk_at "rds"
          refine ⟨_, _, rfl, .inl ⟨SqL.of rh16, fun q17 h17 => ?_⟩⟩
          generalize hK17 : upd _ q17 _ = K17
          obtain ⟨r17, t17⟩ := newK hK17 h17
          walk_at "rds"
          refine ⟨by show 3 ≤ sizeLine; decide, fun d3 h18 => ?_⟩
          generalize hK18 : upd _ d3 _ = K18
          obtain ⟨r18, t18⟩ := newK hK18 h18
          walk_at "rds"
          refine ⟨by show 3 ≤ sizeLine; decide, fun d4 h19 => ?_⟩
          generalize hK19 : upd _ d4 _ = K19
          obtain ⟨r19, t19⟩ := newK hK19 h19
          walk_at "rds"
          refine ⟨by show 2 ≤ sizeLine; decide, fun q20 h20 => ?_⟩
          generalize hK20 : upd _ q20 _ = K20
          obtain ⟨r20, t20⟩ := newK hK20 h20
          walk_at "rds"
          refine ⟨i, rfl, hi, fun H21 t21 => ?_⟩
          walk_at "rds"
          refine slA2 hm (t21 _ _ r20) fun q22 H22 r22 t22 => ?_
          have s22 : Same K17 H22 := (((t18.trans t19).trans t20).trans t21).trans t22
          have v22 := (v16.mono t17).mono s22
          have rd3 : H22 d3 = some (.lst [.str "a", .bl true, .non]) := t22 _ _ (t21 _ _ (t20 _ _ (t19 _ _ r18)))
          have rd4 : H22 d4 = some (.lst [.int 1, .bl true, .non]) := t22 _ _ (t21 _ _ (t20 _ _ r19))
          have e22 : Eqd B0 H22 31 (.ref q17) (.ref q22) := eqd_pair (n := 30) hm (s22 _ _ r17) r22
            (fun z => by have e := v22.e1; rw [if_pos z] at e; exact eqd_row (n := 29) e rd3 (by show 3 ≤ 1000; decide) fun x hx => by rcases List.mem_cons.mp hx with rfl | hx; exact .str _; rcases List.mem_cons.mp hx with rfl | hx; exact .bl _; rcases List.mem_cons.mp hx with rfl | hx; exact .non; cases hx)
            (fun z => by have e := v22.e2; rw [if_pos z] at e; exact eqd_row (n := 29) e rd4 (by show 3 ≤ 1000; decide) fun x hx => by rcases List.mem_cons.mp hx with rfl | hx; exact .int _; rcases List.mem_cons.mp hx with rfl | hx; exact .bl _; rcases List.mem_cons.mp hx with rfl | hx; exact .non; cases hx)
          walk_at "rds"
          exact ⟨B0, _, _, rfl, e22, fun H23 t23 => kk _ (v22.s.trans t23)⟩
end
end K78
end SecB14
section SecB15
set_option Elab.async false
set_option linter.all false
set_option maxRecDepth 100000
set_option maxHeartbeats 4000000
set_option pp.deepTerms false
local macro_rules | `(tactic| walk_at "rd") => `(tactic| first
  | with_reducible refine Rd.seq ?_ | with_reducible refine Rd.asg ?_ | with_reducible refine Rd.nm ?_ | with_reducible refine Rd.sub ?_ | with_reducible refine Rd.ret ?_ | with_reducible refine Rd.retN ?_
  | with_reducible refine Rd.drop ?_ | with_reducible refine Rd.ifs ?_ | with_reducible refine Rd.next ?_ | with_reducible refine Rd.cst ?_ | with_reducible refine Rd.op ?_ | with_reducible refine Rd.un ?_
  | with_reducible refine Rd.test ?_ | with_reducible refine Rd.tb' ?_ | with_reducible refine Rd.exb ?_ | with_reducible refine Rd.exi ?_ | with_reducible refine Rd.and2 ?_ | with_reducible refine Rd.or2 ?_ | with_reducible refine Rd.not1 ?_
  | with_reducible refine Rd.andV ?_ | with_reducible refine Rd.orV ?_ | with_reducible refine Rd.notV ?_ | with_reducible refine Rd.nil ?_ | with_reducible refine Rd.cons ?_ | with_reducible refine Rd.cb ?_
  | with_reducible refine Rd.i0 ?_ | with_reducible refine Rd.u1 ?_ | with_reducible refine Rd.call ?_ | with_reducible refine Rd.tup ?_ | with_reducible refine Rd.lst ?_ | with_reducible refine Rd.sl ?_ | with_reducible refine Rd.no ?_ | with_reducible refine Rd.part ?_ | with_reducible refine Rd.at_ ?_ | with_reducible refine Rd.yes ?_ | with_reducible refine Rd.fors ?_ | with_reducible refine Rd.m1 ?_ | with_reducible refine Rd.exs ?_ | with_reducible refine Rd.lc ?_ | with_reducible refine Rd.rng ?_ | ((with_reducible refine' Rd.lenKL ?he ?_); (case he => first | assumption | exact L2.upd_same)) | ((with_reducible refine' Rd.lenKT ?he ?_); (case he => first | assumption | exact L2.upd_same))
  | ((with_reducible refine' Rd.var ?hv ?_); (case hv => exact rfl))
  | ((with_reducible refine' Rd.ifT ?hv ?_); (case hv => exact rfl)) | ((with_reducible refine' Rd.ifF ?hv ?_); (case hv => exact rfl))
  | ((with_reducible refine' Rd.eq ?hv ?_); (case hv => exact rfl))
  | ((with_reducible refine' Rd.ne ?hv ?_); (case hv => exact rfl))
  | with_reducible refine ⟨rfl, ?_⟩ | with_reducible refine Or.inl ⟨_, rfl, ?_⟩ | with_reducible refine Or.inr ⟨_, rfl, ?_⟩ | with_reducible refine ⟨_, rfl, ?_⟩
  | ((with_reducible refine' Rd.ex2 ⟨rfl, ?hl, ?_⟩); (case hl => first | exact Or.inl ⟨_, L2.SqL.of (by first | assumption | exact L2.upd_same), rfl⟩ | exact Or.inr ⟨_, L2.SqT.of (by first | assumption | exact L2.upd_same), rfl⟩))
  | ((with_reducible refine' Rd.i1 ?hv ?_); (case hv => first | exact ⟨by decide, by decide, by decide⟩ | exact Or.inr ⟨by decide, by decide⟩ | exact Or.inl ⟨by decide, by decide⟩ | exact ⟨by decide, by decide⟩ | decide | assumption | (show _ ≠ _; omega) | (refine ⟨?_, ?_⟩ <;> omega) | (refine Or.inl ⟨?_, ?_⟩ <;> omega)))
  | ((with_reducible refine' Rd.ixL ?he ?hx ?_); (case he => first | assumption | exact L2.upd_same); (case hx => rfl))
  | ((with_reducible refine' Rd.ixT ?he ?hx ?_); (case he => first | assumption | exact L2.upd_same); (case hx => rfl))
  | ((with_reducible refine' Rd.setL ?he ?hx ?_); (case he => first | assumption | exact L2.upd_same); (case hx => rfl)))
local macro_rules | `(tactic| walk_at "rd") => `(tactic| first
  | ((with_reducible refine' Rd.isi ?h1 ?h2 ?h3 ?_); (case h1 => first | exact L2.ClsV.ty _ | exact L2.ClsV.own _);
     (case h2 => first | exact L2.TyX.base L2.TyOf.non | exact L2.TyX.base (L2.TyOf.bl _) | exact L2.TyX.base (L2.TyOf.int _) | exact L2.TyX.base (L2.TyOf.str _) | exact L2.TyX.base (L2.TyOf.tup (by assumption)) | exact L2.TyX.base (L2.TyOf.lst (by assumption)));
     (case h3 => first | exact L2.kit_ty (r := true) (by decide +kernel) | exact L2.kit_ty (r := false) (by decide +kernel)))
  | with_reducible refine Rd.isT ?_ | with_reducible refine Rd.isnT ?_)
local macro_rules | `(tactic| walk_at "rd") => `(tactic| first | with_reducible refine Rd.mkv ?_ | with_reducible refine Rd.mkvK ?_ | with_reducible refine Rd.mko ?_ | with_reducible refine Rd.callB ?_)
local macro_rules | `(tactic| walk_at "rds") => `(tactic| repeat (first | walk_at "rd" | assumption))
local macro_rules | `(tactic| walk_at "rd") => `(tactic| first | with_reducible refine Rd.callS ?_ | with_reducible refine Rd.bm ?_ | with_reducible refine Rd.itl ?_ | with_reducible refine Rd.itt ?_)
local macro_rules | `(tactic| walk_at "rds") => `(tactic| repeat (first | walk_at "rd" | assumption))
namespace K78
open PySem PySem.Spec PyProof.Rows L2 L2H Err
abbrev sOne : Stmt := topS 36
theorem scOne : FnScope ["which", "one", "other", "many", "due", "here", "there", "turned", "turn", "told"] ["which", "one", "other"] (defScope sOne) := ⟨rfl, rfl, rfl, by decide +kernel, rfl, by decide +kernel, by decide +kernel⟩
/-- what _law_one has made -/
structure OF (Cs : Nat → Addr) (H0 H : Hp) (i : Nat) (u v : V) (a b q q' : Addr) (w w' : V) : Prop where
  s : Same H0 H
  ea : ErrO H a (Cs i) (flds i u v)
  eb : ErrO H b (Cs i) (flds i v u)
  rq : H q = some (.tup (valsI i u v))
  ew : Eqd B0 H 31 (.ref q) w
  rq' : H q' = some (.tup (valsI i v u))
  ew' : Eqd B0 H 31 (.ref q') w'
theorem OF.mono {Cs : Nat → Addr} {H0 H H' : Hp} {i : Nat} {u v : V} {a b q q' : Addr} {w w' : V} (f : OF Cs H0 H i u v a b q q' w w') (s : Same H H') : OF Cs H0 H' i u v a b q q' w w' :=
  ⟨f.s.trans s, f.ea.mono s, f.eb.mono s, s _ _ f.rq, f.ew.mono (Kp.of s), s _ _ f.rq', f.ew'.mono (Kp.of s)⟩
theorem OF.due {Cs : Nat → Addr} {H0 H : Hp} {i : Nat} {u v : V} {a b q q' p : Addr} {w w' : V} (f : OF Cs H0 H i u v a b q q' w w') (h : H p = some (.tup (valsI i u v))) : Eqd B0 H 31 (.ref p) w := eqd_at f.ew f.rq h
theorem OF.due' {Cs : Nat → Addr} {H0 H : Hp} {i : Nat} {u v : V} {a b q q' p : Addr} {w w' : V} (f : OF Cs H0 H i u v a b q q' w w') (h : H p = some (.tup (valsI i v u))) : Eqd B0 H 31 (.ref p) w' := eqd_at f.ew' f.rq' h
section
variable {P : Program} {w : World} {K : PySem.W.Frag} {mg : Str → Option Value} {base : Heap} {Cs Fs : Nat → Addr} {M : Addr}
set_option pp.maxSteps 3000
theorem okOne {f : Addr} {fd : FuncData} (F : Fun K "_law_one" "_law_one" sOne f fd) (T : Tx mg) (D : Ds P w K mg base Cs) (DV : Dn P w K mg base CX0 "_law_very" 34 ["which", "by_name"] spVery) : FnOk P w K mg base CX0 35 f fd ["which", "one", "other"] spOne := by
  refine F.ok scOne (fun vs H Q E h => ?_) (fun cdv A outer s H vs Q E hr h => ?_)
  · obtain ⟨i, u, v, rfl, _⟩ := h
    rfl
  · obtain ⟨i, u, v, rfl, hi, eu, ev, kk⟩ := h
    have hm := manyI_le i
    refine ⟨_, (pss_cons (ps_set (i := 3) scOne.nd rfl (Or.inl rfl) (pe_dn D.Many (hr.mono (by omega)) (pa_cons (pv 0) pa_nil)))
    (pss_cons (ps_set (i := 4) scOne.nd rfl (Or.inl rfl) (pe_dn D.Copy (hr.mono (by omega)) (pa_cons (pe_slice sl_tupA (pe_tup (pa_cons (pv 1) (pa_cons (pv 2) pa_nil))) po_none (po_some (pv 3))) pa_nil)))
    (pss_cons (ps_set (i := 5) scOne.nd rfl (Or.inl rfl) (pe_dn D.Made (hr.mono (by omega)) (pa_cons (pv 0) (pa_cons (pv 1) (pa_cons (pv 2) pa_nil)))))
    (pss_cons (ps_set (i := 6) scOne.nd rfl (Or.inl rfl) (pe_dn D.Named (hr.mono (by omega)) (pa_cons (pv 0) (pa_cons (pv 2) (pa_cons (pv 1) pa_nil)))))
    (pss_cons (ps_set (i := 7) scOne.nd rfl (Or.inl rfl) (pe_dn D.Copy (hr.mono (by omega)) (pa_cons (pe_slice sl_tupA (pe_tup (pa_cons (pv 2) (pa_cons (pv 1) pa_nil))) po_none (po_some (pv 3))) pa_nil)))
    (pss_cons (ps_for PassesOwn.never rfl (pi_range1 rfl T.n_range (pa_cons pe_int pa_nil)) (pg_name (i := 8) scOne.nd rfl (Or.inl rfl))
    (pss_one (ps_if (PW.pt (pw_or (pt_not (pt_val (pe_dn D.Same (hr.mono (by omega)) (pa_cons (pe_dn D.Fields (hr.mono (by omega)) (pa_cons (pv 0) (pa_cons (pv 5) pa_nil))) (pa_cons (pv 4) pa_nil))))) (pw_or1 (pt_not (pt_val (pe_dn D.Same (hr.mono (by omega)) (pa_cons (pe_dn D.Fields (hr.mono (by omega)) (pa_cons (pv 0) (pa_cons (pv 6) pa_nil))) (pa_cons (pv 7) pa_nil))))))))
      (pss_one (ps_ret pe_bl))
      pss_nil)))
    (pss_cons (ps_if (PW.pt (pw_or (pt_not (pt_val (pe_dn D.Stands (hr.mono (by omega)) (pa_cons (pv 0) (pa_cons (pv 5) pa_nil))))) (pw_or1 (pt_not (pt_val (pe_dn D.Stands (hr.mono (by omega)) (pa_cons (pv 0) (pa_cons (pv 6) pa_nil))))))))
    (pss_one (ps_ret pe_bl))
    pss_nil)
    (pss_cons (ps_set (i := 9) scOne.nd rfl (Or.inl rfl) (pe_dn D.ByFamily (hr.mono (by omega)) (pa_cons (pv 0) (pa_cons (pv 1) (pa_cons (pv 2) pa_nil)))))
    (pss_cons (ps_if (PW.pt (pw_or (pt_cmpR op_ne (pe_ix ix_tup (pv 9) pe_int (fun _ _ => rfl)) (pe_dn D.Family (hr.mono (by omega)) (pa_cons (pv 0) pa_nil)) (nomark _)) (pw_or1 (pt_not (pt_val (pe_dn D.Same (hr.mono (by omega)) (pa_cons (pe_ix ix_tup (pv 9) pe_int (fun _ _ => rfl)) (pa_cons (pv 4) pa_nil))))))))
    (pss_one (ps_ret pe_bl))
    pss_nil)
    (pss_cons (ps_set (i := 9) scOne.nd rfl (Or.inl rfl) (pe_dn D.ByClass (hr.mono (by omega)) (pa_cons (pv 0) (pa_cons (pv 2) (pa_cons (pv 1) pa_nil)))))
    (pss_cons (ps_if (PW.pt (pw_or (pt_cmpR op_ne (pe_ix ix_tup (pv 9) pe_int (fun _ _ => rfl)) (pv 0) (nomark _)) (pw_or1 (pt_not (pt_val (pe_dn D.Same (hr.mono (by omega)) (pa_cons (pe_ix ix_tup (pv 9) pe_int (fun _ _ => rfl)) (pa_cons (pv 7) pa_nil))))))))
    (pss_one (ps_ret pe_bl))
    pss_nil)
    (pss_cons (ps_set (i := 9) scOne.nd rfl (Or.inl rfl) (pe_dn D.ByBase (hr.mono (by omega)) (pa_cons (pv 0) (pa_cons (pv 1) (pa_cons (pv 2) pa_nil)))))
    (pss_cons (ps_if (PW.pt (pw_or (pt_cmpR op_isnot_bl (pe_ix ix_tup (pv 9) pe_int (fun _ _ => rfl)) pe_bl (nomark _)) (pw_or1 (pt_not (pt_val (pe_dn D.Same (hr.mono (by omega)) (pa_cons (pe_ix ix_tup (pv 9) pe_int (fun _ _ => rfl)) (pa_cons (pv 4) pa_nil))))))))
    (pss_one (ps_ret pe_bl))
    pss_nil)
    (pss_one (ps_ret (pe_and (pe_dn D.Same (hr.mono (by omega)) (pa_cons (pe_dn D.Fields (hr.mono (by omega)) (pa_cons (pv 0) (pa_cons (pv 5) pa_nil))) (pa_cons (pv 4) pa_nil))) (pe_and (pe_dn DV (hr.mono (by omega)) (pa_cons (pv 0) (pa_cons pe_bl pa_nil))) (pe_one (pe_dn DV (hr.mono (by omega)) (pa_cons (pv 0) (pa_cons pe_bl pa_nil))))))))))))))))))))), ?_⟩
    have st0 : L2.start ["which", "one", "other", "many", "due", "here", "there", "turned", "turn", "told"] [V.int i, u, v] = [some (.int i), some u, some v, none, none, none, none, none, none, none] := rfl
    rw [st0]
    walk_at "rds"
    refine ⟨i, rfl, hi, fun H1 t1 => ?_⟩
    walk_at "rds"
    refine ⟨by show 2 ≤ sizeLine; decide, fun p2 h2 => ?_⟩
    generalize hK2 : upd _ p2 _ = K2
    obtain ⟨r2, t2⟩ := newK hK2 h2
    walk_at "rds"
    refine slA2 hm r2 fun q3 H3 r3 t3 => ?_
    have s3 := (t1.trans t2).trans t3
    walk_at "rds"
    refine ⟨B0, _, rfl, std0, eqd_pair (n := 30) hm r3 r3 (fun _ => eu.mono (Kp.of s3)) (fun _ => ev.mono (Kp.of s3)), fun w4 H4 t4 e4 => ?_⟩
    walk_at "rds"
    refine ⟨i, u, v, rfl, hi, fun a5 H5 n5 e5 t5 => ?_⟩
    walk_at "rds"
    refine ⟨i, v, u, rfl, hi, fun b6 H6 n6 e6 t6 => ?_⟩
    have s6 := ((s3.trans t4).trans t5).trans t6
    walk_at "rds"
    refine ⟨by show 2 ≤ sizeLine; decide, fun p7 h7 => ?_⟩
    generalize hK7 : upd _ p7 _ = K7
    obtain ⟨r7, t7⟩ := newK hK7 h7
    walk_at "rds"
    refine slA2 hm r7 fun q8 H8 r8 t8 => ?_
    have s8 := (s6.trans t7).trans t8
    walk_at "rds"
    refine ⟨B0, _, rfl, std0, eqd_pair (n := 30) hm r8 r8 (fun _ => ev.mono (Kp.of s8)) (fun _ => eu.mono (Kp.of s8)), fun w9 H9 t9 e9 => ?_⟩
    have t59 : Same H5 H9 := ((t6.trans t7).trans t8).trans t9
    have t69 : Same H6 H9 := (t7.trans t8).trans t9
    have t49 : Same H4 H9 := t5.trans t59
    have f9 : OF Cs H H9 i u v a5 b6 q3 q8 w4 w9 := ⟨s8.trans t9, e5.mono t59, e6.mono t69, t49 _ _ (t4 _ _ r3), e4.mono (Kp.of t49), t9 _ _ r8, e9⟩
    walk_at "rds"
    refine ⟨by decide, by decide, for_range (lo := 0) (n := 2) (fun j σ' H' => ∃ x8, σ' = [some (.int i), some u, some v, some (.int (manyI i)), some w4, some (.ref a5), some (.ref b6), some w9, x8, none] ∧ OF Cs H H' i u v a5 b6 q3 q8 w4 w9) ⟨none, rfl, f9⟩ ?_ ?_⟩
    · rintro j σ' H' hj ⟨x8, rfl, f'⟩
      walk_at "rds"
      refine ⟨i, a5, u, v, rfl, hi, f'.ea.x, fun q10 H10 n10 r10 t10 => ?_⟩
      have f10 := f'.mono t10
      walk_at "rds"
      refine ⟨B0, _, _, rfl, f10.due r10, fun H11 t11 => ?_⟩
      have f11 := f10.mono t11
      walk_at "rds"
      refine ⟨i, b6, v, u, rfl, hi, f11.eb.x, fun q12 H12 n12 r12 t12 => ?_⟩
      have f12 := f11.mono t12
      walk_at "rds"
      refine ⟨B0, _, _, rfl, f12.due' r12, fun H13 t13 => ?_⟩
      walk_at "rds"
      exact f12.mono t13
    · rintro σ' H14 ⟨x8, rfl, f14⟩
      walk_at "rds"
      refine ⟨i, a5, _, rfl, hi, f14.ea.x, fun H15 t15 => ?_⟩
      have f15 := f14.mono t15
      walk_at "rds"
      refine ⟨i, b6, _, rfl, hi, f15.eb.x, fun H16 t16 => ?_⟩
      have f16 := f15.mono t16
      walk_at "rds"
      refine ⟨i, u, v, rfl, hi, fun p17 q17 H17 r17 rq17 t17 => ?_⟩
      have f17 := f16.mono t17
      walk_at "rds"
      refine ⟨i, rfl, hi, fun H18 t18 => ?_⟩
      have f18 := f17.mono t18
      have r18 := t18 _ _ r17
      walk_at "rds"
      refine Rd.ifF (by rw [decide_eq_true rfl]; rfl) ?_
      walk_at "rds"
      refine ⟨B0, _, _, rfl, f18.due (t18 _ _ rq17), fun H19 t19 => ?_⟩
      have f19 := f18.mono t19
      walk_at "rds"
      refine ⟨i, v, u, rfl, hi, fun p20 q20 H20 r20 rq20 t20 => ?_⟩
      have f20 := f19.mono t20
      walk_at "rds"
      refine Rd.ifF (by rw [decide_eq_true rfl]; rfl) ?_
      walk_at "rds"
      refine ⟨B0, _, _, rfl, f20.due' rq20, fun H21 t21 => ?_⟩
      have f21 := f20.mono t21
      walk_at "rds"
      refine ⟨i, u, v, rfl, hi, fun p22 q22 H22 r22 rq22 t22 => ?_⟩
      have f22 := f21.mono t22
      walk_at "rds"
      refine ⟨B0, _, _, rfl, f22.due rq22, fun H23 t23 => ?_⟩
      have f23 := f22.mono t23
      walk_at "rds"
      refine ⟨i, a5, u, v, rfl, hi, f23.ea.x, fun q24 H24 n24 r24 t24 => ?_⟩
      have f24 := f23.mono t24
      walk_at "rds"
      refine ⟨B0, _, _, rfl, f24.due r24, fun H25 t25 => ?_⟩
      have f25 := f24.mono t25
      walk_at "rds"
      refine ⟨i, false, rfl, hi, fun H26 t26 => ?_⟩
      walk_at "rds"
      refine ⟨i, true, rfl, hi, fun H27 t27 => ?_⟩
      walk_at "rds"
      exact kk _ ((f25.s.trans t26).trans t27)
end
end K78
end SecB15
section SecB16
set_option Elab.async false
set_option linter.all false
set_option maxRecDepth 100000
set_option maxHeartbeats 4000000
set_option pp.deepTerms false
local macro_rules | `(tactic| walk_at "rd") => `(tactic| first
  | with_reducible refine Rd.seq ?_ | with_reducible refine Rd.asg ?_ | with_reducible refine Rd.nm ?_ | with_reducible refine Rd.sub ?_ | with_reducible refine Rd.ret ?_ | with_reducible refine Rd.retN ?_
  | with_reducible refine Rd.drop ?_ | with_reducible refine Rd.ifs ?_ | with_reducible refine Rd.next ?_ | with_reducible refine Rd.cst ?_ | with_reducible refine Rd.op ?_ | with_reducible refine Rd.un ?_
  | with_reducible refine Rd.test ?_ | with_reducible refine Rd.tb' ?_ | with_reducible refine Rd.exb ?_ | with_reducible refine Rd.exi ?_ | with_reducible refine Rd.and2 ?_ | with_reducible refine Rd.or2 ?_ | with_reducible refine Rd.not1 ?_
  | with_reducible refine Rd.andV ?_ | with_reducible refine Rd.orV ?_ | with_reducible refine Rd.notV ?_ | with_reducible refine Rd.nil ?_ | with_reducible refine Rd.cons ?_ | with_reducible refine Rd.cb ?_
  | with_reducible refine Rd.i0 ?_ | with_reducible refine Rd.u1 ?_ | with_reducible refine Rd.call ?_ | with_reducible refine Rd.tup ?_ | with_reducible refine Rd.lst ?_ | with_reducible refine Rd.sl ?_ | with_reducible refine Rd.no ?_ | with_reducible refine Rd.part ?_ | with_reducible refine Rd.at_ ?_ | with_reducible refine Rd.yes ?_ | with_reducible refine Rd.fors ?_ | with_reducible refine Rd.m1 ?_ | with_reducible refine Rd.exs ?_ | with_reducible refine Rd.lc ?_ | with_reducible refine Rd.rng ?_ | ((with_reducible refine' Rd.lenKL ?he ?_); (case he => first | assumption | exact L2.upd_same)) | ((with_reducible refine' Rd.lenKT ?he ?_); (case he => first | assumption | exact L2.upd_same))
  | ((with_reducible refine' Rd.var ?hv ?_); (case hv => exact rfl))
  | ((with_reducible refine' Rd.ifT ?hv ?_); (case hv => exact rfl)) | ((with_reducible refine' Rd.ifF ?hv ?_); (case hv => exact rfl))
  | ((with_reducible refine' Rd.eq ?hv ?_); (case hv => exact rfl))
  | ((with_reducible refine' Rd.ne ?hv ?_); (case hv => exact rfl))
  | with_reducible refine ⟨rfl, ?_⟩ | with_reducible refine Or.inl ⟨_, rfl, ?_⟩ | with_reducible refine Or.inr ⟨_, rfl, ?_⟩ | with_reducible refine ⟨_, rfl, ?_⟩
  | ((with_reducible refine' Rd.ex2 ⟨rfl, ?hl, ?_⟩); (case hl => first | exact Or.inl ⟨_, L2.SqL.of (by first | assumption | exact L2.upd_same), rfl⟩ | exact Or.inr ⟨_, L2.SqT.of (by first | assumption | exact L2.upd_same), rfl⟩))
  | ((with_reducible refine' Rd.i1 ?hv ?_); (case hv => first | exact ⟨by decide, by decide, by decide⟩ | exact Or.inr ⟨by decide, by decide⟩ | exact Or.inl ⟨by decide, by decide⟩ | exact ⟨by decide, by decide⟩ | decide | assumption | (show _ ≠ _; omega) | (refine ⟨?_, ?_⟩ <;> omega) | (refine Or.inl ⟨?_, ?_⟩ <;> omega)))
  | ((with_reducible refine' Rd.ixL ?he ?hx ?_); (case he => first | assumption | exact L2.upd_same); (case hx => rfl))
  | ((with_reducible refine' Rd.ixT ?he ?hx ?_); (case he => first | assumption | exact L2.upd_same); (case hx => rfl))
  | ((with_reducible refine' Rd.setL ?he ?hx ?_); (case he => first | assumption | exact L2.upd_same); (case hx => rfl)))
local macro_rules | `(tactic| walk_at "rd") => `(tactic| first
  | ((with_reducible refine' Rd.isi ?h1 ?h2 ?h3 ?_); (case h1 => first | exact L2.ClsV.ty _ | exact L2.ClsV.own _);
     (case h2 => first | exact L2.TyX.base L2.TyOf.non | exact L2.TyX.base (L2.TyOf.bl _) | exact L2.TyX.base (L2.TyOf.int _) | exact L2.TyX.base (L2.TyOf.str _) | exact L2.TyX.base (L2.TyOf.tup (by assumption)) | exact L2.TyX.base (L2.TyOf.lst (by assumption)));
     (case h3 => first | exact L2.kit_ty (r := true) (by decide +kernel) | exact L2.kit_ty (r := false) (by decide +kernel)))
  | with_reducible refine Rd.isT ?_ | with_reducible refine Rd.isnT ?_)
local macro_rules | `(tactic| walk_at "rd") => `(tactic| first | with_reducible refine Rd.mkv ?_ | with_reducible refine Rd.mkvK ?_ | with_reducible refine Rd.mko ?_ | with_reducible refine Rd.callB ?_)
local macro_rules | `(tactic| walk_at "rds") => `(tactic| repeat (first | walk_at "rd" | assumption))
local macro_rules | `(tactic| walk_at "rd") => `(tactic| first | with_reducible refine Rd.callS ?_ | with_reducible refine Rd.bm ?_ | with_reducible refine Rd.itl ?_ | with_reducible refine Rd.itt ?_)
local macro_rules | `(tactic| walk_at "rds") => `(tactic| repeat (first | walk_at "rd" | assumption))
namespace K78
open PySem PySem.Spec PyProof.Rows L2 L2H Err
abbrev sPair : Stmt := topS 35
theorem scPair : FnScope ["tape", "which", "odd", "pair"] ["tape", "which"] (defScope sPair) := ⟨rfl, rfl, rfl, by decide +kernel, rfl, by decide +kernel, by decide +kernel⟩
theorem eqd_nilT {H : Hp} {p : Addr} {n : Nat} (h : H p = some (.tup [])) : Eqd B0 H (n + 1) (.ref p) (.ref p) := .tup nb nb h h rfl (Nat.zero_le _) fun i x y hx _ => by simp at hx
theorem eqd_nilL {H : Hp} {p : Addr} {n : Nat} (h : H p = some (.lst [])) : Eqd B0 H (n + 1) (.ref p) (.ref p) := .lst nb nb h h rfl (Nat.zero_le _) fun i x y hx _ => by simp at hx
def spPair : Sp := fun vs H Q _ => ∃ (t l : Addr) (ns : List Int) (i : Nat), vs = [.ref t, .int i] ∧ i < 11 ∧ Tape t l ns H ∧ ns.length ≤ 63 ∧ ∀ H' : Hp, Tape t l ns H' → Keeps t H H' → Q (.bl true) H'
section
variable {P : Program} {w : World} {K : PySem.W.Frag} {mg : Str → Option Value} {base : Heap} {Cs Fs : Nat → Addr} {M : Addr}
set_option pp.maxSteps 3000
theorem okPair {f : Addr} {fd : FuncData} (F : Fun K "_law_pair" "_law_pair" sPair f fd) (T : Tx mg) (D : Ds P w K mg base Cs) (DO : Dn P w K mg base CX0 "_law_one" 35 ["which", "one", "other"] spOne) : FnOk P w K mg base CX0 36 f fd ["tape", "which"] spPair := by
  refine F.ok scPair (fun vs H Q E h => ?_) (fun cdv A outer s H vs Q E hr h => ?_)
  · obtain ⟨t, l, ns, i, rfl, _⟩ := h
    rfl
  · obtain ⟨t, l, ns, i, rfl, hi, Tp, hl, kk⟩ := h
    refine ⟨_, (pss_cons (ps_set (i := 2) scPair.nd rfl (Or.inl rfl) (pe_lst (pa_cons (pe_tup (pa_cons pe_bl (pa_cons pe_non pa_nil))) (pa_cons (pe_tup (pa_cons pe_bl (pa_cons pe_int pa_nil))) (pa_cons (pe_tup (pa_cons pe_int (pa_cons pe_bl pa_nil))) (pa_cons (pe_tup (pa_cons (pe_tup pa_nil) (pa_cons (pe_lst pa_nil) pa_nil))) (pa_cons (pe_tup (pa_cons pe_str (pa_cons pe_int pa_nil))) (pa_cons (pe_tup (pa_cons pe_int (pa_cons pe_bl pa_nil))) (pa_cons (pe_tup (pa_cons pe_non (pa_cons pe_str pa_nil))) (pa_cons (pe_tup (pa_cons (pe_lst pa_nil) (pa_cons (pe_tup pa_nil) pa_nil))) pa_nil))))))))))
    (pss_cons (ps_set (i := 3) scPair.nd rfl (Or.inl rfl) (pe_ix ix_list (pv 2) (pe_dn D.Draw (hr.mono (by omega)) (pa_cons (pv 0) (pa_cons pe_int pa_nil))) (fun _ _ => rfl)))
    (pss_cons (ps_if (pt_not (pt_val (pe_dn DO (hr.mono (by omega)) (pa_cons (pv 1) (pa_cons (pe_ix ix_tup (pv 3) pe_int (fun _ _ => rfl)) (pa_cons (pe_ix ix_tup (pv 3) pe_int (fun _ _ => rfl)) pa_nil))))))
    (pss_one (ps_ret pe_bl))
    pss_nil)
    (pss_one (ps_ret (pe_dn DO (hr.mono (by omega)) (pa_cons (pv 1) (pa_cons (pe_dn D.Value (hr.mono (by omega)) (pa_cons (pv 0) (pa_cons pe_int pa_nil))) (pa_cons (pe_dn D.Value (hr.mono (by omega)) (pa_cons (pv 0) (pa_cons pe_int pa_nil))) pa_nil))))))))), ?_⟩
    have st0 : L2.start ["tape", "which", "odd", "pair"] [V.ref t, V.int i] = [some (.ref t), some (.int i), none, none] := rfl
    rw [st0]
    walk_at "rds"
    refine ⟨by show 2 ≤ sizeLine; decide, fun p0 h0 => ?_⟩
    generalize hK0 : upd _ p0 _ = K0
    obtain ⟨r0, t0⟩ := newK hK0 h0
    walk_at "rds"
    refine ⟨by show 2 ≤ sizeLine; decide, fun p1 h1 => ?_⟩
    generalize hK1 : upd _ p1 _ = K1
    obtain ⟨r1, t1⟩ := newK hK1 h1
    walk_at "rds"
    refine ⟨by show 2 ≤ sizeLine; decide, fun p2 h2 => ?_⟩
    generalize hK2 : upd _ p2 _ = K2
    obtain ⟨r2, t2⟩ := newK hK2 h2
    walk_at "rds"
    refine ⟨by show 0 ≤ sizeLine; decide, fun p3 h3 => ?_⟩
    generalize hK3 : upd _ p3 _ = K3
    obtain ⟨r3, t3⟩ := newK hK3 h3
    walk_at "rds"
    refine ⟨by show 0 ≤ sizeLine; decide, fun p4 h4 => ?_⟩
    generalize hK4 : upd _ p4 _ = K4
    obtain ⟨r4, t4⟩ := newK hK4 h4
    walk_at "rds"
    refine ⟨by show 2 ≤ sizeLine; decide, fun p5 h5 => ?_⟩
    generalize hK5 : upd _ p5 _ = K5
    obtain ⟨r5, t5⟩ := newK hK5 h5
    walk_at "rds"
    refine ⟨by show 2 ≤ sizeLine; decide, fun p6 h6 => ?_⟩
    generalize hK6 : upd _ p6 _ = K6
    obtain ⟨r6, t6⟩ := newK hK6 h6
    walk_at "rds"
    refine ⟨by show 2 ≤ sizeLine; decide, fun p7 h7 => ?_⟩
    generalize hK7 : upd _ p7 _ = K7
    obtain ⟨r7, t7⟩ := newK hK7 h7
    walk_at "rds"
    refine ⟨by show 2 ≤ sizeLine; decide, fun p8 h8 => ?_⟩
    generalize hK8 : upd _ p8 _ = K8
    obtain ⟨r8, t8⟩ := newK hK8 h8
    walk_at "rds"
    refine ⟨by show 0 ≤ sizeLine; decide, fun p9 h9 => ?_⟩
    generalize hK9 : upd _ p9 _ = K9
    obtain ⟨r9, t9⟩ := newK hK9 h9
    walk_at "rds"
    refine ⟨by show 0 ≤ sizeLine; decide, fun p10 h10 => ?_⟩
    generalize hK10 : upd _ p10 _ = K10
    obtain ⟨r10, t10⟩ := newK hK10 h10
    walk_at "rds"
    refine ⟨by show 2 ≤ sizeLine; decide, fun p11 h11 => ?_⟩
    generalize hK11 : upd _ p11 _ = K11
    obtain ⟨r11, t11⟩ := newK hK11 h11
    walk_at "rds"
    refine ⟨by show 8 ≤ sizeLine; decide, fun p12 h12 => ?_⟩
    generalize hK12 : upd _ p12 _ = K12
    obtain ⟨r12, t12⟩ := newK hK12 h12
    walk_at "rds"
    have m0 := t12 _ _ (t11 _ _ (t10 _ _ (t9 _ _ (t8 _ _ (t7 _ _ (t6 _ _ (t5 _ _ (t4 _ _ (t3 _ _ (t2 _ _ (t1 _ _ r0)))))))))))
    have m1 := t12 _ _ (t11 _ _ (t10 _ _ (t9 _ _ (t8 _ _ (t7 _ _ (t6 _ _ (t5 _ _ (t4 _ _ (t3 _ _ (t2 _ _ r1))))))))))
    have m2 := t12 _ _ (t11 _ _ (t10 _ _ (t9 _ _ (t8 _ _ (t7 _ _ (t6 _ _ (t5 _ _ (t4 _ _ (t3 _ _ r2)))))))))
    have m3 := t12 _ _ (t11 _ _ (t10 _ _ (t9 _ _ (t8 _ _ (t7 _ _ (t6 _ _ (t5 _ _ (t4 _ _ r3))))))))
    have m4 := t12 _ _ (t11 _ _ (t10 _ _ (t9 _ _ (t8 _ _ (t7 _ _ (t6 _ _ (t5 _ _ r4)))))))
    have m5 := t12 _ _ (t11 _ _ (t10 _ _ (t9 _ _ (t8 _ _ (t7 _ _ (t6 _ _ r5))))))
    have m6 := t12 _ _ (t11 _ _ (t10 _ _ (t9 _ _ (t8 _ _ (t7 _ _ r6)))))
    have m7 := t12 _ _ (t11 _ _ (t10 _ _ (t9 _ _ (t8 _ _ r7))))
    have m8 := t12 _ _ (t11 _ _ (t10 _ _ (t9 _ _ r8)))
    have m9 := t12 _ _ (t11 _ _ (t10 _ _ r9))
    have m10 := t12 _ _ (t11 _ _ r10)
    have m11 := t12 _ _ r11
    have sA := ((((((((((((t0).trans t1).trans t2).trans t3).trans t4).trans t5).trans t6).trans t7).trans t8).trans t9).trans t10).trans t11).trans t12
    have TA := Tp.mono sA
    refine ⟨t, l, ns, 8, rfl, TA, hl, by decide, by decide, fun k H1 k0 k8 T1 K1' => ?_⟩
    have kt : ∀ (p : Addr) (xs : List V), K12 p = some (.tup xs) → H1 p = some (.tup xs) := fun p xs h => by
      obtain ⟨a, b, c, e, _⟩ := TA.ex
      exact K1' p _ (ne_of h e fun z => by cases z) h
    have kl : ∀ (p : Addr), K12 p = some (.lst []) → H1 p = some (.lst []) := fun p h => by
      obtain ⟨a, b, c, e, _⟩ := TA.ex
      exact K1' p _ (ne_of h e fun z => by cases z) h
    have no : p12 ≠ t := by
      obtain ⟨a, b, c, e, _⟩ := Tp.ex
      intro z
      have h12' := h12
      rw [z] at h12'
      have e' := ((((((((((((t0).trans t1).trans t2).trans t3).trans t4).trans t5).trans t6).trans t7).trans t8).trans t9).trans t10).trans t11) _ _ e
      rw [h12'] at e'
      cases e'
    have ro := K1' p12 _ no r12
    have pick : ∃ (p : Addr) (x y : V), atI [V.ref p0, .ref p1, .ref p2, .ref p5, .ref p6, .ref p7, .ref p8, .ref p11] k = some (.ref p) ∧ H1 p = some (.tup [x, y]) ∧ Eqd B0 H1 30 x x ∧ Eqd B0 H1 30 y y := by
      rcases (by omega : k = 0 ∨ k = 1 ∨ k = 2 ∨ k = 3 ∨ k = 4 ∨ k = 5 ∨ k = 6 ∨ k = 7) with rfl | rfl | rfl | rfl | rfl | rfl | rfl | rfl
      · exact ⟨p0, _, _, rfl, kt _ _ m0, (.bl _), .non⟩
      · exact ⟨p1, _, _, rfl, kt _ _ m1, (.bl _), (.int _)⟩
      · exact ⟨p2, _, _, rfl, kt _ _ m2, (.int _), (.bl _)⟩
      · exact ⟨p5, _, _, rfl, kt _ _ m5, (eqd_nilT (kt _ _ m3)), (eqd_nilL (kl _ m4))⟩
      · exact ⟨p6, _, _, rfl, kt _ _ m6, (.str _), (.int _)⟩
      · exact ⟨p7, _, _, rfl, kt _ _ m7, (.int _), (.bl _)⟩
      · exact ⟨p8, _, _, rfl, kt _ _ m8, .non, (.str _)⟩
      · exact ⟨p11, _, _, rfl, kt _ _ m11, (eqd_nilL (kl _ m9)), (eqd_nilT (kt _ _ m10))⟩
    obtain ⟨pp, x, y, ha, hp, ex, ey⟩ := pick
    refine Rd.ixL ro ha ?_
    walk_at "rds"
    refine ⟨i, x, y, rfl, hi, ex, ey, fun H2 t2 => ?_⟩
    have T2 := T1.mono t2
    walk_at "rds"
    refine ⟨t, l, ns, fun b => b = t, rfl, T2, hl, rfl, fun b hb => by rw [hb]; exact T2.some, fun v3 H3 T3 K3 e3 => ?_⟩
    walk_at "rds"
    refine ⟨t, l, ns, fun b => b = t, rfl, T3, hl, rfl, fun b hb => by rw [hb]; exact T3.some, fun v4 H4 T4 K4 e4 => ?_⟩
    have e3' := (e3.mono (K4.kp (B := fun b => b = t) rfl)).off (B' := B0) fun _ _ _ _ => nb
    have e4' := e4.off (B' := B0) fun _ _ _ _ => nb
    walk_at "rds"
    refine ⟨i, v3, v4, rfl, hi, e3', e4', fun H5 t5 => ?_⟩
    exact kk _ (T4.mono t5) (((((Keeps.of sA).trans K1').trans (Keeps.of t2)).trans K3).trans K4 |>.trans (Keeps.of t5))
end
end K78
end SecB16
section SecB17
set_option Elab.async false
set_option linter.all false
set_option maxRecDepth 100000
set_option maxHeartbeats 4000000
set_option pp.deepTerms false
local macro_rules | `(tactic| walk_at "rd") => `(tactic| first
  | with_reducible refine Rd.seq ?_ | with_reducible refine Rd.asg ?_ | with_reducible refine Rd.nm ?_ | with_reducible refine Rd.sub ?_ | with_reducible refine Rd.ret ?_ | with_reducible refine Rd.retN ?_
  | with_reducible refine Rd.drop ?_ | with_reducible refine Rd.ifs ?_ | with_reducible refine Rd.next ?_ | with_reducible refine Rd.cst ?_ | with_reducible refine Rd.op ?_ | with_reducible refine Rd.un ?_
  | with_reducible refine Rd.test ?_ | with_reducible refine Rd.tb' ?_ | with_reducible refine Rd.exb ?_ | with_reducible refine Rd.exi ?_ | with_reducible refine Rd.and2 ?_ | with_reducible refine Rd.or2 ?_ | with_reducible refine Rd.not1 ?_
  | with_reducible refine Rd.andV ?_ | with_reducible refine Rd.orV ?_ | with_reducible refine Rd.notV ?_ | with_reducible refine Rd.nil ?_ | with_reducible refine Rd.cons ?_ | with_reducible refine Rd.cb ?_
  | with_reducible refine Rd.i0 ?_ | with_reducible refine Rd.u1 ?_ | with_reducible refine Rd.call ?_ | with_reducible refine Rd.tup ?_ | with_reducible refine Rd.lst ?_ | with_reducible refine Rd.sl ?_ | with_reducible refine Rd.no ?_ | with_reducible refine Rd.part ?_ | with_reducible refine Rd.at_ ?_ | with_reducible refine Rd.yes ?_ | with_reducible refine Rd.fors ?_ | with_reducible refine Rd.m1 ?_ | with_reducible refine Rd.exs ?_ | with_reducible refine Rd.lc ?_ | with_reducible refine Rd.rng ?_ | ((with_reducible refine' Rd.lenKL ?he ?_); (case he => first | assumption | exact L2.upd_same)) | ((with_reducible refine' Rd.lenKT ?he ?_); (case he => first | assumption | exact L2.upd_same))
  | ((with_reducible refine' Rd.var ?hv ?_); (case hv => exact rfl))
  | ((with_reducible refine' Rd.ifT ?hv ?_); (case hv => exact rfl)) | ((with_reducible refine' Rd.ifF ?hv ?_); (case hv => exact rfl))
  | ((with_reducible refine' Rd.eq ?hv ?_); (case hv => exact rfl))
  | ((with_reducible refine' Rd.ne ?hv ?_); (case hv => exact rfl))
  | with_reducible refine ⟨rfl, ?_⟩ | with_reducible refine Or.inl ⟨_, rfl, ?_⟩ | with_reducible refine Or.inr ⟨_, rfl, ?_⟩ | with_reducible refine ⟨_, rfl, ?_⟩
  | ((with_reducible refine' Rd.ex2 ⟨rfl, ?hl, ?_⟩); (case hl => first | exact Or.inl ⟨_, L2.SqL.of (by first | assumption | exact L2.upd_same), rfl⟩ | exact Or.inr ⟨_, L2.SqT.of (by first | assumption | exact L2.upd_same), rfl⟩))
  | ((with_reducible refine' Rd.i1 ?hv ?_); (case hv => first | exact ⟨by decide, by decide, by decide⟩ | exact Or.inr ⟨by decide, by decide⟩ | exact Or.inl ⟨by decide, by decide⟩ | exact ⟨by decide, by decide⟩ | decide | assumption | (show _ ≠ _; omega) | (refine ⟨?_, ?_⟩ <;> omega) | (refine Or.inl ⟨?_, ?_⟩ <;> omega)))
  | ((with_reducible refine' Rd.ixL ?he ?hx ?_); (case he => first | assumption | exact L2.upd_same); (case hx => rfl))
  | ((with_reducible refine' Rd.ixT ?he ?hx ?_); (case he => first | assumption | exact L2.upd_same); (case hx => rfl))
  | ((with_reducible refine' Rd.setL ?he ?hx ?_); (case he => first | assumption | exact L2.upd_same); (case hx => rfl)))
local macro_rules | `(tactic| walk_at "rd") => `(tactic| first
  | ((with_reducible refine' Rd.isi ?h1 ?h2 ?h3 ?_); (case h1 => first | exact L2.ClsV.ty _ | exact L2.ClsV.own _);
     (case h2 => first | exact L2.TyX.base L2.TyOf.non | exact L2.TyX.base (L2.TyOf.bl _) | exact L2.TyX.base (L2.TyOf.int _) | exact L2.TyX.base (L2.TyOf.str _) | exact L2.TyX.base (L2.TyOf.tup (by assumption)) | exact L2.TyX.base (L2.TyOf.lst (by assumption)));
     (case h3 => first | exact L2.kit_ty (r := true) (by decide +kernel) | exact L2.kit_ty (r := false) (by decide +kernel)))
  | with_reducible refine Rd.isT ?_ | with_reducible refine Rd.isnT ?_)
local macro_rules | `(tactic| walk_at "rd") => `(tactic| first | with_reducible refine Rd.mkv ?_ | with_reducible refine Rd.mkvK ?_ | with_reducible refine Rd.mko ?_ | with_reducible refine Rd.callB ?_)
local macro_rules | `(tactic| walk_at "rds") => `(tactic| repeat (first | walk_at "rd" | assumption))
local macro_rules | `(tactic| walk_at "rd") => `(tactic| first | with_reducible refine Rd.callS ?_ | with_reducible refine Rd.bm ?_ | with_reducible refine Rd.itl ?_ | with_reducible refine Rd.itt ?_)
local macro_rules | `(tactic| walk_at "rds") => `(tactic| repeat (first | walk_at "rd" | assumption))
namespace K78
open PySem PySem.Spec PyProof.Rows L2 L2H Err
abbrev slaw : Stmt := topS 37
theorem sclaw : FnScope ["script", "tape", "which"] ["script"] (defScope slaw) := ⟨rfl, rfl, rfl, by decide +kernel, rfl, by decide +kernel, by decide +kernel⟩
def spLaw (K : PySem.W.Frag) : Sp := fun vs H Q _ => ∃ (a : Addr) (ns : List Int), vs = [.ref a] ∧ SqL K H a (ns.map V.int) ∧ ns.length ≤ 63 ∧ ∀ H' : Hp, Q (.bl true) H'
section
variable {P : Program} {w : World} {K : PySem.W.Frag} {mg : Str → Option Value} {base : Heap} {Cs Fs : Nat → Addr} {M : Addr}
set_option pp.maxSteps 3000
theorem okLaw {f : Addr} {fd : FuncData} (F : Fun K "law" "law" slaw f fd) (T : Tx mg) (DP : Dn P w K mg base CX0 "_law_pair" 36 ["tape", "which"] spPair) : FnOk P w K mg base CX0 37 f fd ["script"] (spLaw K) := by
  refine F.ok sclaw (fun vs H Q E h => ?_) (fun cdv A outer s H vs Q E hr h => ?_)
  · obtain ⟨a, ns, rfl, _⟩ := h
    rfl
  · obtain ⟨a, ns, rfl, hS, hl, kk⟩ := h
    refine ⟨_, (pss_cons (ps_set (i := 1) sclaw.nd rfl (Or.inr rfl) (pe_lst (pa_cons pe_int (pa_cons pe_int (pa_cons pe_int (pa_cons (pe_callTy call_list_of (by rfl) T.n_list (by decide +kernel) (pa_cons (pv 0) pa_nil)) pa_nil))))))
    (pss_one (ps_ret (pe_callB (cr_all rfl) (by rfl) T.n_all (by decide +kernel) (pa_cons (pe_lc (own := [("which", 2)]) (g := gName 2) (by rfl) sclaw.nd (pi_range1 rfl T.n_range (pa_cons pe_int pa_nil)) (blkOk_by (own := [("which", 2)]) (N := ["script", "tape", "which"]) (sc := defScope slaw) (by decide +kernel)) (fun _ _ _ _ _ => pg_name (i := 2) sclaw.nd rfl (Or.inl rfl)) (fun _ _ _ _ _ => pts_nil) (fun _ _ _ _ _ => (pe_dn DP (hr.mono (by omega)) (pa_cons (pv 1) (pa_cons (pv 2) pa_nil))))) pa_nil))))), ?_⟩
    have st0 : L2.start ["script", "tape", "which"] [V.ref a] = [some (.ref a), none, none] := rfl
    rw [st0]
    walk_at "rds"
    refine ⟨a, _, rfl, .inl hS, fun l h1 => ?_⟩
    generalize hK1 : upd _ l _ = K1
    obtain ⟨r1, t1⟩ := newK hK1 h1
    walk_at "rds"
    refine ⟨by show 4 ≤ sizeLine; decide, fun t h2 => ?_⟩
    generalize hK2 : upd _ t _ = K2
    obtain ⟨r2, t2⟩ := newK hK2 h2
    have T2 : Tape t l ns K2 := ⟨⟨0, 70001, 0, r2, by decide⟩, t2 _ _ r1⟩
    walk_at "rds"
    refine ⟨by decide, by decide, fun d hd => ?_⟩
    have nt : d ≠ t := ne_new T2.some hd
    have nl : d ≠ l := ne_new ⟨_, T2.sc⟩ hd
    refine lc_range (lo := 0) (n := 11) (fun i H3 => H3 d = some (.lst ((List.replicate i true).map V.bl)) ∧ Tape t l ns H3) ⟨upd_same, T2.put nt nl⟩ ?_ ?_
    · rintro i H3 hi ⟨e3, T3⟩
      refine ⟨rfl, ?_⟩
      walk_at "rds"
      refine ⟨t, l, ns, i, by rw [Int.zero_add]; rfl, hi, T3, hl, fun H4 T4 K4 => ⟨_, K4 _ _ nt e3, ?_, ?_, T4.put nt nl⟩⟩
      · rw [List.length_map, List.length_replicate, sizeLine_eq]
        omega
      · rw [upd_same, List.replicate_succ', List.map_append]
        rfl
    · rintro H4 ⟨e4, T4⟩
      walk_at "rds"
      refine ⟨d, _, rfl, SqL.of e4, ?_⟩
      have ea : (List.replicate 11 true).all id = true := by decide
      rw [ea]
      exact kk _
end
end K78
end SecB17
section SecB18
set_option Elab.async false
set_option linter.all false
set_option maxRecDepth 100000
set_option maxHeartbeats 4000000
set_option pp.deepTerms false
namespace K78
open PySem PySem.Spec PyProof.Rows L2 L2H Err
def eqO (a b : Option (Option Value)) : Bool := decide (a = b)
/-- what a class of errors must show -/
def clsB (K : PySem.W.Frag) (C f : Addr) (nm : List Str) : Bool :=
  eqO (PySem.W.findIn K (.ref C) "__setattr__") (some (some (.builtin "object.__setattr__"))) && (decide (PySem.W.subIn K (.ref C) (.type "BaseException") = some true) && (decide (PySem.W.typeIn K (.ref C) = some (.type "type")) && (PySem.W.keepIn K (.ref C) &&
  ((PySem.W.clsIn K C).isSome && (eqO (PySem.W.findIn K (.ref C) "__getattribute__") (some (some (.builtin "BaseException.__getattribute__"))) && (eqO (PySem.W.findIn K (.ref C) "__getattr__") (some none) && (PySem.W.hasDictIn K C &&
  (eqO (PySem.W.findIn K (.ref C) "__class__") (some (some (.builtin "object.__class__"))) && (eqO (PySem.W.specialIn K (.builtin "object.__class__") "__get__") (some (some (.builtin "getset_descriptor.__get__"))) && (decide (PySem.W.takesIn K (.builtin "object.__class__") = some true) &&
  (decide (PySem.W.mroIn K C (.type "object") = some true) && (nm.all (fun x => eqO (PySem.W.findIn K (.ref C) x) (some none)) && (eqO (PySem.W.findIn K (.ref C) "__init__") (some (some (.ref f))) && decide (PySem.W.typeIn K (.ref f) = some (.type "function")))))))))))))))
theorem ba {a b : Bool} (h : (a && b) = true) : a = true ∧ b = true := Bool.and_eq_true_iff.mp h
structure ClsS (K : PySem.W.Frag) (C f : Addr) (nm : List Str) : Prop where
  sa : PySem.W.findIn K (.ref C) "__setattr__" = some (some (.builtin "object.__setattr__"))
  exC : PySem.W.subIn K (.ref C) (.type "BaseException") = some true
  tyC : PySem.W.typeIn K (.ref C) = some (.type "type")
  kC : PySem.W.keepIn K (.ref C) = true
  cl : (PySem.W.clsIn K C).isSome = true
  ga : PySem.W.findIn K (.ref C) "__getattribute__" = some (some (.builtin "BaseException.__getattribute__"))
  gg : PySem.W.findIn K (.ref C) "__getattr__" = some none
  hd : PySem.W.hasDictIn K C = true
  ca : PySem.W.findIn K (.ref C) "__class__" = some (some (.builtin "object.__class__"))
  cn : PySem.W.specialIn K (.builtin "object.__class__") "__get__" = some (some (.builtin "getset_descriptor.__get__"))
  ct : PySem.W.takesIn K (.builtin "object.__class__") = some true
  cm : PySem.W.mroIn K C (.type "object") = some true
  no : ∀ x ∈ nm, PySem.W.findIn K (.ref C) x = some none
  iC : PySem.W.findIn K (.ref C) "__init__" = some (some (.ref f))
  tI : PySem.W.typeIn K (.ref f) = some (.type "function")
theorem clsB_ok {K : PySem.W.Frag} {C f : Addr} {nm : List Str} (h : clsB K C f nm = true) : ClsS K C f nm := by
  obtain ⟨h1, h⟩ := ba h
  obtain ⟨h2, h⟩ := ba h
  obtain ⟨h3, h⟩ := ba h
  obtain ⟨h4, h⟩ := ba h
  obtain ⟨h5, h⟩ := ba h
  obtain ⟨h6, h⟩ := ba h
  obtain ⟨h7, h⟩ := ba h
  obtain ⟨h8, h⟩ := ba h
  obtain ⟨h9, h⟩ := ba h
  obtain ⟨h10, h⟩ := ba h
  obtain ⟨h11, h⟩ := ba h
  obtain ⟨h12, h⟩ := ba h
  obtain ⟨h13, h⟩ := ba h
  obtain ⟨h14, h15⟩ := ba h
  exact ⟨of_decide_eq_true h1, of_decide_eq_true h2, of_decide_eq_true h3, h4, h5, of_decide_eq_true h6, of_decide_eq_true h7, h8, of_decide_eq_true h9, of_decide_eq_true h10, of_decide_eq_true h11, of_decide_eq_true h12, fun x hx => of_decide_eq_true (List.all_eq_true.mp h13 x hx), of_decide_eq_true h14, of_decide_eq_true h15⟩
def csL (l : List Addr) : Nat → Addr := fun i => l.getD i 0
/-- what the classes are to one another -/
def kitB (K : PySem.W.Frag) (Cs Fs : Nat → Addr) (M : Addr) : Bool :=
  (List.range 11).all fun i => ((List.range 11).all fun j => decide (PySem.W.kitOne K (.ref (Cs i)) (.ref (Cs j)) = some (i == j)) && decide (PySem.W.exmOne K (.ref (Cs i)) (.ref (Cs j)) = some (i == j))) &&
    (((List.range 4).all fun j => decide (PySem.W.kitOne K (.ref (Cs i)) (.ref (Fs j)) = some (famI i == j)) && decide (PySem.W.exmOne K (.ref (Cs i)) (.ref (Fs j)) = some (famI i == j))) &&
    (decide (PySem.W.kitOne K (.ref (Cs i)) (.ref M) = some true) && (decide (PySem.W.exmOne K (.ref (Cs i)) (.ref M) = some true) && (decide (PySem.W.kitOne K (.ref (Cs i)) (.type "ValueError") = some true) &&
    decide (PySem.W.exmAny K (.ref (Cs i)) [.ref (Cs 0), .ref (Cs 1)] = some (i == 0 || i == 1))))))
section
variable {P : Program} {w : World} {K : PySem.W.Frag} {mg : Str → Option Value} {base : Heap}
theorem mk_cf {Cs Fs : Nat → Addr} {M : Addr} (kl : ∀ i, i < 11 → Kl P w K mg base (nmC i) (Cs i) (nmI i)) (gF : ∀ j, j < 4 → mg (nmF j) = some (.ref (Fs j))) (gM : mg "MeshError" = some (.ref M)) (k : kitB K Cs Fs M = true) : Cf P w K mg base Cs Fs M := by
  have row := fun i (hi : i < 11) => List.all_eq_true.mp k i (List.mem_range.mpr hi)
  have r1 := fun i hi => (ba (row i hi)).1
  have r2 := fun i hi => (ba (ba (row i hi)).2).1
  have r3 := fun i hi => ba (ba (ba (row i hi)).2).2
  have r11 := fun i hi j (hj : j < 11) => ba (List.all_eq_true.mp (r1 i hi) j (List.mem_range.mpr hj))
  have r22 := fun i hi j (hj : j < 4) => ba (List.all_eq_true.mp (r2 i hi) j (List.mem_range.mpr hj))
  exact ⟨kl, gF, gM, fun i j hi hj => of_decide_eq_true (r11 i hi j hj).1, fun i j hi hj => of_decide_eq_true (r22 i hi j hj).1, fun i hi => of_decide_eq_true (r3 i hi).1,
    fun i hi => of_decide_eq_true (ba (ba (r3 i hi).2).2).1, fun i j hi hj => of_decide_eq_true (r11 i hi j hj).2, fun i j hi hj => of_decide_eq_true (r22 i hi j hj).2,
    fun i hi => of_decide_eq_true (ba (r3 i hi).2).1, fun i hi => of_decide_eq_true (ba (ba (r3 i hi).2).2).2⟩
theorem mk_kl {x : Str} {C fI : Addr} {nm : List Str} {fd : FuncData} (g : mg x = some (.ref C)) (hC : ∃ nm q N bs bm sn sub ab col dd k0 k1 k2 k3 k5, K.lookup C = some (excClassObj nm q C N bs bm true sn sub ab col dd k0 k1 k2 k3 k5 "ValueError.__new__") ∧ PySem.HandSPX.refsVE bm = true)
    (c : ClsS K C fI nm) (F1 : OexC K C → FnOk P w K mg base CX0 1 fI fd (("self" : Str) :: nm) (spI C nm)) (b : Binds K fd (("self" : Str) :: nm) [])
    (bk : ∀ (s : Shared) (u0 : Value) (ws : List Value), K.In s.heap → ws.length = nm.reverse.length → BindsTo s fd ⟨[u0], nm.reverse.zip ws⟩ ((("self" : Str) :: nm).zip (u0 :: ws.reverse))) : Kl P w K mg base x C nm := by
  have oex : OexC K C := ⟨hC, c.sa, c.exC, c.tyC, c.kC⟩
  exact ⟨⟨oex, c.cl, c.ga, c.gg, c.hd, c.ca, c.cn, c.ct, c.cm⟩, g, c.no, fI, fd, c.iC, c.tI, F1 oex, b, bk⟩
def spNo : Sp := fun _ _ _ _ => False
theorem fn_no {k : Nat} {f : Addr} {fd : FuncData} {ps : List Str} : FnOk P w K mg base CX0 k f fd ps spNo := ⟨fun vs H Q E h => h.elim, fun A outer s H args us vs Q E hr e0 hb r h => h.elim⟩
theorem dnCopy {f : Addr} {fd : FuncData} (F : Fun K "_law_copy" "_law_copy" sCopy f fd) (T : Tx mg) (r : mg "_law_copy" = some (.ref f) ∧ PySem.W.keepIn K (.ref f) = true ∧ Binds K fd ["value"] []) : ∀ n, Dn P w K mg base CX0 "_law_copy" (n + 2) ["value"] (spCopy n)
  | 0 => ⟨f, fd, copyStep (R := spNo) F T ⟨f, fd, fn_no, r⟩ (fun m e => by cases e), r⟩
  | n + 1 => ⟨f, fd, copyStep (R := spCopy n) F T (dnCopy F T r n) (fun m e => by cases e; rfl), r⟩
theorem dnSame {f : Addr} {fd : FuncData} (F : Fun K "_law_same" "_law_same" sSame f fd) (T : Tx mg) (r : mg "_law_same" = some (.ref f) ∧ PySem.W.keepIn K (.ref f) = true ∧ Binds K fd ["got", "due"] []) : ∀ n, Dn P w K mg base CX0 "_law_same" (n + 2) ["got", "due"] (spSame n)
  | 0 => ⟨f, fd, sameStep (R := spNo) F T ⟨f, fd, fn_no, r⟩ (fun m e => by cases e), r⟩
  | n + 1 => ⟨f, fd, sameStep (R := spSame n) F T (dnSame F T r n) (fun m e => by cases e; rfl), r⟩
theorem dnValue {f : Addr} {fd : FuncData} (F : Fun K "_law_value" "_law_value" sValue f fd) (T : Tx mg) (DD : Dn P w K mg base CX0 "_law_draw" 1 ["tape", "many"] spDraw) (r : mg "_law_value" = some (.ref f) ∧ PySem.W.keepIn K (.ref f) = true ∧ Binds K fd ["tape", "deep"] []) :
    Dn P w K mg base CX0 "_law_value" 4 ["tape", "deep"] (spValue 2) := by
  have D0 : Dn P w K mg base CX0 "_law_value" 2 ["tape", "deep"] (spValue 0) := ⟨f, fd, valueStep (k := 1) (R := spNo) (Nat.le_refl 1) F T DD ⟨f, fd, fn_no, r⟩ (by decide) (by decide) (fun h => absurd h (by decide)), r⟩
  have D1 : Dn P w K mg base CX0 "_law_value" 3 ["tape", "deep"] (spValue 1) := ⟨f, fd, valueStep (k := 2) (R := spValue 0) (by decide) F T DD D0 (by decide) (by decide) (fun _ => rfl), r⟩
  exact ⟨f, fd, valueStep (k := 3) (R := spValue 1) (by decide) F T DD D1 (by decide) (by decide) (fun _ => rfl), r⟩
end
theorem all_mk {l : PySem.W.OpenLaw} {w : World} {K : PySem.W.Frag} {h : Heap} {mg : Str → Option Value} {fa : Addr} (X : K.In h) (G : h.Ns mainGlobals mg) (hfa : mg "law" = some (.ref fa))
    {C0 I0 : Addr} {nm0 q0 : Str} {N0 : Addr} {bs0 bm0 : List Value} {sn0 : List Str} {sub0 : List Value} {ab0 : Bool} {col0 : Option Bool} {dd0 : Option Addr} {u0 v0 x0 y0 z0 : Option Value} {oo0 oa0 : Option Addr} {os0 : Array (Option Value)} {ok0 kV0 dc0 pm0 cd0 ct0 : Value}
    {C1 I1 : Addr} {nm1 q1 : Str} {N1 : Addr} {bs1 bm1 : List Value} {sn1 : List Str} {sub1 : List Value} {ab1 : Bool} {col1 : Option Bool} {dd1 : Option Addr} {u1 v1 x1 y1 z1 : Option Value} {oo1 oa1 : Option Addr} {os1 : Array (Option Value)} {ok1 kV1 dc1 pm1 cd1 ct1 : Value}
    {C2 I2 : Addr} {nm2 q2 : Str} {N2 : Addr} {bs2 bm2 : List Value} {sn2 : List Str} {sub2 : List Value} {ab2 : Bool} {col2 : Option Bool} {dd2 : Option Addr} {u2 v2 x2 y2 z2 : Option Value} {oo2 oa2 : Option Addr} {os2 : Array (Option Value)} {ok2 kV2 dc2 pm2 cd2 ct2 : Value}
    {C3 I3 : Addr} {nm3 q3 : Str} {N3 : Addr} {bs3 bm3 : List Value} {sn3 : List Str} {sub3 : List Value} {ab3 : Bool} {col3 : Option Bool} {dd3 : Option Addr} {u3 v3 x3 y3 z3 : Option Value} {oo3 oa3 : Option Addr} {os3 : Array (Option Value)} {ok3 kV3 dc3 pm3 cd3 ct3 : Value}
    {C4 I4 : Addr} {nm4 q4 : Str} {N4 : Addr} {bs4 bm4 : List Value} {sn4 : List Str} {sub4 : List Value} {ab4 : Bool} {col4 : Option Bool} {dd4 : Option Addr} {u4 v4 x4 y4 z4 : Option Value} {oo4 oa4 : Option Addr} {os4 : Array (Option Value)} {ok4 kV4 dc4 pm4 cd4 ct4 : Value}
    {C5 I5 : Addr} {nm5 q5 : Str} {N5 : Addr} {bs5 bm5 : List Value} {sn5 : List Str} {sub5 : List Value} {ab5 : Bool} {col5 : Option Bool} {dd5 : Option Addr} {u5 v5 x5 y5 z5 : Option Value} {oo5 oa5 : Option Addr} {os5 : Array (Option Value)} {ok5 kV5 dc5 pm5 cd5 ct5 : Value}
    {C6 I6 : Addr} {nm6 q6 : Str} {N6 : Addr} {bs6 bm6 : List Value} {sn6 : List Str} {sub6 : List Value} {ab6 : Bool} {col6 : Option Bool} {dd6 : Option Addr} {u6 v6 x6 y6 z6 : Option Value} {oo6 oa6 : Option Addr} {os6 : Array (Option Value)} {ok6 kV6 dc6 pm6 cd6 ct6 : Value}
    {C7 I7 : Addr} {nm7 q7 : Str} {N7 : Addr} {bs7 bm7 : List Value} {sn7 : List Str} {sub7 : List Value} {ab7 : Bool} {col7 : Option Bool} {dd7 : Option Addr} {u7 v7 x7 y7 z7 : Option Value} {oo7 oa7 : Option Addr} {os7 : Array (Option Value)} {ok7 kV7 dc7 pm7 cd7 ct7 : Value}
    {C8 I8 : Addr} {nm8 q8 : Str} {N8 : Addr} {bs8 bm8 : List Value} {sn8 : List Str} {sub8 : List Value} {ab8 : Bool} {col8 : Option Bool} {dd8 : Option Addr} {u8 v8 x8 y8 z8 : Option Value} {oo8 oa8 : Option Addr} {os8 : Array (Option Value)} {ok8 kV8 dc8 pm8 cd8 ct8 : Value}
    {C9 I9 : Addr} {nm9 q9 : Str} {N9 : Addr} {bs9 bm9 : List Value} {sn9 : List Str} {sub9 : List Value} {ab9 : Bool} {col9 : Option Bool} {dd9 : Option Addr} {u9 v9 x9 y9 z9 : Option Value} {oo9 oa9 : Option Addr} {os9 : Array (Option Value)} {ok9 kV9 dc9 pm9 cd9 ct9 : Value}
    {C10 I10 : Addr} {nm10 q10 : Str} {N10 : Addr} {bs10 bm10 : List Value} {sn10 : List Str} {sub10 : List Value} {ab10 : Bool} {col10 : Option Bool} {dd10 : Option Addr} {u10 v10 x10 y10 z10 : Option Value} {oo10 oa10 : Option Addr} {os10 : Array (Option Value)} {ok10 kV10 dc10 pm10 cd10 ct10 : Value}
    {F0 F1 F2 F3 M : Addr}
    {d0 : Addr} {eo0 ea0 : Option Addr} {es0 : Array (Option Value)} {ek0 eV0 ed0 ep0 ec0 et0 : Value}
    {d1 : Addr} {eo1 ea1 : Option Addr} {es1 : Array (Option Value)} {ek1 eV1 ed1 ep1 ec1 et1 : Value}
    {d2 : Addr} {eo2 ea2 : Option Addr} {es2 : Array (Option Value)} {ek2 eV2 ed2 ep2 ec2 et2 : Value}
    {d3 : Addr} {eo3 ea3 : Option Addr} {es3 : Array (Option Value)} {ek3 eV3 ed3 ep3 ec3 et3 : Value}
    {d4 : Addr} {eo4 ea4 : Option Addr} {es4 : Array (Option Value)} {ek4 eV4 ed4 ep4 ec4 et4 : Value}
    {d5 : Addr} {eo5 ea5 : Option Addr} {es5 : Array (Option Value)} {ek5 eV5 ed5 ep5 ec5 et5 : Value}
    {d6 : Addr} {eo6 ea6 : Option Addr} {es6 : Array (Option Value)} {ek6 eV6 ed6 ep6 ec6 et6 : Value}
    {d7 : Addr} {eo7 ea7 : Option Addr} {es7 : Array (Option Value)} {ek7 eV7 ed7 ep7 ec7 et7 : Value}
    {d8 : Addr} {eo8 ea8 : Option Addr} {es8 : Array (Option Value)} {ek8 eV8 ed8 ep8 ec8 et8 : Value}
    {d9 : Addr} {eo9 ea9 : Option Addr} {es9 : Array (Option Value)} {ek9 eV9 ed9 ep9 ec9 et9 : Value}
    {d10 : Addr} {eo10 ea10 : Option Addr} {es10 : Array (Option Value)} {ek10 eV10 ed10 ep10 ec10 et10 : Value}
    {d11 : Addr} {eo11 ea11 : Option Addr} {es11 : Array (Option Value)} {ek11 eV11 ed11 ep11 ec11 et11 : Value}
    {d12 : Addr} {eo12 ea12 : Option Addr} {es12 : Array (Option Value)} {ek12 eV12 ed12 ep12 ec12 et12 : Value}
    {d13 : Addr} {eo13 ea13 : Option Addr} {es13 : Array (Option Value)} {ek13 eV13 ed13 ep13 ec13 et13 : Value}
    {d14 : Addr} {eo14 ea14 : Option Addr} {es14 : Array (Option Value)} {ek14 eV14 ed14 ep14 ec14 et14 : Value}
    {d15 : Addr} {eo15 ea15 : Option Addr} {es15 : Array (Option Value)} {ek15 eV15 ed15 ep15 ec15 et15 : Value}
    {d16 : Addr} {eo16 ea16 : Option Addr} {es16 : Array (Option Value)} {ek16 eV16 ed16 ep16 ec16 et16 : Value}
    {d17 : Addr} {eo17 ea17 : Option Addr} {es17 : Array (Option Value)} {ek17 eV17 ed17 ep17 ec17 et17 : Value}
    {d18 : Addr} {eo18 ea18 : Option Addr} {es18 : Array (Option Value)} {ek18 eV18 ed18 ep18 ec18 et18 : Value}
    {d19 : Addr} {eo19 ea19 : Option Addr} {es19 : Array (Option Value)} {ek19 eV19 ed19 ep19 ec19 et19 : Value}
    (aC0 : PySem.W.nsIn K mainGlobals "InvalidPaper" = some (some (.ref C0)))
    (xL0 : K.lookup C0 = some (excClassObj nm0 q0 C0 N0 bs0 bm0 true sn0 sub0 ab0 col0 dd0 u0 v0 x0 y0 z0 "ValueError.__new__"))
    (bm0_ : PySem.HandSPX.refsVE bm0 = true)
    (iI0 : PySem.W.findIn K (.ref C0) "__init__" = some (some (.ref I0)))
    (lI0 : K.lookup I0 = some ⟨ok0, oo0, .func (PySem.W.fnOf "__init__" "InvalidPaper.__init__" (defArgs siInvalidPaper) (defBody siInvalidPaper) (defScope siInvalidPaper) .none kV0 dc0 pm0 oa0 cd0 ct0), os0⟩)
    (cI0 : PySem.W.codeIn K cd0 "InvalidPaper.__init__" = true)
    (kI0 : PySem.W.keepIn K (.ref I0) = true)
    (aC1 : PySem.W.nsIn K mainGlobals "NotUsable" = some (some (.ref C1)))
    (xL1 : K.lookup C1 = some (excClassObj nm1 q1 C1 N1 bs1 bm1 true sn1 sub1 ab1 col1 dd1 u1 v1 x1 y1 z1 "ValueError.__new__"))
    (bm1_ : PySem.HandSPX.refsVE bm1 = true)
    (iI1 : PySem.W.findIn K (.ref C1) "__init__" = some (some (.ref I1)))
    (lI1 : K.lookup I1 = some ⟨ok1, oo1, .func (PySem.W.fnOf "__init__" "NotUsable.__init__" (defArgs siNotUsable) (defBody siNotUsable) (defScope siNotUsable) .none kV1 dc1 pm1 oa1 cd1 ct1), os1⟩)
    (cI1 : PySem.W.codeIn K cd1 "NotUsable.__init__" = true)
    (kI1 : PySem.W.keepIn K (.ref I1) = true)
    (aC2 : PySem.W.nsIn K mainGlobals "NotClosed" = some (some (.ref C2)))
    (xL2 : K.lookup C2 = some (excClassObj nm2 q2 C2 N2 bs2 bm2 true sn2 sub2 ab2 col2 dd2 u2 v2 x2 y2 z2 "ValueError.__new__"))
    (bm2_ : PySem.HandSPX.refsVE bm2 = true)
    (iI2 : PySem.W.findIn K (.ref C2) "__init__" = some (some (.ref I2)))
    (lI2 : K.lookup I2 = some ⟨ok2, oo2, .func (PySem.W.fnOf "__init__" "NotClosed.__init__" (defArgs siNotClosed) (defBody siNotClosed) (defScope siNotClosed) .none kV2 dc2 pm2 oa2 cd2 ct2), os2⟩)
    (cI2 : PySem.W.codeIn K cd2 "NotClosed.__init__" = true)
    (kI2 : PySem.W.keepIn K (.ref I2) = true)
    (aC3 : PySem.W.nsIn K mainGlobals "StillNeeded" = some (some (.ref C3)))
    (xL3 : K.lookup C3 = some (excClassObj nm3 q3 C3 N3 bs3 bm3 true sn3 sub3 ab3 col3 dd3 u3 v3 x3 y3 z3 "ValueError.__new__"))
    (bm3_ : PySem.HandSPX.refsVE bm3 = true)
    (iI3 : PySem.W.findIn K (.ref C3) "__init__" = some (some (.ref I3)))
    (lI3 : K.lookup I3 = some ⟨ok3, oo3, .func (PySem.W.fnOf "__init__" "StillNeeded.__init__" (defArgs siStillNeeded) (defBody siStillNeeded) (defScope siStillNeeded) .none kV3 dc3 pm3 oa3 cd3 ct3), os3⟩)
    (cI3 : PySem.W.codeIn K cd3 "StillNeeded.__init__" = true)
    (kI3 : PySem.W.keepIn K (.ref I3) = true)
    (aC4 : PySem.W.nsIn K mainGlobals "CutRoot" = some (some (.ref C4)))
    (xL4 : K.lookup C4 = some (excClassObj nm4 q4 C4 N4 bs4 bm4 true sn4 sub4 ab4 col4 dd4 u4 v4 x4 y4 z4 "ValueError.__new__"))
    (bm4_ : PySem.HandSPX.refsVE bm4 = true)
    (iI4 : PySem.W.findIn K (.ref C4) "__init__" = some (some (.ref I4)))
    (lI4 : K.lookup I4 = some ⟨ok4, oo4, .func (PySem.W.fnOf "__init__" "CutRoot.__init__" (defArgs siCutRoot) (defBody siCutRoot) (defScope siCutRoot) .none kV4 dc4 pm4 oa4 cd4 ct4), os4⟩)
    (cI4 : PySem.W.codeIn K cd4 "CutRoot.__init__" = true)
    (kI4 : PySem.W.keepIn K (.ref I4) = true)
    (aC5 : PySem.W.nsIn K mainGlobals "EmptySolid" = some (some (.ref C5)))
    (xL5 : K.lookup C5 = some (excClassObj nm5 q5 C5 N5 bs5 bm5 true sn5 sub5 ab5 col5 dd5 u5 v5 x5 y5 z5 "ValueError.__new__"))
    (bm5_ : PySem.HandSPX.refsVE bm5 = true)
    (iI5 : PySem.W.findIn K (.ref C5) "__init__" = some (some (.ref I5)))
    (lI5 : K.lookup I5 = some ⟨ok5, oo5, .func (PySem.W.fnOf "__init__" "EmptySolid.__init__" (defArgs siEmptySolid) (defBody siEmptySolid) (defScope siEmptySolid) .none kV5 dc5 pm5 oa5 cd5 ct5), os5⟩)
    (cI5 : PySem.W.codeIn K cd5 "EmptySolid.__init__" = true)
    (kI5 : PySem.W.keepIn K (.ref I5) = true)
    (aC6 : PySem.W.nsIn K mainGlobals "Refused" = some (some (.ref C6)))
    (xL6 : K.lookup C6 = some (excClassObj nm6 q6 C6 N6 bs6 bm6 true sn6 sub6 ab6 col6 dd6 u6 v6 x6 y6 z6 "ValueError.__new__"))
    (bm6_ : PySem.HandSPX.refsVE bm6 = true)
    (iI6 : PySem.W.findIn K (.ref C6) "__init__" = some (some (.ref I6)))
    (lI6 : K.lookup I6 = some ⟨ok6, oo6, .func (PySem.W.fnOf "__init__" "Refused.__init__" (defArgs siRefused) (defBody siRefused) (defScope siRefused) .none kV6 dc6 pm6 oa6 cd6 ct6), os6⟩)
    (cI6 : PySem.W.codeIn K cd6 "Refused.__init__" = true)
    (kI6 : PySem.W.keepIn K (.ref I6) = true)
    (aC7 : PySem.W.nsIn K mainGlobals "NoDeed" = some (some (.ref C7)))
    (xL7 : K.lookup C7 = some (excClassObj nm7 q7 C7 N7 bs7 bm7 true sn7 sub7 ab7 col7 dd7 u7 v7 x7 y7 z7 "ValueError.__new__"))
    (bm7_ : PySem.HandSPX.refsVE bm7 = true)
    (iI7 : PySem.W.findIn K (.ref C7) "__init__" = some (some (.ref I7)))
    (lI7 : K.lookup I7 = some ⟨ok7, oo7, .func (PySem.W.fnOf "__init__" "NoDeed.__init__" (defArgs siNoDeed) (defBody siNoDeed) (defScope siNoDeed) .none kV7 dc7 pm7 oa7 cd7 ct7), os7⟩)
    (cI7 : PySem.W.codeIn K cd7 "NoDeed.__init__" = true)
    (kI7 : PySem.W.keepIn K (.ref I7) = true)
    (aC8 : PySem.W.nsIn K mainGlobals "NotStanding" = some (some (.ref C8)))
    (xL8 : K.lookup C8 = some (excClassObj nm8 q8 C8 N8 bs8 bm8 true sn8 sub8 ab8 col8 dd8 u8 v8 x8 y8 z8 "ValueError.__new__"))
    (bm8_ : PySem.HandSPX.refsVE bm8 = true)
    (iI8 : PySem.W.findIn K (.ref C8) "__init__" = some (some (.ref I8)))
    (lI8 : K.lookup I8 = some ⟨ok8, oo8, .func (PySem.W.fnOf "__init__" "NotStanding.__init__" (defArgs siNotStanding) (defBody siNotStanding) (defScope siNotStanding) .none kV8 dc8 pm8 oa8 cd8 ct8), os8⟩)
    (cI8 : PySem.W.codeIn K cd8 "NotStanding.__init__" = true)
    (kI8 : PySem.W.keepIn K (.ref I8) = true)
    (aC9 : PySem.W.nsIn K mainGlobals "InvalidText" = some (some (.ref C9)))
    (xL9 : K.lookup C9 = some (excClassObj nm9 q9 C9 N9 bs9 bm9 true sn9 sub9 ab9 col9 dd9 u9 v9 x9 y9 z9 "ValueError.__new__"))
    (bm9_ : PySem.HandSPX.refsVE bm9 = true)
    (iI9 : PySem.W.findIn K (.ref C9) "__init__" = some (some (.ref I9)))
    (lI9 : K.lookup I9 = some ⟨ok9, oo9, .func (PySem.W.fnOf "__init__" "InvalidText.__init__" (defArgs siInvalidText) (defBody siInvalidText) (defScope siInvalidText) .none kV9 dc9 pm9 oa9 cd9 ct9), os9⟩)
    (cI9 : PySem.W.codeIn K cd9 "InvalidText.__init__" = true)
    (kI9 : PySem.W.keepIn K (.ref I9) = true)
    (aC10 : PySem.W.nsIn K mainGlobals "InvalidForm" = some (some (.ref C10)))
    (xL10 : K.lookup C10 = some (excClassObj nm10 q10 C10 N10 bs10 bm10 true sn10 sub10 ab10 col10 dd10 u10 v10 x10 y10 z10 "ValueError.__new__"))
    (bm10_ : PySem.HandSPX.refsVE bm10 = true)
    (iI10 : PySem.W.findIn K (.ref C10) "__init__" = some (some (.ref I10)))
    (lI10 : K.lookup I10 = some ⟨ok10, oo10, .func (PySem.W.fnOf "__init__" "InvalidForm.__init__" (defArgs siInvalidForm) (defBody siInvalidForm) (defScope siInvalidForm) .none kV10 dc10 pm10 oa10 cd10 ct10), os10⟩)
    (cI10 : PySem.W.codeIn K cd10 "InvalidForm.__init__" = true)
    (kI10 : PySem.W.keepIn K (.ref I10) = true)
    (aF0 : PySem.W.nsIn K mainGlobals "PaperError" = some (some (.ref F0)))
    (aF1 : PySem.W.nsIn K mainGlobals "ShapeError" = some (some (.ref F1)))
    (aF2 : PySem.W.nsIn K mainGlobals "LiveError" = some (some (.ref F2)))
    (aF3 : PySem.W.nsIn K mainGlobals "TextError" = some (some (.ref F3)))
    (aM : PySem.W.nsIn K mainGlobals "MeshError" = some (some (.ref M)))
    (aD0 : PySem.W.nsIn K mainGlobals "_law_draw" = some (some (.ref d0)))
    (lD0 : K.lookup d0 = some ⟨ek0, eo0, .func (PySem.W.fnOf "_law_draw" "_law_draw" (defArgs sDraw) (defBody sDraw) (defScope sDraw) .none eV0 ed0 ep0 ea0 ec0 et0), es0⟩)
    (cD0 : PySem.W.codeIn K ec0 "_law_draw" = true)
    (kD0 : PySem.W.keepIn K (.ref d0) = true)
    (aD1 : PySem.W.nsIn K mainGlobals "_law_value" = some (some (.ref d1)))
    (lD1 : K.lookup d1 = some ⟨ek1, eo1, .func (PySem.W.fnOf "_law_value" "_law_value" (defArgs sValue) (defBody sValue) (defScope sValue) .none eV1 ed1 ep1 ea1 ec1 et1), es1⟩)
    (cD1 : PySem.W.codeIn K ec1 "_law_value" = true)
    (kD1 : PySem.W.keepIn K (.ref d1) = true)
    (aD2 : PySem.W.nsIn K mainGlobals "_law_copy" = some (some (.ref d2)))
    (lD2 : K.lookup d2 = some ⟨ek2, eo2, .func (PySem.W.fnOf "_law_copy" "_law_copy" (defArgs sCopy) (defBody sCopy) (defScope sCopy) .none eV2 ed2 ep2 ea2 ec2 et2), es2⟩)
    (cD2 : PySem.W.codeIn K ec2 "_law_copy" = true)
    (kD2 : PySem.W.keepIn K (.ref d2) = true)
    (aD3 : PySem.W.nsIn K mainGlobals "_law_same" = some (some (.ref d3)))
    (lD3 : K.lookup d3 = some ⟨ek3, eo3, .func (PySem.W.fnOf "_law_same" "_law_same" (defArgs sSame) (defBody sSame) (defScope sSame) .none eV3 ed3 ep3 ea3 ec3 et3), es3⟩)
    (cD3 : PySem.W.codeIn K ec3 "_law_same" = true)
    (kD3 : PySem.W.keepIn K (.ref d3) = true)
    (aD4 : PySem.W.nsIn K mainGlobals "_law_many" = some (some (.ref d4)))
    (lD4 : K.lookup d4 = some ⟨ek4, eo4, .func (PySem.W.fnOf "_law_many" "_law_many" (defArgs sMany) (defBody sMany) (defScope sMany) .none eV4 ed4 ep4 ea4 ec4 et4), es4⟩)
    (cD4 : PySem.W.codeIn K ec4 "_law_many" = true)
    (kD4 : PySem.W.keepIn K (.ref d4) = true)
    (aD5 : PySem.W.nsIn K mainGlobals "_law_family" = some (some (.ref d5)))
    (lD5 : K.lookup d5 = some ⟨ek5, eo5, .func (PySem.W.fnOf "_law_family" "_law_family" (defArgs sFamily) (defBody sFamily) (defScope sFamily) .none eV5 ed5 ep5 ea5 ec5 et5), es5⟩)
    (cD5 : PySem.W.codeIn K ec5 "_law_family" = true)
    (kD5 : PySem.W.keepIn K (.ref d5) = true)
    (aD6 : PySem.W.nsIn K mainGlobals "_law_made" = some (some (.ref d6)))
    (lD6 : K.lookup d6 = some ⟨ek6, eo6, .func (PySem.W.fnOf "_law_made" "_law_made" (defArgs sMade) (defBody sMade) (defScope sMade) .none eV6 ed6 ep6 ea6 ec6 et6), es6⟩)
    (cD6 : PySem.W.codeIn K ec6 "_law_made" = true)
    (kD6 : PySem.W.keepIn K (.ref d6) = true)
    (aD7 : PySem.W.nsIn K mainGlobals "_law_named" = some (some (.ref d7)))
    (lD7 : K.lookup d7 = some ⟨ek7, eo7, .func (PySem.W.fnOf "_law_named" "_law_named" (defArgs sNamed) (defBody sNamed) (defScope sNamed) .none eV7 ed7 ep7 ea7 ec7 et7), es7⟩)
    (cD7 : PySem.W.codeIn K ec7 "_law_named" = true)
    (kD7 : PySem.W.keepIn K (.ref d7) = true)
    (aD8 : PySem.W.nsIn K mainGlobals "_law_fields" = some (some (.ref d8)))
    (lD8 : K.lookup d8 = some ⟨ek8, eo8, .func (PySem.W.fnOf "_law_fields" "_law_fields" (defArgs sFields) (defBody sFields) (defScope sFields) .none eV8 ed8 ep8 ea8 ec8 et8), es8⟩)
    (cD8 : PySem.W.codeIn K ec8 "_law_fields" = true)
    (kD8 : PySem.W.keepIn K (.ref d8) = true)
    (aD9 : PySem.W.nsIn K mainGlobals "_law_kinds" = some (some (.ref d9)))
    (lD9 : K.lookup d9 = some ⟨ek9, eo9, .func (PySem.W.fnOf "_law_kinds" "_law_kinds" (defArgs sKinds) (defBody sKinds) (defScope sKinds) .none eV9 ed9 ep9 ea9 ec9 et9), es9⟩)
    (cD9 : PySem.W.codeIn K ec9 "_law_kinds" = true)
    (kD9 : PySem.W.keepIn K (.ref d9) = true)
    (aD10 : PySem.W.nsIn K mainGlobals "_law_families" = some (some (.ref d10)))
    (lD10 : K.lookup d10 = some ⟨ek10, eo10, .func (PySem.W.fnOf "_law_families" "_law_families" (defArgs sFamilies) (defBody sFamilies) (defScope sFamilies) .none eV10 ed10 ep10 ea10 ec10 et10), es10⟩)
    (cD10 : PySem.W.codeIn K ec10 "_law_families" = true)
    (kD10 : PySem.W.keepIn K (.ref d10) = true)
    (aD11 : PySem.W.nsIn K mainGlobals "_law_stands" = some (some (.ref d11)))
    (lD11 : K.lookup d11 = some ⟨ek11, eo11, .func (PySem.W.fnOf "_law_stands" "_law_stands" (defArgs sStands) (defBody sStands) (defScope sStands) .none eV11 ed11 ep11 ea11 ec11 et11), es11⟩)
    (cD11 : PySem.W.codeIn K ec11 "_law_stands" = true)
    (kD11 : PySem.W.keepIn K (.ref d11) = true)
    (aD12 : PySem.W.nsIn K mainGlobals "_law_thrown" = some (some (.ref d12)))
    (lD12 : K.lookup d12 = some ⟨ek12, eo12, .func (PySem.W.fnOf "_law_thrown" "_law_thrown" (defArgs sThrown) (defBody sThrown) (defScope sThrown) .none eV12 ed12 ep12 ea12 ec12 et12), es12⟩)
    (cD12 : PySem.W.codeIn K ec12 "_law_thrown" = true)
    (kD12 : PySem.W.keepIn K (.ref d12) = true)
    (aD13 : PySem.W.nsIn K mainGlobals "_law_by_family" = some (some (.ref d13)))
    (lD13 : K.lookup d13 = some ⟨ek13, eo13, .func (PySem.W.fnOf "_law_by_family" "_law_by_family" (defArgs sByFamily) (defBody sByFamily) (defScope sByFamily) .none eV13 ed13 ep13 ea13 ec13 et13), es13⟩)
    (cD13 : PySem.W.codeIn K ec13 "_law_by_family" = true)
    (kD13 : PySem.W.keepIn K (.ref d13) = true)
    (aD14 : PySem.W.nsIn K mainGlobals "_law_by_class" = some (some (.ref d14)))
    (lD14 : K.lookup d14 = some ⟨ek14, eo14, .func (PySem.W.fnOf "_law_by_class" "_law_by_class" (defArgs sByClass) (defBody sByClass) (defScope sByClass) .none eV14 ed14 ep14 ea14 ec14 et14), es14⟩)
    (cD14 : PySem.W.codeIn K ec14 "_law_by_class" = true)
    (kD14 : PySem.W.keepIn K (.ref d14) = true)
    (aD15 : PySem.W.nsIn K mainGlobals "_law_by_base" = some (some (.ref d15)))
    (lD15 : K.lookup d15 = some ⟨ek15, eo15, .func (PySem.W.fnOf "_law_by_base" "_law_by_base" (defArgs sByBase) (defBody sByBase) (defScope sByBase) .none eV15 ed15 ep15 ea15 ec15 et15), es15⟩)
    (cD15 : PySem.W.codeIn K ec15 "_law_by_base" = true)
    (kD15 : PySem.W.keepIn K (.ref d15) = true)
    (aD16 : PySem.W.nsIn K mainGlobals "_law_very" = some (some (.ref d16)))
    (lD16 : K.lookup d16 = some ⟨ek16, eo16, .func (PySem.W.fnOf "_law_very" "_law_very" (defArgs sVery) (defBody sVery) (defScope sVery) .none eV16 ed16 ep16 ea16 ec16 et16), es16⟩)
    (cD16 : PySem.W.codeIn K ec16 "_law_very" = true)
    (kD16 : PySem.W.keepIn K (.ref d16) = true)
    (aD17 : PySem.W.nsIn K mainGlobals "_law_pair" = some (some (.ref d17)))
    (lD17 : K.lookup d17 = some ⟨ek17, eo17, .func (PySem.W.fnOf "_law_pair" "_law_pair" (defArgs sPair) (defBody sPair) (defScope sPair) .none eV17 ed17 ep17 ea17 ec17 et17), es17⟩)
    (cD17 : PySem.W.codeIn K ec17 "_law_pair" = true)
    (kD17 : PySem.W.keepIn K (.ref d17) = true)
    (aD18 : PySem.W.nsIn K mainGlobals "_law_one" = some (some (.ref d18)))
    (lD18 : K.lookup d18 = some ⟨ek18, eo18, .func (PySem.W.fnOf "_law_one" "_law_one" (defArgs sOne) (defBody sOne) (defScope sOne) .none eV18 ed18 ep18 ea18 ec18 et18), es18⟩)
    (cD18 : PySem.W.codeIn K ec18 "_law_one" = true)
    (kD18 : PySem.W.keepIn K (.ref d18) = true)
    (aD19 : PySem.W.nsIn K mainGlobals "law" = some (some (.ref d19)))
    (lD19 : K.lookup d19 = some ⟨ek19, eo19, .func (PySem.W.fnOf "law" "law" (defArgs slaw) (defBody slaw) (defScope slaw) .none eV19 ed19 ep19 ea19 ec19 et19), es19⟩)
    (cD19 : PySem.W.codeIn K ec19 "law" = true)
    (kD19 : PySem.W.keepIn K (.ref d19) = true)
    (n_int : PySem.W.nsIn K mainGlobals "int" = some none)
    (n_abs : PySem.W.nsIn K mainGlobals "abs" = some none)
    (n_len : PySem.W.nsIn K mainGlobals "len" = some none)
    (n_range : PySem.W.nsIn K mainGlobals "range" = some none)
    (n_tuple : PySem.W.nsIn K mainGlobals "tuple" = some none)
    (n_list : PySem.W.nsIn K mainGlobals "list" = some none)
    (n_bool : PySem.W.nsIn K mainGlobals "bool" = some none)
    (n_str : PySem.W.nsIn K mainGlobals "str" = some none)
    (n_all : PySem.W.nsIn K mainGlobals "all" = some none)
    (n_isinstance : PySem.W.nsIn K mainGlobals "isinstance" = some none)
    (n_ValueError : PySem.W.nsIn K mainGlobals "ValueError" = some none)
    (cB : (clsB K C0 I0 ["word", "at"] && clsB K C1 I1 ["word", "at"] && clsB K C2 I2 ["point", "need"] && clsB K C3 I3 ["point", "other"] && clsB K C4 I4 ["root"] && clsB K C5 I5 [] && clsB K C6 I6 ["chain"] && clsB K C7 I7 ["place"] && clsB K C8 I8 ["name"] && clsB K C9 I9 ["line", "at"] && clsB K C10 I10 ["line", "at"]) = true)
    (kB : kitB K (csL [C0, C1, C2, C3, C4, C5, C6, C7, C8, C9, C10]) (csL [F0, F1, F2, F3]) M = true) :
    ∃ fd : FuncData, (∀ (s : Shared) (v : Value), BindsTo s fd ⟨[v], []⟩ [("script", v)]) ∧ ∀ base : Heap, K.In base → base.Ns mainGlobals mg → FnOk l.prog w K mg base CX0 37 fa fd ["script"] (spLaw K) := by
  have e := hfa.symm.trans (PySem.W.mg_of X G aD19)
  cases e
  refine ⟨PySem.W.fnOf "law" "law" (defArgs slaw) (defBody slaw) (defScope slaw) .none eV19 ed19 ep19 ea19 ec19 et19, fun s v => .of_eq rfl, fun base _ _ => ?_⟩
  have T : Tx mg := ⟨PySem.W.mg_none_of X G n_int, PySem.W.mg_none_of X G n_abs, PySem.W.mg_none_of X G n_len, PySem.W.mg_none_of X G n_range, PySem.W.mg_none_of X G n_tuple, PySem.W.mg_none_of X G n_list, PySem.W.mg_none_of X G n_bool, PySem.W.mg_none_of X G n_str, PySem.W.mg_none_of X G n_all, PySem.W.mg_none_of X G n_isinstance, PySem.W.mg_none_of X G n_ValueError⟩
  have q10 := ba cB
  have q9 := ba q10.1
  have q8 := ba q9.1
  have q7 := ba q8.1
  have q6 := ba q7.1
  have q5 := ba q6.1
  have q4 := ba q5.1
  have q3 := ba q4.1
  have q2 := ba q3.1
  have q1 := ba q2.1
  have FI0 := fun_mk (st := siInvalidPaper) lI0 cI0 kI0
  have bI0 := FI0.binds (ps := ("self" : Str) :: ["word", "at"]) fun _ _ _ _ _ _ us hl => match us, hl with | [_, _, _], _ => rfl
  have kl0 : Kl l.prog w K mg base "InvalidPaper" C0 ["word", "at"] := mk_kl (PySem.W.mg_of X G aC0) ⟨_, _, _, _, _, _, _, _, _, _, _, _, _, _, _, xL0, bm0_⟩ (clsB_ok q1.1) (fun o => iniInvalidPaper FI0 o ((clsB_ok q1.1).no _ (by exact List.mem_cons_self)) ((clsB_ok q1.1).no _ (by exact List.mem_cons_of_mem _ List.mem_cons_self))) bI0 (fun s u0 ws _ hl => match ws, hl with | [_, _], _ => .of_eq rfl)
  have FI1 := fun_mk (st := siNotUsable) lI1 cI1 kI1
  have bI1 := FI1.binds (ps := ("self" : Str) :: ["word", "at"]) fun _ _ _ _ _ _ us hl => match us, hl with | [_, _, _], _ => rfl
  have kl1 : Kl l.prog w K mg base "NotUsable" C1 ["word", "at"] := mk_kl (PySem.W.mg_of X G aC1) ⟨_, _, _, _, _, _, _, _, _, _, _, _, _, _, _, xL1, bm1_⟩ (clsB_ok q1.2) (fun o => iniNotUsable FI1 o ((clsB_ok q1.2).no _ (by exact List.mem_cons_self)) ((clsB_ok q1.2).no _ (by exact List.mem_cons_of_mem _ List.mem_cons_self))) bI1 (fun s u0 ws _ hl => match ws, hl with | [_, _], _ => .of_eq rfl)
  have FI2 := fun_mk (st := siNotClosed) lI2 cI2 kI2
  have bI2 := FI2.binds (ps := ("self" : Str) :: ["point", "need"]) fun _ _ _ _ _ _ us hl => match us, hl with | [_, _, _], _ => rfl
  have kl2 : Kl l.prog w K mg base "NotClosed" C2 ["point", "need"] := mk_kl (PySem.W.mg_of X G aC2) ⟨_, _, _, _, _, _, _, _, _, _, _, _, _, _, _, xL2, bm2_⟩ (clsB_ok q2.2) (fun o => iniNotClosed FI2 o ((clsB_ok q2.2).no _ (by exact List.mem_cons_self)) ((clsB_ok q2.2).no _ (by exact List.mem_cons_of_mem _ List.mem_cons_self))) bI2 (fun s u0 ws _ hl => match ws, hl with | [_, _], _ => .of_eq rfl)
  have FI3 := fun_mk (st := siStillNeeded) lI3 cI3 kI3
  have bI3 := FI3.binds (ps := ("self" : Str) :: ["point", "other"]) fun _ _ _ _ _ _ us hl => match us, hl with | [_, _, _], _ => rfl
  have kl3 : Kl l.prog w K mg base "StillNeeded" C3 ["point", "other"] := mk_kl (PySem.W.mg_of X G aC3) ⟨_, _, _, _, _, _, _, _, _, _, _, _, _, _, _, xL3, bm3_⟩ (clsB_ok q3.2) (fun o => iniStillNeeded FI3 o ((clsB_ok q3.2).no _ (by exact List.mem_cons_self)) ((clsB_ok q3.2).no _ (by exact List.mem_cons_of_mem _ List.mem_cons_self))) bI3 (fun s u0 ws _ hl => match ws, hl with | [_, _], _ => .of_eq rfl)
  have FI4 := fun_mk (st := siCutRoot) lI4 cI4 kI4
  have bI4 := FI4.binds (ps := ("self" : Str) :: ["root"]) fun _ _ _ _ _ _ us hl => match us, hl with | [_, _], _ => rfl
  have kl4 : Kl l.prog w K mg base "CutRoot" C4 ["root"] := mk_kl (PySem.W.mg_of X G aC4) ⟨_, _, _, _, _, _, _, _, _, _, _, _, _, _, _, xL4, bm4_⟩ (clsB_ok q4.2) (fun o => iniCutRoot FI4 o ((clsB_ok q4.2).no _ (by exact List.mem_cons_self))) bI4 (fun s u0 ws _ hl => match ws, hl with | [_], _ => .of_eq rfl)
  have FI5 := fun_mk (st := siEmptySolid) lI5 cI5 kI5
  have bI5 := FI5.binds (ps := ("self" : Str) :: []) fun _ _ _ _ _ _ us hl => match us, hl with | [_], _ => rfl
  have kl5 : Kl l.prog w K mg base "EmptySolid" C5 [] := mk_kl (PySem.W.mg_of X G aC5) ⟨_, _, _, _, _, _, _, _, _, _, _, _, _, _, _, xL5, bm5_⟩ (clsB_ok q5.2) (fun o => iniEmptySolid FI5 o ) bI5 (fun s u0 ws _ hl => match ws, hl with | [], _ => .of_eq rfl)
  have FI6 := fun_mk (st := siRefused) lI6 cI6 kI6
  have bI6 := FI6.binds (ps := ("self" : Str) :: ["chain"]) fun _ _ _ _ _ _ us hl => match us, hl with | [_, _], _ => rfl
  have kl6 : Kl l.prog w K mg base "Refused" C6 ["chain"] := mk_kl (PySem.W.mg_of X G aC6) ⟨_, _, _, _, _, _, _, _, _, _, _, _, _, _, _, xL6, bm6_⟩ (clsB_ok q6.2) (fun o => iniRefused FI6 o ((clsB_ok q6.2).no _ (by exact List.mem_cons_self))) bI6 (fun s u0 ws _ hl => match ws, hl with | [_], _ => .of_eq rfl)
  have FI7 := fun_mk (st := siNoDeed) lI7 cI7 kI7
  have bI7 := FI7.binds (ps := ("self" : Str) :: ["place"]) fun _ _ _ _ _ _ us hl => match us, hl with | [_, _], _ => rfl
  have kl7 : Kl l.prog w K mg base "NoDeed" C7 ["place"] := mk_kl (PySem.W.mg_of X G aC7) ⟨_, _, _, _, _, _, _, _, _, _, _, _, _, _, _, xL7, bm7_⟩ (clsB_ok q7.2) (fun o => iniNoDeed FI7 o ((clsB_ok q7.2).no _ (by exact List.mem_cons_self))) bI7 (fun s u0 ws _ hl => match ws, hl with | [_], _ => .of_eq rfl)
  have FI8 := fun_mk (st := siNotStanding) lI8 cI8 kI8
  have bI8 := FI8.binds (ps := ("self" : Str) :: ["name"]) fun _ _ _ _ _ _ us hl => match us, hl with | [_, _], _ => rfl
  have kl8 : Kl l.prog w K mg base "NotStanding" C8 ["name"] := mk_kl (PySem.W.mg_of X G aC8) ⟨_, _, _, _, _, _, _, _, _, _, _, _, _, _, _, xL8, bm8_⟩ (clsB_ok q8.2) (fun o => iniNotStanding FI8 o ((clsB_ok q8.2).no _ (by exact List.mem_cons_self))) bI8 (fun s u0 ws _ hl => match ws, hl with | [_], _ => .of_eq rfl)
  have FI9 := fun_mk (st := siInvalidText) lI9 cI9 kI9
  have bI9 := FI9.binds (ps := ("self" : Str) :: ["line", "at"]) fun _ _ _ _ _ _ us hl => match us, hl with | [_, _, _], _ => rfl
  have kl9 : Kl l.prog w K mg base "InvalidText" C9 ["line", "at"] := mk_kl (PySem.W.mg_of X G aC9) ⟨_, _, _, _, _, _, _, _, _, _, _, _, _, _, _, xL9, bm9_⟩ (clsB_ok q9.2) (fun o => iniInvalidText FI9 o ((clsB_ok q9.2).no _ (by exact List.mem_cons_self)) ((clsB_ok q9.2).no _ (by exact List.mem_cons_of_mem _ List.mem_cons_self))) bI9 (fun s u0 ws _ hl => match ws, hl with | [_, _], _ => .of_eq rfl)
  have FI10 := fun_mk (st := siInvalidForm) lI10 cI10 kI10
  have bI10 := FI10.binds (ps := ("self" : Str) :: ["line", "at"]) fun _ _ _ _ _ _ us hl => match us, hl with | [_, _, _], _ => rfl
  have kl10 : Kl l.prog w K mg base "InvalidForm" C10 ["line", "at"] := mk_kl (PySem.W.mg_of X G aC10) ⟨_, _, _, _, _, _, _, _, _, _, _, _, _, _, _, xL10, bm10_⟩ (clsB_ok q10.2) (fun o => iniInvalidForm FI10 o ((clsB_ok q10.2).no _ (by exact List.mem_cons_self)) ((clsB_ok q10.2).no _ (by exact List.mem_cons_of_mem _ List.mem_cons_self))) bI10 (fun s u0 ws _ hl => match ws, hl with | [_, _], _ => .of_eq rfl)
  have C : Cf l.prog w K mg base (csL [C0, C1, C2, C3, C4, C5, C6, C7, C8, C9, C10]) (csL [F0, F1, F2, F3]) M := mk_cf (fun i hi => by
      rcases (by omega : i = 0 ∨ i = 1 ∨ i = 2 ∨ i = 3 ∨ i = 4 ∨ i = 5 ∨ i = 6 ∨ i = 7 ∨ i = 8 ∨ i = 9 ∨ i = 10) with rfl | rfl | rfl | rfl | rfl | rfl | rfl | rfl | rfl | rfl | rfl
      · exact kl0
      · exact kl1
      · exact kl2
      · exact kl3
      · exact kl4
      · exact kl5
      · exact kl6
      · exact kl7
      · exact kl8
      · exact kl9
      · exact kl10)
    (fun j hj => by
      rcases (by omega : j = 0 ∨ j = 1 ∨ j = 2 ∨ j = 3) with rfl | rfl | rfl | rfl
      · exact PySem.W.mg_of X G aF0
      · exact PySem.W.mg_of X G aF1
      · exact PySem.W.mg_of X G aF2
      · exact PySem.W.mg_of X G aF3) (PySem.W.mg_of X G aM) kB
  have FD0 := fun_mk (st := sDraw) lD0 cD0 kD0
  have r0 : mg "_law_draw" = some (.ref d0) ∧ PySem.W.keepIn K (.ref d0) = true ∧ Binds K _ ["tape", "many"] [] := ⟨PySem.W.mg_of X G aD0, kD0, FD0.binds (ps := ["tape", "many"]) fun _ _ _ _ _ _ us hl => match us, hl with | [_, _], _ => rfl⟩
  have FD1 := fun_mk (st := sValue) lD1 cD1 kD1
  have r1 : mg "_law_value" = some (.ref d1) ∧ PySem.W.keepIn K (.ref d1) = true ∧ Binds K _ ["tape", "deep"] [] := ⟨PySem.W.mg_of X G aD1, kD1, FD1.binds (ps := ["tape", "deep"]) fun _ _ _ _ _ _ us hl => match us, hl with | [_, _], _ => rfl⟩
  have FD2 := fun_mk (st := sCopy) lD2 cD2 kD2
  have r2 : mg "_law_copy" = some (.ref d2) ∧ PySem.W.keepIn K (.ref d2) = true ∧ Binds K _ ["value"] [] := ⟨PySem.W.mg_of X G aD2, kD2, FD2.binds (ps := ["value"]) fun _ _ _ _ _ _ us hl => match us, hl with | [_], _ => rfl⟩
  have FD3 := fun_mk (st := sSame) lD3 cD3 kD3
  have r3 : mg "_law_same" = some (.ref d3) ∧ PySem.W.keepIn K (.ref d3) = true ∧ Binds K _ ["got", "due"] [] := ⟨PySem.W.mg_of X G aD3, kD3, FD3.binds (ps := ["got", "due"]) fun _ _ _ _ _ _ us hl => match us, hl with | [_, _], _ => rfl⟩
  have FD4 := fun_mk (st := sMany) lD4 cD4 kD4
  have r4 : mg "_law_many" = some (.ref d4) ∧ PySem.W.keepIn K (.ref d4) = true ∧ Binds K _ ["which"] [] := ⟨PySem.W.mg_of X G aD4, kD4, FD4.binds (ps := ["which"]) fun _ _ _ _ _ _ us hl => match us, hl with | [_], _ => rfl⟩
  have FD5 := fun_mk (st := sFamily) lD5 cD5 kD5
  have r5 : mg "_law_family" = some (.ref d5) ∧ PySem.W.keepIn K (.ref d5) = true ∧ Binds K _ ["which"] [] := ⟨PySem.W.mg_of X G aD5, kD5, FD5.binds (ps := ["which"]) fun _ _ _ _ _ _ us hl => match us, hl with | [_], _ => rfl⟩
  have FD6 := fun_mk (st := sMade) lD6 cD6 kD6
  have r6 : mg "_law_made" = some (.ref d6) ∧ PySem.W.keepIn K (.ref d6) = true ∧ Binds K _ ["which", "one", "other"] [] := ⟨PySem.W.mg_of X G aD6, kD6, FD6.binds (ps := ["which", "one", "other"]) fun _ _ _ _ _ _ us hl => match us, hl with | [_, _, _], _ => rfl⟩
  have FD7 := fun_mk (st := sNamed) lD7 cD7 kD7
  have r7 : mg "_law_named" = some (.ref d7) ∧ PySem.W.keepIn K (.ref d7) = true ∧ Binds K _ ["which", "one", "other"] [] := ⟨PySem.W.mg_of X G aD7, kD7, FD7.binds (ps := ["which", "one", "other"]) fun _ _ _ _ _ _ us hl => match us, hl with | [_, _, _], _ => rfl⟩
  have FD8 := fun_mk (st := sFields) lD8 cD8 kD8
  have r8 : mg "_law_fields" = some (.ref d8) ∧ PySem.W.keepIn K (.ref d8) = true ∧ Binds K _ ["which", "error"] [] := ⟨PySem.W.mg_of X G aD8, kD8, FD8.binds (ps := ["which", "error"]) fun _ _ _ _ _ _ us hl => match us, hl with | [_, _], _ => rfl⟩
  have FD9 := fun_mk (st := sKinds) lD9 cD9 kD9
  have r9 : mg "_law_kinds" = some (.ref d9) ∧ PySem.W.keepIn K (.ref d9) = true ∧ Binds K _ ["error"] [] := ⟨PySem.W.mg_of X G aD9, kD9, FD9.binds (ps := ["error"]) fun _ _ _ _ _ _ us hl => match us, hl with | [_], _ => rfl⟩
  have FD10 := fun_mk (st := sFamilies) lD10 cD10 kD10
  have r10 : mg "_law_families" = some (.ref d10) ∧ PySem.W.keepIn K (.ref d10) = true ∧ Binds K _ ["error"] [] := ⟨PySem.W.mg_of X G aD10, kD10, FD10.binds (ps := ["error"]) fun _ _ _ _ _ _ us hl => match us, hl with | [_], _ => rfl⟩
  have FD11 := fun_mk (st := sStands) lD11 cD11 kD11
  have r11 : mg "_law_stands" = some (.ref d11) ∧ PySem.W.keepIn K (.ref d11) = true ∧ Binds K _ ["which", "error"] [] := ⟨PySem.W.mg_of X G aD11, kD11, FD11.binds (ps := ["which", "error"]) fun _ _ _ _ _ _ us hl => match us, hl with | [_, _], _ => rfl⟩
  have FD12 := fun_mk (st := sThrown) lD12 cD12 kD12
  have r12 : mg "_law_thrown" = some (.ref d12) ∧ PySem.W.keepIn K (.ref d12) = true ∧ Binds K _ ["which", "one", "other"] [] := ⟨PySem.W.mg_of X G aD12, kD12, FD12.binds (ps := ["which", "one", "other"]) fun _ _ _ _ _ _ us hl => match us, hl with | [_, _, _], _ => rfl⟩
  have FD13 := fun_mk (st := sByFamily) lD13 cD13 kD13
  have r13 : mg "_law_by_family" = some (.ref d13) ∧ PySem.W.keepIn K (.ref d13) = true ∧ Binds K _ ["which", "one", "other"] [] := ⟨PySem.W.mg_of X G aD13, kD13, FD13.binds (ps := ["which", "one", "other"]) fun _ _ _ _ _ _ us hl => match us, hl with | [_, _, _], _ => rfl⟩
  have FD14 := fun_mk (st := sByClass) lD14 cD14 kD14
  have r14 : mg "_law_by_class" = some (.ref d14) ∧ PySem.W.keepIn K (.ref d14) = true ∧ Binds K _ ["which", "one", "other"] [] := ⟨PySem.W.mg_of X G aD14, kD14, FD14.binds (ps := ["which", "one", "other"]) fun _ _ _ _ _ _ us hl => match us, hl with | [_, _, _], _ => rfl⟩
  have FD15 := fun_mk (st := sByBase) lD15 cD15 kD15
  have r15 : mg "_law_by_base" = some (.ref d15) ∧ PySem.W.keepIn K (.ref d15) = true ∧ Binds K _ ["which", "one", "other"] [] := ⟨PySem.W.mg_of X G aD15, kD15, FD15.binds (ps := ["which", "one", "other"]) fun _ _ _ _ _ _ us hl => match us, hl with | [_, _, _], _ => rfl⟩
  have FD16 := fun_mk (st := sVery) lD16 cD16 kD16
  have r16 : mg "_law_very" = some (.ref d16) ∧ PySem.W.keepIn K (.ref d16) = true ∧ Binds K _ ["which", "by_name"] [] := ⟨PySem.W.mg_of X G aD16, kD16, FD16.binds (ps := ["which", "by_name"]) fun _ _ _ _ _ _ us hl => match us, hl with | [_, _], _ => rfl⟩
  have FD17 := fun_mk (st := sPair) lD17 cD17 kD17
  have r17 : mg "_law_pair" = some (.ref d17) ∧ PySem.W.keepIn K (.ref d17) = true ∧ Binds K _ ["tape", "which"] [] := ⟨PySem.W.mg_of X G aD17, kD17, FD17.binds (ps := ["tape", "which"]) fun _ _ _ _ _ _ us hl => match us, hl with | [_, _], _ => rfl⟩
  have FD18 := fun_mk (st := sOne) lD18 cD18 kD18
  have r18 : mg "_law_one" = some (.ref d18) ∧ PySem.W.keepIn K (.ref d18) = true ∧ Binds K _ ["which", "one", "other"] [] := ⟨PySem.W.mg_of X G aD18, kD18, FD18.binds (ps := ["which", "one", "other"]) fun _ _ _ _ _ _ us hl => match us, hl with | [_, _, _], _ => rfl⟩
  have FD19 := fun_mk (st := slaw) lD19 cD19 kD19
  have DDraw : Dn l.prog w K mg base CX0 "_law_draw" 1 ["tape", "many"] spDraw := ⟨_, _, okDraw FD0 T, r0⟩
  have DFields : Dm l.prog w K mg base "_law_fields" 1 ["which", "error"] (spFields (csL [C0, C1, C2, C3, C4, C5, C6, C7, C8, C9, C10])) := ⟨_, _, okFields FD8 T C, r8⟩
  have DKinds : Dm l.prog w K mg base "_law_kinds" 1 ["error"] (spKinds (csL [C0, C1, C2, C3, C4, C5, C6, C7, C8, C9, C10])) := ⟨_, _, okKinds FD9 T C, r9⟩
  have DFams : Dm l.prog w K mg base "_law_families" 1 ["error"] (spFamilies (csL [C0, C1, C2, C3, C4, C5, C6, C7, C8, C9, C10])) := ⟨_, _, okFamilies FD10 T C, r10⟩
  have DFamB : Dm l.prog w K mg base "_law_family" 1 ["which"] (fun _ => spFamily) := ⟨_, _, okFamilyB FD5 T, r5⟩
  have DStands : Dm l.prog w K mg base "_law_stands" 2 ["which", "error"] (spStands (csL [C0, C1, C2, C3, C4, C5, C6, C7, C8, C9, C10])) := ⟨_, _, okStands FD11 T C DKinds DFams DFamB, r11⟩
  have DThrown : Dn l.prog w K mg base (L2N.CX l.prog w) "_law_thrown" 3 ["which", "one", "other"] (spThrown (csL [C0, C1, C2, C3, C4, C5, C6, C7, C8, C9, C10])) := ⟨_, _, okThrown FD12 T C, r12⟩
  have D : Ds l.prog w K mg base (csL [C0, C1, C2, C3, C4, C5, C6, C7, C8, C9, C10]) := {
    Draw := DDraw, Value := dnValue FD1 T DDraw r1, Copy := dnCopy FD2 T r2 31, Same := dnSame FD3 T r3 31, Many := ⟨_, _, okMany FD4 T, r4⟩, Family := ⟨_, _, okFamily FD5 T, r5⟩, Made := ⟨_, _, okMade FD6 T C, r6⟩, Named := ⟨_, _, okNamed FD7 T C, r7⟩,
    Fields := DFields.dn, Stands := DStands.dn, ByFamily := ⟨_, _, okByFamily FD13 T C DThrown DFields, r13⟩, ByClass := ⟨_, _, okByClass FD14 T C DThrown DFields, r14⟩, ByBase := ⟨_, _, okByBase FD15 T C DThrown DFields DStands, r15⟩ }
  have DVery : Dn l.prog w K mg base CX0 "_law_very" 34 ["which", "by_name"] spVery := ⟨_, _, okVery FD16 T D, r16⟩
  have DOne : Dn l.prog w K mg base CX0 "_law_one" 35 ["which", "one", "other"] spOne := ⟨_, _, okOne FD18 T D DVery, r18⟩
  have DPair : Dn l.prog w K mg base CX0 "_law_pair" 36 ["tape", "which"] spPair := ⟨_, _, okPair FD17 T D DOne, r17⟩
  exact okLaw FD19 T DPair
theorem walkT {l : PySem.W.OpenLaw} {q : Program} {loose : List Str} {XP : (Str → Option Value) → Heap → Prop} {YP : World → Heap → Prop} {d : DefRec} {K : Params → PySem.W.Frag} (hn : l.most = some 63) (hdf : d.params.defaults = [])
    (hY : ∀ (w : World) (h : Heap), YP w h → (K w.params).In h)
    (F : ∀ (w : World) (mg : Str → Option Value) (fa : Addr) (h : Heap), (K w.params).In h → h.Ns mainGlobals mg → mg d.name = some (.ref fa) →
      ∃ fd : FuncData, (∀ (s : Shared) (u : Value), BindsTo s fd ⟨[u], []⟩ [("script", u)]) ∧ ∀ base : Heap, (K w.params).In base → base.Ns mainGlobals mg → FnOk l.prog w (K w.params) mg base CX0 37 fa fd ["script"] (spLaw (K w.params))) :
    PySem.W.WalkO q loose XP YP l.row.toRowW d [] (fun f vs => PySem.call f vs) :=
  L2.walk_of (n := 63) (k := 37) (x := "script") (CX := fun _ => CX0) (sp := fun w => spLaw (K w.params)) hn (by decide) hdf ⟨rfl, by decide, by decide⟩ hY F (fun _ _ a ns hl _ hS => ⟨a, ns, rfl, hS, hl, fun _ => rfl⟩) fun _ _ _ _ _ z => z
end K78
end SecB18
set_option Elab.async false
set_option linter.all false
open PySem PySem.W PyProof.Rows
set_option maxRecDepth 100000 in
set_option maxHeartbeats 0 in
theorem PySem.Challenge.cw_wholefaces_k78_errors_holds : PySem.Challenge.rw_wholefaces_k78_errors.Holds := by
  w_on; o_law; k_head; (case hw => w_witness2)
  k_fill
  refine K78.walkT (l := PySem.Challenge.rw_wholefaces_k78_errors) rfl rfl (fun w h Y => PySem.W.kIn_of Y) ?F
  case F =>
    intro w mg fa h KX G hmg
    refine' K78.all_mk KX G hmg ?aC0 ?xL0 ?bm0_ ?iI0 ?lI0 ?cI0 ?kI0 ?aC1 ?xL1 ?bm1_ ?iI1 ?lI1 ?cI1 ?kI1 ?aC2 ?xL2 ?bm2_ ?iI2 ?lI2 ?cI2 ?kI2 ?aC3 ?xL3 ?bm3_ ?iI3 ?lI3 ?cI3 ?kI3 ?aC4 ?xL4 ?bm4_ ?iI4 ?lI4 ?cI4 ?kI4 ?aC5 ?xL5 ?bm5_ ?iI5 ?lI5 ?cI5 ?kI5 ?aC6 ?xL6 ?bm6_ ?iI6 ?lI6 ?cI6 ?kI6 ?aC7 ?xL7 ?bm7_ ?iI7 ?lI7 ?cI7 ?kI7 ?aC8 ?xL8 ?bm8_ ?iI8 ?lI8 ?cI8 ?kI8 ?aC9 ?xL9 ?bm9_ ?iI9 ?lI9 ?cI9 ?kI9 ?aC10 ?xL10 ?bm10_ ?iI10 ?lI10 ?cI10 ?kI10 ?aF0 ?aF1 ?aF2 ?aF3 ?aM ?aD0 ?lD0 ?cD0 ?kD0 ?aD1 ?lD1 ?cD1 ?kD1 ?aD2 ?lD2 ?cD2 ?kD2 ?aD3 ?lD3 ?cD3 ?kD3 ?aD4 ?lD4 ?cD4 ?kD4 ?aD5 ?lD5 ?cD5 ?kD5 ?aD6 ?lD6 ?cD6 ?kD6 ?aD7 ?lD7 ?cD7 ?kD7 ?aD8 ?lD8 ?cD8 ?kD8 ?aD9 ?lD9 ?cD9 ?kD9 ?aD10 ?lD10 ?cD10 ?kD10 ?aD11 ?lD11 ?cD11 ?kD11 ?aD12 ?lD12 ?cD12 ?kD12 ?aD13 ?lD13 ?cD13 ?kD13 ?aD14 ?lD14 ?cD14 ?kD14 ?aD15 ?lD15 ?cD15 ?kD15 ?aD16 ?lD16 ?cD16 ?kD16 ?aD17 ?lD17 ?cD17 ?kD17 ?aD18 ?lD18 ?cD18 ?kD18 ?aD19 ?lD19 ?cD19 ?kD19 ?n_int ?n_abs ?n_len ?n_range ?n_tuple ?n_list ?n_bool ?n_str ?n_all ?n_isinstance ?n_ValueError ?cB ?kB
    (case aC0 => k_is)
    (case xL0 => k_is)
    (case bm0_ => decide +kernel)
    (case iI0 => k_is)
    (case lI0 => k_is)
    (case cI0 => k_is)
    (case kI0 => k_is)
    (case aC1 => k_is)
    (case xL1 => k_is)
    (case bm1_ => decide +kernel)
    (case iI1 => k_is)
    (case lI1 => k_is)
    (case cI1 => k_is)
    (case kI1 => k_is)
    (case aC2 => k_is)
    (case xL2 => k_is)
    (case bm2_ => decide +kernel)
    (case iI2 => k_is)
    (case lI2 => k_is)
    (case cI2 => k_is)
    (case kI2 => k_is)
    (case aC3 => k_is)
    (case xL3 => k_is)
    (case bm3_ => decide +kernel)
    (case iI3 => k_is)
    (case lI3 => k_is)
    (case cI3 => k_is)
    (case kI3 => k_is)
    (case aC4 => k_is)
    (case xL4 => k_is)
    (case bm4_ => decide +kernel)
    (case iI4 => k_is)
    (case lI4 => k_is)
    (case cI4 => k_is)
    (case kI4 => k_is)
    (case aC5 => k_is)
    (case xL5 => k_is)
    (case bm5_ => decide +kernel)
    (case iI5 => k_is)
    (case lI5 => k_is)
    (case cI5 => k_is)
    (case kI5 => k_is)
    (case aC6 => k_is)
    (case xL6 => k_is)
    (case bm6_ => decide +kernel)
    (case iI6 => k_is)
    (case lI6 => k_is)
    (case cI6 => k_is)
    (case kI6 => k_is)
    (case aC7 => k_is)
    (case xL7 => k_is)
    (case bm7_ => decide +kernel)
    (case iI7 => k_is)
    (case lI7 => k_is)
    (case cI7 => k_is)
    (case kI7 => k_is)
    (case aC8 => k_is)
    (case xL8 => k_is)
    (case bm8_ => decide +kernel)
    (case iI8 => k_is)
    (case lI8 => k_is)
    (case cI8 => k_is)
    (case kI8 => k_is)
    (case aC9 => k_is)
    (case xL9 => k_is)
    (case bm9_ => decide +kernel)
    (case iI9 => k_is)
    (case lI9 => k_is)
    (case cI9 => k_is)
    (case kI9 => k_is)
    (case aC10 => k_is)
    (case xL10 => k_is)
    (case bm10_ => decide +kernel)
    (case iI10 => k_is)
    (case lI10 => k_is)
    (case cI10 => k_is)
    (case kI10 => k_is)
    (case aF0 => k_is)
    (case aF1 => k_is)
    (case aF2 => k_is)
    (case aF3 => k_is)
    (case aM => k_is)
    (case aD0 => k_is)
    (case lD0 => k_is)
    (case cD0 => k_is)
    (case kD0 => k_is)
    (case aD1 => k_is)
    (case lD1 => k_is)
    (case cD1 => k_is)
    (case kD1 => k_is)
    (case aD2 => k_is)
    (case lD2 => k_is)
    (case cD2 => k_is)
    (case kD2 => k_is)
    (case aD3 => k_is)
    (case lD3 => k_is)
    (case cD3 => k_is)
    (case kD3 => k_is)
    (case aD4 => k_is)
    (case lD4 => k_is)
    (case cD4 => k_is)
    (case kD4 => k_is)
    (case aD5 => k_is)
    (case lD5 => k_is)
    (case cD5 => k_is)
    (case kD5 => k_is)
    (case aD6 => k_is)
    (case lD6 => k_is)
    (case cD6 => k_is)
    (case kD6 => k_is)
    (case aD7 => k_is)
    (case lD7 => k_is)
    (case cD7 => k_is)
    (case kD7 => k_is)
    (case aD8 => k_is)
    (case lD8 => k_is)
    (case cD8 => k_is)
    (case kD8 => k_is)
    (case aD9 => k_is)
    (case lD9 => k_is)
    (case cD9 => k_is)
    (case kD9 => k_is)
    (case aD10 => k_is)
    (case lD10 => k_is)
    (case cD10 => k_is)
    (case kD10 => k_is)
    (case aD11 => k_is)
    (case lD11 => k_is)
    (case cD11 => k_is)
    (case kD11 => k_is)
    (case aD12 => k_is)
    (case lD12 => k_is)
    (case cD12 => k_is)
    (case kD12 => k_is)
    (case aD13 => k_is)
    (case lD13 => k_is)
    (case cD13 => k_is)
    (case kD13 => k_is)
    (case aD14 => k_is)
    (case lD14 => k_is)
    (case cD14 => k_is)
    (case kD14 => k_is)
    (case aD15 => k_is)
    (case lD15 => k_is)
    (case cD15 => k_is)
    (case kD15 => k_is)
    (case aD16 => k_is)
    (case lD16 => k_is)
    (case cD16 => k_is)
    (case kD16 => k_is)
    (case aD17 => k_is)
    (case lD17 => k_is)
    (case cD17 => k_is)
    (case kD17 => k_is)
    (case aD18 => k_is)
    (case lD18 => k_is)
    (case cD18 => k_is)
    (case kD18 => k_is)
    (case aD19 => k_is)
    (case lD19 => k_is)
    (case cD19 => k_is)
    (case kD19 => k_is)
    (case n_int => k_is)
    (case n_abs => k_is)
    (case n_len => k_is)
    (case n_range => k_is)
    (case n_tuple => k_is)
    (case n_list => k_is)
    (case n_bool => k_is)
    (case n_str => k_is)
    (case n_all => k_is)
    (case n_isinstance => k_is)
    (case n_ValueError => k_is)
    (case cB => kernel_rfl)
    (case kB => kernel_rfl)
