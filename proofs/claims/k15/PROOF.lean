import PyProof.Rows.All
import Wide.All
import OpenK.AllK
import Wide.FinOn
import HandS.ForMost
import HandS.ForExc
import HandS.ExcInit
import HandS.TryMany
import HandS.ExcCtx
import HandS.HotCalls
import HandS.IsInst
import HandS.Style
import HandS.Flow
import KE.KExcIs
import HandS.Codes
import HandS.Gcd
import HandS.Wide
import HandS.WideBits
import HandS.TupAny
import HandS.Zip
import HandS.Iter
import HandS.Rev
import HandS.EndBits
import PySem.Challenge.RW_wholefaces_k15_quotients_and_places
section SecA1
set_option Elab.async false
set_option linter.all false
set_option maxRecDepth 100000
set_option maxHeartbeats 4000000
namespace Err
open PySem PySem.Spec PyProof.Rows L2

/-- what the written part tells of an error class at C -/
structure Ec (K : PySem.W.Frag) (C : Addr) : Prop where
  oex : OexC K C
  cl : (PySem.W.clsIn K C).isSome = true
  ga : PySem.W.findIn K (.ref C) "__getattribute__" = some (some (.builtin "BaseException.__getattribute__"))
  gg : PySem.W.findIn K (.ref C) "__getattr__" = some none
  hd : PySem.W.hasDictIn K C = true
  ca : PySem.W.findIn K (.ref C) "__class__" = some (some (.builtin "object.__class__"))
  cn : PySem.W.specialIn K (.builtin "object.__class__") "__get__" = some (some (.builtin "getset_descriptor.__get__"))
  ct : PySem.W.takesIn K (.builtin "object.__class__") = some true
  cm : PySem.W.mroIn K C (.type "object") = some true

/-- an error object of the class at C, its dict at d, stands at a -/
def At (h : Heap) (a C : Addr) (d : Option Addr) : Prop := ∃ (oe : Obj) (fv : Array Value), h.get? a = some oe ∧ oe.cls = .ref C ∧ oe.dict = d ∧ oe.data = .fields fv
/-- in each state of the context there is such an object -/
def Seen (X : Cx) (H : Hp) (a C : Addr) (d : Option Addr) : Prop := ∀ (pins : List (Addr × Obj)) (σ : L2.St) (s : Shared), Inv X pins σ H s → At s.heap a C d
/-- the dict of an error -/
def Dk (H : Hp) (d : Addr) (fs : List (Str × V)) : Prop := H d = some (.xd fs) ∨ H d = some (exd d fs)
theorem Dk.ns {P : Program} {w : World} {H : Hp} {h : Heap} {d : Addr} {fs : List (Str × V)} (ok : HOk P w H h) (k : Dk H d fs) : ∃ mA, h.Ns1 d mA ∧ ∀ f, RelO (fs.lookup f) (mA f) := by
  rcases k with k | k
  · have z : ObjOk P w H h d (.xd fs) := ok d _ k
    exact z
  · exact exd_at ok k
theorem Dk.mono {H H' : Hp} {d : Addr} {fs : List (Str × V)} (m : ∀ b o, H b = some o → H' b = some o) (k : Dk H d fs) : Dk H' d fs := by
  rcases k with k | k
  · exact .inl (m _ _ k)
  · exact .inr (m _ _ k)
/-- an error that is tracked -/
theorem seen_exo {X : Cx} {H : Hp} {a C : Addr} {d : Option Addr} (e : H a = some (exo a C d)) : Seen X H a C d := fun _ _ _ I => by
  obtain ⟨t1, q⟩ := exo_at I.hok e
  exact ⟨_, _, q, rfl, rfl, rfl⟩
/-- an error that the context holds fast -/
theorem seen_pin {X : Cx} {H : Hp} {a C : Addr} {d : Option Addr} {oe : Obj} (m : (a, oe) ∈ X.pn) (z : Zc (.ref C) d oe) (f : ∃ vs, oe.data = .fields vs) : Seen X H a C d := fun _ _ _ I => by
  obtain ⟨vs, hv⟩ := f
  exact ⟨oe, vs, (I.pin _ (List.mem_append_left _ m)).1, z.1, z.2, hv⟩
section
variable {X : Cx}
/-- as the library's rows want it -/
def DOb (h : Heap) : Option Addr → Option Obj → Prop
  | some dx, some o => h.get? dx = some o
  | none, none => True
  | _, _ => False
theorem inst_of {h : Heap} {a C : Addr} {d : Option Addr} {oe : Obj} {fv : Array Value} (e : h.get? a = some oe) (c : oe.cls = .ref C) (k : oe.dict = d) (f : oe.data = .fields fv) {od : Option Obj} (hd : DOb h d od) :
    PySem.W.InstAt h a oe C od := by
  subst k
  refine ⟨e, c, by unfold PySem.W.notCls; rw [f] <;> rfl, ?_⟩
  unfold DOb at hd
  revert hd
  cases oe.dict <;> cases od <;> exact fun z => z
/-- e.n of an error -/
def tAt (X : Cx) (n : Str) (te : TE) : TE := fun σ H Q => te σ H fun x H1 => ∃ (a C dd : Addr) (fs : List (Str × V)) (v : V), x = .ref a ∧ Ec X.K C ∧ PySem.W.findIn X.K (.ref C) n = some none ∧ Seen X H1 a C (some dd) ∧ Dk H1 dd fs ∧ fs.lookup n = some v ∧ Q v H1
theorem pe_at {e : Expr} {te : TE} {pos : Pos} {n : Str} (he : PE X e te) (hb : attributeBase e n X.env (eval e X.env) = eval e X.env := by rfl) : PE X (.Attribute e n pos) (tAt X n te) := by
  refine ⟨fun pins s σ H Q I h => attr_of hb (thn (he.run pins s σ H _ I h) fun u s1 hh => ?_)⟩
  obtain ⟨x, H1, I1, rx, a, C, dd, fs, v, ex, T, hno, sn, dk, l, q⟩ := hh
  subst ex
  cases (show u = Value.ref a from rx)
  obtain ⟨oe, fv, e1, e2, e3, e4⟩ := sn _ _ _ I1
  obtain ⟨mA, hns, hr⟩ := dk.ns I1.hok
  obtain ⟨od, ho, hl⟩ := lookIn_ns hns
  obtain ⟨y, hy, ry⟩ := RelO.some_of (v := v) (o := mA n) (by rw [← l]; exact hr n)
  exact HandSPX.exc_get I1.kIn (inst_of e1 e2 e3 e4 (od := some od) ho) T.ga T.gg T.oex.exC (PySem.W.findObj_own T.hd hno rfl (by rw [hl, hy])) (handed_of ry) ⟨v, H1, I1.tok _, ry, q⟩
/-- isinstance(e, c) of an error -/
def rIsA (X : Cx) : List V → Hp → VK → Prop := fun xs H Q => ∃ (a C : Addr) (d : Option Addr) (c : V) (cv : Value) (b : Bool), xs = [.ref a, c] ∧ ClsV c cv ∧ Ec X.K C ∧ Seen X H a C d ∧ (∀ dd, d = some dd → ∃ fs, Dk H dd fs) ∧ PySem.W.kitOne X.K (.ref C) cv = some b ∧ Q (.bl b) H
theorem call_isA : CallR X (.builtin "isinstance") (rIsA X) := by
  intro pins s σ H xs us Q I r h
  obtain ⟨a, C, d, c, cv, b, rfl, k, T, sn, hd, e, q⟩ := h
  obtain ⟨u1, u2, rfl, r1, r2⟩ := vals2 r
  have z := k.eq r2
  subst z
  cases (show u1 = Value.ref a from r1)
  obtain ⟨oe, fv, e1, e2, e3, e4⟩ := sn _ _ _ I
  obtain ⟨od, ho⟩ : ∃ od : Option Obj, DOb s.heap d od := by
    cases d with
    | none => exact ⟨none, True.intro⟩
    | some dd =>
      obtain ⟨fs, dk⟩ := hd dd rfl
      obtain ⟨mA, ⟨o, es, ep, ho, _⟩, hr⟩ := dk.ns I.hok
      exact ⟨some o, ho⟩
  have J := inst_of e1 e2 e3 e4 (od := od) ho
  exact PySem.W.kia_one (PySem.W.kitx_exc T.cl T.ga T.gg T.oex.exC T.ca T.cn T.ct T.cm) I.kIn J e (fun z => nomatch z) fun tk => ⟨.bl b, H, I.tok tk, rfl, q⟩
end
end Err
end SecA1
section SecA2
set_option Elab.async false
set_option linter.all false
set_option maxRecDepth 100000
set_option maxHeartbeats 4000000
namespace Err
open PySem PySem.Spec PyProof.Rows L2 L2H

/-- nothing is handled and nothing held, or the error at p is handled and held -/
inductive Mood (A : Around) (outer : List Env) (H : Hp) (s : Shared) : Bool → List (Addr × Obj) → Prop
  | calm (h : A.handled = none) : Mood A outer H s true []
  | hot (p : Addr × Obj) (h : Hot1 A p) (k : PinOk outer H s p) : Mood A outer H s false [p]
def cxB (P : Program) (w : World) (K : PySem.W.Frag) (mg : Str → Option Value) (base : Heap) (N : List Str) (qual : Str) (scope : Scope) (f : Addr) (cd : Value) (A : Around) (outer : List Env) (s : Shared) (H : Hp) (b : Bool) (pl : List (Addr × Obj)) : Cx :=
  { cxOf CX0 P w K mg base N qual scope f cd A outer s H E0 with calm := b, pn := pl }
/-- the mood of a context -/
inductive MoodC (X : Cx) : Bool → List (Addr × Obj) → Prop
  | calm (h : X.calm = true) : MoodC X true []
  | hot (p : Addr × Obj) (h : Hot1 X.A p) (m : p ∈ X.pn) : MoodC X false [p]
theorem MoodC.to {X : Cx} {pins : List (Addr × Obj)} {σ : L2.St} {H : Hp} {s : Shared} {b : Bool} {pl : List (Addr × Obj)} (m : MoodC X b pl) (I : Inv X pins σ H s) : Mood X.A X.stack H s b pl := by
  cases m with
  | calm h => exact .calm (I.ok.hd h)
  | hot p h m =>
    have z := I.pin p (List.mem_append_left _ m)
    exact .hot p h ⟨z.1, z.2.1, fun y => by
      rcases List.mem_cons.mp (I.stkSub p.1 y) with y | y
      · exact z.2.2.1 y
      · exact z.2.2.2.1 y, z.2.2.2.2⟩
/-- a def that may be called in both moods -/
structure FnB (P : Program) (w : World) (K : PySem.W.Frag) (mg : Str → Option Value) (base : Heap) (k : Nat) (f : Addr) (fd : FuncData) (ps : List Str) (sp : List (Addr × Obj) → Sp) : Prop where
  len : ∀ pl vs H Q E, sp pl vs H Q E → vs.length = ps.length
  run : ∀ (A : Around) (outer : List Env) (s : Shared) (H : Hp) (args : Args) (us : List Value) (vs : List V) (Q : VK) (b : Bool) (pl : List (Addr × Obj)), RoomH k A → Mood A outer H s b pl → Env0 P w K mg base A outer s H →
    BindsTo s fd args (ps.zip us) → Vals vs us → sp pl vs H Q E0 → codeAny (model P w) A (.call (.ref f) args) (CR CX0 outer P w H s Q E0) s
section
variable {P : Program} {w : World} {K : PySem.W.Frag} {mg : Str → Option Value} {base : Heap} {k : Nat} {f : Addr} {fd : FuncData} {N ps : List Str} {sp : List (Addr × Obj) → Sp}
theorem FnB.ok (F : FnB P w K mg base k f fd ps sp) : FnOk P w K mg base CX0 k f fd ps (fun vs H Q _ => sp [] vs H Q E0) :=
  ⟨fun vs H Q E h => F.len [] vs H Q E0 h, fun A outer s H args us vs Q E hr e0 hb r h => codeAny_mono (F.run A outer s H args us vs Q true [] (roomH_of hr) (.calm hr.hd) e0 hb r h) fun x s' z => by
    cases x with
    | error e => exact (show False from z).elim
    | ok fl => cases fl <;> exact z⟩
theorem startB {qual : Str} {scope : Scope} {cd : Value} {A : Around} {outer : List Env} {s s1 : Shared} {H : Hp} {us : List Value} {vs : List V} {b : Bool} {pl : List (Addr × Obj)} (S : FnScope N ps scope) (m : Mood A outer H s b pl) (e0 : Env0 P w K mg base A outer s H)
    (hl : vs.length = ps.length) (r : Vals vs us)
    (x : InCallC s s.heap.objs.size (bindL (envOfC qual scope s.heap.objs.size f cd).kindOf (ps.zip us) fun _ => none) (cellsFrom (s.heap.objs.size + 1) scope.names []) (bindC (envOfC qual scope s.heap.objs.size f cd).kindOf (ps.zip us) fun _ => none) s1) :
    Inv (cxB P w K mg base N qual scope f cd A outer s H b pl) [] (L2.start N vs) H s1 := by
  cases m with
  | calm h => exact inv_start (CX := CX0) (E := E0) S h e0 hl r x
  | hot p h k => exact inv_startH (CX := CX0) (E := E0) S k e0 hl r x
/-- a def of the text by its body, in both moods -/
theorem fnB_of {x qual : Str} {st : Stmt} (F : Fun K x qual st f fd) (S : FnScope N ps (defScope st)) (len : ∀ pl vs H Q E, sp pl vs H Q E → vs.length = ps.length)
    (hbody : ∀ (cdv : Value) (A : Around) (outer : List Env) (s : Shared) (H : Hp) (vs : List V) (Q : VK) (b : Bool) (pl : List (Addr × Obj)), RoomH k (A.deeper (envOfC qual (defScope st) s.heap.objs.size f cdv)) →
      MoodC (cxB P w K mg base N qual (defScope st) f cdv A outer s H b pl) b pl → sp pl vs H Q E0 →
      ∃ t, PSs (cxB P w K mg base N qual (defScope st) f cdv A outer s H b pl) (defBody st) t ∧ t { nx := fun _ H' => Q .non H', rt := Q } (L2.start N vs) H) :
    FnB P w K mg base (k + 1) f fd ps sp := by
  obtain ⟨oc, od, kV, doc, pm, an, cdv, ct, osl, rfl, lk, hcd⟩ := F.ex
  refine ⟨len, fun A outer s H args us vs Q b pl hr md e0 hb r hsp => ?_⟩
  have hl := len _ _ _ _ _ hsp
  have mk : ∀ {b' : Addr} {o : Obj}, base.get? b' = some o → s.heap.get? b' = some o := fun {b' o} e => (e0.bs b' o e).1
  have KX : K.In s.heap := e0.mod.kin.keeps fun b' o e => mk e
  have par : ∀ y ∈ ps.zip us, (defScope st).names.lookup y.1 = some .local ∨ ((defScope st).names.lookup y.1 = some .cell ∧ ((cellsFrom (s.heap.objs.size + 1) (defScope st).names []).lookup y.1).isSome = true) := by
    rintro ⟨n, v⟩ hy
    refine (S.par n (List.of_mem_zip hy).1).imp id fun q => ⟨q, ?_⟩
    exact PySem.W.cellsFrom_some _ _ _ (.inl q)
  refine codeAny_call_function hr.depth (KX _ _ lk) rfl S.co S.gen rfl (PySem.W.codeRec_of KX hcd) (hb _ _ _ _ (wpAny_newFunctionEnv_cells S.kind par fun env he s1 x => ?_))
  subst he
  have lim : s.heap.NoLimit := e0.mod.nolimit.keeps fun b' o e => mk e
  refine ⟨lim.keeps x.toInCall.keep, codeAny_func ?_⟩
  have mc : MoodC (cxB P w K mg base N qual (defScope st) f cdv A outer s H b pl) b pl := by
    cases md with
    | calm h => exact .calm rfl
    | hot p h k => exact .hot p h List.mem_cons_self
  obtain ⟨t, ht, hq⟩ := hbody cdv A outer s H vs Q b pl (hr.deeper _) mc hsp
  have I := startB (mg := mg) (f := f) S md e0 hl r x
  refine wpAny_mono (ht.run [] s1 (L2.start N vs) H _ I hq) (fun fl s' hs => ?_) fun e s' hs => hs
  cases fl with
  | ret u =>
    obtain ⟨v, σ', H', J, rv, q⟩ := hs
    exact ⟨v, H', J.os, J.bare, J.base, J.hok, rv, q⟩
  | next =>
    obtain ⟨σ', H', J, q⟩ := hs
    exact ⟨.non, H', J.os, J.bare, J.base, J.hok, rfl, q⟩
  | brk =>
    obtain ⟨_, _, _, q⟩ := hs
    exact q.elim
  | cont =>
    obtain ⟨_, _, _, q⟩ := hs
    exact q.elim
end
/-- f(e, ..) in any mood -/
def tCallB (sp : List (Addr × Obj) → Sp) (pl : List (Addr × Obj)) (t : TA) : TE := fun σ H Q => t σ H fun vs H1 => sp pl vs H1 Q E0
section
variable {X : Cx} {k : Nat} {f : Addr} {fd : FuncData} {ps : List Str} {sp : List (Addr × Obj) → Sp} {b : Bool} {pl : List (Addr × Obj)} {x : Str} {q pos : Pos} {e : Expr} {es : List Expr} {t : TA}
theorem pe_cB (F : FnB X.prog X.w X.K X.mg X.base k f fd ps sp) (hr : RoomH k X.A) (mc : MoodC X b pl) (hg : Gl X x) (hm : X.mg x = some (.ref f)) (hk : PySem.W.keepIn X.K (.ref f) = true) (hb : Binds X.K fd ps [])
    (ha : PA X (e :: es) t) (hdb : (x == ("__debug__" : Str)) = false := by decide) (he : starEach (e :: es) X.env = (false, eval e X.env) :: starEach es X.env := by rfl) (hpl : (backTo pos (starEach es X.env)).any (·.1) = false := by rfl) :
    PE X (.Call (.Name x q) (e :: es) [] pos) (tCallB sp pl t) := by
  refine ⟨fun pins s σ H Q I h => wpAny_Call_Name_kw (ld_glob I hg hm ?_ hdb)⟩
  refine PySem.W.callWith_K (h₀ := X.base) I.ok.mod.kin hk (thn (ha.run pos pins s σ H _ I h) fun us s1 ⟨vs, H1, I1, r, z⟩ => ⟨I1.kIn, ?_⟩) he hpl
  have hl : us.length = ps.length := by rw [← r.length]; exact F.len _ _ _ _ _ z
  have bt := hb s1 us I1.kIn (by rw [List.append_nil]; exact hl)
  rw [List.append_nil] at bt
  refine wpAny_call (codeAny_mono (F.run X.A X.stack s1 H1 ⟨us, []⟩ us vs Q b pl hr (mc.to I1) I1.env0 bt r z) fun y s' hq => ?_)
  cases y with
  | error er => exact (show False from hq).elim
  | ok fl =>
    cases fl with
    | ret u => exact I1.after hq
    | next => exact hq.elim
    | brk => exact hq.elim
    | cont => exact hq.elim
end
end Err
end SecA2
section SecA3
set_option Elab.async false
set_option linter.all false
set_option maxRecDepth 100000
set_option maxHeartbeats 4000000
namespace Err
open PySem PySem.Spec PyProof.Rows L2 L2H
/-- a comprehension's block that holds the handled error fast -/
abbrev blq (X : Cx) (s : Shared) (H : Hp) (scope : Scope) (ce : Env) (fp : List Addr) (pl : List (Addr × Obj)) : Cx := { X.blk s H scope ce fp with pn := pl }
theorem hold {X : Cx} {pl : List (Addr × Obj)} {σ : L2.St} {H : Hp} {s : Shared} (I : Inv X [] σ H s) (h : ∀ p ∈ pl, s.heap.get? p.1 = some p.2 ∧ H p.1 = none ∧ p.1 ≠ X.env.locals ∧ p.1 ∉ X.fs ∧ ∀ v, p.2.data ≠ .cell v) : Inv { X with pn := pl } [] σ H s :=
  ⟨⟨I.ok.mod, I.ok.kind, I.ok.glob, I.ok.blt, I.ok.above, I.ok.inj, I.ok.has, I.ok.cab, I.ok.hd, I.ok.frames, I.ok.stk, I.ok.exf, I.ok.bs, I.ok.bsz, I.ok.noex, I.ok.exfs, I.ok.funs, I.ok.frf⟩,
    I.os, I.bare, I.base, I.loc, I.cell, I.free, I.freeC, fun p hp => h p (by rw [List.append_nil] at hp; exact hp), I.hok, I.len⟩
section
variable {X : Cx}
/-- a comprehension while an error is handled; what is walked: range -/
theorem lcH {el tg it0 : Expr} {ifs : List Expr} {sc : Scope} {own : List (Str × Nat)} {pos : Pos} {wi : TI} {g : TG} {tt : TT} {te : TE} (p : Addr × Obj) (hot : Hot1 X.A p) (hm : p ∈ X.pn) (hN : X.N.Nodup) (hi : PIH X tg it0 wi) (ok : BlkOk X.N X.env.scope sc own)
    (hg : ∀ s H C cl fp, PG (blq X s H sc (compEnvC sc cl C X.env) fp [p]) tg g) (ht : ∀ s H C cl fp, PTs (blq X s H sc (compEnvC sc cl C X.env) fp [p]) ifs tt)
    (he : ∀ s H C cl fp, PE (blq X s H sc (compEnvC sc cl C X.env) fp [p]) el te) (hs : ∀ x, foldedSetIterable it0 X.env x = pure x := by intro _; rfl) :
    PE X (.ListComp el [⟨tg, it0, ifs, 0⟩] sc pos) (tLc wi g tt te (own.map (·.2))) := by
  refine ⟨fun pins s σ H Q I h => ?_⟩
  rw [eval_ListComp]
  have fr : ∀ y ∈ sc.names, y.2 = .free → ∃ c, X.env.cells.lookup y.1 = some c := fun y hy e => (ok.free y hy e).elim (fun k => I.ok.has _ (.inl k)) fun k => I.ok.has _ (.inr k)
  refine wpAny_comprehension_free rfl hs (closure_ok fr) ok.kind (fun y hy e => by rw [ok.uniq y hy, e]) (thn (hi.run pins s σ H _ I h) fun xv s1 hx => thn hx fun iv s2 h2 => ?_)
  obtain ⟨it, fp, tn, J, H2, e, I2, T, st2, f2, q⟩ := h2
  subst e
  refine wpAny_newObj_type (newEnv_comp ?_) (by show 0 ≤ sizeLine; decide)
  generalize hD : s2.heap.objs.size = D
  have dn : H2 D = none := I2.hok.fresh (Nat.le_of_eq hD)
  obtain ⟨W, ⟨m0, w0⟩, turn⟩ := q D dn
  generalize hs3 : ({ s2 with heap := s2.heap.push { cls := .type "list", data := .seq ([] : List Value).toArray } } : Shared) = s3
  have I3 : Inv X pins σ (upd H2 D (.lst [])) s3 := by
    subst hs3
    refine I2.laid (t' := s2.toks) (fun b o z => Heap.get?_push_of_some _ z) (Nat.le_of_eq hD) ⟨Nat.zero_le _, [], 0, .nil, ?_⟩
    subst hD
    exact Heap.get?_push_size _ rfl
  have h3 : s3.heap = s2.heap.push { cls := .type "list", data := .seq ([] : List Value).toArray } := by subst hs3; rfl
  have lt2 : ∀ b ∈ fp, b < s2.heap.objs.size := fun b hb => let ⟨o, z, _⟩ := T.obj _ _ st2 b hb; Heap.lt_size z
  have f3 : ∀ b ∈ fp, FpOk X pins (upd H2 D (.lst [])) b ∧ b < s3.heap.objs.size := fun b hb => by
    have y := lt2 b hb
    refine ⟨⟨?_, (f2 b hb).2⟩, by rw [h3, Heap.size_push]; exact Nat.lt_succ_of_lt y⟩
    rw [upd_ne (by subst hD; exact Nat.ne_of_lt y)]
    exact (f2 b hb).1
  have st3 : tn 0 s3.heap := T.keep _ _ _ st2 fun b _ o z => by rw [h3]; exact Heap.get?_push_of_some _ z
  have pp := I3.pin p (List.mem_append_left _ hm)
  have I4a := block_start I3 ok hN f3
  generalize hce : compEnvC sc (cellsFrom (s3.heap.objs.size + 1) sc.names (cloFrom X.env.cells sc.names [])) s3.heap.objs.size X.env = ce at I4a
  have cL : ce.locals = s3.heap.objs.size := by subst hce; rfl
  have up4 : ∀ b o, s3.heap.get? b = some o → (pushCells (s3.heap.push { cls := .type "dict", data := .dict #[] }) sc.names).get? b = some o := fun b o z => pushCells_keeps _ _ _ _ (Heap.get?_push_of_some _ z)
  have npst : p.1 ∉ frs X.stack := fun y => by
    rcases List.mem_cons.mp (I3.stkSub p.1 y) with y | y
    · exact pp.2.2.1 y
    · exact pp.2.2.2.1 y
  have I4 : Inv (blq X s3 (upd H2 D (.lst [])) sc ce fp [p]) [] (wipe σ (own.map (·.2))) (upd H2 D (.lst [])) { s3 with heap := pushCells (s3.heap.push { cls := .type "dict", data := .dict #[] }) sc.names } := hold I4a fun p' hp' => by
    have y : p' = p := by simpa using hp'
    subst y
    exact ⟨up4 _ _ pp.1, pp.2.1, by show p'.1 ≠ ce.locals; rw [cL]; exact Nat.ne_of_lt (Heap.lt_size pp.1), npst, pp.2.2.2.2⟩
  have pg := hg s3 (upd H2 D (.lst [])) s3.heap.objs.size (cellsFrom (s3.heap.objs.size + 1) sc.names (cloFrom X.env.cells sc.names [])) fp
  have pt := ht s3 (upd H2 D (.lst [])) s3.heap.objs.size (cellsFrom (s3.heap.objs.size + 1) sc.names (cloFrom X.env.cells sc.names [])) fp
  have pe := he s3 (upd H2 D (.lst [])) s3.heap.objs.size (cellsFrom (s3.heap.objs.size + 1) sc.names (cloFrom X.env.cells sc.names [])) fp
  show codeAny _ _ (.compStart _ 0 (.ref it) (.ref D) (compEnvC sc (cellsFrom (s3.heap.objs.size + 1) sc.names (cloFrom X.env.cells sc.names [])) s3.heap.objs.size X.env)) (compPost (model X.prog X.w) X.A X.xe none _ (.ref D) s3.heap.objs.size) { s3 with heap := pushCells (s3.heap.push { cls := .type "dict", data := .dict #[] }) sc.names }
  rw [hce] at pg pt pe ⊢
  have nfp : ∀ b ∈ fp, (upd H2 D (.lst [])) b = none := fun b hb => (f3 b hb).1.1
  generalize hH3 : upd H2 D (.lst []) = H3 at I3 I4 pg pt pe w0 nfp f3
  generalize hs4 : ({ s3 with heap := pushCells (s3.heap.push { cls := .type "dict", data := .dict #[] }) sc.names } : Shared) = s4 at I4 ⊢
  have st4 : tn 0 s4.heap := T.keep _ _ _ st3 fun b _ o z => by subst hs4; exact up4 _ _ z
  have hc : HotC (blq X s3 H3 sc ce fp [p]) := ⟨p, hot, List.mem_cons_self⟩
  have fpOk : ∀ {σ' : L2.St} {H' : Hp} {s' : Shared}, Inv (blq X s3 H3 sc ce fp [p]) [] σ' H' s' → (∀ b ∈ fp, H' b = none) → ∀ b ∈ fp, FpOk (blq X s3 H3 sc ce fp [p]) [] H' b := fun {σ' H' s'} I' hn b hb =>
    ⟨hn b hb, (I'.ok.exf b hb).1, I'.ok.exfs b hb, .inl hb, fun x c z => (I'.ok.exf b hb).2 x c z, fun p' hp' => by
      have y : p' = p := by
        have y' : p' ∈ [p] ++ ([] : List (Addr × Obj)) := hp'
        simpa using y'
      subst y
      exact (f3 b hb).1.2.2.2.2.2 p' (List.mem_append_left _ hm)⟩
  refine codeAny_compStart_list ?_ (T.self X.A 0 _ _ _ st4 ?_) <;>
  · refine compLoop_any (fun n s' => ∃ i H', Inv (blq X s3 H3 sc ce fp [p]) [] (wipe σ (own.map (·.2))) H' s' ∧ tn i s'.heap ∧ (∀ b ∈ fp, H' b = none) ∧ W i n H') ?_ m0 ⟨0, H3, I4, st4, nfp, w0⟩
    rintro n s5 ⟨i, H5, I5, st5, n5, w5⟩
    rcases turn i n H5 w5 with ⟨stop, qq⟩ | ⟨go, Nx, hNx, step⟩
    · refine thnF (T.done (blq X s3 H3 sc ce fp [p]) rfl rfl rfl hc i [] s5 _ H5 (fun _ _ => False) I5 (fpOk I5 n5) st5 stop) fun r s6 ⟨hr, I6⟩ => ?_
      subst hr
      have I7 : Inv X pins σ H5 s6 := I3.call' (ch := fp) I6.os I6.base I6.hok I6.bare fun b hb => let z := (f3 b hb).1.2; ⟨z.2.2.1, z.1, z.2.2.2.1, z.2.2.2.2⟩
      have nC : H5 s3.heap.objs.size = none := by
        have z : H5 ce.locals = none := I6.free
        rw [cL] at z
        exact z
      obtain ⟨m, hn, _⟩ := I6.loc
      have hn' : s6.heap.Ns s3.heap.objs.size m := by
        have z : s6.heap.Ns ce.locals m := hn
        rw [cL] at z
        exact z
      refine ⟨m, hn', fun h'' sb => ?_⟩
      obtain ⟨z0, z1, z2, z3, z4, z5⟩ := I3.fpOk (H' := H5) (Nat.le_refl _) nC
      exact ⟨.ref D, H5, I7.turned (t' := s6.toks) (fun b o hb z => (sb.2 b hb).trans z) z0 z1 z3 z4 z5, rfl, qq⟩
    · refine thnF (T.item (blq X s3 H3 sc ce fp [p]) rfl rfl rfl hc i [] s5 _ H5 (fun _ _ => False) I5 (fpOk I5 n5) st5 go) fun r s6 ⟨u, hr, h6⟩ => ?_
      subst hr
      refine thnF h6 fun _ s7 ⟨x, H7, I7, r7, y7, st7, n7⟩ => ?_
      have J7 := I7.pinned (fpOk I7 n7) (T.obj _ _ st7)
      refine thnF (pg.run _ s7 _ H7 x u _ J7 r7 (step x H7 y7)) fun _ s8 ⟨σ8, H8, I8, hw8, q8⟩ => thnF (pt.run _ s8 σ8 H8 _ I8 q8) fun b s9 ⟨H9, I9, q9⟩ => ?_
      have fin : ∀ {s' : Shared} {H' : Hp}, Inv (blq X s3 H3 sc ce fp [p]) ([] ++ pinsAt fp s7.heap) σ8 H' s' → Nx H' → ∃ m, m < n ∧ ∃ i H', Inv (blq X s3 H3 sc ce fp [p]) [] (wipe σ (own.map (·.2))) H' s' ∧ tn i s'.heap ∧ (∀ b ∈ fp, H' b = none) ∧ W i m H' := fun {s' H'} I' nx => by
        obtain ⟨m', lt, w'⟩ := hNx H' nx
        have at' : ∀ b ∈ fp, ∀ o, s7.heap.get? b = some o → s'.heap.get? b = some o ∧ H' b = none := fun b hb o z =>
          let y := I'.pin (b, o) (List.mem_append_right _ (List.mem_append_right _ (mem_pinsAt hb z)))
          ⟨y.1, y.2.1⟩
        refine ⟨m', lt, i + 1, H', (I'.unpinned (pins := [])).weak (by rw [← hw8, wipe_length]) (fun j v z => ?_), T.keep _ _ _ st7 fun b hb o z => (at' b hb o z).1, fun b hb => ?_, w'⟩
        · rw [← hw8] at z
          exact (wipe_some z).1
        · obtain ⟨o, z, _⟩ := T.obj _ _ st7 b hb
          exact (at' b hb o z).2
      cases b with
      | false =>
        simp only [Bool.false_eq_true, if_false] at q9 ⊢
        exact fin I9 q9
      | true =>
        simp only [if_true] at q9 ⊢
        exact thnF (pe.run _ s9 σ8 H9 _ I9 q9) fun z s10 ⟨yv, H10, I10, r10, acc, hD10, hz10, nx⟩ => app_ok (X := blq X s3 H3 sc ce fp [p]) I10 hD10 hz10 r10 fun s11 I11 => fin I11 nx
end
end Err
end SecA3
section SecA4
set_option Elab.async false
set_option linter.all false
set_option maxRecDepth 100000
set_option maxHeartbeats 4000000
namespace ErrK
open PySem PySem.HandSPX
section
variable {M : Model} {A : Around} {E : Value → Shared → Prop} {h : Heap} {g : Array GenState} {d : Drawn} {t : Nat} {os : OsState}
variable {nm q : Str} {C N : Addr} {bs bm bmB : List Value} {hdct : Bool} {sn : List Str} {sub : List Value} {ab : Bool} {col : Option Bool} {dd : Option Addr} {k0 k1 k2 k3 k5 : Option Value} {B newId initId : String}
theorem chkNew (F : ExcBaseFacts B newId initId bmB) (hT : ∀ X : String, bm.contains (.type X) = bmB.contains (.type X)) {us : List Value} {kw : List (Str × Value)} {Q : Unit → Shared → Prop}
    (oC : h.get? C = some (excClassObj nm q C N bs bm hdct sn sub ab col dd k0 k1 k2 k3 k5 newId)) (z : Q () ⟨h, g, d, t, os⟩) : wpAny M A (checkBuiltinCall newId ⟨.ref C :: us, kw⟩) Q E ⟨h, g, d, t, os⟩ := by
  have isB : (Value.ref C :: bm).contains (.type B) = true := by rw [List.contains_cons, hT, F.hasB, Bool.or_true]
  have nost := F.noStar
  simp only [checkBuiltinCall, F.newKind, F.newSplit, F.newRow]
  repeat (first | refine wpAny_loadPart_at oC ?_ | (refine wpAny_isSubtype_exc oC ?_; rw [isB]) | refine wpAny_staticBase_exc oC ?_ | refine wpAny_madeBy_exc oC ?_ | simp only [bne_self_eq_false, Bool.false_eq_true, if_false] | wp_step)
  exact z
theorem chkCall {us : List Value} {kw : List (Str × Value)} {Q : Unit → Shared → Prop} (oC : h.get? C = some (excClassObj nm q C N bs bm hdct sn sub ab col dd k0 k1 k2 k3 k5 newId)) (z : Q () ⟨h, g, d, t, os⟩) :
    wpAny M A (checkBuiltinCall "type.__call__" ⟨.ref C :: us, kw⟩) Q E ⟨h, g, d, t, os⟩ := by
  have y3 := tc_sub
  have yT : (⟨h, g, d, t, os⟩ : Shared).TypeIs (.ref C) "type" := ⟨_, oC, rfl⟩
  simp only [checkBuiltinCall, tc_kind, tc_split]
  repeat (any_goals (first | assumption | with_reducible refine wpAny_loadPart_at oC ?_ | with_reducible refine wpAny_onRaise ?_ | with_reducible refine wpAny_map ?_ | wp_step))
end
section
variable {prog : Program} {w : World} {A : Around} {E : Value → Shared → Prop} {R : Result → Shared → Prop} {h : Heap} {g : Array GenState} {d : Drawn} {t : Nat} {os : OsState}
variable {nm q : Str} {C N : Addr} {bs bm bmB : List Value} {hdct : Bool} {sn : List Str} {sub : List Value} {ab : Bool} {col : Option Bool} {dd : Option Addr} {k0 k1 k2 k3 k5 : Option Value} {B newId initId : String}
theorem newK (F : ExcBaseFacts B newId initId bmB) (hT : ∀ X : String, bm.contains (.type X) = bmB.contains (.type X)) {us : List Value} {kw : List (Str × Value)}
    (oC : h.get? C = some (excClassObj nm q C N bs bm hdct sn sub ab col dd k0 k1 k2 k3 k5 newId)) (hus : us.length ≤ sizeLine)
    (z : R (.ok (.ret (.ref (h.objs.size + 1)))) ⟨(h.push { cls := .type "tuple", data := .seq us.toArray }).push { cls := .ref C, data := .fields #[.ref h.objs.size, .none, .none, .none, .bool false, .none] }, g, d, t, os⟩) :
    codeAny (model prog w) A (.builtin newId ⟨.ref C :: us, kw⟩) R ⟨h, g, d, t, os⟩ := by
  have hrest := hus
  have ends := F.ends
  have isB : (Value.ref C :: bm).contains (.type B) = true := by rw [List.contains_cons, hT, F.hasB, Bool.or_true]
  have noA : (Value.ref C :: bm).contains (.type "AttributeError") = false := by rw [List.contains_cons, hT, F.noAttr]; rfl
  have noN : (Value.ref C :: bm).contains (.type "NameError") = false := by rw [List.contains_cons, hT, F.noName]; rfl
  refine codeAny_builtinAt F.entry ?_
  unfold Builtin.«BaseException.__new__»
  refine wpAt_bind ?_
  show wpAt _ _ _ (stack >>= _) _ _ _
  refine wpAt_bind (wpAt_stack fun p below => wpAt_of_wpAny ?_)
  wp_walk
  refine wpAt_of_wpAny ?_
  rw [F.owner]
  repeat (first | with_reducible refine wpAny_madeHere_exc F.canon oC ?_ | with_reducible refine wpAny_loadPart_at oC ?_ | (with_reducible refine wpAny_isSubtype_exc oC ?_; first | rw [isB] | rw [noA] | rw [noN]) | wp_step)
  show R _ _
  rw [Heap.size_push]
  exact z
theorem tcallK (F : ExcBaseFacts B newId initId bmB) (hT : ∀ X : String, bm.contains (.type X) = bmB.contains (.type X)) {us : List Value} {kw : List (Str × Value)} {fI : Addr} {Q : Fin → Shared → Prop}
    (oC : h.get? C = some (excClassObj nm q C N bs bm hdct sn sub ab col dd k0 k1 k2 k3 k5 newId))
    (li : W.Looks (model prog w) h (typeLookup (.ref C) "__init__") (some (.ref fI))) (lb : ∀ self, W.Looks (model prog w) h (bindSpecial (.ref fI) self) (.ref fI, [self])) (hus : us.length ≤ sizeLine)
    (z : codeAny (model prog w) A (.call (.ref fI) ⟨.ref (h.objs.size + 1) :: us, kw⟩)
      (fun r s' => match r with | .ok (.ret v) => v = .none ∧ Q (.done (.ret (.ref (h.objs.size + 1)))) s' | .ok _ => False | .error e => E e s') ⟨(h.push (W.kdv_tup us)).push (excO C h.objs.size), g, d, t, os⟩) :
    wpAny (model prog w) A (Builtin.«type.__call__» ⟨.ref C :: us, kw⟩) Q E ⟨h, g, d, t, os⟩ := by
  repeat (first | with_reducible refine wpAny_loadPart_at oC ?_ | with_reducible refine wpAny_madeBy_exc oC ?_ | wp_step)
  refine codeAny_call_builtin_code (Code.quiet_builtin _ F.quiet) (chkNew F hT oC (newK F hT oC hus ?_))
  show wpAny _ _ _ _ _ _
  have kp : ∀ b o, h.get? b = some o → ((h.push (W.kdv_tup us)).push (excO C h.objs.size)).get? b = some o := fun b o e => Heap.get?_push_of_some _ (Heap.get?_push_of_some _ e)
  have oC1 := kp _ _ oC
  have ge : ((h.push (W.kdv_tup us)).push (excO C h.objs.size)).get? (h.objs.size + 1) = some (excO C h.objs.size) := by heap_get
  have isC : (Value.ref C :: bm).contains (.ref C) = true := by simp
  have li1 := li.keeps kp
  have lb1 := (lb (.ref (h.objs.size + 1))).keeps kp
  unfold isInstance
  repeat (first | with_reducible refine wpAny_loadPart_at ge ?_ | (with_reducible refine wpAny_isSubtype_exc oC1 ?_; rw [isC]) | wp_step)
  show wpAny _ _ (typeLookup (.ref C) _) _ _ _
  refine li1.at (wpAny_holding (wpAny_bind (lb1.at (wpAny_bind (wpAny_call (codeAny_mono z fun r s' y => ?_))))))
  rcases r with e | (v | _ | _ | _) <;> first | exact y | exact y.elim | skip
  obtain ⟨rfl, y⟩ := y
  first
    | exact wpAny_pure (wpAny_pure y)
    | (wp_walk; exact y)
theorem callK (F : ExcBaseFacts B newId initId bmB) (hT : ∀ X : String, bm.contains (.type X) = bmB.contains (.type X)) {us : List Value} {kw : List (Str × Value)} {fI : Addr}
    (oC : h.get? C = some (excClassObj nm q C N bs bm hdct sn sub ab col dd k0 k1 k2 k3 k5 newId))
    (li : W.Looks (model prog w) h (typeLookup (.ref C) "__init__") (some (.ref fI))) (lb : ∀ self, W.Looks (model prog w) h (bindSpecial (.ref fI) self) (.ref fI, [self])) (hus : us.length ≤ sizeLine)
    (z : codeAny (model prog w) (A.under (.builtin "type.__call__" ⟨.ref C :: us, kw⟩)) (.call (.ref fI) ⟨.ref (h.objs.size + 1) :: us, kw⟩) (W.InitBack (h.objs.size + 1) R) ⟨(h.push (W.kdv_tup us)).push (excO C h.objs.size), g, d, t, os⟩) :
    codeAny (model prog w) A (.call (.ref C) ⟨us, kw⟩) R ⟨h, g, d, t, os⟩ := by
  have y1 := tc_lookup
  have y2 := tc_bind (.ref C)
  have yT : (⟨h, g, d, t, os⟩ : Shared).TypeIs (.ref C) "type" := ⟨_, oC, rfl⟩
  refine codeAny_of_tree ?_
  show wpAny _ _ (callAny (.ref C) _) _ _ _
  repeat (any_goals (first | assumption | with_reducible refine wpAny_loadPart_at oC ?_ | wp_step))
  refine ⟨rfl, codeAny_call_builtin_at (Code.quiet_builtin _ (by decide +kernel)) entry_typeCall (chkCall oC (tcallK F hT oC li lb hus (codeAny_mono z fun r s' y => ?_)))⟩
  rcases r with e | (v | _ | _ | _) <;> exact y
end
end ErrK
end SecA4
section SecA5
set_option Elab.async false
set_option linter.all false
set_option maxRecDepth 100000
set_option maxHeartbeats 4000000
namespace Err
open PySem PySem.Spec PyProof.Rows L2 L2H
section
variable {X : Cx} {CX : CXT} {C fI : Addr} {k : Nat} {fd : FuncData} {ps : List Str} {sp : Sp}
/-- an error is made: what is called, the values in the parameters' order -/
theorem run_mk {pins : List (Addr × Obj)} {σ : L2.St} {H : Hp} {s : Shared} {R : Value → Shared → Prop} {us zs : List Value} {kw : List (Str × Value)} {vz : List V} {Qs : Addr → VK} (T : OexC X.K C) (iC : PySem.W.findIn X.K (.ref C) "__init__" = some (some (.ref fI)))
    (tI : PySem.W.typeIn X.K (.ref fI) = some (.type "function")) (F1 : FnOk X.prog X.w X.K X.mg X.base CX k fI fd ps sp) (hr : Room (k + 1) X.A) (hx : Passes CX X (fun _ _ _ => False)) (I : Inv X pins σ H s) (rz : Vals vz zs)
    (hb : ∀ (s' : Shared) (u0 : Value), X.K.In s'.heap → BindsTo s' fd ⟨u0 :: us, kw⟩ (ps.zip (u0 :: zs))) (hl : us.length ≤ 1000) (h : ∀ a, H a = none → sp (.ref a :: vz) (upd H a (exo a C none)) (Qs a) (fun _ _ _ => False))
    (hR : ∀ (a : Addr) (v : V) (u : Value) (H2 : Hp) (s' : Shared), s.heap.objs.size ≤ a → (∀ b o, s.heap.get? b = some o → b ≠ a) → Un (frs X.stack) [] (upd H a (exo a C none)) H2 ((s.heap.push (PySem.W.kdv_tup us)).push (PySem.HandSPX.excO C s.heap.objs.size)) s'.heap →
      HOk X.prog X.w H2 s'.heap → s'.os = s.os → AllBare s'.gens → Inv X pins σ H2 s' → RelV v u → Qs a v H2 → u = .none ∧ R (.ref a) s') :
    wpAny (model X.prog X.w) X.A (call (.ref C) us kw) R X.xe s := by
  obtain ⟨nm, q, N, bs, bm, sn, sub, ab, col, dd, k0, k1, k2, k3, k5, hC, hbm⟩ := T.cls
  obtain ⟨hp, g, dr, tk, os⟩ := s
  have sz : hp.objs.size ≤ hp.objs.size + 1 := Nat.le_succ _
  have na : H (hp.objs.size + 1) = none := I.hok.fresh sz
  have hq := h (hp.objs.size + 1) na
  have kp : ∀ b o, hp.get? b = some o → ((hp.push (PySem.W.kdv_tup us)).push (PySem.HandSPX.excO C hp.objs.size)).get? b = some o := fun b o e => Heap.get?_push_of_some _ (Heap.get?_push_of_some _ e)
  have ge : ((hp.push (PySem.W.kdv_tup us)).push (PySem.HandSPX.excO C hp.objs.size)).get? (hp.objs.size + 1) = some (PySem.HandSPX.excO C hp.objs.size) := by heap_get
  have I2 : Inv X pins σ (upd H (hp.objs.size + 1) (exo (hp.objs.size + 1) C none)) ⟨(hp.push (PySem.W.kdv_tup us)).push (PySem.HandSPX.excO C hp.objs.size), g, dr, tk, os⟩ := I.laid (t' := tk) (a := hp.objs.size + 1) kp sz (exo_ok ge)
  have rs : Vals (V.ref (hp.objs.size + 1) :: vz) (Value.ref (hp.objs.size + 1) :: zs) := .cons rfl rz
  have ls : us.length ≤ sizeLine := by
    rw [sizeLine_eq]
    omega
  refine wpAny_call (ErrK.callK F.excBase_ValueError (fun Y => PySem.HandSPX.refsVE_contains Y bm hbm) (I.kIn _ _ hC) (PySem.W.looks_findIn I.kIn iC) (fun self => PySem.W.bind_fn I.kIn self tI) ls
    (codeAny_mono (F1.run _ X.stack _ _ ⟨Value.ref (hp.objs.size + 1) :: us, kw⟩ (Value.ref (hp.objs.size + 1) :: zs) _ _ (fun _ _ _ => False) (hr.make C us kw) (I2.env0.make C us kw) (hb _ _ I2.kIn) rs hq) fun r s' hq' => ?_))
  cases r with
  | error er => exact hx pins σ _ _ er s' I2 hq'
  | ok fl =>
    cases fl with
    | ret u =>
      have y := hq'
      obtain ⟨v, H2, os2, bare2, un2, hok2, rv, q2⟩ := hq'
      obtain ⟨v', H2', I3, rv', q3⟩ := I2.after (Q := fun v' H' => v' = v ∧ H' = H2) (u := u) ⟨v, H2, os2, bare2, un2, hok2, rv, rfl, rfl⟩
      obtain ⟨e1, e2⟩ := q3
      subst e1
      subst e2
      exact hR _ _ _ _ s' sz (fun b o e => Nat.ne_of_lt (Nat.lt_of_lt_of_le (Heap.lt_size e) sz)) un2 hok2 os2 bare2 I3 rv q2
    | next => exact hq'.elim
    | brk => exact hq'.elim
    | cont => exact hq'.elim
/-- C(e, ..) as a value -/
def tMkV (C : Addr) (sp : Sp) (ta : TA) : TE := fun σ H Q => ta σ H fun vs H1 => vs.length ≤ 1000 ∧ ∀ a, H1 a = none → sp (.ref a :: vs) (upd H1 a (exo a C none)) (fun v H2 => v = .non ∧ Q (.ref a) H2) (fun _ _ _ => False)
def tMkVK (C : Addr) (sp : Sp) (gV : List V → List V) (n : Nat) (tk : TA) : TE := fun σ H Q => tk σ H fun zs H1 => zs.length = n ∧ ∀ a, H1 a = none → sp (.ref a :: gV zs) (upd H1 a (exo a C none)) (fun v H2 => v = .non ∧ Q (.ref a) H2) (fun _ _ _ => False)
variable {x : Str} {p pos : Pos} {e : Expr} {es : List Expr} {ta : TA}
theorem pe_mkv (T : OexC X.K C) (iC : PySem.W.findIn X.K (.ref C) "__init__" = some (some (.ref fI))) (tI : PySem.W.typeIn X.K (.ref fI) = some (.type "function")) (F1 : FnOk X.prog X.w X.K X.mg X.base CX k fI fd ps sp) (hr : Room (k + 1) X.A)
    (hb : Binds X.K fd ps []) (hx : Passes CX X (fun _ _ _ => False)) (hg : Gl X x) (hm : X.mg x = some (.ref C)) (ha : PA X (e :: es) ta) (hdb : (x == ("__debug__" : Str)) = false := by decide)
    (he : starEach (e :: es) X.env = (false, eval e X.env) :: starEach es X.env := by rfl) (hpl : (backTo pos (starEach es X.env)).any (·.1) = false := by rfl) : PE X (.Call (.Name x p) (e :: es) [] pos) (tMkV C sp ta) := by
  refine ⟨fun pins s σ H Q I h => wpAny_Call_Name_kw (ld_glob I hg hm ?_ hdb)⟩
  refine PySem.W.callWith_K (h₀ := X.base) I.ok.mod.kin T.kC (thn (ha.run pos pins s σ H _ I h) fun us s1 ⟨vs, H1, I1, r1, hz, q1⟩ => ⟨I1.kIn, ?_⟩) he hpl
  have n1 := I1.hok.fresh (Nat.le_refl _)
  have ll : ∀ u0 : Value, ((u0 :: us) ++ ([] : List Value)).length = ps.length := fun u0 => by
    have y := F1.len _ _ _ _ (q1 _ n1)
    rw [List.append_nil, ← y, List.length_cons, List.length_cons, Paired.length r1]
  exact run_mk (us := us) T iC tI F1 hr hx I1 r1 (fun s' u0 kin => by
      have y := hb s' (u0 :: us) kin (ll u0)
      rw [List.append_nil] at y
      exact y) (by show us.length ≤ 1000; rw [← Paired.length r1]; exact hz) q1 fun a v u H2 s' _ _ _ _ _ _ I3 rv q3 => by
    obtain ⟨rfl, q3⟩ := q3
    exact ⟨rv, ⟨.ref a, H2, I3, rfl, q3⟩⟩
theorem pe_mkv0 (T : OexC X.K C) (iC : PySem.W.findIn X.K (.ref C) "__init__" = some (some (.ref fI))) (tI : PySem.W.typeIn X.K (.ref fI) = some (.type "function")) (F1 : FnOk X.prog X.w X.K X.mg X.base CX k fI fd ps sp) (hr : Room (k + 1) X.A)
    (hb : Binds X.K fd ps []) (hx : Passes CX X (fun _ _ _ => False)) (hg : Gl X x) (hm : X.mg x = some (.ref C)) (hdb : (x == ("__debug__" : Str)) = false := by decide) : PE X (.Call (.Name x p) [] [] pos) (tMkV C sp tNil) := by
  refine ⟨fun pins s σ H Q I h => wpAny_Call_Name_kw (ld_glob I hg hm ?_ hdb)⟩
  refine PySem.W.callWith_K0 I.kIn T.kC ?_
  obtain ⟨_, q1⟩ := h
  have n1 := I.hok.fresh (Nat.le_refl _)
  have ll : ∀ u0 : Value, ([u0] ++ ([] : List Value)).length = ps.length := fun u0 => by
    have y := F1.len _ _ _ _ (q1 _ n1)
    rw [← y]; rfl
  exact run_mk (us := []) T iC tI F1 hr hx I .nil (fun s' u0 kin => hb s' [u0] kin (ll u0)) (Nat.zero_le _) q1 fun a v u H2 s' _ _ _ _ _ _ I3 rv q3 => by
    obtain ⟨rfl, q3⟩ := q3
    exact ⟨rv, ⟨.ref a, H2, I3, rfl, q3⟩⟩
theorem pe_mkvK {ks : List Str} {kws : List Keyword} {tk : TA} {g : List Value → List Value} {gV : List V → List V} (T : OexC X.K C) (iC : PySem.W.findIn X.K (.ref C) "__init__" = some (some (.ref fI))) (tI : PySem.W.typeIn X.K (.ref fI) = some (.type "function"))
    (F1 : FnOk X.prog X.w X.K X.mg X.base CX k fI fd ps sp) (hr : Room (k + 1) X.A) (hb : ∀ (s : Shared) (u0 : Value) (ws : List Value), X.K.In s.heap → ws.length = ks.length → BindsTo s fd ⟨[u0], ks.zip ws⟩ (ps.zip (u0 :: g ws)))
    (hrel : ∀ {zs : List V} {ws : List Value}, zs.length = ks.length → Vals zs ws → Vals (gV zs) (g ws)) (hx : Passes CX X (fun _ _ _ => False)) (hg : Gl X x) (hm : X.mg x = some (.ref C)) (hkw : PK X kws tk)
    (hall : (backToKw pos (keywordEach kws X.env)).all (·.1.isSome) = true := by rfl) (hks : (backToKw pos (keywordEach kws X.env)).filterMap (·.1) = ks := by rfl) (hdb : (x == ("__debug__" : Str)) = false := by decide)
    (hpl : ((backTo pos (starEach [] X.env)).any (·.1) || (backToKw pos (keywordEach kws X.env)).any (·.1.isNone)) = false := by rfl) : PE X (.Call (.Name x p) [] kws pos) (tMkVK C sp gV ks.length tk) := by
  refine ⟨fun pins s σ H Q I h => wpAny_Call_Name_kw (ld_glob I hg hm ?_ hdb)⟩
  refine PySem.W.callWith_KW0 (h₀ := X.base) I.ok.mod.kin T.kC hall (thn (hkw.run pos pins s σ H _ I h) fun ws s2 ⟨zs, H2, I2, rz, lz, q2⟩ => ⟨I2.kIn, ?_⟩) hpl
  rw [hks]
  have lw : ws.length = ks.length := by rw [← Paired.length rz]; exact lz
  exact run_mk (us := []) T iC tI F1 hr hx I2 (hrel lz rz) (fun s' u0 kin => hb s' u0 ws kin lw) (Nat.zero_le _) q2 fun a v u H3 s' _ _ _ _ _ _ I3 rv q3 => by
    obtain ⟨rfl, q3⟩ := q3
    exact ⟨rv, ⟨.ref a, H3, I3, rfl, q3⟩⟩
/-- raise C(e, ..): the error leaves what is tracked, its dict stays -/
theorem pmk_n (T : OexC X.K C) (iC : PySem.W.findIn X.K (.ref C) "__init__" = some (some (.ref fI))) (tI : PySem.W.typeIn X.K (.ref fI) = some (.type "function")) (F1 : FnOk X.prog X.w X.K X.mg X.base CX k fI fd ps sp) (hr : Room (k + 1) X.A)
    (hb : Binds X.K fd ps []) (hx : Passes CX X (fun _ _ _ => False)) (hg : Gl X x) (hm : X.mg x = some (.ref C)) (ha : PA X (e :: es) ta) (hdb : (x == ("__debug__" : Str)) = false := by decide)
    (he : starEach (e :: es) X.env = (false, eval e X.env) :: starEach es X.env := by rfl) (hpl : (backTo pos (starEach es X.env)).any (·.1) = false := by rfl) : L2N.PMk X (.Call (.Name x p) (e :: es) [] pos) (tMkO C sp [] ta) := by
  intro pins s σ H Q I h
  refine wpAny_Call_Name_kw (ld_glob I hg hm ?_ hdb)
  refine PySem.W.callWith_K (h₀ := X.base) I.ok.mod.kin T.kC (thn (ha.run pos pins s σ H _ I h) fun us s1 ⟨vs, H1, I1, r1, hz, q1⟩ => ⟨I1.kIn, ?_⟩) he hpl
  rw [List.append_nil] at q1
  have n1 := I1.hok.fresh (Nat.le_refl _)
  have ll : ∀ u0 : Value, ((u0 :: us) ++ ([] : List Value)).length = ps.length := fun u0 => by
    have y := F1.len _ _ _ _ (q1 _ n1)
    rw [List.append_nil, ← y, List.length_cons, List.length_cons, Paired.length r1]
  refine run_mk (us := us) T iC tI F1 hr hx I1 r1 (fun s' u0 kin => by
      have y := hb s' (u0 :: us) kin (ll u0)
      rw [List.append_nil] at y
      exact y) (by show us.length ≤ 1000; rw [← Paired.length r1]; exact hz) q1 fun a v u H2 s' sz _ un2 hok2 os2 bare2 I3 rv q3 => ?_
  obtain ⟨rfl, d, fs, ea, ed, hd1, q3⟩ := q3
  obtain ⟨hp, g, dr, tk, os⟩ := s1
  obtain ⟨h2, g2, d2, t2, os'⟩ := s'
  refine ⟨rv, ?_⟩
  obtain ⟨t0, G, J, kG, gn, hoe, na⟩ := mk_end0 (d2 := d2) (t2 := t2) I1 sz (fun b o z => Heap.get?_push_of_some _ (Heap.get?_push_of_some _ z)) un2 hok2 os2 bare2 ea ed hd1
  exact ⟨a, _, _, ⟨G, g2, d2, t2, os'⟩, _, .ref C, some d, rfl, J, kG, gn, hoe, ⟨rfl, rfl, fun vs z => by cases z; rfl⟩, rfl, rfl, na, rfl, bare2, raises_own T.exC T.tyC, q3⟩
/-- raise C(), an error without fields -/
def tMkO0 (C : Addr) (sp : Sp) : L2.St → Hp → XK → Prop := fun _ H Q => ∀ a, H a = none → sp [.ref a] (upd H a (exo a C none)) (fun v H2 => v = .non ∧ H2 = upd H a (exo a C none) ∧ Q (.ref C) none H) (fun _ _ _ => False)
theorem pmk_n0 (T : OexC X.K C) (iC : PySem.W.findIn X.K (.ref C) "__init__" = some (some (.ref fI))) (tI : PySem.W.typeIn X.K (.ref fI) = some (.type "function")) (F1 : FnOk X.prog X.w X.K X.mg X.base CX k fI fd ps sp) (hr : Room (k + 1) X.A)
    (hb : Binds X.K fd ps []) (hx : Passes CX X (fun _ _ _ => False)) (hg : Gl X x) (hm : X.mg x = some (.ref C)) (hdb : (x == ("__debug__" : Str)) = false := by decide) : L2N.PMk X (.Call (.Name x p) [] [] pos) (tMkO0 C sp) := by
  intro pins s σ H Q I q1
  refine wpAny_Call_Name_kw (ld_glob I hg hm ?_ hdb)
  refine PySem.W.callWith_K0 I.kIn T.kC ?_
  have n1 := I.hok.fresh (Nat.le_refl _)
  have ll : ∀ u0 : Value, ([u0] ++ ([] : List Value)).length = ps.length := fun u0 => by
    have y := F1.len _ _ _ _ (q1 _ n1)
    rw [← y]; rfl
  refine run_mk (us := []) T iC tI F1 hr hx I .nil (fun s' u0 kin => hb s' [u0] kin (ll u0)) (Nat.zero_le _) q1 fun a v u H2 s' sz nea un2 hok2 os2 bare2 I3 rv q3 => ?_
  obtain ⟨rfl, e2, q3⟩ := q3
  subst e2
  refine ⟨rv, ?_⟩
  obtain ⟨hp, g, dr, tk, os⟩ := s
  obtain ⟨h2, g2, d2, t2, os'⟩ := s'
  have na : H a = none := I.hok.fresh sz
  obtain ⟨t0, hoe⟩ := exo_at hok2 (upd_same : upd H a (exo a C none) a = _)
  obtain ⟨G, ga, gb⟩ := restrict h2 fun b => decide (b ≠ a)
  have gk : ∀ b, b ≠ a → G.get? b = h2.get? b := fun b hb => ga b (decide_eq_true hb)
  have gn : G.get? a = none := gb a (by simp)
  have kp : ∀ b o, hp.get? b = some o → ((hp.push (PySem.W.kdv_tup [])).push (PySem.HandSPX.excO C hp.objs.size)).get? b = some o := fun b o z => Heap.get?_push_of_some _ (Heap.get?_push_of_some _ z)
  have off : ∀ {b : Addr} {o : HO}, H b = some o → b ≠ a := fun z => ne_of_none z na
  have U : Un (frs X.stack) [] H H hp G := {
    keep := fun b o z n hf hx => by rw [gk b (nea b o z)]; exact un2.keep b o (kp b o z) (by rw [upd_ne (nea b o z)]; exact n) hf hx
    slot := fun b o z n hf hx => by rw [gk b (nea b o z)]; exact un2.slot b o (kp b o z) (by rw [upd_ne (nea b o z)]; exact n) hf hx
    free := fun _ _ _ n _ => n
    there := fun b o z hx => by rw [gk b (nea b o z)]; exact un2.there b o (kp b o z) hx
    tups := fun _ _ z => z
    frzs := fun _ _ _ z => z
    tbls := fun b ps z => ⟨#[], by rw [z]; simp⟩ }
  have ok3 : HOk X.prog X.w H G := fun b o z => by
    have y := hok2 b o (by rw [upd_ne (off z)]; exact z)
    refine y.stay (fun c v hc r => ?_) (fun c hc => ?_) (fun c xs hc => ?_)
    · have hca : c ≠ a := by
        rcases hc with hc | hc
        · rw [hc]; exact off z
        · intro e
          rw [e, upd_same] at hc
          exact exo_own (Option.some.inj hc)
      rw [gk c hca]
      exact r
    · have hca : c ≠ a := fun e => by
        rw [e, upd_same] at hc
        exact exo_own (Option.some.inj hc)
      rw [upd_ne hca] at hc
      exact hc
    · have hca : c ≠ a := fun e => by
        rw [e, upd_same] at hc
        exact exo_tup (Option.some.inj hc)
      rw [upd_ne hca] at hc
      exact hc
  have J : Inv X pins σ H ⟨G, g2, d2, t2, os'⟩ := I.call' (ch := []) os2 U ok3 bare2 (fun b z => absurd z (by simp))
  refine ⟨a, _, _, ⟨G, g2, d2, t2, os'⟩, H, .ref C, none, rfl, J, fun b o z => ?_, gn, hoe, ⟨rfl, rfl, fun vs z => by cases z; rfl⟩, rfl, rfl, na, rfl, bare2, raises_own T.exC T.tyC, q3⟩
  by_cases hba : b = a
  · have z' : G.get? b = some o := z
    rw [hba, gn] at z'
    cases z'
  · exact (gk b hba).symm.trans z
end
end Err
end SecA5
section SecA6
set_option Elab.async false
set_option linter.all false
set_option maxRecDepth 100000
set_option maxHeartbeats 4000000
namespace Err
open PySem PySem.Spec PyProof.Rows L2
/-- a clause's test e: M tells of a class whether it matches -/
def Tst (X : Cx) (e : Expr) (M : Value → Bool → Prop) : Prop := ∀ (a : Addr) (oe : Obj) (pn : List (Addr × Obj)) (s : Shared) (σ : L2.St) (H : Hp) (cls : Value) (b : Bool) (Q : Bool → Shared → Prop) (E E2 : Value → Shared → Prop),
  Inv (X.suite a ((a, oe) :: pn)) [] σ H s → oe.cls = cls → M cls b → (∀ h', (∀ b o, s.heap.get? b = some o → h'.get? b = some o) → Q b { s with heap := h' }) →
  wpAny (model X.prog X.w) (X.A.mark (some (.ref a))) (eval e X.env) (fun c s1 => wpAny (model X.prog X.w) (X.A.mark (some (.ref a))) (excMatches (.ref a) c) Q E2 s1) E s
section
variable {X : Cx}
theorem name_at {a : Addr} {oe : Obj} {pn : List (Addr × Obj)} {s : Shared} {σ : L2.St} {H : Hp} {x : Str} {c : Value} {np : Pos} {Q : Value → Shared → Prop} {E : Value → Shared → Prop} (hc : Names X x c) (I : Inv (X.suite a ((a, oe) :: pn)) [] σ H s) (q : Q c s) :
    wpAny (model X.prog X.w) (X.A.mark (some (.ref a))) (eval (.Name x np) X.env) Q E s := by
  obtain ⟨hg, hdbg, hm | ⟨hm, hv, hnn⟩⟩ := hc
  · exact ld_glob (X := X.suite a ((a, oe) :: pn)) I hg hm q hdbg
  · exact ld_blt (X := X.suite a ((a, oe) :: pn)) I hg hm hv q hnn hdbg
theorem tst_name {x : Str} {c : Value} {np : Pos} (hc : Names X x c) : Tst X (.Name x np) (fun cls b => PySem.W.exmOne X.K cls c = some b) := fun a oe pn s σ H cls b Q E E2 I ec m q => by
  have g := (I.pin (a, oe) (List.mem_append_left _ List.mem_cons_self)).1
  have LT : PySem.W.Looks (model X.prog X.w) s.heap (typeOf (.ref a)) cls := fun A Q E s k z => wpAny_typeOf_ref (k _ _ g) (by rw [ec]; exact z)
  exact name_at hc I ((PySem.W.exm_one (M := model X.prog X.w) I.kIn LT m).here (q s.heap fun _ _ z => z))
theorem tst_pair {x1 x2 : Str} {c1 c2 : Value} {n1 n2 tp : Pos} {z1} (h1 : Names X x1 c1) (h2 : Names X x2 c2)
    (hs : starEach [.Name x1 n1, .Name x2 n2] X.env = [(false, eval (.Name x1 n1) X.env), (false, eval (.Name x2 n2) X.env)] := by rfl) :
    Tst X (.Tuple [.Name x1 n1, .Name x2 n2] z1 tp) (fun cls b => PySem.W.exmAny X.K cls [c1, c2] = some b) := fun a oe pn s σ H cls b Q E E2 I ec m q => by
  have g := (I.pin (a, oe) (List.mem_append_left _ List.mem_cons_self)).1
  refine wpAny_Tuple_spliced ?_
  rw [hs]
  show wpAny _ _ (spliced ((false, eval (.Name x1 n1) X.env) :: [(false, eval (.Name x2 n2) X.env)])) _ _ s
  refine Calls.spliced_cons (name_at h1 I (Calls.spliced_cons (name_at h2 I (Calls.spliced_nil ⟨by show 2 ≤ sizeLine; decide, ?_⟩))))
  have kp : ∀ b o, s.heap.get? b = some o → (s.heap.push { cls := .type "tuple", data := .seq [c1, c2].toArray }).get? b = some o := fun b o z => Heap.get?_push_of_some _ z
  have LT : PySem.W.Looks (model X.prog X.w) (s.heap.push { cls := .type "tuple", data := .seq [c1, c2].toArray }) (typeOf (.ref a)) cls := fun A Q E s k z => wpAny_typeOf_ref (k _ _ (kp _ _ g)) (by rw [ec]; exact z)
  exact (PySem.W.exm_tup2 (M := model X.prog X.w) (I.kIn.keeps kp) LT (Heap.get?_push_size _ rfl) m).here (q _ kp)
/-- where a suite ends -/
def endAt (i : Option Nat) (D : Ends) : Ends := match i with
  | none => D
  | some i => { nx := fun σ' H' => D.nx (σ'.set i none) H', rt := D.rt, bk := fun σ' H' => D.bk (σ'.set i none) H', ct := fun σ' H' => D.ct (σ'.set i none) H' }
def putAt (i : Option Nat) (a : Addr) (σ : L2.St) : L2.St := match i with
  | none => σ
  | some i => σ.set i (some (.ref a))
abbrev Cl := (Value → Bool → Prop) × Option Nat × (Addr → Value → Option Addr → TS)
/-- the wish of the clauses, one behind the other -/
def wCl (Wout : WX) (D : Ends) : List Cl → WX
  | [] => Wout
  | (M, i, ts) :: r => fun cls d σ H => ∃ b, M cls b ∧ (b = true → ∀ a, H a = none → ts a cls d (endAt i D) (putAt i a σ) H) ∧ (b = false → wCl Wout D r cls d σ H)
inductive ClOk (X : Cx) : List ExceptHandler → List Cl → Prop
  | nil : ClOk X [] []
  | as {t : Expr} {n : Str} {i : Nat} {M : Value → Bool → Prop} {ts : Addr → Value → Option Addr → TS} {b0 : Stmt} {suite : List Stmt} {pos' : Pos} {hds : List ExceptHandler} {l : List Cl} (ht : Tst X t M) (hi : X.N[i]? = some n) (hl : X.env.kindOf n = some .local)
      (hsu : ∀ (a : Addr) (oe : Obj) (cls : Value) (d : Option Addr) (pn : List (Addr × Obj)), L2N.Zn cls d oe → (∃ vs, oe.data = .fields vs) → PSs (X.suite a ((a, oe) :: pn)) (b0 :: suite) (ts a cls d)) (r : ClOk X hds l) :
      ClOk X (.ExceptHandler (some t) (some n) (b0 :: suite) pos' :: hds) ((M, some i, ts) :: l)
  | only {t : Expr} {M : Value → Bool → Prop} {ts : Addr → Value → Option Addr → TS} {b0 : Stmt} {suite : List Stmt} {pos' : Pos} {hds : List ExceptHandler} {l : List Cl} (ht : Tst X t M)
      (hsu : ∀ (a : Addr) (oe : Obj) (cls : Value) (d : Option Addr) (pn : List (Addr × Obj)), L2N.Zn cls d oe → (∃ vs, oe.data = .fields vs) → PSs (X.suite a ((a, oe) :: pn)) (b0 :: suite) (ts a cls d)) (r : ClOk X hds l) :
      ClOk X (.ExceptHandler (some t) none (b0 :: suite) pos' :: hds) ((M, none, ts) :: l)
theorem flying_grows {B h h' : Heap} {l : List Env} {a : Addr} {Z : Obj → Prop} (fl : HandSPX.FlyingZ B l a Z h) (k : ∀ b o, h.get? b = some o → h'.get? b = some o) : HandSPX.FlyingZ B l a Z h' := by
  obtain ⟨f1, f2, f3, oe, vs, T, oT, ts, e1, e2, e3, e4, e5, e6, e7, e8, e9⟩ := fl
  exact ⟨fun b o z => k _ _ (f1 b o z), f2, Heap.FunFrames.of_keeps (fun b o e _ => ⟨o, k b o e, rfl⟩) f3, oe, vs, T, oT, ts, k _ _ e1, e2, e3, e4, e5, e6, k _ _ e7, e8, e9⟩
theorem upto_grows {h h1 h2 : Heap} (u : h.UpToSlots h1) (k : ∀ b o, h1.get? b = some o → h2.get? b = some o) : h.UpToSlots h2 := u.trans (Heap.UpToSlots.of_keeps k)
variable {body : List Stmt} {h0 : ExceptHandler} {hds : List ExceptHandler} {l : List Cl} {pos : Pos} {tb : WX → TS} {Wout : WX}
theorem ps_trys (hs : X.stack = X.env :: X.outer) (hf : X.env.frame = some X.env.locals) (hN : X.N.Nodup) (tk : L2N.Takes X Wout)
    (hb : ∀ (W : WX) (pn : List (Addr × Obj)) (xe : Value → Shared → Prop), L2N.Takes (X.tr pn xe) W → PassesOwn (model X.prog X.w) X.A X.env xe → PSs (X.tr pn xe) body (tb W))
    (hh : ClOk X (h0 :: hds) l) : PS X (.Try body (h0 :: hds) [] [] pos) (fun D σ H => tb (wCl Wout D l) D σ H) := by
  refine ⟨fun pins s σ H D I h => ?_⟩
  have ok := I.ok
  have hfr : X.A.frames = some (X.env :: X.outer) := by rw [ok.frames, hs]
  refine wpAny_Try_except (wpAny_mono ((hb (wCl Wout D l) (X.pn ++ pins) (fun e s1 => wpAny (model X.prog X.w) X.A (noteFrame e X.env) (fun _ s2 => wpAny (model X.prog X.w) X.A (setFlight e none) (fun _ s3 =>
    wpAny (model X.prog X.w) X.A (handleBy e X.env (h0 :: hds)) (SP X pins D) X.xe s3) X.xe s2) X.xe s1) (fun u s' xx => ?_) PassesOwn.looking).run [] s σ H D (I.toTry _) h) (fun f s1 hsp => ?_) (fun e s1 he => he))
  · obtain ⟨a, B, sI, pins', σ1, H1, cls, d, rfl, J0, nb, up, sky, na, os, ag, w⟩ := xx
    have J : Inv X pins σ1 H1 sI := J0.ofTry ok
    have sky1 : Sky B (X.env :: X.outer) a (L2N.Zn cls d) X.env.locals s'.heap := by rw [← hs]; exact sky
    show wpAny (model X.prog X.w) X.A (noteFrame (.ref a) X.env) _ _ _
    refine L2N.Sky.land L2N.Zn.steady hfr hf sky1 fun h3 fl3 up3 => ?_
    have go : ∀ {hs1 : List ExceptHandler} {l1 : List Cl}, ClOk X hs1 l1 → ∀ h4, HandSPX.FlyingZ B (X.env :: X.outer) a (L2N.Zn cls d) h4 → sI.heap.UpToSlots h4 → wCl Wout D l1 cls d σ1 H1 →
        wpAny (model X.prog X.w) X.A (handleBy (.ref a) X.env hs1) (SP X pins D) X.xe { s' with heap := h4 } := by
      intro hs1 l1 hk
      -- what stands at any heap that the error flies over
      have land : ∀ h4, HandSPX.FlyingZ B (X.env :: X.outer) a (L2N.Zn cls d) h4 → sI.heap.UpToSlots h4 → ∃ oe, L2N.Zn cls d oe ∧ (∃ vs, oe.data = .fields vs) ∧ h4.get? a = some oe ∧ Inv (X.suite a ((a, oe) :: (X.pn ++ pins))) [] σ1 H1 { s' with heap := h4 } := fun h4 fl4 up4 => by
        have J4 : Inv X pins σ1 H1 { s' with heap := h4 } := J.landed nb fl4.1 up4 os ag
        obtain ⟨oe, vs, he, hz, hd⟩ := fl4.there
        have nfr : a ∉ frs (X.env :: X.outer) := fun y => by
          obtain ⟨_, o1, e1, hnf⟩ := fl4.2.2.1.mem y
          rw [he] at e1
          cases e1
          exact hnf _ hd
        refine ⟨oe, hz, ⟨vs, hd⟩, he, J4.suite he hd na (fun y => nfr ?_) fun y => nfr ?_⟩
        · exact List.mem_filterMap.mpr ⟨X.env, List.mem_cons_self, by rw [hf, y]⟩
        · obtain ⟨e1, m1, q1⟩ := List.mem_filterMap.mp y
          exact List.mem_filterMap.mpr ⟨e1, List.mem_cons_of_mem _ m1, q1⟩
      induction hk with
      | nil =>
        intro h4 fl4 up4 w
        refine wpAny_handleBy_nil ?_
        obtain ⟨k1, k2, k3, oe, vs, T, oT, ts', he, hz, hd, e1, hr⟩ := id fl4
        unfold PySem.passOn
        refine wpAny_bind (wpAny_field he hd e1 ?_)
        rw [if_neg (show ¬ ((Value.ref T == Value.none) = true) from by simp)]
        have fin : wpAny (model X.prog X.w) X.A (setFlight (.ref a) X.env.frame) (fun _ s4 => wpAny (model X.prog X.w) X.A (throw (.ref a) : Sem Flow) (SP X pins D) X.xe s4) X.xe { s' with heap := h4 } := by
          rw [hf]
          exact HandSPX.setFlight_upZ fl4 fun h5 fl5 up5 => wpAny_throw (tk _ _ ⟨a, B, sI, pins, σ1, H1, cls, d, rfl, J, nb, up4.trans up5, .inr (.inr (by rw [hs]; exact fl5)), na, os, ag, w⟩)
        first
          | exact wpAny_bind (wpAny_pure (wpAny_bind fin))
          | exact wpAny_bind fin
      | @as t n i M ts b0 suite pos' hds2 l2 ht hi hl hsu r ih =>
        intro h4 fl4 up4 w
        obtain ⟨b, hb1, yes, no⟩ := w
        obtain ⟨oe, hz, hd, he, S4⟩ := land h4 fl4 up4
        refine wpAny_handleBy_cons (codeAny_handlers_test (ht a oe _ _ _ _ cls b _ _ _ S4 hz.1 hb1 fun h5 k5 => ?_)) (by intro q; cases q)
        have fl5 := flying_grows fl4 k5
        have up5 := upto_grows up4 k5
        cases b with
        | true =>
          refine codeAny_handlers_suite_as (HandSPX.lands_againZ fl5 fun h6 fl6 up6 => ?_)
          obtain ⟨oe6, hz6, hd6, he6, S6⟩ := land h6 fl6 (up5.trans up6)
          refine store_ok (X := X.suite a ((a, oe6) :: (X.pn ++ pins))) (v := .ref a) S6 hN hi (.inl hl) rfl (fun s7 S7 => ?_) (.inr hl)
          refine wpAny_mono ((hsu a oe6 cls d (X.pn ++ pins) hz6 hd6).run [] s7 _ H1 _ S7 (yes rfl a na)) (fun f s8 hsp => ?_) (fun _ _ z => z.elim)
          have gone : ∀ {σ8 : L2.St} {H8 : Hp} {Q : Shared → Prop}, Inv (X.suite a ((a, oe6) :: (X.pn ++ pins))) [] σ8 H8 s8 → (∀ s9, Inv X pins (σ8.set i none) H8 s9 → Q s9) →
              wpAny (model X.prog X.w) X.A (do bindName X.env n .none; unbindBehindTheSuite X.env n pos') (fun _ s9 => Q s9) X.xe s8 := fun {σ8 H8 Q} S8 hq => gone_ok (S8.unsuite ok) hN hi hl hq
          cases f with
          | next =>
            obtain ⟨σ8, H8, S8, q8⟩ := hsp
            exact gone S8 fun s9 J9 => ⟨_, _, J9, q8⟩
          | brk =>
            obtain ⟨σ8, H8, S8, q8⟩ := hsp
            exact gone S8 fun s9 J9 => ⟨_, _, J9, q8⟩
          | cont =>
            obtain ⟨σ8, H8, S8, q8⟩ := hsp
            exact gone S8 fun s9 J9 => ⟨_, _, J9, q8⟩
          | ret u =>
            obtain ⟨v8, σ8, H8, S8, r8, q8⟩ := hsp
            exact gone S8 fun s9 J9 => ⟨_, _, _, J9, r8, q8⟩
        | false => exact ih h5 fl5 up5 (no rfl)
      | @only t M ts b0 suite pos' hds2 l2 ht hsu r ih =>
        intro h4 fl4 up4 w
        obtain ⟨b, hb1, yes, no⟩ := w
        obtain ⟨oe, hz, hd, he, S4⟩ := land h4 fl4 up4
        refine wpAny_handleBy_cons (codeAny_handlers_test (ht a oe _ _ _ _ cls b _ _ _ S4 hz.1 hb1 fun h5 k5 => ?_)) (by intro q; cases q)
        have fl5 := flying_grows fl4 k5
        have up5 := upto_grows up4 k5
        cases b with
        | true =>
          refine codeAny_handlers_suite (HandSPX.lands_againZ fl5 fun h6 fl6 up6 => ?_)
          obtain ⟨oe6, hz6, hd6, he6, S6⟩ := land h6 fl6 (up5.trans up6)
          refine wpAny_mono ((hsu a oe6 cls d (X.pn ++ pins) hz6 hd6).run [] _ _ H1 _ S6 (yes rfl a na)) (fun f s8 hsp => ?_) (fun _ _ z => z.elim)
          cases f with
          | next =>
            obtain ⟨σ8, H8, S8, q8⟩ := hsp
            exact ⟨_, _, S8.unsuite ok, q8⟩
          | brk =>
            obtain ⟨σ8, H8, S8, q8⟩ := hsp
            exact ⟨_, _, S8.unsuite ok, q8⟩
          | cont =>
            obtain ⟨σ8, H8, S8, q8⟩ := hsp
            exact ⟨_, _, S8.unsuite ok, q8⟩
          | ret u =>
            obtain ⟨v8, σ8, H8, S8, r8, q8⟩ := hsp
            exact ⟨_, _, _, S8.unsuite ok, r8, q8⟩
        | false => exact ih h5 fl5 up5 (no rfl)
    exact go hh h3 fl3 (up.trans up3) w
  · cases f with
    | next =>
      obtain ⟨σ1, H1, J1, q⟩ := hsp
      exact wpAny_execs_nil ⟨σ1, H1, J1.ofTry ok, q⟩
    | brk =>
      obtain ⟨σ1, H1, J1, q⟩ := hsp
      exact ⟨σ1, H1, J1.ofTry ok, q⟩
    | cont =>
      obtain ⟨σ1, H1, J1, q⟩ := hsp
      exact ⟨σ1, H1, J1.ofTry ok, q⟩
    | ret u =>
      obtain ⟨v1, σ1, H1, J1, r1, q⟩ := hsp
      exact ⟨v1, σ1, H1, J1.ofTry ok, r1, q⟩
end
end Err
end SecA6
section SecA7
set_option Elab.async false
set_option linter.all false
set_option maxRecDepth 100000
set_option maxHeartbeats 4000000
namespace Rd
open PySem PySem.Spec PyProof.Rows L2
section
variable {D : Ends} {σ : L2.St} {H : Hp} {Q : VK} {t1 t2 : TS} {te ta tb : TE} {g : TG} {i : Nat} {v x y : V} {c c1 c2 : TT} {K : PySem.W.Frag} {QB : Bool → Hp → Prop} {tl tr : TA} {QA : List V → Hp → Prop}
theorem seq (q : t1 { D with nx := t2 D } σ H) : tSeq t1 t2 D σ H := q
theorem asg (q : te σ H fun x H1 => g x σ H1 D.nx) : tAsg te g D σ H := q
theorem nm {Q : L2.St → Hp → Prop} (q : Q (σ.set i (some v)) H) : gName i v σ H Q := q
theorem sub {r : TSet} {Q : L2.St → Hp → Prop} (q : ta σ H fun o H1 => tb σ H1 fun i H2 => r o i v H2 fun H3 => Q σ H3) : gSub ta tb r v σ H Q := q
theorem ret (q : te σ H D.rt) : tRet te D σ H := q
theorem retN (q : D.rt .non H) : tRetN D σ H := q
theorem drop (q : te σ H fun _ H1 => D.nx σ H1) : tDrop te D σ H := q
theorem ifs (q : c σ H fun b H1 => if b = true then t1 D σ H1 else t2 D σ H1) : tIfS c t1 t2 D σ H := q
theorem next (q : D.nx σ H) : tNext D σ H := q
theorem var (h : σ[i]? = some (some v)) (q : Q v H) : tVar i σ H Q := ⟨v, h, q⟩
theorem cst (q : Q v H) : tC v σ H Q := q
theorem op {r : R2} (q : ta σ H fun x H1 => tb σ H1 fun y H2 => r x y H2 Q) : tOp r ta tb σ H Q := q
theorem un {r : V → Hp → VK → Prop} (q : ta σ H fun x H1 => r x H1 Q) : tUn r ta σ H Q := q
theorem test (q : te σ H fun x H' => ∃ k, x = .bl k ∧ QB k H') : tTest te σ H QB := q
theorem tb' (q : te σ H fun x H' => ∃ k, x = .bl k ∧ QB k H') : tB te σ H QB := q
theorem exb {Z : Bool → Prop} {b : Bool} (q : Z b) : ∃ k, V.bl b = .bl k ∧ Z k := ⟨b, rfl, q⟩
theorem and2 (q : c1 σ H fun b H1 => if b = true then c2 σ H1 QB else QB false H1) : tAnd c1 c2 σ H QB := q
theorem or2 (q : c1 σ H fun b H1 => if b = true then QB true H1 else c2 σ H1 QB) : tOr c1 c2 σ H QB := q
theorem not1 (q : c σ H fun b H1 => QB (!b) H1) : tNot c σ H QB := q
theorem andV (q : ta σ H fun x H1 => ∃ c, x = .bl c ∧ if c = true then tb σ H1 Q else Q (.bl false) H1) : tAndV ta tb σ H Q := q
theorem orV (q : ta σ H fun x H1 => ∃ c, x = .bl c ∧ if c = true then Q (.bl true) H1 else tb σ H1 Q) : tOrV ta tb σ H Q := q
theorem notV (q : ta σ H fun x H1 => ∃ c, x = .bl c ∧ Q (.bl (!c)) H1) : tNotV ta σ H Q := q
theorem nil (q : QA [] H) : tNil σ H QA := q
theorem cons (q : ta σ H fun x H1 => tr σ H1 fun xs H2 => QA (x :: xs) H2) : tCons ta tr σ H QA := q
theorem cb {r : List V → Hp → VK → Prop} (q : tl σ H fun vs H1 => r vs H1 Q) : tCB r tl σ H Q := q
theorem i0 {f : Int → Int → V} {a b : Int} (q : Q (f a b) H) : rI0 f (.int a) (.int b) H Q := ⟨a, b, rfl, rfl, q⟩
theorem i1 {C : Int → Int → Prop} {f : Int → Int → V} {a b : Int} (hc : C a b) (q : Q (f a b) H) : rI C f (.int a) (.int b) H Q := ⟨a, b, rfl, rfl, hc, q⟩
theorem u1 {f : Int → V} {a : Int} (q : Q (f a) H) : rU f (.int a) H Q := ⟨a, rfl, q⟩
theorem ixL {p : Addr} {xs : List V} {a : Int} (h : H p = some (.lst xs)) (ha : atI xs a = some v) (q : Q v H) : rIxL K (.ref p) (.int a) H Q := ⟨p, xs, a, v, rfl, rfl, SqL.of h, ha, q⟩
theorem ixT {p : Addr} {xs : List V} {a : Int} (h : H p = some (.tup xs)) (ha : atI xs a = some v) (q : Q v H) : rIxT K (.ref p) (.int a) H Q := ⟨p, xs, a, v, rfl, rfl, SqT.of h, ha, q⟩
theorem setL {p : Addr} {xs : List V} {a : Int} {j : Nat} {Q : Hp → Prop} (h : H p = some (.lst xs)) (ha : ixN xs.length a = some j) (q : Q (upd H p (.lst (xs.set j v)))) : rSetL (.ref p) (.int a) v H Q := ⟨p, xs, a, j, rfl, rfl, h, ha, q⟩
theorem eq (hs : scal x y = true) (q : Q (.bl (decide (x = y))) H) : rEq x y H Q := ⟨hs, q⟩
theorem ne (hs : scal x y = true) (q : Q (.bl (!decide (x = y))) H) : rNe x y H Q := ⟨hs, q⟩
theorem call {sp : Sp} {dvs : List V} {E : XK} (q : tl σ H fun vs H1 => sp (vs ++ dvs) H1 Q E) : tCall sp dvs E tl σ H Q := q
theorem tup (q : tl σ H fun xs H1 => xs.length ≤ sizeLine ∧ ∀ p, H1 p = none → Q (.ref p) (upd H1 p (.tup xs))) : tTup tl σ H Q := q
theorem lst (q : tl σ H fun xs H1 => xs.length ≤ sizeLine ∧ ∀ p, H1 p = none → Q (.ref p) (upd H1 p (.lst xs))) : tLst tl σ H Q := q
theorem sl {r : V → Option Int → Option Int → Hp → VK → Prop} {to tp : TO} (q : te σ H fun x H1 => to σ H1 fun l H2 => tp σ H2 fun u H3 => r x l u H3 Q) : tSl r te to tp σ H Q := q
theorem no {Q : Option Int → Hp → Prop} (q : Q none H) : tNoPart σ H Q := q
theorem part {Q : Option Int → Hp → Prop} (q : te σ H fun x H1 => ∃ i, x = .int i ∧ Q (some i) H1) : tPart te σ H Q := q
theorem exi {Z : Int → Prop} {a : Int} (q : Z a) : ∃ k, V.int a = .int k ∧ Z k := ⟨a, rfl, q⟩
theorem slL {p : Addr} {xs : List V} {lo hi : Option Int} (h : H p = some (.lst xs)) (q : ∀ p', H p' = none → Q (.ref p') (upd H p' (.lst (cutV xs lo hi)))) : rSlL K (.ref p) lo hi H Q := ⟨p, xs, rfl, SqL.of h, q⟩
theorem at_ {X : Cx} {n : Str} (q : te σ H fun x H1 => ∃ (a C dd : Addr) (fs : List (Str × V)) (v : V), x = .ref a ∧ Err.Ec X.K C ∧ PySem.W.findIn X.K (.ref C) n = some none ∧ Err.Seen X H1 a C (some dd) ∧ Err.Dk H1 dd fs ∧ fs.lookup n = some v ∧ Q v H1) :
    Err.tAt X n te σ H Q := q
theorem ifT {b : Bool} {A B : Prop} (h : b = true) (q : A) : if b = true then A else B := by rw [if_pos h]; exact q
theorem ifF {b : Bool} {A B : Prop} (h : b = false) (q : B) : if b = true then A else B := by rw [h, if_neg Bool.false_ne_true]; exact q
theorem ifB {b : Bool} {A B : Prop} (q1 : b = true → A) (q2 : b = false → B) : if b = true then A else B := by
  cases b with
  | true => rw [if_pos rfl]; exact q1 rfl
  | false => rw [if_neg Bool.false_ne_true]; exact q2 rfl
theorem lenL {p : Addr} {xs : List V} (h : H p = some (.lst xs)) (q : Q (.int (xs.length : Nat)) H) : ∃ (x : V) (n : Nat), [V.ref p] = [x] ∧ LenV K x H n ∧ Q (.int (n : Nat)) H := ⟨_, _, rfl, .inl ⟨xs, SqL.of h, rfl⟩, q⟩
theorem lenT {p : Addr} {xs : List V} (h : H p = some (.tup xs)) (q : Q (.int (xs.length : Nat)) H) : ∃ (x : V) (n : Nat), [V.ref p] = [x] ∧ LenV K x H n ∧ Q (.int (n : Nat)) H := ⟨_, _, rfl, .inr ⟨xs, SqT.of h, rfl⟩, q⟩
theorem lenS {z : Str} (h : z.length ≤ sizeLine) (q : Q (.int (z.length : Nat)) H) : ∃ (x : V) (n : Nat), [V.str z] = [x] ∧ LenV K x H n ∧ Q (.int (n : Nat)) H := ⟨_, _, rfl, ⟨h, rfl⟩, q⟩
theorem int1 {a : Int} (q : Q (.int a) H) : (∃ i, [V.int a] = [V.int i] ∧ Q (.int i) H) ∨ ∃ k, [V.int a] = [V.bl k] ∧ Q (.int (if k = true then 1 else 0)) H := .inl ⟨a, rfl, q⟩
theorem int1b {b : Bool} (q : Q (.int (if b = true then 1 else 0)) H) : (∃ i, [V.bl b] = [V.int i] ∧ Q (.int i) H) ∨ ∃ k, [V.bl b] = [V.bl k] ∧ Q (.int (if k = true then 1 else 0)) H := .inr ⟨b, rfl, q⟩
theorem abs1 {a : Int} (q : Q (.int (if a < 0 then -a else a)) H) : ∃ i, [V.int a] = [V.int i] ∧ Q (.int (if i < 0 then -i else i)) H := ⟨a, rfl, q⟩
def rLenK (K : PySem.W.Frag) : List V → Hp → VK → Prop := fun xs H Q => ∃ (x : V) (n : Nat), xs = [x] ∧ LenV K x H n ∧ Q (.int (n : Nat)) H
theorem lenKL {p : Addr} {xs : List V} (h : H p = some (.lst xs)) (q : Q (.int (xs.length : Nat)) H) : rLenK K [.ref p] H Q := ⟨_, _, rfl, .inl ⟨xs, SqL.of h, rfl⟩, q⟩
theorem lenKT {p : Addr} {xs : List V} (h : H p = some (.tup xs)) (q : Q (.int (xs.length : Nat)) H) : rLenK K [.ref p] H Q := ⟨_, _, rfl, .inr ⟨xs, SqT.of h, rfl⟩, q⟩
theorem lenKS {z : Str} (h : z.length ≤ sizeLine) (q : Q (.int (z.length : Nat)) H) : rLenK K [.str z] H Q := ⟨_, _, rfl, ⟨h, rfl⟩, q⟩
theorem lc {wi : TI} {tt : TT} {vs : List Nat} (q : wi σ H fun J H1 => ∀ d, H1 d = none → ∃ W : Nat → Nat → Hp → Prop, (∃ m, W 0 m (upd H1 d (.lst []))) ∧ ∀ i m H, W i m H →
  (J.stop i H ∧ Q (.ref d) H) ∨ (J.go i H ∧ ∃ Nx : Hp → Prop, (∀ H', Nx H' → ∃ m', m' < m ∧ W (i + 1) m' H') ∧ ∀ x H', J.yld i H x H' → g x (wipe σ vs) H' fun σ2 H2 => wipe σ2 vs = wipe σ vs ∧ tt σ2 H2 fun b H3 =>
    if b = true then te σ2 H3 fun y H4 => ∃ acc, H4 d = some (.lst acc) ∧ acc.length < sizeLine ∧ Nx (upd H4 d (.lst (acc ++ [y]))) else Nx H3)) : tLc wi g tt te vs σ H Q := q
theorem rng {R : It → Hp → Prop} (q : tl σ H fun vs H1 => ∃ j : Int, vs = [.int j] ∧ -(2 ^ 62) ≤ j ∧ j < 2 ^ 62 ∧ R (Itr 0 j.toNat) H1) : iRng1 tl σ H R := q
theorem fors {wi : TI} (q : wi σ H fun J H1 => ∃ W : Nat → Nat → L2.St → Hp → Prop, (∃ m, W 0 m σ H1) ∧ ∀ i m σ H, W i m σ H →
  (J.stop i H ∧ D.nx σ H) ∨ (J.go i H ∧ ∃ N : L2.St → Hp → Prop, (∀ σ' H', N σ' H' → ∃ m', m' < m ∧ W (i + 1) m' σ' H') ∧ ∀ x H', J.yld i H x H' → g x σ H' fun σ2 H2 => t1 { D with nx := N, ct := N, bk := D.nx } σ2 H2)) : tFor wi g t1 D σ H := q
theorem m1 {r : V → List V → Hp → VK → Prop} (q : ta σ H fun x H1 => (∃ a, x = .str a) ∧ tb σ H1 fun y H2 => r x [y] H2 Q) : tM1 r ta tb σ H Q := q
theorem exs {Z : Prop} {z : Str} (q : Z) : (∃ a, V.str z = .str a) ∧ Z := ⟨⟨z, rfl⟩, q⟩
theorem ixS {z : Str} {a : Int} {c : Nat} (hl : z.length ≤ sizeLine) (h : atI z.cps.toList a = some c) (q : Q (.str ⟨#[c]⟩) H) : rIxS (.str z) (.int a) H Q := ⟨z, a, c, rfl, rfl, hl, h, q⟩
theorem yes (q : QB true H) : tYes σ H QB := q
theorem ex2 {α β : Type} {A : α → β → Prop} {x : α} {n : β} (h : A x n) : ∃ x n, A x n := ⟨x, n, h⟩
theorem cut {t u : TS} (Mid : L2.St → Hp → Prop) (h : t { D with nx := Mid } σ H) (k : ∀ σ' H', Mid σ' H' → u D σ' H') : C8.tCut t u D σ H := ⟨Mid, h, k⟩
end
end Rd
end SecA7
section SecN1
set_option Elab.async false
set_option linter.all false
set_option maxRecDepth 100000
set_option maxHeartbeats 4000000
namespace Dt
open PySem PySem.Spec PyProof.Rows L2
/-! values that stand for data: None, bools, ints, texts, lists and tuples of such, all of them tracked -/
/-- what is no tape -/
def NotTape (o : HO) : Prop := ∀ (a b c : Int) (l : Addr), o ≠ .lst [.int a, .int b, .int c, .ref l]
/-- all that is no tape stands as it stood -/
def Sam (H H' : Hp) : Prop := ∀ b o, NotTape o → H b = some o → H' b = some o
theorem Sam.refl {H : Hp} : Sam H H := fun _ _ _ h => h
theorem Sam.trans {H H1 H2 : Hp} (a : Sam H H1) (b : Sam H1 H2) : Sam H H2 := fun x o n h => b x o n (a x o n h)
theorem Sam.of {H H' : Hp} (s : Same H H') : Sam H H' := fun b o _ h => s b o h
theorem nt_tup {xs : List V} : NotTape (.tup xs) := fun _ _ _ _ z => by cases z
mutual
inductive Rp (H : Hp) : V → PyData → Prop
  | non : Rp H .non .none
  | bl (b : Bool) : Rp H (.bl b) (.bool b)
  | int (i : Int) : Rp H (.int i) (.int i)
  | str (z : Str) : Rp H (.str z) (.str z)
  | lst {p : Addr} {vs : List V} {ds : List PyData} : H p = some (.lst vs) → RpAll H vs ds → ds.length ≤ 1000 → NotTape (.lst vs) → Rp H (.ref p) (.list ds)
  | tup {p : Addr} {vs : List V} {ds : List PyData} : H p = some (.tup vs) → RpAll H vs ds → ds.length ≤ 1000 → Rp H (.ref p) (.tuple ds)
inductive RpAll (H : Hp) : List V → List PyData → Prop
  | nil : RpAll H [] []
  | cons {v : V} {vs : List V} {d : PyData} {ds : List PyData} : Rp H v d → RpAll H vs ds → RpAll H (v :: vs) (d :: ds)
end
mutual
theorem Rp.mono {H H' : Hp} (s : Sam H H') : ∀ (d : PyData) (v : V), Rp H v d → Rp H' v d
  | .none, _, h => by cases h; exact .non
  | .bool b, _, h => by cases h; exact .bl b
  | .int i, _, h => by cases h; exact .int i
  | .str z, _, h => by cases h; exact .str z
  | .list ds, _, h => by
    cases h with
    | lst e a l n => exact .lst (s _ _ n e) (RpAll.mono s ds _ a) l n
  | .tuple ds, _, h => by
    cases h with
    | tup e a l => exact .tup (s _ _ nt_tup e) (RpAll.mono s ds _ a) l
  | .dict _, _, h => by cases h
theorem RpAll.mono {H H' : Hp} (s : Sam H H') : ∀ (ds : List PyData) (vs : List V), RpAll H vs ds → RpAll H' vs ds
  | [], _, h => by cases h; exact .nil
  | d :: ds, _, h => by
    cases h with
    | cons a b => exact .cons (Rp.mono s d _ a) (RpAll.mono s ds _ b)
end
theorem Rp.to {H H' : Hp} {v : V} {d : PyData} (s : Same H H') (h : Rp H v d) : Rp H' v d := Rp.mono (Sam.of s) d v h
theorem Rp.sm {H H' : Hp} {v : V} {d : PyData} (s : Sam H H') (h : Rp H v d) : Rp H' v d := Rp.mono s d v h
theorem RpAll.to {H H' : Hp} {vs : List V} {ds : List PyData} (s : Same H H') (h : RpAll H vs ds) : RpAll H' vs ds := RpAll.mono (Sam.of s) ds vs h
theorem RpAll.sm {H H' : Hp} {vs : List V} {ds : List PyData} (s : Sam H H') (h : RpAll H vs ds) : RpAll H' vs ds := RpAll.mono s ds vs h
mutual
theorem Rp.dp {K : PySem.W.Frag} {H : Hp} : ∀ (d : PyData) (v : V), Rp H v d → Dp K H v d
  | .none, _, h => by cases h; exact .non
  | .bool b, _, h => by cases h; exact .bl b
  | .int i, _, h => by cases h; exact .int i
  | .str z, _, h => by cases h; exact .str z
  | .list ds, _, h => by
    cases h with
    | lst e a l n => exact .lst (SqL.of e) (RpAll.dp ds _ a)
  | .tuple ds, _, h => by
    cases h with
    | tup e a l => exact .tup (SqT.of e) (RpAll.dp ds _ a)
  | .dict _, _, h => by cases h
theorem RpAll.dp {K : PySem.W.Frag} {H : Hp} : ∀ (ds : List PyData) (vs : List V), RpAll H vs ds → DpAll K H vs ds
  | [], _, h => by cases h; exact .nil
  | d :: ds, _, h => by
    cases h with
    | cons a b => exact .cons (Rp.dp d _ a) (RpAll.dp ds _ b)
end
theorem RpAll.len {H : Hp} : ∀ {vs : List V} {ds : List PyData}, RpAll H vs ds → vs.length = ds.length
  | _, [], h => by cases h; rfl
  | _, d :: ds, h => by
    cases h with
    | cons a b => exact congrArg (· + 1) (RpAll.len b)
theorem RpAll.app {H : Hp} : ∀ {vs us : List V} {ds es : List PyData}, RpAll H vs ds → RpAll H us es → RpAll H (vs ++ us) (ds ++ es)
  | _, us, [], es, h, k => by cases h; exact k
  | _, us, d :: ds, es, h, k => by
    cases h with
    | cons a b => exact .cons a (RpAll.app b k)
theorem RpAll.at {H : Hp} : ∀ {vs : List V} {ds : List PyData} {i : Nat} {v : V}, RpAll H vs ds → vs[i]? = some v → ∃ d, ds[i]? = some d ∧ Rp H v d
  | _, [], i, v, h, e => by cases h; simp at e
  | _, d :: ds, 0, v, h, e => by
    cases h with
    | cons a b =>
      cases e
      exact ⟨d, rfl, a⟩
  | _, d :: ds, i + 1, v, h, e => by
    cases h with
    | cons a b =>
      have e' : _ = some v := e
      rw [List.getElem?_cons_succ] at e'
      have z := RpAll.at b e'
      rw [List.getElem?_cons_succ]
      exact z
theorem RpAll.get {H : Hp} {vs : List V} {ds : List PyData} {i : Nat} {d : PyData} (h : RpAll H vs ds) (e : ds[i]? = some d) : ∃ v, vs[i]? = some v ∧ Rp H v d := by
  have hi := (List.getElem?_eq_some_iff.mp e).1
  rw [← h.len] at hi
  obtain ⟨d', e', r⟩ := h.at (List.getElem?_eq_getElem hi)
  rw [e] at e'
  cases e'
  exact ⟨_, List.getElem?_eq_getElem hi, r⟩
theorem rp_ints {H : Hp} : ∀ ns : List Int, RpAll H (ns.map V.int) (ns.map PyData.int)
  | [] => .nil
  | n :: ns => .cons (.int n) (rp_ints ns)
/-- ints as data are ints -/
theorem RpAll.ints {H : Hp} : ∀ {vs : List V} (ns : List Int), RpAll H vs (ns.map PyData.int) → vs = ns.map V.int
  | _, [], h => by cases h; rfl
  | _, n :: ns, h => by
    cases h with
    | cons a b =>
      cases a
      rw [RpAll.ints ns b]
      rfl
theorem RpAll.cut {H : Hp} : ∀ {vs : List V} {ds : List PyData} (n : Nat), RpAll H vs ds → RpAll H (vs.take n) (ds.take n)
  | _, ds, 0, h => .nil
  | _, [], n + 1, h => by cases h; exact .nil
  | _, d :: ds, n + 1, h => by
    cases h with
    | cons a b => exact .cons a (RpAll.cut n b)
theorem RpAll.past {H : Hp} : ∀ {vs : List V} {ds : List PyData} (n : Nat), RpAll H vs ds → RpAll H (vs.drop n) (ds.drop n)
  | _, ds, 0, h => h
  | _, [], n + 1, h => by cases h; exact .nil
  | _, d :: ds, n + 1, h => by
    cases h with
    | cons a b => exact RpAll.past n b
/-! what isinstance tells of them -/
def tInt : PyData → Bool | .int _ => true | .bool _ => true | _ => false
def tBool : PyData → Bool | .bool _ => true | _ => false
def tStr : PyData → Bool | .str _ => true | _ => false
def tTuple : PyData → Bool | .tuple _ => true | _ => false
def tList : PyData → Bool | .list _ => true | _ => false
def dInt : PyData → Bool | .int _ => true | _ => false
section
variable {K : PySem.W.Frag} {H : Hp} {Q : VK} {v : V} {d : PyData}
theorem isi_any {n : String} {f : PyData → Bool} (h : Rp H v d) (k1 : PySem.W.kitOne K (.type "NoneType") (.type n) = some (f .none)) (k2 : ∀ b, PySem.W.kitOne K (.type "bool") (.type n) = some (f (.bool b))) (k3 : ∀ i, PySem.W.kitOne K (.type "int") (.type n) = some (f (.int i)))
    (k4 : ∀ z, PySem.W.kitOne K (.type "str") (.type n) = some (f (.str z))) (k5 : ∀ l, PySem.W.kitOne K (.type "list") (.type n) = some (f (.list l))) (k6 : ∀ l, PySem.W.kitOne K (.type "tuple") (.type n) = some (f (.tuple l))) (q : Q (.bl (f d)) H) : rIsi K [v, .ty n] H Q := by
  cases h with
  | non => exact ⟨_, _, _, _, _, rfl, ClsV.ty _, TyX.base TyOf.non, k1, q⟩
  | bl b => exact ⟨_, _, _, _, _, rfl, ClsV.ty _, TyX.base (TyOf.bl _), k2 b, q⟩
  | int i => exact ⟨_, _, _, _, _, rfl, ClsV.ty _, TyX.base (TyOf.int _), k3 i, q⟩
  | str z => exact ⟨_, _, _, _, _, rfl, ClsV.ty _, TyX.base (TyOf.str _), k4 z, q⟩
  | lst e a l n => exact ⟨_, _, _, _, _, rfl, ClsV.ty _, TyX.base (TyOf.lst e), k5 _, q⟩
  | tup e a l => exact ⟨_, _, _, _, _, rfl, ClsV.ty _, TyX.base (TyOf.tup e), k6 _, q⟩
theorem kt {a b : String} {r : Bool} (h : PySem.W.kitOne [] (.type a) (.type b) = some r) (g : ∀ K, PySem.W.kitOne K (.type a) (.type b) = PySem.W.kitOne [] (.type a) (.type b)) : PySem.W.kitOne K (.type a) (.type b) = some r := by rw [g]; exact h
theorem isi_int (h : Rp H v d) (q : Q (.bl (tInt d)) H) : rIsi K [v, .ty "int"] H Q := isi_any (f := tInt) h (kit_ty (r := false) (by decide +kernel)) (fun _ => kit_ty (r := true) (by decide +kernel)) (fun _ => kit_ty (r := true) (by decide +kernel)) (fun _ => kit_ty (r := false) (by decide +kernel)) (fun _ => kit_ty (r := false) (by decide +kernel)) (fun _ => kit_ty (r := false) (by decide +kernel)) q
theorem isi_bool (h : Rp H v d) (q : Q (.bl (tBool d)) H) : rIsi K [v, .ty "bool"] H Q := isi_any (f := tBool) h (kit_ty (r := false) (by decide +kernel)) (fun _ => kit_ty (r := true) (by decide +kernel)) (fun _ => kit_ty (r := false) (by decide +kernel)) (fun _ => kit_ty (r := false) (by decide +kernel)) (fun _ => kit_ty (r := false) (by decide +kernel)) (fun _ => kit_ty (r := false) (by decide +kernel)) q
theorem isi_str (h : Rp H v d) (q : Q (.bl (tStr d)) H) : rIsi K [v, .ty "str"] H Q := isi_any (f := tStr) h (kit_ty (r := false) (by decide +kernel)) (fun _ => kit_ty (r := false) (by decide +kernel)) (fun _ => kit_ty (r := false) (by decide +kernel)) (fun _ => kit_ty (r := true) (by decide +kernel)) (fun _ => kit_ty (r := false) (by decide +kernel)) (fun _ => kit_ty (r := false) (by decide +kernel)) q
theorem isi_tuple (h : Rp H v d) (q : Q (.bl (tTuple d)) H) : rIsi K [v, .ty "tuple"] H Q := isi_any (f := tTuple) h (kit_ty (r := false) (by decide +kernel)) (fun _ => kit_ty (r := false) (by decide +kernel)) (fun _ => kit_ty (r := false) (by decide +kernel)) (fun _ => kit_ty (r := false) (by decide +kernel)) (fun _ => kit_ty (r := false) (by decide +kernel)) (fun _ => kit_ty (r := true) (by decide +kernel)) q
theorem isi_list (h : Rp H v d) (q : Q (.bl (tList d)) H) : rIsi K [v, .ty "list"] H Q := isi_any (f := tList) h (kit_ty (r := false) (by decide +kernel)) (fun _ => kit_ty (r := false) (by decide +kernel)) (fun _ => kit_ty (r := false) (by decide +kernel)) (fun _ => kit_ty (r := false) (by decide +kernel)) (fun _ => kit_ty (r := true) (by decide +kernel)) (fun _ => kit_ty (r := false) (by decide +kernel)) q
end
/-- new objects -/
theorem same_put {H H' : Hp} {d : Addr} {o : HO} (h : H d = none) (s : Same H H') : Same H (upd H' d o) := fun b u e => by rw [upd_ne (ne_of_none e h)]; exact s b u e
theorem newK {H J : Hp} {p : Addr} {o : HO} (e : upd H p o = J) (h : H p = none) : J p = some o ∧ Same H J := by
  subst e
  exact ⟨upd_same, same_put h (Same.refl _)⟩
/-- a walk over a list or a tuple -/
theorem pi_or {X : Cx} {tg l : Expr} {w1 w2 : TI} (h1 : PI X tg l w1) (h2 : PI X tg l w2) : PI X tg l (fun σ H R => w1 σ H R ∨ w2 σ H R) := ⟨fun pins s σ H R I h => h.elim (h1.run pins s σ H R I) (h2.run pins s σ H R I)⟩
/-! ints: the gcd of some, lowest terms -/
def gcdL (ns : List Int) : Int := ((ns.foldl (fun g n => Nat.gcd g n.natAbs) 0 : Nat) : Int)
def lowL (ns : List Int) : List Int := ns.map fun n => n / gcdL ns
end Dt
end SecN1
section SecN2
set_option Elab.async false
set_option linter.all false
set_option maxRecDepth 100000
set_option maxHeartbeats 4000000
namespace Dt
open PySem PySem.Spec PyProof.Rows L2 L2H Err
/-- a def of the text, by its name -/
structure Dn (P : Program) (w : World) (K : PySem.W.Frag) (mg : Str → Option Value) (base : Heap) (CX : CXT) (x : Str) (k : Nat) (ps : List Str) (sp : Sp) : Prop where
  ex : ∃ f fd, FnOk P w K mg base CX k f fd ps sp ∧ mg x = some (.ref f) ∧ PySem.W.keepIn K (.ref f) = true ∧ Binds K fd ps []
section
variable {X : Cx} {x : Str} {k : Nat} {ps : List Str} {sp : Sp} {q pos : Pos} {e : Expr} {es : List Expr} {t : TA}
theorem pe_dn (D : Dn X.prog X.w X.K X.mg X.base CX0 x k ps sp) (hr : Room k X.A) (ha : PA X (e :: es) t) (hg : Gl X x := by rfl) (hdb : (x == ("__debug__" : Str)) = false := by decide)
    (he : starEach (e :: es) X.env = (false, eval e X.env) :: starEach es X.env := by rfl) (hpl : (backTo pos (starEach es X.env)).any (·.1) = false := by rfl) : PE X (.Call (.Name x q) (e :: es) [] pos) (tCall sp [] E0 t) := by
  obtain ⟨f, fd, F, hm, hk, hb⟩ := D.ex
  exact pe_call F hr hg hm hk hb .nil pass0 ha hdb he hpl
end
/-- what stands in H, but for t, stands in H' -/
def Keeps (t : Addr) (H H' : Hp) : Prop := ∀ b o, b ≠ t → H b = some o → H' b = some o
theorem Keeps.refl {t : Addr} {H : Hp} : Keeps t H H := fun _ _ _ h => h
theorem Keeps.trans {t : Addr} {H H1 H2 : Hp} (a : Keeps t H H1) (b : Keeps t H1 H2) : Keeps t H H2 := fun x o n h => b x o n (a x o n h)
theorem Keeps.of {t : Addr} {H H' : Hp} (s : Same H H') : Keeps t H H' := fun b o _ h => s b o h
/-- the tape at t, the script's copy at l -/
structure Tape (t l : Addr) (ns : List Int) (H : Hp) : Prop where
  ex : ∃ a b c : Int, H t = some (.lst [.int a, .int b, .int c, .ref l]) ∧ 0 ≤ c
  sc : H l = some (.lst (ns.map V.int))
theorem Tape.ne {t l : Addr} {ns : List Int} {H : Hp} (T : Tape t l ns H) : l ≠ t := by
  obtain ⟨a, b, c, e, _⟩ := T.ex
  refine ne_of T.sc e fun z => ?_
  have z' := HO.lst.inj z
  match ns, z' with
  | [], z' => cases z'
  | [_], z' => cases z'
  | [_, _], z' => cases z'
  | [_, _, _], z' => cases z'
  | _ :: _ :: _ :: w :: _, z' =>
    simp at z'
theorem Tape.mono {t l : Addr} {ns : List Int} {H H' : Hp} (T : Tape t l ns H) (s : Same H H') : Tape t l ns H' := by
  obtain ⟨a, b, c, e, h⟩ := T.ex
  exact ⟨⟨a, b, c, s _ _ e, h⟩, s _ _ T.sc⟩
/-- a number below m, not below 0; the tape goes on, all else stands -/
def spDraw : Sp := fun vs H Q _ => ∃ (t l : Addr) (ns : List Int) (m : Int), vs = [.ref t, .int m] ∧ Tape t l ns H ∧ ns.length ≤ 63 ∧ 0 < m ∧ m < 1000000 ∧
  ∀ (v : Int) (H' : Hp), 0 ≤ v → v < m → Tape t l ns H' → Keeps t H H' → Q (.int v) H'
/-- x is True, x is False: x anything -/
def rIsT : R2 := fun x y H Q => ∃ b : Bool, y = .bl b ∧ Q (.bl (decide (x = .bl b))) H
def rNotT : R2 := fun x y H Q => ∃ b : Bool, y = .bl b ∧ Q (.bl (!decide (x = .bl b))) H
section
variable {X : Cx}
theorem plain_of {x : V} {v : Value} {b : Bool} (r : RelV x v) : PySem.plainIs v (.bool b) = true ∧ (v = .bool b ↔ x = .bl b) := by
  cases x with
  | non => cases (show v = Value.none from r); exact ⟨rfl, by simp⟩
  | bl c => cases (show v = Value.bool c from r); exact ⟨rfl, by simp⟩
  | int i => obtain ⟨t, e⟩ := (show ∃ t, v = Value.int i t from r); cases e; exact ⟨rfl, by simp⟩
  | str z => obtain ⟨t, e⟩ := (show ∃ t, v = Value.str z t from r); cases e; exact ⟨rfl, by simp⟩
  | byt z => obtain ⟨t, e⟩ := (show ∃ t, v = Value.bytes z t from r); cases e; exact ⟨rfl, by simp⟩
  | flt z => obtain ⟨t, e⟩ := (show ∃ t, v = Value.float z t from r); cases e; exact ⟨rfl, by simp⟩
  | ref a => cases (show v = Value.ref a from r); exact ⟨rfl, by simp⟩
  | ty n => cases (show v = Value.type n from r); exact ⟨rfl, by simp⟩
theorem op_is_bl : OpR X (compareOp .Is) rIsT := by
  intro pins s σ H x y v u Q I rx ry h
  obtain ⟨b, rfl, q⟩ := h
  cases (show u = Value.bool b from ry)
  obtain ⟨h1, h2⟩ := plain_of (b := b) rx
  by_cases e : x = .bl b
  · have ev := h2.mpr e
    subst ev
    rw [decide_eq_true e] at q
    exact wpAny_is_self h1 ⟨.bl true, H, I, rfl, q⟩
  · rw [decide_eq_false e] at q
    exact wpAny_is_other h1 (fun z => e (h2.mp z)) ⟨.bl false, H, I, rfl, q⟩
theorem op_isnot_bl : OpR X (compareOp .IsNot) rNotT := by
  intro pins s σ H x y v u Q I rx ry h
  obtain ⟨b, rfl, q⟩ := h
  cases (show u = Value.bool b from ry)
  obtain ⟨h1, h2⟩ := plain_of (b := b) rx
  by_cases e : x = .bl b
  · have ev := h2.mpr e
    subst ev
    rw [decide_eq_true e] at q
    exact wpAny_isNot_self h1 ⟨.bl false, H, I, rfl, q⟩
  · rw [decide_eq_false e] at q
    exact wpAny_isNot_other h1 (fun z => e (h2.mp z)) ⟨.bl true, H, I, rfl, q⟩
end
/-- __init__ of an error with the fields nm, made at a: its dict is new, or there is none -/
def spI (C : Addr) (nm : List Str) : Sp := fun vs H Q _ => ∃ (a : Addr) (vals : List V), vs = .ref a :: vals ∧ vals.length = nm.length ∧ H a = some (exo a C none) ∧ (nm = [] → Q .non H) ∧
  (nm ≠ [] → ∀ (d : Addr) (H' : Hp), H d = none → d ≠ a → H' a = some (exo a C (some d)) → H' d = some (exd d (nm.zip vals).reverse) → (∀ b o, b ≠ a → H b = some o → H' b = some o) → Q .non H')
/-- a class of errors of the text -/
structure Kl (P : Program) (w : World) (K : PySem.W.Frag) (mg : Str → Option Value) (base : Heap) (x : Str) (C : Addr) (nm : List Str) : Prop where
  ec : Ec K C
  g : mg x = some (.ref C)
  no : ∀ f ∈ nm, PySem.W.findIn K (.ref C) f = some none
  ini : ∃ fI fd, PySem.W.findIn K (.ref C) "__init__" = some (some (.ref fI)) ∧ PySem.W.typeIn K (.ref fI) = some (.type "function") ∧ FnOk P w K mg base CX0 1 fI fd (("self" : Str) :: nm) (spI C nm) ∧ Binds K fd (("self" : Str) :: nm) [] ∧
    ∀ (s : Shared) (u0 : Value) (ws : List Value), K.In s.heap → ws.length = nm.reverse.length → BindsTo s fd ⟨[u0], nm.reverse.zip ws⟩ ((("self" : Str) :: nm).zip (u0 :: ws.reverse))
/-- the error stands, its fields in the sequence of its dict -/
def ErrO (H : Hp) (a C : Addr) (fs : List (Str × V)) : Prop := (fs = [] ∧ H a = some (exo a C none)) ∨ ∃ d, H a = some (exo a C (some d)) ∧ H d = some (exd d fs)
theorem ErrO.mono {H H' : Hp} {a C : Addr} {fs : List (Str × V)} (s : Same H H') (h : ErrO H a C fs) : ErrO H' a C fs := by
  rcases h with ⟨e, h⟩ | ⟨d, h1, h2⟩
  · exact .inl ⟨e, s _ _ h⟩
  · exact .inr ⟨d, s _ _ h1, s _ _ h2⟩
section
variable {X : Cx} {x : Str} {C : Addr} {nm : List Str} {p pos pos2 : Pos} {e : Expr} {es : List Expr} {ta : TA}
theorem pe_new (L : Kl X.prog X.w X.K X.mg X.base x C nm) (hr : Room 2 X.A) (ha : PA X (e :: es) ta) (hg : Gl X x := by rfl) (hdb : (x == ("__debug__" : Str)) = false := by decide)
    (he : starEach (e :: es) X.env = (false, eval e X.env) :: starEach es X.env := by rfl) (hpl : (backTo pos (starEach es X.env)).any (·.1) = false := by rfl) : PE X (.Call (.Name x p) (e :: es) [] pos) (tMkV C (spI C nm) ta) := by
  obtain ⟨fI, fd, iC, tI, F1, hb, _⟩ := L.ini
  exact pe_mkv L.ec.oex iC tI F1 hr hb pass0 hg L.g ha hdb he hpl
theorem pe_new0 (L : Kl X.prog X.w X.K X.mg X.base x C nm) (hr : Room 2 X.A) (hg : Gl X x := by rfl) (hdb : (x == ("__debug__" : Str)) = false := by decide) : PE X (.Call (.Name x p) [] [] pos) (tMkV C (spI C nm) tNil) := by
  obtain ⟨fI, fd, iC, tI, F1, hb, _⟩ := L.ini
  exact pe_mkv0 L.ec.oex iC tI F1 hr hb pass0 hg L.g hdb
theorem pe_newK {kws : List Keyword} {tk : TA} (L : Kl X.prog X.w X.K X.mg X.base x C nm) (hr : Room 2 X.A) (hkw : PK X kws tk) (hks : (backToKw pos (keywordEach kws X.env)).filterMap (·.1) = nm.reverse := by rfl) (hg : Gl X x := by rfl)
    (hdb : (x == ("__debug__" : Str)) = false := by decide) (hall : (backToKw pos (keywordEach kws X.env)).all (·.1.isSome) = true := by rfl)
    (hpl : ((backTo pos (starEach [] X.env)).any (·.1) || (backToKw pos (keywordEach kws X.env)).any (·.1.isNone)) = false := by rfl) : PE X (.Call (.Name x p) [] kws pos) (tMkVK C (spI C nm) List.reverse nm.reverse.length tk) := by
  obtain ⟨fI, fd, iC, tI, F1, hb, hk⟩ := L.ini
  exact pe_mkvK (g := List.reverse) (gV := List.reverse) (ks := nm.reverse) L.ec.oex iC tI F1 hr hk (fun {zs ws} _ r => by
    have go : ∀ {as : List V} {bs : List Value}, Vals as bs → Vals as.reverse bs.reverse := by
      intro as bs h
      induction h with
      | nil => exact .nil
      | cons a t ih =>
        rw [List.reverse_cons, List.reverse_cons]
        exact ih.append (.cons a .nil)
    exact go r) pass0 hg L.g hkw hall hks hdb hpl
theorem ps_rse (E : XK) (L : Kl X.prog X.w X.K X.mg X.base x C nm) (hc : X.calm = true) (hr : Room 2 X.A) (tk : L2N.Takes X (fun cls d _ H => E cls d H)) (ha : PA X (e :: es) ta) (hg : Gl X x := by rfl) (hdb : (x == ("__debug__" : Str)) = false := by decide)
    (he : starEach (e :: es) X.env = (false, eval e X.env) :: starEach es X.env := by rfl) (hpl : (backTo pos (starEach es X.env)).any (·.1) = false := by rfl) : PS X (.Raise (some (.Call (.Name x p) (e :: es) [] pos)) none pos2) (fun _ σ H => tMkO C (spI C nm) [] ta σ H fun cls d H' => E cls d H') := by
  obtain ⟨fI, fd, iC, tI, F1, hb, _⟩ := L.ini
  exact L2N.ps_raise hc tk (pmk_n L.ec.oex iC tI F1 hr hb pass0 hg L.g ha hdb he hpl)
theorem ps_rse0 (E : XK) (L : Kl X.prog X.w X.K X.mg X.base x C nm) (hc : X.calm = true) (hr : Room 2 X.A) (tk : L2N.Takes X (fun cls d _ H => E cls d H)) (hg : Gl X x := by rfl) (hdb : (x == ("__debug__" : Str)) = false := by decide) :
    PS X (.Raise (some (.Call (.Name x p) [] [] pos)) none pos2) (fun _ σ H => tMkO0 C (spI C nm) σ H fun cls d H' => E cls d H') := by
  obtain ⟨fI, fd, iC, tI, F1, hb, _⟩ := L.ini
  exact L2N.ps_raise hc tk (pmk_n0 L.ec.oex iC tI F1 hr hb pass0 hg L.g hdb)
end
/-- what the making of an error reads -/
theorem made_end {C : Addr} {nm : List Str} {vs : List V} {H : Hp} {Q : VK} (hl : vs.length = nm.length) (h1 : vs.length ≤ 1000) (q : ∀ (a : Addr) (H' : Hp), H a = none → ErrO H' a C (nm.zip vs).reverse → Same H H' → Q (.ref a) H') :
    vs.length ≤ 1000 ∧ ∀ a, H a = none → spI C nm (.ref a :: vs) (upd H a (exo a C none)) (fun v H2 => v = .non ∧ Q (.ref a) H2) (fun _ _ _ => False) := by
  refine ⟨h1, fun a na => ⟨a, vs, rfl, hl, upd_same, fun e => ⟨rfl, ?_⟩, fun ne d H' nd nda e1 e2 k => ⟨rfl, ?_⟩⟩⟩
  · subst e
    exact q a _ na (.inl ⟨rfl, upd_same⟩) (same_put na (Same.refl _))
  · refine q a H' na (.inr ⟨d, e1, e2⟩) fun b o e => ?_
    have nb : b ≠ a := ne_of_none e na
    exact k b o nb (by rw [upd_ne nb]; exact e)
/-- what the raising of an error reads -/
theorem raised_end {C : Addr} {nm : List Str} {vs : List V} {H : Hp} {E : XK} (hl : vs.length = nm.length) (h1 : vs.length ≤ 1000) (hn : nm ≠ []) (q : ∀ (d : Addr) (H' : Hp), H' d = some (.xd (nm.zip vs).reverse) → Same H H' → E (.ref C) (some d) H') :
    vs.length ≤ 1000 ∧ ∀ a, H a = none → spI C nm (.ref a :: (vs ++ [])) (upd H a (exo a C none)) (fun v H2 => v = .non ∧ ∃ (d : Addr) (fs : List (Str × V)), H2 a = some (exo a C (some d)) ∧ H2 d = some (exd d fs) ∧ H d = none ∧ E (.ref C) (some d) (upd (del H2 a) d (.xd fs))) (fun _ _ _ => False) := by
  refine ⟨h1, fun a na => ⟨a, vs ++ [], rfl, by rw [List.append_nil]; exact hl, upd_same, fun e => absurd e hn, fun ne d H' nd nda e1 e2 k => ?_⟩⟩
  rw [List.append_nil] at e2
  have nd0 : H d = none := by
    rw [upd_ne nda] at nd
    exact nd
  refine ⟨rfl, d, _, e1, e2, nd0, q d _ upd_same fun b o e => ?_⟩
  have nb : b ≠ a := ne_of_none e na
  rw [upd_ne (ne_of_none e nd0), del_ne nb]
  exact k b o nb (by rw [upd_ne nb]; exact e)
/-- the error at a, tracked or held fast -/
def EAt (pl : List (Addr × Obj)) (H : Hp) (a C : Addr) (d : Option Addr) : Prop := H a = some (exo a C d) ∨ ∃ oe, (a, oe) ∈ pl ∧ Zc (.ref C) d oe ∧ ∃ vs, oe.data = .fields vs
def ErrX (pl : List (Addr × Obj)) (H : Hp) (a C : Addr) (fs : List (Str × V)) : Prop := (fs = [] ∧ EAt pl H a C none) ∨ ∃ d, EAt pl H a C (some d) ∧ Dk H d fs
theorem ErrO.x {pl : List (Addr × Obj)} {H : Hp} {a C : Addr} {fs : List (Str × V)} (h : ErrO H a C fs) : ErrX pl H a C fs := by
  rcases h with ⟨e, h⟩ | ⟨d, h1, h2⟩
  · exact .inl ⟨e, .inl h⟩
  · exact .inr ⟨d, .inl h1, .inr h2⟩
theorem EAt.mono {pl : List (Addr × Obj)} {H H' : Hp} {a C : Addr} {d : Option Addr} (s : Same H H') (h : EAt pl H a C d) : EAt pl H' a C d := by
  rcases h with h | h
  · exact .inl (s _ _ h)
  · exact .inr h
theorem ErrX.mono {pl : List (Addr × Obj)} {H H' : Hp} {a C : Addr} {fs : List (Str × V)} (s : Same H H') (h : ErrX pl H a C fs) : ErrX pl H' a C fs := by
  rcases h with ⟨e, h⟩ | ⟨d, h1, h2⟩
  · exact .inl ⟨e, h.mono s⟩
  · exact .inr ⟨d, h1.mono s, h2.mono s⟩
theorem EAt.seen {X : Cx} {H : Hp} {a C : Addr} {d : Option Addr} (h : EAt X.pn H a C d) : Seen X H a C d := by
  rcases h with h | ⟨oe, m, z, f⟩
  · exact seen_exo h
  · exact seen_pin m z f
section
variable {P : Program} {w : World} {K : PySem.W.Frag} {mg : Str → Option Value} {base : Heap}
/-- a def that may raise where nothing is handled -/
theorem okN {x qual : Str} {st : Stmt} {f : Addr} {fd : FuncData} {N ps : List Str} {k : Nat} {sp : Sp} (F : Fun K x qual st f fd) (S : FnScope N ps (defScope st)) (len : ∀ vs H Q E, sp vs H Q E → vs.length = ps.length)
    (body : ∀ (cdv : Value) (A : Around) (outer : List Env) (s : Shared) (H : Hp) (vs : List V) (Q : VK) (E : XK), Room k (A.deeper (envOfC qual (defScope st) s.heap.objs.size f cdv)) → sp vs H Q E →
      ∃ t, PSs (cxOf (L2N.CX P w) P w K mg base N qual (defScope st) f cdv A outer s H E) (defBody st) t ∧ t { nx := fun _ H' => Q .non H', rt := Q } (L2.start N vs) H) : FnOk P w K mg base (L2N.CX P w) (k + 1) f fd ps sp := by
  obtain ⟨oc, od, kV, doc, pm, an, cdv, ct, osl, rfl, lk, hcd⟩ := F.ex
  exact fn_of lk hcd S len fun A outer s H vs Q E hr h => body cdv A outer s H vs Q E hr h
theorem fld_of {pl : List (Addr × Obj)} {H : Hp} {a C : Addr} {p : Str × V} {r : List (Str × V)} (h : ErrX pl H a C (p :: r)) : ∃ d, EAt pl H a C (some d) ∧ Dk H d (p :: r) := by
  rcases h with ⟨e, _⟩ | h
  · cases e
  · exact h
end
/-- a def of the text that may be called in both moods -/
structure Dm (P : Program) (w : World) (K : PySem.W.Frag) (mg : Str → Option Value) (base : Heap) (x : Str) (k : Nat) (ps : List Str) (sp : List (Addr × Obj) → Sp) : Prop where
  ex : ∃ f fd, FnB P w K mg base k f fd ps sp ∧ mg x = some (.ref f) ∧ PySem.W.keepIn K (.ref f) = true ∧ Binds K fd ps []
theorem Dm.dn {P : Program} {w : World} {K : PySem.W.Frag} {mg : Str → Option Value} {base : Heap} {x : Str} {k : Nat} {ps : List Str} {sp : List (Addr × Obj) → Sp} (D : Dm P w K mg base x k ps sp) : Dn P w K mg base CX0 x k ps (fun vs H Q _ => sp [] vs H Q E0) := by
  obtain ⟨f, fd, F, r⟩ := D.ex
  exact ⟨f, fd, F.ok, r⟩
theorem MoodC.blk {X : Cx} {b : Bool} {pl : List (Addr × Obj)} (m : MoodC X b pl) (s : Shared) (H : Hp) (sc : Scope) (ce : Env) (fp : List Addr) : MoodC (blq X s H sc ce fp pl) b pl := by
  cases m with
  | calm h => exact .calm h
  | hot p h m => exact .hot p h List.mem_cons_self
section
variable {X : Cx} {x : Str} {k : Nat} {ps : List Str} {sp : List (Addr × Obj) → Sp} {b : Bool} {pl : List (Addr × Obj)} {q pos : Pos} {e : Expr} {es : List Expr} {t : TA}
theorem pe_cls {C : Addr} (hm : X.mg x = some (.ref C)) (hg : Gl X x := by rfl) (hd : (x == ("__debug__" : Str)) = false := by decide) : PE X (.Name x q) (tC (.ref C)) := pe_glob (v := .ref C) hg hm rfl hd
theorem pe_dm (D : Dm X.prog X.w X.K X.mg X.base x k ps sp) (hr : RoomH k X.A) (mc : MoodC X b pl) (ha : PA X (e :: es) t) (hg : Gl X x := by rfl) (hdb : (x == ("__debug__" : Str)) = false := by decide)
    (he : starEach (e :: es) X.env = (false, eval e X.env) :: starEach es X.env := by rfl) (hpl : (backTo pos (starEach es X.env)).any (·.1) = false := by rfl) : PE X (.Call (.Name x q) (e :: es) [] pos) (tCallB sp pl t) := by
  obtain ⟨f, fd, F, hm, hk, hb⟩ := D.ex
  exact pe_cB F hr mc hg hm hk hb ha hdb he hpl
/-- a list made over a range, in both moods -/
theorem pe_lcM {el tg n : Expr} {ifs : List Expr} {sc : Scope} {own : List (Str × Nat)} {pos p2 p3 : Pos} {ta : TA} {g : TG} {tt : TT} {te : TE} (mc : MoodC X b pl) (hN : X.N.Nodup) (hgl : Gl X "range") (hm : X.mg "range" = none) (ha : PA X [n] ta) (ok : BlkOk X.N X.env.scope sc own)
    (hg : ∀ s H C cl fp, PG (blq X s H sc (compEnvC sc cl C X.env) fp pl) tg g) (ht : ∀ s H C cl fp, PTs (blq X s H sc (compEnvC sc cl C X.env) fp pl) ifs tt) (he : ∀ s H C cl fp, PE (blq X s H sc (compEnvC sc cl C X.env) fp pl) el te)
    (hn : starEach [n] X.env = [(false, eval n X.env)] := by rfl) (hs : ∀ x, foldedSetIterable (.Call (.Name "range" p2) [n] [] p3) X.env x = pure x := by intro _; rfl) :
    PE X (.ListComp el [⟨tg, .Call (.Name "range" p2) [n] [] p3, ifs, 0⟩] sc pos) (tLc (iRng1 ta) g tt te (own.map (·.2))) := by
  cases mc with
  | calm h => exact pe_lc h hN (pi_range1 hgl hm ha hn) ok hg ht he hs
  | hot p h m => exact lcH p h m hN (pi_range1H hgl hm ha hn) ok hg ht he hs
end
theorem hu2 {k : Nat} {A : Around} (r : RoomH k A) : A.units + 64 < cLine := by
  have := r.un
  omega
theorem isA_of {X : Cx} {a : Addr} {C : Addr} {fs : List (Str × V)} {H : Hp} {c : V} {cv : Value} {b : Bool} {Q : VK} (T : Ec X.K C) (h : ErrX X.pn H a C fs) (hc : ClsV c cv) (k : PySem.W.kitOne X.K (.ref C) cv = some b) (q : Q (.bl b) H) : rIsA X [.ref a, c] H Q := by
  rcases h with ⟨_, h⟩ | ⟨d, h, hd⟩
  · exact ⟨a, C, none, c, cv, b, rfl, hc, T, h.seen, (fun dd e => by cases e), k, q⟩
  · exact ⟨a, C, some d, c, cv, b, rfl, hc, T, h.seen, (fun dd e => by cases e; exact ⟨fs, hd⟩), k, q⟩
/-- a suite that knows the error it holds -/
def tsAll (cls : Value) (d : Option Addr) (t : Obj → List (Addr × Obj) → TS) : TS := fun D σ H => ∀ (oe : Obj) (pn : List (Addr × Obj)), L2N.Zn cls d oe → (∃ vs, oe.data = .fields vs) → t oe pn D σ H
theorem pss_all {X : Cx} {ss : List Stmt} {cls : Value} {d : Option Addr} {t : Obj → List (Addr × Obj) → TS} {oe : Obj} {pn : List (Addr × Obj)} (hz : L2N.Zn cls d oe) (hf : ∃ vs, oe.data = .fields vs) (h : PSs X ss (t oe pn)) : PSs X ss (tsAll cls d t) :=
  ⟨fun pins s σ H D I q => h.run pins s σ H D I (q oe pn hz hf)⟩
theorem mood_suite {X : Cx} {a : Addr} {oe : Obj} {cls : Value} {d : Option Addr} {pn : List (Addr × Obj)} (hz : L2N.Zn cls d oe) (hf : ∃ vs, oe.data = .fields vs) : MoodC (X.suite a ((a, oe) :: pn)) false [(a, oe)] := by
  obtain ⟨vs, hv⟩ := hf
  exact .hot (a, oe) ⟨rfl, vs, hv, hz.2.2 vs hv⟩ List.mem_cons_self
theorem takes0N {X : Cx} : L2N.Takes X (fun _ _ _ _ => False) := fun _ _ x => by
  obtain ⟨_, _, _, _, _, _, _, _, _, _, _, _, _, _, _, _, w⟩ := x
  exact w.elim
section
variable {X : Cx} {x : Str} {k : Nat} {ps : List Str} {sp : Sp} {q pos : Pos} {e : Expr} {es : List Expr} {t : TA}
theorem pe_dnS {W : WX} (D : Dn X.prog X.w X.K X.mg X.base (L2N.CX X.prog X.w) x k ps sp) (hr : Room k X.A) (tk : L2N.Takes X W) (ha : PA X (e :: es) t) (hg : Gl X x := by rfl) (hdb : (x == ("__debug__" : Str)) = false := by decide)
    (he : starEach (e :: es) X.env = (false, eval e X.env) :: starEach es X.env := by rfl) (hpl : (backTo pos (starEach es X.env)).any (·.1) = false := by rfl) : PE X (.Call (.Name x q) (e :: es) [] pos) (tCallS sp (WE W) t) := by
  obtain ⟨f, fd, F, hm, hk, hb⟩ := D.ex
  exact pe_callS F hr hg hm hk hb (fun σ => L2N.passAt tk σ) ha hdb he hpl
end
theorem roomH_mk {k : Nat} {A : Around} (r : Room k A) (h : Option Value) : RoomH k (A.mark h) := ⟨r.dp, r.un⟩
theorem Tape.some {t l : Addr} {ns : List Int} {H : Hp} (T : Tape t l ns H) : ∃ o, H t = some o := by
  obtain ⟨a, b, c, e, _⟩ := T.ex
  exact ⟨_, e⟩
theorem ne_new {H : Hp} {a d : Addr} (h : ∃ o, H a = some o) (n : H d = none) : d ≠ a := fun z => by
  obtain ⟨o, ho⟩ := h
  rw [z, ho] at n
  cases n
theorem Tape.put {t l d : Addr} {ns : List Int} {H : Hp} {o : HO} (T : Tape t l ns H) (n1 : d ≠ t) (n2 : d ≠ l) : Tape t l ns (upd H d o) := by
  obtain ⟨a, b, c, e, h⟩ := T.ex
  exact ⟨⟨a, b, c, by rw [upd_ne n1.symm]; exact e, h⟩, by rw [upd_ne n2.symm]; exact T.sc⟩
theorem keeps_put {t d : Addr} {H H' : Hp} {o : HO} (h : H d = none) (k : Keeps t H H') : Keeps t H (upd H' d o) := fun b u n e => by
  rw [upd_ne (ne_of_none e h)]
  exact k b u n e
end Dt
end SecN2
section SecN3
set_option Elab.async false
set_option linter.all false
set_option maxRecDepth 100000
namespace Rd
open PySem PySem.Spec PyProof.Rows L2 L2H Err Dt
section
variable {D : Ends} {σ : L2.St} {H H' : Hp} {Q : VK} {C : Addr} {sp : Sp} {ta : TA} {te : TE} {gV : List V → List V} {n : Nat} {E : XK} {E' : L2.St → XK} {K : PySem.W.Frag} {p : Addr} {xs : List V} {b : Bool} {x : V}
theorem isT {b : Bool} (q : Q (.bl (decide (x = .bl b))) H) : Dt.rIsT x (.bl b) H Q := ⟨b, rfl, q⟩
theorem isnT {b : Bool} (q : Q (.bl (!decide (x = .bl b))) H) : Dt.rNotT x (.bl b) H Q := ⟨b, rfl, q⟩
theorem mkv (q : ta σ H fun vs H1 => vs.length ≤ 1000 ∧ ∀ a, H1 a = none → sp (.ref a :: vs) (upd H1 a (exo a C none)) (fun v H2 => v = .non ∧ Q (.ref a) H2) (fun _ _ _ => False)) : tMkV C sp ta σ H Q := q
theorem mko {dvs : List V} (q : ta σ H fun vs H1 => vs.length ≤ 1000 ∧ ∀ a, H1 a = none → sp (.ref a :: (vs ++ dvs)) (upd H1 a (exo a C none))
  (fun v H2 => v = .non ∧ ∃ (d : Addr) (fs : List (Str × V)), H2 a = some (exo a C (some d)) ∧ H2 d = some (exd d fs) ∧ H1 d = none ∧ E (.ref C) (some d) (upd (del H2 a) d (.xd fs))) (fun _ _ _ => False)) : tMkO C sp dvs ta σ H E := q
theorem callB {sp : List (Addr × Obj) → Sp} {pl : List (Addr × Obj)} (q : ta σ H fun vs H1 => sp pl vs H1 Q E0) : tCallB sp pl ta σ H Q := q
theorem callS (q : ta σ H fun vs H1 => sp vs H1 Q (E' σ)) : tCallS sp E' ta σ H Q := q
theorem bm {T : String} {r : V → List V → Hp → VK → Prop} (q : te σ H fun x H1 => tyV K T x H1 ∧ ta σ H1 fun xs H2 => r x xs H2 Q) : tBM K T r te ta σ H Q := q
theorem itl {R : It → Hp → Prop} (q : te σ H fun x H1 => ∃ a, x = .ref a ∧ (∃ xs, SqL K H1 a xs) ∧ R (Itl K a) H1) : iList K te σ H R := q
theorem itt {R : It → Hp → Prop} (q : te σ H fun x H1 => ∃ a, x = .ref a ∧ (∃ xs, SqT K H1 a xs) ∧ R (Itt K a) H1) : iTup K te σ H R := q
theorem app {y : V} (h : H p = some (.lst xs)) (hl : xs.length < sizeLine) (q : Q .non (upd H p (.lst (xs ++ [y])))) : rAppend (.ref p) [y] H Q := ⟨p, xs, y, rfl, rfl, h, hl, q⟩
/-- new objects -/
theorem tupN (q : ta σ H fun xs H1 => xs.length ≤ sizeLine ∧ ∀ p H2, H2 p = some (.tup xs) → Same H1 H2 → H1 p = none → Q (.ref p) H2) (mono : ∀ {R R' : List V → Hp → Prop}, (∀ xs H, R xs H → R' xs H) → ta σ H R → ta σ H R') : tTup ta σ H Q :=
  mono (fun xs H1 h => ⟨h.1, fun p n => h.2 p _ upd_same (same_put n (Same.refl _)) n⟩) q
theorem newT (hl : xs.length ≤ sizeLine) (q : ∀ p H2, H2 p = some (.tup xs) → Same H H2 → H p = none → Q (.ref p) H2) : xs.length ≤ sizeLine ∧ ∀ p, H p = none → Q (.ref p) (upd H p (.tup xs)) :=
  ⟨hl, fun p n => q p _ upd_same (same_put n (Same.refl _)) n⟩
theorem newL (hl : xs.length ≤ sizeLine) (q : ∀ p H2, H2 p = some (.lst xs) → Same H H2 → H p = none → Q (.ref p) H2) : xs.length ≤ sizeLine ∧ ∀ p, H p = none → Q (.ref p) (upd H p (.lst xs)) :=
  ⟨hl, fun p n => q p _ upd_same (same_put n (Same.refl _)) n⟩
theorem at_to {o : HO} (s : Same H H') (e : H p = some o) : H' p = some o := s _ _ e
theorem len_le {α : Type} {l : List α} {n : Nat} (h : l.length = n) (k : n ≤ 1000) : l.length ≤ sizeLine := by rw [sizeLine_eq]; omega
end
end Rd
end SecN3
section SecN4
set_option Elab.async false
set_option linter.all false
set_option maxRecDepth 100000
namespace Dt
open PySem PySem.Spec PyProof.Rows L2 L2H Err
theorem Keeps.sam {t l : Addr} {ns : List Int} {H H' : Hp} (T : Tape t l ns H) (k : Keeps t H H') : Sam H H' := fun b o n e => by
  refine k b o (fun z => ?_) e
  obtain ⟨x, y, c, e2, _⟩ := T.ex
  rw [z, e2] at e
  cases e
  exact n _ _ _ _ rfl
theorem at_sam {H H' : Hp} {p : Addr} {o : HO} (n : NotTape o) (s : Sam H H') (e : H p = some o) : H' p = some o := s _ _ n e
/-- a number below m, not below 0; the tape goes on, all else stands -/
def spDr : Sp := fun vs H Q _ => ∃ (t l : Addr) (ns : List Int) (m : Int), vs = [.ref t, .int m] ∧ Tape t l ns H ∧ ns.length ≤ 63 ∧ 0 < m ∧ m < 1073741824 ∧
  ∀ (v : Int) (H' : Hp), 0 ≤ v → v < m → Tape t l ns H' → Sam H H' → Q (.int v) H'
/-- the tape stands at t, the script's copy at l -/
def Tq (t l : Addr) (H : Hp) : Prop := ∃ ns, Tape t l ns H ∧ ns.length ≤ 63
theorem Tq.to {t l : Addr} {H H' : Hp} (s : Same H H') (h : Tq t l H) : Tq t l H' := by
  obtain ⟨ns, T, k⟩ := h
  exact ⟨ns, T.mono s, k⟩
theorem Tq.ne {t l d : Addr} {H : Hp} (h : Tq t l H) (n : H d = none) : d ≠ t ∧ d ≠ l := by
  obtain ⟨ns, T, k⟩ := h
  obtain ⟨a, b, c, e, _⟩ := T.ex
  exact ⟨fun z => (by rw [z, e] at n; cases n), fun z => (by rw [z, T.sc] at n; cases n)⟩
theorem Tq.put {t l d : Addr} {H : Hp} {o : HO} (h : Tq t l H) (n : d ≠ t ∧ d ≠ l) : Tq t l (upd H d o) := by
  obtain ⟨ns, T, k⟩ := h
  exact ⟨ns, T.put n.1 n.2, k⟩
theorem sam_put {H H' : Hp} {d : Addr} {o : HO} (h : H d = none) (s : Sam H H') : Sam H (upd H' d o) := fun b u n e => by rw [upd_ne (ne_of_none e h)]; exact s b u n e
theorem yes_if {σ : L2.St} {H : Hp} {B : Hp → Prop} {C : Hp → Prop} (h : B H) : tYes σ H fun b H3 => if b = true then B H3 else C H3 := by
  show (if true = true then B H else C H)
  rw [if_pos rfl]
  exact h
/-- a list made of a list of ints -/
theorem lc_ints {K : PySem.W.Frag} {a d : Addr} {ns : List Int} {H0 : Hp} {B : Hp → Prop} {te : TE} {j : Nat} {σ : L2.St} {vs : List Nat} (f : Int → Int) (hd : H0 d = none) (he : H0 a = some (.lst (ns.map V.int))) (hl : ns.length ≤ 1000)
    (step : ∀ (n : Int) (H' : Hp) (R : VK), Same H0 H' → R (.int (f n)) H' → wipe ((wipe σ vs).set j (some (.int n))) vs = wipe σ vs ∧ te ((wipe σ vs).set j (some (.int n))) H' R)
    (k : ∀ (H' : Hp), H' d = some (.lst ((ns.map f).map V.int)) → Same H0 H' → B H') :
    ∃ W : Nat → Nat → Hp → Prop, (∃ m, W 0 m (upd H0 d (.lst []))) ∧ ∀ i m H, W i m H →
      ((Itl K a).stop i H ∧ B H) ∨ ((Itl K a).go i H ∧ ∃ Nx : Hp → Prop, (∀ H', Nx H' → ∃ m', m' < m ∧ W (i + 1) m' H') ∧ ∀ x H', (Itl K a).yld i H x H' → gName j x (wipe σ vs) H' fun σ2 H2 => wipe σ2 vs = wipe σ vs ∧ tYes σ2 H2 fun b H3 =>
        if b = true then te σ2 H3 fun y H4 => ∃ acc, H4 d = some (.lst acc) ∧ acc.length < sizeLine ∧ Nx (upd H4 d (.lst (acc ++ [y]))) else Nx H3) := by
  refine lc_list (K := K) (a := a) (xs := ns.map V.int) (fun i H3 => H3 d = some (.lst (((ns.take i).map f).map V.int)) ∧ Same H0 H3) ⟨upd_same, same_put hd (Same.refl _)⟩ (fun i H3 _ ⟨_, s3⟩ => SqL.of (s3 _ _ he)) ?_ ?_
  · rintro i x H3 hx ⟨e3, s3⟩
    rw [List.getElem?_map] at hx
    cases hn : ns[i]? with
    | none => rw [hn] at hx; cases hx
    | some n =>
      rw [hn] at hx
      cases hx
      obtain ⟨h1, h2⟩ := step n H3 (fun y H4 => ∃ acc, H4 d = some (.lst acc) ∧ acc.length < sizeLine ∧ (upd H4 d (.lst (acc ++ [y]))) d = some (.lst (((ns.take (i + 1)).map f).map V.int)) ∧ Same H0 (upd H4 d (.lst (acc ++ [y])))) s3
        ⟨_, e3, by rw [List.length_map, List.length_map, List.length_take, sizeLine_eq]; omega, by rw [upd_same, List.take_succ, hn, List.map_append, List.map_append]; rfl, same_put hd s3⟩
      exact ⟨h1, yes_if h2⟩
  · rintro H4 ⟨e4, s4⟩
    rw [List.length_map, List.take_length] at e4
    exact k H4 e4 s4
theorem nt_ints {ns : List Int} : NotTape (.lst (ns.map V.int)) := fun a b c l z => by
  match ns, z with
  | [], z => cases z
  | [_], z => cases z
  | [_, _], z => cases z
  | [_, _, _], z => cases z
  | _ :: _ :: _ :: _ :: _, z => simp at z
theorem cut_ints {ns : List Int} (lo hi : Option Int) : ∃ ms : List Int, cutV (ns.map V.int) lo hi = ms.map V.int ∧ ms = (ns.drop (HT.sIx ns.length 0 lo)).take (HT.sIx ns.length ns.length hi - HT.sIx ns.length 0 lo) :=
  ⟨_, by unfold cutV; rw [List.length_map, ← List.map_drop, ← List.map_take], rfl⟩
/-- a def of the text that is called by names, in the other sequence -/
structure Dk (P : Program) (w : World) (K : PySem.W.Frag) (mg : Str → Option Value) (base : Heap) (CX : CXT) (x : Str) (k : Nat) (ps : List Str) (sp : Sp) : Prop where
  ex : ∃ f fd, FnOk P w K mg base CX k f fd ps sp ∧ mg x = some (.ref f) ∧ PySem.W.keepIn K (.ref f) = true ∧ ∀ (s : Shared) (ws : List Value), K.In s.heap → ws.length = ps.length → BindsTo s fd ⟨[], ps.reverse.zip ws⟩ (ps.zip ws.reverse)
def tCallR (sp : Sp) (n : Nat) (tk : TA) : TE := fun σ H Q => tk σ H fun zs H1 => zs.length = n ∧ sp zs.reverse H1 Q E0
theorem vals_rev : ∀ {as : List V} {bs : List Value}, Vals as bs → Vals as.reverse bs.reverse := by
  intro as bs h
  induction h with
  | nil => exact .nil
  | cons a t ih =>
    rw [List.reverse_cons, List.reverse_cons]
    exact ih.append (.cons a .nil)
theorem passN0' {X : Cx} : Passes (L2N.CX X.prog X.w) X E0 := fun _ _ _ _ _ _ _ c => by
  obtain ⟨_, _, _, _, _, _, _, _, _, _, _, _, h⟩ := c
  exact (show False from h).elim
theorem pe_dnKx {X : Cx} {CX : CXT} {x : Str} {k : Nat} {ps : List Str} {sp : Sp} {q pos : Pos} {kws : List Keyword} {tk : TA} (D : Dk X.prog X.w X.K X.mg X.base CX x k ps sp) (hr : Room k X.A) (hx : Passes CX X E0) (hkw : PK X kws tk) (hg : Gl X x := by rfl)
    (hks : (backToKw pos (keywordEach kws X.env)).filterMap (·.1) = ps.reverse := by rfl) (hall : (backToKw pos (keywordEach kws X.env)).all (·.1.isSome) = true := by rfl) (hdb : (x == ("__debug__" : Str)) = false := by decide)
    (hpl : ((backTo pos (starEach [] X.env)).any (·.1) || (backToKw pos (keywordEach kws X.env)).any (·.1.isNone)) = false := by rfl) : PE X (.Call (.Name x q) [] kws pos) (tCallR sp ps.length tk) := by
  obtain ⟨f, fd, F, hm, hk, hb⟩ := D.ex
  refine ⟨fun pins s σ H Q I h => wpAny_Call_Name_kw (ld_glob I hg hm ?_ hdb)⟩
  refine PySem.W.callWith_KW0 (h₀ := X.base) I.ok.mod.kin hk hall (thn (hkw.run pos pins s σ H _ I h) fun ws s2 ⟨zs, H2, I2, rz, lz, q2⟩ => ⟨I2.kIn, ?_⟩) hpl
  rw [hks]
  have lw : ws.length = ps.length := by rw [← Paired.length rz]; exact lz
  refine wpAny_call (codeAny_mono (F.run X.A X.stack s2 H2 ⟨[], ps.reverse.zip ws⟩ ws.reverse zs.reverse Q E0 hr I2.env0 (hb s2 ws I2.kIn lw) (vals_rev rz) q2) fun r s' hq => ?_)
  cases r with
  | error e => exact hx pins σ H2 s2 e s' I2 hq
  | ok fl =>
    cases fl with
    | ret u => exact I2.after hq
    | next => exact hq.elim
    | brk => exact hq.elim
    | cont => exact hq.elim
end Dt
namespace Rd
open PySem PySem.Spec PyProof.Rows L2 L2H Err Dt
section
variable {σ : L2.St} {H : Hp} {K : PySem.W.Frag} {p q : Addr} {xs ys : List V} {v : V} {vs : List V} {n : Nat} {t : TG} {u : TGs} {Q : L2.St → Hp → Prop} {QV : VK}
theorem callR {sp : Sp} {n : Nat} {tk : TA} {QV : VK} (k : tk σ H fun zs H1 => zs.length = n ∧ sp zs.reverse H1 QV E0) : tCallR sp n tk σ H QV := k
theorem tupOf {K : PySem.W.Frag} {QV : VK} (hp : H p = some (.lst xs)) (k : ∀ q J, J q = some (.tup xs) → Same H J → H q = none → QV (.ref q) J) :
    ∃ p' ys, [V.ref p] = [V.ref p'] ∧ ((SqL K H p' ys ∧ ∀ l, H l = none → QV (.ref l) (upd H l (.tup ys))) ∨ (SqT K H p' ys ∧ QV (.ref p') H)) :=
  ⟨p, xs, rfl, .inl ⟨SqL.of hp, fun l n => k l _ upd_same (same_put n (Same.refl _)) n⟩⟩
theorem lstOf {K : PySem.W.Frag} {QV : VK} (hp : H p = some (.lst xs)) (k : ∀ q J, J q = some (.lst xs) → Same H J → H q = none → QV (.ref q) J) :
    ∃ p' ys, [V.ref p] = [V.ref p'] ∧ (SqL K H p' ys ∨ SqT K H p' ys) ∧ ∀ l, H l = none → QV (.ref l) (upd H l (.lst ys)) :=
  ⟨p, xs, rfl, .inl (SqL.of hp), fun l n => k l _ upd_same (same_put n (Same.refl _)) n⟩
theorem brk {D : Ends} (k : D.bk σ H) : tBreak D σ H := k
theorem bits {te : TE} {QV : VK} (k : te σ H fun x H1 => ∃ i, x = .int i ∧ QV (.int (Builtin.Int.intBits i : Nat)) H1) : tBits te σ H QV := k
theorem max2 {a b : Int} {QV : VK} (k : QV (.int (if b > a then b else a)) H) : ∃ i j, [V.int a, V.int b] = [.int i, .int j] ∧ QV (.int (if j > i then j else i)) H := ⟨a, b, rfl, k⟩
theorem gtup (he : H p = some (.tup xs)) (hl : xs.length = n) (k : u xs σ H Q) : gTup K n u (.ref p) σ H Q := ⟨p, xs, rfl, SqT.of he, hl, k⟩
theorem gcons (k : t v σ H fun σ1 H1 => u vs σ1 H1 Q) : gCons t u (v :: vs) σ H Q := ⟨v, vs, rfl, k⟩
theorem gnil (k : Q σ H) : gNil [] σ H Q := ⟨rfl, k⟩
theorem catT (hp : H p = some (.tup xs)) (hq : H q = some (.tup ys)) (h1 : xs ≠ []) (h2 : ys ≠ []) (hl : xs.length + ys.length ≤ 16777216) (k : ∀ r J, J r = some (.tup (xs ++ ys)) → Same H J → H r = none → QV (.ref r) J) : rCatA K (.ref p) (.ref q) H QV :=
  ⟨p, q, xs, ys, rfl, rfl, SqT.of hp, SqT.of hq, by rw [PySem.sizeLine_eq]; exact hl, fun z => absurd z h1, fun _ z => absurd z h2, fun _ _ r n => k r _ upd_same (same_put n (Same.refl _)) n⟩
theorem catL (hp : H p = some (.lst xs)) (hq : H q = some (.lst ys)) (hl : xs.length + ys.length ≤ 16777216) (k : ∀ r J, J r = some (.lst (xs ++ ys)) → Same H J → H r = none → QV (.ref r) J) : rCat (.ref p) (.ref q) H QV :=
  ⟨p, q, xs, ys, rfl, rfl, hp, hq, by rw [PySem.sizeLine_eq]; exact hl, fun r n => k r _ upd_same (same_put n (Same.refl _)) n⟩
end
end Rd
end SecN4
section SecL0
set_option Elab.async false
set_option linter.all false
set_option maxRecDepth 100000
set_option maxHeartbeats 4000000
set_option pp.deepTerms false
namespace K15
open PySem PySem.Spec PyProof.Rows L2 L2H Err Dt
def topS (i : Nat) : Stmt := PySem.Challenge.pw_wholefaces_k15_quotients_and_places.main.body.getD i (.Pass ⟨0, 0, 0, 0⟩)
structure Tx (mg : Str → Option Value) : Prop where
  n_int : mg "int" = none
  n_abs : mg "abs" = none
  n_len : mg "len" = none
  n_range : mg "range" = none
  n_tuple : mg "tuple" = none
  n_list : mg "list" = none
  n_bool : mg "bool" = none
  n_str : mg "str" = none
  n_all : mg "all" = none
  n_isinstance : mg "isinstance" = none
  n_ValueError : mg "ValueError" = none
  n_max : mg "max" = none
  n_sum : mg "sum" = none
  n_reversed : mg "reversed" = none
  gcd : mg "gcd" = some (.builtin "math.gcd")
end K15
namespace Dt
open PySem PySem.Spec PyProof.Rows L2 L2H Err
section
variable {X : Cx} {x : Str} {k : Nat} {ps : List Str} {sp : Sp} {q pos : Pos} {e : Expr} {es : List Expr} {t : TA}
/-- a def that may raise, called by one that may raise -/
theorem pe_dnX {E : XK} (D : Dn X.prog X.w X.K X.mg X.base (L2N.CX X.prog X.w) x k ps sp) (hr : Room k X.A) (tk : L2N.Takes X (fun cls d _ H => E cls d H)) (ha : PA X (e :: es) t) (hg : Gl X x := by rfl) (hdb : (x == ("__debug__" : Str)) = false := by decide)
    (he : starEach (e :: es) X.env = (false, eval e X.env) :: starEach es X.env := by rfl) (hpl : (backTo pos (starEach es X.env)).any (·.1) = false := by rfl) : PE X (.Call (.Name x q) (e :: es) [] pos) (tCall sp [] E t) := by
  obtain ⟨f, fd, F, hm, hk, hb⟩ := D.ex
  exact pe_call F hr hg hm hk hb .nil (L2N.passes_call tk fun _ _ _ _ h => h) ha hdb he hpl
theorem passN0 : Passes (L2N.CX X.prog X.w) X E0 := fun _ _ _ _ _ _ _ c => by
  obtain ⟨_, _, _, _, _, _, _, _, _, _, _, _, h⟩ := c
  exact (show False from h).elim
/-- .., called where it does not raise -/
theorem pe_dn0 (D : Dn X.prog X.w X.K X.mg X.base (L2N.CX X.prog X.w) x k ps sp) (hr : Room k X.A) (ha : PA X (e :: es) t) (hg : Gl X x := by rfl) (hdb : (x == ("__debug__" : Str)) = false := by decide)
    (he : starEach (e :: es) X.env = (false, eval e X.env) :: starEach es X.env := by rfl) (hpl : (backTo pos (starEach es X.env)).any (·.1) = false := by rfl) : PE X (.Call (.Name x q) (e :: es) [] pos) (tCall sp [] E0 t) := by
  obtain ⟨f, fd, F, hm, hk, hb⟩ := D.ex
  exact pe_call F hr hg hm hk hb .nil passN0 ha hdb he hpl
end
/-- the error that a demand raises -/
def NU (CN : Addr) (word : Str) (E : XK) (H : Hp) : Prop := ∀ (d : Addr) (H' : Hp), H' d = some (.xd [(("at" : Str), .int (-1)), (("word" : Str), .str word)]) → Same H H' → E (.ref CN) (some d) H'
theorem NU.to {CN : Addr} {word : Str} {E : XK} {H H' : Hp} (s : Same H H') (h : NU CN word E H) : NU CN word E H' := fun d H2 e s2 => h d H2 e (s.trans s2)
def spDemand (CN : Addr) : Sp := fun vs H Q E => ∃ (b : Bool) (word : Str), vs = [.bl b, .str word] ∧ (b = true → Q .non H) ∧ (b = false → NU CN word E H)
/-! what the kinds tell -/
def dNum : PyData → Bool | .int i => decide (0 ≤ i) | _ => false
def dRow (n : Int) : PyData → Bool | .tuple ds => decide ((ds.length : Int) = n) && ds.all dInt | _ => false
theorem all_ints : ∀ {ds : List PyData}, ds.all dInt = true → ∃ ns : List Int, ds = ns.map PyData.int
  | [], _ => ⟨[], rfl⟩
  | d :: ds, h => by
    rw [List.all_cons, Bool.and_eq_true] at h
    obtain ⟨ns, rfl⟩ := all_ints h.2
    cases d with
    | int i => exact ⟨i :: ns, rfl⟩
    | _ => exact absurd h.1 (by simp [dInt])
theorem row_ints {n : Int} {d : PyData} (h : dRow n d = true) : ∃ ns : List Int, d = .tuple (ns.map PyData.int) ∧ (ns.length : Int) = n := by
  cases d with
  | tuple ds =>
    have h' : (decide ((ds.length : Int) = n) && ds.all dInt) = true := h
    rw [Bool.and_eq_true] at h'
    obtain ⟨ns, rfl⟩ := all_ints h'.2
    exact ⟨ns, rfl, by have := of_decide_eq_true h'.1; rwa [List.length_map] at this⟩
  | _ => cases h
/-- lowest terms, the last one at least 1 -/
def lowB (ns : List Int) : Bool := decide (1 ≤ ns.getLastD 0) && decide (gcdL ns = 1)
def intsOf : List PyData → List Int := fun ds => ds.map fun d => match d with | .int i => i | _ => 0
theorem intsOf_map (ns : List Int) : intsOf (ns.map PyData.int) = ns := by
  unfold intsOf
  rw [List.map_map]
  exact (List.map_congr_left fun _ _ => rfl).trans (List.map_id ns)
def dLow (n : Int) (d : PyData) : Bool := dRow n d && (match d with | .tuple ds => lowB (intsOf ds) | _ => false)
end Dt
end SecL0
section SecM1
set_option Elab.async false
set_option linter.all false
namespace Dt
open PySem PySem.Spec PyProof.Rows L2
def gN (ns : List Int) : Nat := ns.foldl (fun g n => Nat.gcd g n.natAbs) 0
theorem gcdL_eq (ns : List Int) : gcdL ns = ((gN ns : Nat) : Int) := rfl
theorem gN_app (ns : List Int) (n : Int) : gN (ns ++ [n]) = Nat.gcd (gN ns) n.natAbs := by
  unfold gN
  rw [List.foldl_append]
  rfl
theorem fold_dvd : ∀ (ns : List Int) (g : Nat), ns.foldl (fun g n => Nat.gcd g n.natAbs) g ∣ g ∧ ∀ n ∈ ns, ns.foldl (fun g n => Nat.gcd g n.natAbs) g ∣ n.natAbs
  | [], g => ⟨Nat.dvd_refl _, fun _ h => by cases h⟩
  | m :: ns, g => by
    obtain ⟨h1, h2⟩ := fold_dvd ns (Nat.gcd g m.natAbs)
    refine ⟨Nat.dvd_trans h1 (Nat.gcd_dvd_left _ _), fun n hn => ?_⟩
    rcases List.mem_cons.mp hn with rfl | hn
    · exact Nat.dvd_trans h1 (Nat.gcd_dvd_right _ _)
    · exact h2 n hn
theorem gN_dvd {ns : List Int} {n : Int} (h : n ∈ ns) : gN ns ∣ n.natAbs := (fold_dvd ns 0).2 n h
theorem dvd_fold : ∀ (ns : List Int) (g d : Nat), d ∣ g → (∀ n ∈ ns, d ∣ n.natAbs) → d ∣ ns.foldl (fun g n => Nat.gcd g n.natAbs) g
  | [], _, _, h, _ => h
  | m :: ns, g, d, h, k => dvd_fold ns _ d (Nat.dvd_gcd h (k m List.mem_cons_self)) fun n hn => k n (List.mem_cons_of_mem _ hn)
theorem dvd_gN {ns : List Int} {d : Nat} (h : ∀ n ∈ ns, d ∣ n.natAbs) : d ∣ gN ns := dvd_fold ns 0 d (Nat.dvd_zero _) h
theorem gN_pos {ns : List Int} {n : Int} (h : n ∈ ns) (h0 : n ≠ 0) : 0 < gN ns := by
  have d := gN_dvd h
  refine Nat.pos_of_ne_zero fun z => ?_
  rw [z] at d
  have := Nat.eq_zero_of_zero_dvd d
  omega
theorem gN_le {ns : List Int} {n : Int} (h : n ∈ ns) (h0 : n ≠ 0) : gN ns ≤ n.natAbs := Nat.le_of_dvd (by omega) (gN_dvd h)
theorem gN_take {ns : List Int} {i : Nat} {n : Int} (h : ns[i]? = some n) : gN (ns.take (i + 1)) = Nat.gcd (gN (ns.take i)) n.natAbs := by
  rw [List.take_succ, h]
  exact gN_app _ _
/-- the gcd of all is 1 behind lowest terms -/
theorem gN_low {ns : List Int} {n : Int} (h : n ∈ ns) (h0 : n ≠ 0) : gN (lowL ns) = 1 := by
  have gp := gN_pos h h0
  have key : ∀ m ∈ ns, (m / gcdL ns).natAbs * gN ns = m.natAbs := fun m hm => by
    have d := gN_dvd hm
    have di : ((gN ns : Nat) : Int) ∣ m := Int.ofNat_dvd_left.mpr d
    have e := Int.ediv_mul_cancel di
    rw [gcdL_eq]
    have e2 := congrArg Int.natAbs e
    rw [Int.natAbs_mul, Int.natAbs_natCast] at e2
    exact e2
  have d2 : gN (lowL ns) * gN ns ∣ gN ns := dvd_gN fun m hm => by
    have hq : m / gcdL ns ∈ lowL ns := List.mem_map.mpr ⟨m, hm, rfl⟩
    rw [← key m hm]
    exact Nat.mul_dvd_mul (gN_dvd hq) (Nat.dvd_refl _)
  have d3 : gN (lowL ns) * gN ns ∣ 1 * gN ns := by rw [Nat.one_mul]; exact d2
  exact Nat.dvd_one.mp (Nat.dvd_of_mul_dvd_mul_right gp d3)
theorem low_mul {ns : List Int} {m : Int} (hm : m ∈ ns) : m / gcdL ns * gcdL ns = m := by
  have di : ((gN ns : Nat) : Int) ∣ m := Int.ofNat_dvd_left.mpr (gN_dvd hm)
  rw [gcdL_eq]
  exact Int.ediv_mul_cancel di
end Dt
end SecM1
section SecP1
set_option Elab.async false
set_option linter.all false
set_option maxRecDepth 100000
set_option maxHeartbeats 4000000
set_option pp.deepTerms false
local macro_rules | `(tactic| walk_at "tq") => `(tactic| first | assumption | (refine' Dt.Tq.to ?s0 ?h0; (case h0 => assumption); (case s0 => walk_at "same")))
local macro_rules | `(tactic| walk_at "same") => `(tactic| first | exact L2.Same.refl _ | assumption | (refine' L2.Same.trans ?s1 ?s2; (case s2 => assumption); (case s1 => walk_at "same")))
local macro_rules | `(tactic| walk_at "sam") => `(tactic| first | exact Dt.Sam.refl | assumption | exact Dt.Sam.of (by assumption) | (refine' Dt.Sam.trans ?s1 ?s2; (case s2 => first | assumption | exact Dt.Sam.of (by assumption)); (case s1 => walk_at "sam")))
local macro_rules | `(tactic| walk_at "tape") => `(tactic| first | assumption | (refine' Dt.Tape.mono ?h0 ?s0; (case h0 => assumption); (case s0 => walk_at "same")))
local macro_rules | `(tactic| walk_at "nt") => `(tactic| first | exact Dt.nt_tup | exact Dt.nt_ints | assumption | (intro a0 b0 c0 l0 z0; cases z0) | (intro a0 b0 c0 l0 z0; simp at z0))
local macro_rules | `(tactic| walk_at "heap") => `(tactic| first | assumption | exact L2.upd_same | (refine' Rd.at_to ?s0 ?h0; (case h0 => assumption); (case s0 => walk_at "same")) | (refine' Dt.at_sam ?n0 ?s0 ?h0; (case h0 => assumption); (case n0 => walk_at "nt"); (case s0 => walk_at "sam")))
local macro_rules | `(tactic| walk_at "rp") => `(tactic| first | exact Dt.Rp.int _ | exact Dt.Rp.bl _ | exact Dt.Rp.str _ | exact Dt.Rp.non | assumption | (refine' Dt.Rp.sm ?s0 ?h0; (case h0 => assumption); (case s0 => walk_at "sam")) | (refine' Dt.Rp.tup ?h1 ?h2 ?h3; (case h1 => walk_at "heap"); (case h2 => walk_at "rps"); (case h3 => first | assumption | (show _ ≤ 1000; decide) | (show _ ≤ 1000; simp) | (show _ ≤ 1000; omega))) | (refine' Dt.Rp.lst ?h1 ?h2 ?h3 ?h4; (case h1 => walk_at "heap"); (case h2 => walk_at "rps"); (case h3 => first | assumption | (show _ ≤ 1000; decide) | (show _ ≤ 1000; simp) | (show _ ≤ 1000; omega)); (case h4 => walk_at "nt")))
local macro_rules | `(tactic| walk_at "rps") => `(tactic| first | exact Dt.RpAll.nil | assumption | (refine' Dt.RpAll.cons ?h1 ?h2; (case h1 => walk_at "rp"); (case h2 => walk_at "rps")) | (refine' Dt.RpAll.sm ?s0 ?h0; (case h0 => assumption); (case s0 => walk_at "sam")))
local macro_rules | `(tactic| walk_at "rd") => `(tactic| first
  | with_reducible refine Rd.seq ?_ | with_reducible refine Rd.asg ?_ | with_reducible refine Rd.nm ?_ | with_reducible refine Rd.sub ?_ | with_reducible refine Rd.ret ?_ | with_reducible refine Rd.retN ?_
  | with_reducible refine Rd.drop ?_ | with_reducible refine Rd.ifs ?_ | with_reducible refine Rd.next ?_ | with_reducible refine Rd.cst ?_ | with_reducible refine Rd.op ?_ | with_reducible refine Rd.un ?_
  | with_reducible refine Rd.test ?_ | with_reducible refine Rd.tb' ?_ | with_reducible refine Rd.exb ?_ | with_reducible refine Rd.exi ?_ | with_reducible refine Rd.and2 ?_ | with_reducible refine Rd.or2 ?_ | with_reducible refine Rd.not1 ?_
  | with_reducible refine Rd.andV ?_ | with_reducible refine Rd.orV ?_ | with_reducible refine Rd.notV ?_ | with_reducible refine Rd.nil ?_ | with_reducible refine Rd.cons ?_ | with_reducible refine Rd.cb ?_
  | with_reducible refine Rd.i0 ?_ | with_reducible refine Rd.u1 ?_ | with_reducible refine Rd.call ?_ | with_reducible refine Rd.tup ?_ | with_reducible refine Rd.lst ?_ | with_reducible refine Rd.sl ?_ | with_reducible refine Rd.no ?_ | with_reducible refine Rd.part ?_ | with_reducible refine Rd.at_ ?_ | with_reducible refine Rd.yes ?_ | with_reducible refine Rd.fors ?_ | with_reducible refine Rd.m1 ?_ | with_reducible refine Rd.exs ?_ | with_reducible refine Rd.lc ?_ | with_reducible refine Rd.rng ?_
  | with_reducible refine Rd.mkv ?_ | with_reducible refine Rd.mko ?_ | with_reducible refine Rd.callB ?_ | with_reducible refine Rd.callS ?_ | with_reducible refine Rd.bm ?_ | with_reducible refine Rd.itl ?_ | with_reducible refine Rd.itt ?_
  | ((with_reducible refine' And.intro ?hl ?_); (case hl => ((with_reducible show List.length _ ≤ PySem.sizeLine); (show _ ≤ PySem.sizeLine); rw [PySem.sizeLine_eq]; simp)))
  | (intro p0 n0; generalize hK0 : L2.upd _ p0 _ = K0; obtain ⟨e0, t0⟩ := Dt.newK hK0 n0)
  | ((with_reducible refine' Rd.lenKL ?he ?_); (case he => walk_at "heap")) | ((with_reducible refine' Rd.lenKT ?he ?_); (case he => walk_at "heap"))
  | ((with_reducible refine' Rd.var ?hv ?_); (case hv => exact rfl))
  | ((with_reducible refine' Rd.ifT ?hv ?_); (case hv => first | exact rfl | assumption)) | ((with_reducible refine' Rd.ifF ?hv ?_); (case hv => first | exact rfl | assumption))
  | ((with_reducible refine' Rd.eq ?hv ?_); (case hv => exact rfl))
  | ((with_reducible refine' Rd.ne ?hv ?_); (case hv => exact rfl))
  | ((with_reducible refine' Dt.isi_int ?hr ?_); (case hr => walk_at "rp")) | ((with_reducible refine' Dt.isi_bool ?hr ?_); (case hr => walk_at "rp")) | ((with_reducible refine' Dt.isi_tuple ?hr ?_); (case hr => walk_at "rp")) | ((with_reducible refine' Dt.isi_str ?hr ?_); (case hr => walk_at "rp")) | ((with_reducible refine' Dt.isi_list ?hr ?_); (case hr => walk_at "rp"))
  | with_reducible refine ⟨rfl, ?_⟩ | with_reducible refine Or.inl ⟨_, rfl, ?_⟩ | with_reducible refine Or.inr ⟨_, rfl, ?_⟩ | with_reducible refine ⟨_, rfl, ?_⟩
  | ((with_reducible refine' Rd.ex2 ⟨rfl, ?hl, ?_⟩); (case hl => first | exact Or.inl ⟨_, L2.SqL.of (by walk_at "heap"), rfl⟩ | exact Or.inr ⟨_, L2.SqT.of (by walk_at "heap"), rfl⟩))
  | ((with_reducible refine' Rd.i1 ?hv ?_); (case hv => first | exact ⟨by decide, by decide, by decide⟩ | exact Or.inr ⟨by decide, by decide⟩ | exact Or.inl ⟨by decide, by decide⟩ | exact ⟨by decide, by decide⟩ | decide | assumption | (show _ ≠ _; omega) | (refine ⟨?_, ?_⟩ <;> omega) | (refine Or.inl ⟨?_, ?_⟩ <;> omega)))
  | ((with_reducible refine' Rd.ixL ?he ?hx ?_); (case he => walk_at "heap"); (case hx => rfl))
  | ((with_reducible refine' Rd.ixT ?he ?hx ?_); (case he => walk_at "heap"); (case hx => rfl))
  | ((with_reducible refine' Rd.setL ?he ?hx ?_); (case he => first | assumption | exact L2.upd_same); (case hx => rfl)))
local macro_rules | `(tactic| walk_at "rd") => `(tactic| first | with_reducible refine Rd.isT ?_ | with_reducible refine Rd.isnT ?_)
local macro_rules | `(tactic| walk_at "rd") => `(tactic| first | ((with_reducible refine' Rd.gtup ?he ?hl ?_); (case he => walk_at "heap"); (case hl => exact rfl)) | with_reducible refine Rd.brk ?_ | with_reducible refine Rd.callR ?_ | ((with_reducible refine' Rd.tupOf ?hp ?hk); (case hp => walk_at "heap"); (case hk => intro r0 J0 e0 t0 n0)) | ((with_reducible refine' Rd.lstOf ?hp ?hk); (case hp => walk_at "heap"); (case hk => intro r0 J0 e0 t0 n0)) | ((with_reducible refine' Rd.catL ?hp ?hq ?hl ?hk); (case hp => walk_at "heap"); (case hq => walk_at "heap"); (case hl => (simp only [List.length_map, List.length_append, List.length_cons, List.length_nil]; omega)); (case hk => intro r0 J0 e0 t0 n0)) | with_reducible refine Rd.bits ?_ | with_reducible refine Rd.max2 ?_ | with_reducible refine Rd.gcons ?_ | with_reducible refine Rd.gnil ?_)
local macro_rules | `(tactic| walk_at "rds") => `(tactic| repeat (first | walk_at "rd" | assumption))
namespace K15
open PySem PySem.Spec PyProof.Rows L2 L2H Err Dt
def spIsInt : Sp := fun vs H Q _ => ∃ (v : V) (d : PyData), vs = [v] ∧ Rp H v d ∧ ∀ H', Same H H' → Q (.bl (dInt d)) H'
def spIsNum : Sp := fun vs H Q _ => ∃ (v : V) (d : PyData), vs = [v] ∧ Rp H v d ∧ ∀ H', Same H H' → Q (.bl (dNum d)) H'
def spIsRow : Sp := fun vs H Q _ => ∃ (n : Int) (v : V) (d : PyData), vs = [.int n, v] ∧ Rp H v d ∧ ∀ H', Same H H' → Q (.bl (dRow n d)) H'
/-- ints in a list or a tuple at p -/
def Ints (H : Hp) (p : Addr) (ns : List Int) : Prop := (H p = some (.lst (ns.map V.int)) ∨ H p = some (.tup (ns.map V.int))) ∧ ns.length ≤ 1000
def spGcdL : Sp := fun vs H Q _ => ∃ (p : Addr) (ns : List Int), vs = [.ref p] ∧ Ints H p ns ∧ ∀ H', Same H H' → Q (.int (gcdL ns)) H'
def spLow : Sp := fun vs H Q _ => ∃ (p : Addr) (ns : List Int), vs = [.ref p] ∧ Ints H p ns ∧ (∃ n ∈ ns, n ≠ 0 ∧ n.natAbs < 2 ^ 8000) ∧ ∀ (q : Addr) H', H' q = some (.tup ((lowL ns).map V.int)) → Same H H' → Q (.ref q) H'
def spIsLow : Sp := fun vs H Q _ => ∃ (p : Addr) (ns : List Int), vs = [.ref p] ∧ H p = some (.tup (ns.map V.int)) ∧ 0 < ns.length ∧ ns.length ≤ 1000 ∧ ∀ H', Same H H' → Q (.bl (lowB ns)) H'
section
variable {P : Program} {w : World} {K : PySem.W.Frag} {mg : Str → Option Value} {base : Heap}
set_option pp.maxSteps 3000
abbrev sDemand : Stmt := topS 6
theorem scDemand : FnScope ["fits", "word"] ["fits", "word"] (defScope sDemand) := ⟨rfl, rfl, rfl, by decide +kernel, rfl, by decide +kernel, by decide +kernel⟩
theorem okDemand {f : Addr} {fd : FuncData} (F : Fun K "demand" "demand" sDemand f fd) (T : Tx mg) {CN : Addr} (L : Kl P w K mg base "NotUsable" CN ["word", "at"]) : FnOk P w K mg base (L2N.CX P w) 3 f fd ["fits", "word"] (spDemand CN) := by
  refine okN F scDemand (fun vs H Q E h => ?_) (fun cdv A outer s H vs Q E hr h => ?_)
  · obtain ⟨b, z, rfl, _⟩ := h
    rfl
  · obtain ⟨b, z, rfl, k1, k2⟩ := h
    refine ⟨_, (pss_one (ps_if (pt_not (pt_val (pv 0)))
    (pss_one (ps_rse E L rfl (hr.mono (by omega)) (L2N.takes_of rfl rfl rfl rfl) (pa_cons (pv 1) (pa_cons (pe_un un_neg pe_int) pa_nil))))
    pss_nil)), ?_⟩
    have st0 : L2.start ["fits", "word"] [V.bl b, V.str z] = [some (V.bl b), some (V.str z)] := rfl
    rw [st0]
    cases b with
    | true =>
      walk_at "rds"
      exact k1 rfl
    | false =>
      walk_at "rds"
      exact raised_end (by rfl) (by show 2 ≤ 1000; decide) (by decide) fun d H' e s => k2 rfl d H' e s
abbrev sIsInteger : Stmt := topS 11
theorem scIsInteger : FnScope ["thing"] ["thing"] (defScope sIsInteger) := ⟨rfl, rfl, rfl, by decide +kernel, rfl, by decide +kernel, by decide +kernel⟩
theorem okIsInteger {f : Addr} {fd : FuncData} (F : Fun K "is_integer" "is_integer" sIsInteger f fd) (T : Tx mg)  : FnOk P w K mg base CX0 1 f fd ["thing"] spIsInt := by
  refine F.ok scIsInteger (fun vs H Q E h => ?_) (fun cdv A outer s H vs Q E hr h => ?_)
  · obtain ⟨v, d, rfl, _⟩ := h
    rfl
  · obtain ⟨v, d, rfl, r, kk⟩ := h
    refine ⟨_, (pss_one (ps_ret (pe_and (pe_callB call_isi (by rfl) T.n_isinstance (by decide +kernel) (pa_cons (pv 0) (pa_cons (pe_bltn (v := .ty "int") (u := .type "int") rfl T.n_int (by decide +kernel) rfl) pa_nil))) (pe_one (pe_not (pe_callB call_isi (by rfl) T.n_isinstance (by decide +kernel) (pa_cons (pv 0) (pa_cons (pe_bltn (v := .ty "bool") (u := .type "bool") rfl T.n_bool (by decide +kernel) rfl) pa_nil)))))))), ?_⟩
    have st0 : L2.start ["thing"] [v] = [some (v)] := rfl
    rw [st0]
    walk_at "rds"
    cases r <;>
    · walk_at "rds"
      exact kk _ (Same.refl _)
abbrev sIsNumber : Stmt := topS 12
theorem scIsNumber : FnScope ["thing"] ["thing"] (defScope sIsNumber) := ⟨rfl, rfl, rfl, by decide +kernel, rfl, by decide +kernel, by decide +kernel⟩
theorem okIsNumber {f : Addr} {fd : FuncData} (F : Fun K "is_number" "is_number" sIsNumber f fd) (T : Tx mg) (DIsInteger : Dn P w K mg base CX0 "is_integer" 1 ["thing"] spIsInt) : FnOk P w K mg base CX0 2 f fd ["thing"] spIsNum := by
  refine F.ok scIsNumber (fun vs H Q E h => ?_) (fun cdv A outer s H vs Q E hr h => ?_)
  · obtain ⟨v, d, rfl, _⟩ := h
    rfl
  · obtain ⟨v, d, rfl, r, kk⟩ := h
    refine ⟨_, (pss_one (ps_ret (pe_and (pe_dn DIsInteger (hr.mono (by omega)) (pa_cons (pv 0) pa_nil)) (pe_one (pe_cmpR op_ge (pv 0) pe_int (nomark _)))))), ?_⟩
    have st0 : L2.start ["thing"] [v] = [some (v)] := rfl
    rw [st0]
    walk_at "rds"
    refine ⟨v, d, rfl, r, fun H1 t1 => ?_⟩
    cases r <;>
    · walk_at "rds"
      exact kk _ t1
abbrev sIsRow : Stmt := topS 13
theorem scIsRow : FnScope ["many", "thing", "number"] ["many", "thing"] (defScope sIsRow) := ⟨rfl, rfl, rfl, by decide +kernel, rfl, by decide +kernel, by decide +kernel⟩
theorem okIsRow {f : Addr} {fd : FuncData} (F : Fun K "is_row" "is_row" sIsRow f fd) (T : Tx mg) (DIsInteger : Dn P w K mg base CX0 "is_integer" 1 ["thing"] spIsInt) : FnOk P w K mg base CX0 2 f fd ["many", "thing"] spIsRow := by
  refine F.ok scIsRow (fun vs H Q E h => ?_) (fun cdv A outer s H vs Q E hr h => ?_)
  · obtain ⟨n, v, d, rfl, _⟩ := h
    rfl
  · obtain ⟨n, v, d, rfl, r, kk⟩ := h
    refine ⟨_, (pss_one (ps_ret (pe_and (pe_callB call_isi (by rfl) T.n_isinstance (by decide +kernel) (pa_cons (pv 1) (pa_cons (pe_bltn (v := .ty "tuple") (u := .type "tuple") rfl T.n_tuple (by decide +kernel) rfl) pa_nil))) (pe_and (pe_cmpR op_eq (pe_callB call_len (by rfl) T.n_len (by decide +kernel) (pa_cons (pv 1) pa_nil)) (pv 0) (nomark _)) (pe_one (pe_callB (cr_all rfl) (by rfl) T.n_all (by decide +kernel) (pa_cons (pe_lc (own := [("number", 2)]) (g := gName 2) (by rfl) scIsRow.nd (pi_tup (pv 1)) (blkOk_by (own := [("number", 2)]) (N := ["many", "thing", "number"]) (sc := defScope sIsRow) (by decide +kernel)) (fun _ _ _ _ _ => pg_name (i := 2) scIsRow.nd rfl (Or.inl rfl)) (fun _ _ _ _ _ => pts_nil) (fun _ _ _ _ _ => (pe_dn DIsInteger (hr.mono (by omega)) (pa_cons (pv 2) pa_nil)))) pa_nil))))))), ?_⟩
    have st0 : L2.start ["many", "thing", "number"] [V.int n, v] = [some (V.int n), some (v), none] := rfl
    rw [st0]
    cases r with
    | @tup p vs ds e a l =>
      walk_at "rds"
      have hl : vs.length = ds.length := a.len
      refine Rd.ifB (fun h => ?_) fun h => ?_
      · walk_at "rds"
        refine ⟨⟨_, SqT.of e⟩, fun d hd => lc_tup (K := K) (a := p) (xs := vs) (fun i H3 => H3 d = some (.lst (((ds.take i).map dInt).map V.bl)) ∧ Same H H3) ⟨upd_same, same_put hd (Same.refl _)⟩ (fun i H3 _ ⟨_, s3⟩ => SqT.of (s3 _ _ e)) ?_ ?_⟩
        · rintro i x H3 hx ⟨e3, s3⟩
          refine ⟨rfl, ?_⟩
          walk_at "rds"
          obtain ⟨d1, h1, r1⟩ := a.at hx
          refine ⟨x, d1, rfl, r1.to s3, fun H4 t4 => ⟨_, t4 _ _ e3, ?_, ?_, same_put hd (s3.trans t4)⟩⟩
          · rw [List.length_map, List.length_map, List.length_take, sizeLine_eq]
            omega
          · rw [upd_same, List.take_succ, h1, List.map_append, List.map_append]
            rfl
        · rintro H4 ⟨e4, s4⟩
          walk_at "rds"
          refine ⟨d, _, rfl, SqL.of e4, ?_⟩
          rw [hl, List.take_length]
          have ez : dRow n (.tuple ds) = (ds.map dInt).all id := by
            show (decide ((ds.length : Int) = n) && ds.all dInt) = _
            have h' : (ds.length : Int) = n := by
              have z := of_decide_eq_true h
              rw [← hl]
              exact V.int.inj z
            rw [decide_eq_true h', Bool.true_and, List.all_map]
            rfl
          rw [← ez]
          exact kk _ s4
      · walk_at "rds"
        have ez : dRow n (.tuple ds) = false := by
          show (decide ((ds.length : Int) = n) && ds.all dInt) = _
          have h' : ¬ (ds.length : Int) = n := fun z => by
            have y := of_decide_eq_false h
            rw [hl, z] at y
            exact y rfl
          rw [decide_eq_false h', Bool.false_and]
        rw [← ez]
        exact kk _ (Same.refl _)
    | non | bl | int | str | lst =>
      walk_at "rds"
      exact kk _ (Same.refl _)
end
end K15
end SecP1
section SecP2
set_option Elab.async false
set_option linter.all false
set_option maxRecDepth 100000
set_option maxHeartbeats 4000000
set_option pp.deepTerms false
local macro_rules | `(tactic| walk_at "tq") => `(tactic| first | assumption | (refine' Dt.Tq.to ?s0 ?h0; (case h0 => assumption); (case s0 => walk_at "same")))
local macro_rules | `(tactic| walk_at "same") => `(tactic| first | exact L2.Same.refl _ | assumption | (refine' L2.Same.trans ?s1 ?s2; (case s2 => assumption); (case s1 => walk_at "same")))
local macro_rules | `(tactic| walk_at "sam") => `(tactic| first | exact Dt.Sam.refl | assumption | exact Dt.Sam.of (by assumption) | (refine' Dt.Sam.trans ?s1 ?s2; (case s2 => first | assumption | exact Dt.Sam.of (by assumption)); (case s1 => walk_at "sam")))
local macro_rules | `(tactic| walk_at "tape") => `(tactic| first | assumption | (refine' Dt.Tape.mono ?h0 ?s0; (case h0 => assumption); (case s0 => walk_at "same")))
local macro_rules | `(tactic| walk_at "nt") => `(tactic| first | exact Dt.nt_tup | exact Dt.nt_ints | assumption | (intro a0 b0 c0 l0 z0; cases z0) | (intro a0 b0 c0 l0 z0; simp at z0))
local macro_rules | `(tactic| walk_at "heap") => `(tactic| first | assumption | exact L2.upd_same | (refine' Rd.at_to ?s0 ?h0; (case h0 => assumption); (case s0 => walk_at "same")) | (refine' Dt.at_sam ?n0 ?s0 ?h0; (case h0 => assumption); (case n0 => walk_at "nt"); (case s0 => walk_at "sam")))
local macro_rules | `(tactic| walk_at "rp") => `(tactic| first | exact Dt.Rp.int _ | exact Dt.Rp.bl _ | exact Dt.Rp.str _ | exact Dt.Rp.non | assumption | (refine' Dt.Rp.sm ?s0 ?h0; (case h0 => assumption); (case s0 => walk_at "sam")) | (refine' Dt.Rp.tup ?h1 ?h2 ?h3; (case h1 => walk_at "heap"); (case h2 => walk_at "rps"); (case h3 => first | assumption | (show _ ≤ 1000; decide) | (show _ ≤ 1000; simp) | (show _ ≤ 1000; omega))) | (refine' Dt.Rp.lst ?h1 ?h2 ?h3 ?h4; (case h1 => walk_at "heap"); (case h2 => walk_at "rps"); (case h3 => first | assumption | (show _ ≤ 1000; decide) | (show _ ≤ 1000; simp) | (show _ ≤ 1000; omega)); (case h4 => walk_at "nt")))
local macro_rules | `(tactic| walk_at "rps") => `(tactic| first | exact Dt.RpAll.nil | assumption | (refine' Dt.RpAll.cons ?h1 ?h2; (case h1 => walk_at "rp"); (case h2 => walk_at "rps")) | (refine' Dt.RpAll.sm ?s0 ?h0; (case h0 => assumption); (case s0 => walk_at "sam")))
local macro_rules | `(tactic| walk_at "rd") => `(tactic| first
  | with_reducible refine Rd.seq ?_ | with_reducible refine Rd.asg ?_ | with_reducible refine Rd.nm ?_ | with_reducible refine Rd.sub ?_ | with_reducible refine Rd.ret ?_ | with_reducible refine Rd.retN ?_
  | with_reducible refine Rd.drop ?_ | with_reducible refine Rd.ifs ?_ | with_reducible refine Rd.next ?_ | with_reducible refine Rd.cst ?_ | with_reducible refine Rd.op ?_ | with_reducible refine Rd.un ?_
  | with_reducible refine Rd.test ?_ | with_reducible refine Rd.tb' ?_ | with_reducible refine Rd.exb ?_ | with_reducible refine Rd.exi ?_ | with_reducible refine Rd.and2 ?_ | with_reducible refine Rd.or2 ?_ | with_reducible refine Rd.not1 ?_
  | with_reducible refine Rd.andV ?_ | with_reducible refine Rd.orV ?_ | with_reducible refine Rd.notV ?_ | with_reducible refine Rd.nil ?_ | with_reducible refine Rd.cons ?_ | with_reducible refine Rd.cb ?_
  | with_reducible refine Rd.i0 ?_ | with_reducible refine Rd.u1 ?_ | with_reducible refine Rd.call ?_ | with_reducible refine Rd.tup ?_ | with_reducible refine Rd.lst ?_ | with_reducible refine Rd.sl ?_ | with_reducible refine Rd.no ?_ | with_reducible refine Rd.part ?_ | with_reducible refine Rd.at_ ?_ | with_reducible refine Rd.yes ?_ | with_reducible refine Rd.fors ?_ | with_reducible refine Rd.m1 ?_ | with_reducible refine Rd.exs ?_ | with_reducible refine Rd.lc ?_ | with_reducible refine Rd.rng ?_
  | with_reducible refine Rd.mkv ?_ | with_reducible refine Rd.mko ?_ | with_reducible refine Rd.callB ?_ | with_reducible refine Rd.callS ?_ | with_reducible refine Rd.bm ?_ | with_reducible refine Rd.itl ?_ | with_reducible refine Rd.itt ?_
  | ((with_reducible refine' And.intro ?hl ?_); (case hl => ((with_reducible show List.length _ ≤ PySem.sizeLine); (show _ ≤ PySem.sizeLine); rw [PySem.sizeLine_eq]; simp)))
  | (intro p0 n0; generalize hK0 : L2.upd _ p0 _ = K0; obtain ⟨e0, t0⟩ := Dt.newK hK0 n0)
  | ((with_reducible refine' Rd.lenKL ?he ?_); (case he => walk_at "heap")) | ((with_reducible refine' Rd.lenKT ?he ?_); (case he => walk_at "heap"))
  | ((with_reducible refine' Rd.var ?hv ?_); (case hv => exact rfl))
  | ((with_reducible refine' Rd.ifT ?hv ?_); (case hv => first | exact rfl | assumption)) | ((with_reducible refine' Rd.ifF ?hv ?_); (case hv => first | exact rfl | assumption))
  | ((with_reducible refine' Rd.eq ?hv ?_); (case hv => exact rfl))
  | ((with_reducible refine' Rd.ne ?hv ?_); (case hv => exact rfl))
  | ((with_reducible refine' Dt.isi_int ?hr ?_); (case hr => walk_at "rp")) | ((with_reducible refine' Dt.isi_bool ?hr ?_); (case hr => walk_at "rp")) | ((with_reducible refine' Dt.isi_tuple ?hr ?_); (case hr => walk_at "rp")) | ((with_reducible refine' Dt.isi_str ?hr ?_); (case hr => walk_at "rp")) | ((with_reducible refine' Dt.isi_list ?hr ?_); (case hr => walk_at "rp"))
  | with_reducible refine ⟨rfl, ?_⟩ | with_reducible refine Or.inl ⟨_, rfl, ?_⟩ | with_reducible refine Or.inr ⟨_, rfl, ?_⟩ | with_reducible refine ⟨_, rfl, ?_⟩
  | ((with_reducible refine' Rd.ex2 ⟨rfl, ?hl, ?_⟩); (case hl => first | exact Or.inl ⟨_, L2.SqL.of (by walk_at "heap"), rfl⟩ | exact Or.inr ⟨_, L2.SqT.of (by walk_at "heap"), rfl⟩))
  | ((with_reducible refine' Rd.i1 ?hv ?_); (case hv => first | exact ⟨by decide, by decide, by decide⟩ | exact Or.inr ⟨by decide, by decide⟩ | exact Or.inl ⟨by decide, by decide⟩ | exact ⟨by decide, by decide⟩ | decide | assumption | (show _ ≠ _; omega) | (refine ⟨?_, ?_⟩ <;> omega) | (refine Or.inl ⟨?_, ?_⟩ <;> omega)))
  | ((with_reducible refine' Rd.ixL ?he ?hx ?_); (case he => walk_at "heap"); (case hx => rfl))
  | ((with_reducible refine' Rd.ixT ?he ?hx ?_); (case he => walk_at "heap"); (case hx => rfl))
  | ((with_reducible refine' Rd.setL ?he ?hx ?_); (case he => first | assumption | exact L2.upd_same); (case hx => rfl)))
local macro_rules | `(tactic| walk_at "rd") => `(tactic| first | with_reducible refine Rd.isT ?_ | with_reducible refine Rd.isnT ?_)
local macro_rules | `(tactic| walk_at "rd") => `(tactic| first | ((with_reducible refine' Rd.gtup ?he ?hl ?_); (case he => walk_at "heap"); (case hl => exact rfl)) | with_reducible refine Rd.brk ?_ | with_reducible refine Rd.callR ?_ | ((with_reducible refine' Rd.tupOf ?hp ?hk); (case hp => walk_at "heap"); (case hk => intro r0 J0 e0 t0 n0)) | ((with_reducible refine' Rd.lstOf ?hp ?hk); (case hp => walk_at "heap"); (case hk => intro r0 J0 e0 t0 n0)) | ((with_reducible refine' Rd.catL ?hp ?hq ?hl ?hk); (case hp => walk_at "heap"); (case hq => walk_at "heap"); (case hl => (simp only [List.length_map, List.length_append, List.length_cons, List.length_nil]; omega)); (case hk => intro r0 J0 e0 t0 n0)) | with_reducible refine Rd.bits ?_ | with_reducible refine Rd.max2 ?_ | with_reducible refine Rd.gcons ?_ | with_reducible refine Rd.gnil ?_)
local macro_rules | `(tactic| walk_at "rds") => `(tactic| repeat (first | walk_at "rd" | assumption))
namespace K15
open PySem PySem.Spec PyProof.Rows L2 L2H Err Dt
def spIsQuot : Sp := fun vs H Q _ => ∃ (v : V) (d : PyData), vs = [v] ∧ Rp H v d ∧ ∀ H', Same H H' → Q (.bl (dLow 2 d)) H'
def Space (H : Hp) (s : Addr) (n r : Int) : Prop := H s = some (.tup [.int n, .int r]) ∧ 2 ≤ n ∧ n ≤ 3
theorem Space.to {H H' : Hp} {s : Addr} {n r : Int} (t : Same H H') (h : Space H s n r) : Space H' s n r := ⟨t _ _ h.1, h.2⟩
def spIsPoint : Sp := fun vs H Q _ => ∃ (s : Addr) (n r : Int) (v : V) (d : PyData), vs = [.ref s, v] ∧ Space H s n r ∧ Rp H v d ∧ ∀ H', Same H H' → Q (.bl (dRow n d)) H'
def spIsPlace : Sp := fun vs H Q _ => ∃ (s : Addr) (n r : Int) (v : V) (d : PyData), vs = [.ref s, v] ∧ Space H s n r ∧ Rp H v d ∧ ∀ H', Same H H' → Q (.bl (dLow (n + 1) d)) H'
def dPoints (n : Int) : PyData → Bool | .tuple ds => ds.all (dRow n) | _ => false
def spArePoints : Sp := fun vs H Q _ => ∃ (s : Addr) (n r : Int) (v : V) (d : PyData), vs = [.ref s, v] ∧ Space H s n r ∧ Rp H v d ∧ ∀ H', Same H H' → Q (.bl (dPoints n d)) H'
theorem last_at {ns : List Int} (h : 0 < ns.length) : atI (ns.map V.int) (-1) = some (.int (ns.getLastD 0)) := by
  obtain ⟨a, b, rfl⟩ : ∃ a b, ns = a ++ [b] := ⟨ns.dropLast, ns.getLast (by intro z; rw [z] at h; cases h), (List.dropLast_concat_getLast _).symm⟩
  rw [List.map_append]
  have e : (a ++ [b]).getLastD 0 = b := by simp
  rw [e]
  exact atI_last _ _
section
variable {P : Program} {w : World} {K : PySem.W.Frag} {mg : Str → Option Value} {base : Heap}
set_option pp.maxSteps 3000
theorem int_at {ns : List Int} {i : Nat} {x : V} (h : (ns.map V.int)[i]? = some x) : ∃ n, ns[i]? = some n ∧ x = .int n := by
  rw [List.getElem?_map] at h
  cases e : ns[i]? with
  | none => rw [e] at h; cases h
  | some n =>
    rw [e] at h
    exact ⟨n, rfl, (Option.some.inj h).symm⟩
abbrev sCommonDivisor : Stmt := topS 8
theorem scCommonDivisor : FnScope ["numbers", "found", "number"] ["numbers"] (defScope sCommonDivisor) := ⟨rfl, rfl, rfl, by decide +kernel, rfl, by decide +kernel, by decide +kernel⟩
theorem okCommonDivisor {f : Addr} {fd : FuncData} (F : Fun K "common_divisor" "common_divisor" sCommonDivisor f fd) (T : Tx mg)  : FnOk P w K mg base CX0 1 f fd ["numbers"] spGcdL := by
  refine F.ok scCommonDivisor (fun vs H Q E h => ?_) (fun cdv A outer s H vs Q E hr h => ?_)
  · obtain ⟨p, ns, rfl, _⟩ := h
    rfl
  · obtain ⟨p, ns, rfl, ⟨hp, hl⟩, kk⟩ := h
    refine ⟨_, (pss_cons (ps_set (i := 1) scCommonDivisor.nd rfl (Or.inl rfl) pe_int)
    (pss_cons (ps_for PassesOwn.never rfl (pi_or (pi_list (pv 0)) (pi_tup (pv 0))) (pg_name (i := 2) scCommonDivisor.nd rfl (Or.inl rfl))
    (pss_one (ps_set (i := 1) scCommonDivisor.nd rfl (Or.inl rfl) (pe_callBfun (r := rGcd) cr_gcd (by rfl) T.gcd (pa_cons (pv 1) (pa_cons (pv 2) pa_nil))))))
    (pss_one (ps_ret (pv 1))))), ?_⟩
    have st0 : L2.start ["numbers", "found", "number"] [V.ref p] = [some (V.ref p), none, none] := rfl
    rw [st0]
    walk_at "rds"
    rcases hp with hp | hp
    · skip
      refine .inl ?_
      walk_at "rds"
      refine ⟨⟨_, SqL.of hp⟩, for_list (K := K) (a := p) (xs := ns.map V.int) (fun i σ' H' => ∃ x, σ' = [some (.ref p), some (.int ((gN (ns.take i) : Nat) : Int)), x] ∧ H' = H) ⟨none, rfl, rfl⟩ (fun i σ' H' _ ⟨_, _, e⟩ => by rw [e]; exact SqL.of hp) ?_ ?_⟩
      · rintro i x σ' H' hx ⟨x1, rfl, rfl⟩
        obtain ⟨n, hn, rfl⟩ := int_at hx
        walk_at "rds"
        refine ⟨_, _, rfl, ?_⟩
        walk_at "rds"
        rw [gN_take hn]
        exact ⟨_, rfl, rfl⟩
      · rintro σ' H' ⟨x1, rfl, rfl⟩
        rw [List.length_map, List.take_length]
        walk_at "rds"
        exact kk _ (Same.refl _)
    · skip
      refine .inr ?_
      walk_at "rds"
      refine ⟨⟨_, SqT.of hp⟩, for_tup (K := K) (a := p) (xs := ns.map V.int) (fun i σ' H' => ∃ x, σ' = [some (.ref p), some (.int ((gN (ns.take i) : Nat) : Int)), x] ∧ H' = H) ⟨none, rfl, rfl⟩ (fun i σ' H' _ ⟨_, _, e⟩ => by rw [e]; exact SqT.of hp) ?_ ?_⟩
      · rintro i x σ' H' hx ⟨x1, rfl, rfl⟩
        obtain ⟨n, hn, rfl⟩ := int_at hx
        walk_at "rds"
        refine ⟨_, _, rfl, ?_⟩
        walk_at "rds"
        rw [gN_take hn]
        exact ⟨_, rfl, rfl⟩
      · rintro σ' H' ⟨x1, rfl, rfl⟩
        rw [List.length_map, List.take_length]
        walk_at "rds"
        exact kk _ (Same.refl _)

abbrev sLowestTerms : Stmt := topS 9
theorem scLowestTerms : FnScope ["numbers", "divisor", "number"] ["numbers"] (defScope sLowestTerms) := ⟨rfl, rfl, rfl, by decide +kernel, rfl, by decide +kernel, by decide +kernel⟩
theorem okLowestTerms {f : Addr} {fd : FuncData} (F : Fun K "lowest_terms" "lowest_terms" sLowestTerms f fd) (T : Tx mg) (DCommonDivisor : Dn P w K mg base CX0 "common_divisor" 1 ["numbers"] spGcdL) : FnOk P w K mg base CX0 2 f fd ["numbers"] spLow := by
  refine F.ok scLowestTerms (fun vs H Q E h => ?_) (fun cdv A outer s H vs Q E hr h => ?_)
  · obtain ⟨p, ns, rfl, _⟩ := h
    rfl
  · obtain ⟨p, ns, rfl, hI, ⟨n0, hn0, h0, hb0⟩, kk⟩ := h
    refine ⟨_, (pss_cons (ps_set (i := 1) scLowestTerms.nd rfl (Or.inr rfl) (pe_dn DCommonDivisor (hr.mono (by omega)) (pa_cons (pv 0) pa_nil)))
    (pss_one (ps_ret (pe_callTy call_tuple_of (by rfl) T.n_tuple (by decide +kernel) (pa_cons (pe_lc (own := [("number", 2)]) (g := gName 2) (by rfl) scLowestTerms.nd (pi_or (pi_list (pv 0)) (pi_tup (pv 0))) (blkOk_by (own := [("number", 2)]) (N := ["numbers", "divisor", "number"]) (sc := defScope sLowestTerms) (by decide +kernel)) (fun _ _ _ _ _ => pg_name (i := 2) scLowestTerms.nd rfl (Or.inl rfl)) (fun _ _ _ _ _ => pts_nil) (fun _ _ _ _ _ => (pe_op op_fdivW (pv 2) (pv 1)))) pa_nil))))), ?_⟩
    have st0 : L2.start ["numbers", "divisor", "number"] [V.ref p] = [some (V.ref p), none, none] := rfl
    rw [st0]
    have gp := gN_pos hn0 h0
    have cd : CDivW 0 (gcdL ns) := wide_div (b := 8000) (by rw [gcdL_eq]; omega) (by rw [gcdL_eq, Int.natAbs_natCast]; exact Nat.lt_of_le_of_lt (gN_le hn0 h0) hb0) (by decide) (by decide)
    walk_at "rds"
    refine ⟨p, ns, rfl, hI, fun H1 t1 => ?_⟩
    walk_at "rds"
    obtain ⟨hp, hl⟩ := hI
    rcases hp with hp | hp
    · skip
      refine .inl ?_
      walk_at "rds"
      have hp1 := t1 _ _ hp
      refine ⟨⟨_, SqL.of hp1⟩, fun d hd => lc_list (K := K) (a := p) (xs := ns.map V.int) (fun i H3 => H3 d = some (.lst (((ns.take i).map fun n => n / gcdL ns).map V.int)) ∧ Same H1 H3) ⟨upd_same, same_put hd (Same.refl _)⟩ (fun i H3 _ ⟨_, s3⟩ => SqL.of (s3 _ _ hp1)) ?_ ?_⟩
      · rintro i x H3 hx ⟨e3, s3⟩
        obtain ⟨n, hn, rfl⟩ := int_at hx
        refine ⟨rfl, ?_⟩
        walk_at "rds"
        refine ⟨_, e3, ?_, ?_, same_put hd s3⟩
        · rw [List.length_map, List.length_map, List.length_take, sizeLine_eq]
          omega
        · rw [upd_same, List.take_succ, hn, List.map_append, List.map_append]
          rfl
      · rintro H4 ⟨e4, s4⟩
        rw [List.length_map, List.take_length] at e4
        walk_at "rds"
        refine ⟨_, _, rfl, .inl ⟨SqL.of e4, fun q hq => ?_⟩⟩
        exact kk q _ upd_same (same_put (t1.free (s4.free hq)) (t1.trans s4))
    · skip
      refine .inr ?_
      walk_at "rds"
      have hp1 := t1 _ _ hp
      refine ⟨⟨_, SqT.of hp1⟩, fun d hd => lc_tup (K := K) (a := p) (xs := ns.map V.int) (fun i H3 => H3 d = some (.lst (((ns.take i).map fun n => n / gcdL ns).map V.int)) ∧ Same H1 H3) ⟨upd_same, same_put hd (Same.refl _)⟩ (fun i H3 _ ⟨_, s3⟩ => SqT.of (s3 _ _ hp1)) ?_ ?_⟩
      · rintro i x H3 hx ⟨e3, s3⟩
        obtain ⟨n, hn, rfl⟩ := int_at hx
        refine ⟨rfl, ?_⟩
        walk_at "rds"
        refine ⟨_, e3, ?_, ?_, same_put hd s3⟩
        · rw [List.length_map, List.length_map, List.length_take, sizeLine_eq]
          omega
        · rw [upd_same, List.take_succ, hn, List.map_append, List.map_append]
          rfl
      · rintro H4 ⟨e4, s4⟩
        rw [List.length_map, List.take_length] at e4
        walk_at "rds"
        refine ⟨_, _, rfl, .inl ⟨SqL.of e4, fun q hq => ?_⟩⟩
        exact kk q _ upd_same (same_put (t1.free (s4.free hq)) (t1.trans s4))

abbrev sIsLowest : Stmt := topS 14
theorem scIsLowest : FnScope ["thing"] ["thing"] (defScope sIsLowest) := ⟨rfl, rfl, rfl, by decide +kernel, rfl, by decide +kernel, by decide +kernel⟩
theorem okIsLowest {f : Addr} {fd : FuncData} (F : Fun K "is_lowest" "is_lowest" sIsLowest f fd) (T : Tx mg) (DCommonDivisor : Dn P w K mg base CX0 "common_divisor" 1 ["numbers"] spGcdL) : FnOk P w K mg base CX0 2 f fd ["thing"] spIsLow := by
  refine F.ok scIsLowest (fun vs H Q E h => ?_) (fun cdv A outer s H vs Q E hr h => ?_)
  · obtain ⟨p, ns, rfl, _⟩ := h
    rfl
  · obtain ⟨p, ns, rfl, hp, h0, hl, kk⟩ := h
    refine ⟨_, (pss_one (ps_ret (pe_and (pe_cmpR op_ge (pe_ix ix_tup (pv 0) (pe_un un_neg pe_int) (fun _ _ => rfl)) pe_int (nomark _)) (pe_one (pe_cmpR op_eq (pe_dn DCommonDivisor (hr.mono (by omega)) (pa_cons (pv 0) pa_nil)) pe_int (nomark _)))))), ?_⟩
    have st0 : L2.start ["thing"] [V.ref p] = [some (V.ref p)] := rfl
    rw [st0]
    walk_at "rds"
    refine Rd.ixT hp (last_at h0) ?_
    walk_at "rds"
    refine Rd.ifB (fun h => ?_) fun h => ?_
    · walk_at "rds"
      refine ⟨p, ns, rfl, ⟨.inr hp, hl⟩, fun H1 t1 => ?_⟩
      walk_at "rds"
      have e : lowB ns = decide (V.int (gcdL ns) = V.int 1) := by
        unfold lowB
        rw [show decide (1 ≤ ns.getLastD 0) = true from h, Bool.true_and]
        exact decide_eq_decide.mpr ⟨fun z => by rw [z], fun z => V.int.inj z⟩
      rw [← e]
      exact kk _ t1
    · walk_at "rds"
      have e : lowB ns = false := by
        unfold lowB
        rw [show decide (1 ≤ ns.getLastD 0) = false from h, Bool.false_and]
      rw [← e]
      exact kk _ (Same.refl _)
abbrev sIsQuotient : Stmt := topS 15
theorem scIsQuotient : FnScope ["thing"] ["thing"] (defScope sIsQuotient) := ⟨rfl, rfl, rfl, by decide +kernel, rfl, by decide +kernel, by decide +kernel⟩
theorem okIsQuotient {f : Addr} {fd : FuncData} (F : Fun K "is_quotient" "is_quotient" sIsQuotient f fd) (T : Tx mg) (DIsRow : Dn P w K mg base CX0 "is_row" 2 ["many", "thing"] spIsRow) (DIsLowest : Dn P w K mg base CX0 "is_lowest" 2 ["thing"] spIsLow) : FnOk P w K mg base CX0 3 f fd ["thing"] spIsQuot := by
  refine F.ok scIsQuotient (fun vs H Q E h => ?_) (fun cdv A outer s H vs Q E hr h => ?_)
  · obtain ⟨v, d, rfl, _⟩ := h
    rfl
  · obtain ⟨v, d, rfl, r, kk⟩ := h
    refine ⟨_, (pss_one (ps_ret (pe_and (pe_dn DIsRow (hr.mono (by omega)) (pa_cons pe_int (pa_cons (pv 0) pa_nil))) (pe_one (pe_dn DIsLowest (hr.mono (by omega)) (pa_cons (pv 0) pa_nil)))))), ?_⟩
    have st0 : L2.start ["thing"] [v] = [some (v)] := rfl
    rw [st0]
    walk_at "rds"
    refine ⟨2, v, d, rfl, r, fun H1 t1 => ?_⟩
    walk_at "rds"
    refine Rd.ifB (fun h => ?_) fun h => ?_
    · obtain ⟨ns, rfl, hn⟩ := row_ints h
      cases r with
      | tup e a l =>
        obtain rfl := a.ints ns
        rw [List.length_map] at l
        walk_at "rds"
        refine ⟨_, ns, rfl, t1 _ _ e, by omega, l, fun H2 t2 => ?_⟩
        have ez : dLow (2) (.tuple (ns.map PyData.int)) = lowB ns := by
          unfold dLow
          rw [h, Bool.true_and]
          show lowB (intsOf (ns.map PyData.int)) = lowB ns
          rw [intsOf_map]
        rw [← ez]
        exact kk _ (t1.trans t2)
    · walk_at "rds"
      have ez : dLow (2) d = false := by
        unfold dLow
        rw [h, Bool.false_and]
      rw [← ez]
      exact kk _ t1
abbrev sIsPoint : Stmt := topS 16
theorem scIsPoint : FnScope ["space", "thing"] ["space", "thing"] (defScope sIsPoint) := ⟨rfl, rfl, rfl, by decide +kernel, rfl, by decide +kernel, by decide +kernel⟩
theorem okIsPoint {f : Addr} {fd : FuncData} (F : Fun K "is_point" "is_point" sIsPoint f fd) (T : Tx mg) (DIsRow : Dn P w K mg base CX0 "is_row" 2 ["many", "thing"] spIsRow) : FnOk P w K mg base CX0 3 f fd ["space", "thing"] spIsPoint := by
  refine F.ok scIsPoint (fun vs H Q E h => ?_) (fun cdv A outer s H vs Q E hr h => ?_)
  · obtain ⟨s, n, rr, v, d, rfl, _⟩ := h
    rfl
  · obtain ⟨s, n, rr, v, d, rfl, ⟨hs, hn⟩, r, kk⟩ := h
    refine ⟨_, (pss_one (ps_ret (pe_dn DIsRow (hr.mono (by omega)) (pa_cons (pe_ix ix_tup (pv 0) pe_int (fun _ _ => rfl)) (pa_cons (pv 1) pa_nil))))), ?_⟩
    have st0 : L2.start ["space", "thing"] [V.ref s, v] = [some (V.ref s), some (v)] := rfl
    rw [st0]
    walk_at "rds"
    exact ⟨n, v, d, rfl, r, fun H1 t1 => kk _ t1⟩
abbrev sIsPlace : Stmt := topS 17
theorem scIsPlace : FnScope ["space", "thing"] ["space", "thing"] (defScope sIsPlace) := ⟨rfl, rfl, rfl, by decide +kernel, rfl, by decide +kernel, by decide +kernel⟩
theorem okIsPlace {f : Addr} {fd : FuncData} (F : Fun K "is_place" "is_place" sIsPlace f fd) (T : Tx mg) (DIsRow : Dn P w K mg base CX0 "is_row" 2 ["many", "thing"] spIsRow) (DIsLowest : Dn P w K mg base CX0 "is_lowest" 2 ["thing"] spIsLow) : FnOk P w K mg base CX0 3 f fd ["space", "thing"] spIsPlace := by
  refine F.ok scIsPlace (fun vs H Q E h => ?_) (fun cdv A outer s H vs Q E hr h => ?_)
  · obtain ⟨s, n, rr, v, d, rfl, _⟩ := h
    rfl
  · obtain ⟨s, n, rr, v, d, rfl, ⟨hs, hn⟩, r, kk⟩ := h
    refine ⟨_, (pss_one (ps_ret (pe_and (pe_dn DIsRow (hr.mono (by omega)) (pa_cons (pe_op op_add (pe_ix ix_tup (pv 0) pe_int (fun _ _ => rfl)) pe_int) (pa_cons (pv 1) pa_nil))) (pe_one (pe_dn DIsLowest (hr.mono (by omega)) (pa_cons (pv 1) pa_nil)))))), ?_⟩
    have st0 : L2.start ["space", "thing"] [V.ref s, v] = [some (V.ref s), some (v)] := rfl
    rw [st0]
    walk_at "rds"
    refine ⟨n + 1, v, d, rfl, r, fun H1 t1 => ?_⟩
    walk_at "rds"
    refine Rd.ifB (fun h => ?_) fun h => ?_
    · obtain ⟨ns, rfl, hn⟩ := row_ints h
      cases r with
      | tup e a l =>
        obtain rfl := a.ints ns
        rw [List.length_map] at l
        walk_at "rds"
        refine ⟨_, ns, rfl, t1 _ _ e, by omega, l, fun H2 t2 => ?_⟩
        have ez : dLow (n + 1) (.tuple (ns.map PyData.int)) = lowB ns := by
          unfold dLow
          rw [h, Bool.true_and]
          show lowB (intsOf (ns.map PyData.int)) = lowB ns
          rw [intsOf_map]
        rw [← ez]
        exact kk _ (t1.trans t2)
    · walk_at "rds"
      have ez : dLow (n + 1) d = false := by
        unfold dLow
        rw [h, Bool.false_and]
      rw [← ez]
      exact kk _ t1
abbrev sArePoints : Stmt := topS 18
theorem scArePoints : FnScope ["space", "thing", "point"] ["space", "thing"] (defScope sArePoints) := ⟨rfl, rfl, rfl, by decide +kernel, rfl, by decide +kernel, by decide +kernel⟩
theorem okArePoints {f : Addr} {fd : FuncData} (F : Fun K "are_points" "are_points" sArePoints f fd) (T : Tx mg) (DIsPoint : Dn P w K mg base CX0 "is_point" 3 ["space", "thing"] spIsPoint) : FnOk P w K mg base CX0 4 f fd ["space", "thing"] spArePoints := by
  refine F.ok scArePoints (fun vs H Q E h => ?_) (fun cdv A outer s H vs Q E hr h => ?_)
  · obtain ⟨s, n, rr, v, d, rfl, _⟩ := h
    rfl
  · obtain ⟨s, n, rr, v, d, rfl, hS, r, kk⟩ := h
    refine ⟨_, (pss_one (ps_ret (pe_and (pe_callB call_isi (by rfl) T.n_isinstance (by decide +kernel) (pa_cons (pv 1) (pa_cons (pe_bltn (v := .ty "tuple") (u := .type "tuple") rfl T.n_tuple (by decide +kernel) rfl) pa_nil))) (pe_one (pe_callB (cr_all rfl) (by rfl) T.n_all (by decide +kernel) (pa_cons (pe_lc (own := [("point", 2)]) (g := gName 2) (by rfl) scArePoints.nd (pi_tup (pv 1)) (blkOk_by (own := [("point", 2)]) (N := ["space", "thing", "point"]) (sc := defScope sArePoints) (by decide +kernel)) (fun _ _ _ _ _ => pg_name (i := 2) scArePoints.nd rfl (Or.inl rfl)) (fun _ _ _ _ _ => pts_nil) (fun _ _ _ _ _ => (pe_dn DIsPoint (hr.mono (by omega)) (pa_cons (pv 0) (pa_cons (pv 2) pa_nil))))) pa_nil)))))), ?_⟩
    have st0 : L2.start ["space", "thing", "point"] [V.ref s, v] = [some (V.ref s), some (v), none] := rfl
    rw [st0]
    cases r with
    | @tup p vs ds e a l =>
      walk_at "rds"
      have hl : vs.length = ds.length := a.len
      refine ⟨⟨_, SqT.of e⟩, fun d hd => lc_tup (K := K) (a := p) (xs := vs) (fun i H3 => H3 d = some (.lst (((ds.take i).map (dRow n)).map V.bl)) ∧ Same H H3) ⟨upd_same, same_put hd (Same.refl _)⟩ (fun i H3 _ ⟨_, s3⟩ => SqT.of (s3 _ _ e)) ?_ ?_⟩
      · rintro i x H3 hx ⟨e3, s3⟩
        refine ⟨rfl, ?_⟩
        walk_at "rds"
        obtain ⟨d1, h1, r1⟩ := a.at hx
        refine ⟨s, n, rr, x, d1, rfl, hS.to s3, r1.to s3, fun H4 t4 => ⟨_, t4 _ _ e3, ?_, ?_, same_put hd (s3.trans t4)⟩⟩
        · rw [List.length_map, List.length_map, List.length_take, sizeLine_eq]
          omega
        · rw [upd_same, List.take_succ, h1, List.map_append, List.map_append]
          rfl
      · rintro H4 ⟨e4, s4⟩
        walk_at "rds"
        refine ⟨d, _, rfl, SqL.of e4, ?_⟩
        rw [hl, List.take_length]
        have ez : dPoints n (.tuple ds) = (ds.map (dRow n)).all id := by
          show ds.all (dRow n) = _
          rw [List.all_map]
          rfl
        rw [← ez]
        exact kk _ s4
    | non | bl | int | str | lst =>
      walk_at "rds"
      exact kk _ (Same.refl _)
end
end K15
end SecP2
section SecP3
set_option Elab.async false
set_option linter.all false
set_option maxRecDepth 100000
set_option maxHeartbeats 4000000
set_option pp.deepTerms false
local macro_rules | `(tactic| walk_at "tq") => `(tactic| first | assumption | (refine' Dt.Tq.to ?s0 ?h0; (case h0 => assumption); (case s0 => walk_at "same")))
local macro_rules | `(tactic| walk_at "same") => `(tactic| first | exact L2.Same.refl _ | assumption | (refine' L2.Same.trans ?s1 ?s2; (case s2 => assumption); (case s1 => walk_at "same")))
local macro_rules | `(tactic| walk_at "sam") => `(tactic| first | exact Dt.Sam.refl | assumption | exact Dt.Sam.of (by assumption) | (refine' Dt.Sam.trans ?s1 ?s2; (case s2 => first | assumption | exact Dt.Sam.of (by assumption)); (case s1 => walk_at "sam")))
local macro_rules | `(tactic| walk_at "tape") => `(tactic| first | assumption | (refine' Dt.Tape.mono ?h0 ?s0; (case h0 => assumption); (case s0 => walk_at "same")))
local macro_rules | `(tactic| walk_at "nt") => `(tactic| first | exact Dt.nt_tup | exact Dt.nt_ints | assumption | (intro a0 b0 c0 l0 z0; cases z0) | (intro a0 b0 c0 l0 z0; simp at z0))
local macro_rules | `(tactic| walk_at "heap") => `(tactic| first | assumption | exact L2.upd_same | (refine' Rd.at_to ?s0 ?h0; (case h0 => assumption); (case s0 => walk_at "same")) | (refine' Dt.at_sam ?n0 ?s0 ?h0; (case h0 => assumption); (case n0 => walk_at "nt"); (case s0 => walk_at "sam")))
local macro_rules | `(tactic| walk_at "rp") => `(tactic| first | exact Dt.Rp.int _ | exact Dt.Rp.bl _ | exact Dt.Rp.str _ | exact Dt.Rp.non | assumption | (refine' Dt.Rp.sm ?s0 ?h0; (case h0 => assumption); (case s0 => walk_at "sam")) | (refine' Dt.Rp.tup ?h1 ?h2 ?h3; (case h1 => walk_at "heap"); (case h2 => walk_at "rps"); (case h3 => first | assumption | (show _ ≤ 1000; decide) | (show _ ≤ 1000; simp) | (show _ ≤ 1000; omega))) | (refine' Dt.Rp.lst ?h1 ?h2 ?h3 ?h4; (case h1 => walk_at "heap"); (case h2 => walk_at "rps"); (case h3 => first | assumption | (show _ ≤ 1000; decide) | (show _ ≤ 1000; simp) | (show _ ≤ 1000; omega)); (case h4 => walk_at "nt")))
local macro_rules | `(tactic| walk_at "rps") => `(tactic| first | exact Dt.RpAll.nil | assumption | (refine' Dt.RpAll.cons ?h1 ?h2; (case h1 => walk_at "rp"); (case h2 => walk_at "rps")) | (refine' Dt.RpAll.sm ?s0 ?h0; (case h0 => assumption); (case s0 => walk_at "sam")))
local macro_rules | `(tactic| walk_at "rd") => `(tactic| first
  | with_reducible refine Rd.seq ?_ | with_reducible refine Rd.asg ?_ | with_reducible refine Rd.nm ?_ | with_reducible refine Rd.sub ?_ | with_reducible refine Rd.ret ?_ | with_reducible refine Rd.retN ?_
  | with_reducible refine Rd.drop ?_ | with_reducible refine Rd.ifs ?_ | with_reducible refine Rd.next ?_ | with_reducible refine Rd.cst ?_ | with_reducible refine Rd.op ?_ | with_reducible refine Rd.un ?_
  | with_reducible refine Rd.test ?_ | with_reducible refine Rd.tb' ?_ | with_reducible refine Rd.exb ?_ | with_reducible refine Rd.exi ?_ | with_reducible refine Rd.and2 ?_ | with_reducible refine Rd.or2 ?_ | with_reducible refine Rd.not1 ?_
  | with_reducible refine Rd.andV ?_ | with_reducible refine Rd.orV ?_ | with_reducible refine Rd.notV ?_ | with_reducible refine Rd.nil ?_ | with_reducible refine Rd.cons ?_ | with_reducible refine Rd.cb ?_
  | with_reducible refine Rd.i0 ?_ | with_reducible refine Rd.u1 ?_ | with_reducible refine Rd.call ?_ | with_reducible refine Rd.tup ?_ | with_reducible refine Rd.lst ?_ | with_reducible refine Rd.sl ?_ | with_reducible refine Rd.no ?_ | with_reducible refine Rd.part ?_ | with_reducible refine Rd.at_ ?_ | with_reducible refine Rd.yes ?_ | with_reducible refine Rd.fors ?_ | with_reducible refine Rd.m1 ?_ | with_reducible refine Rd.exs ?_ | with_reducible refine Rd.lc ?_ | with_reducible refine Rd.rng ?_
  | with_reducible refine Rd.mkv ?_ | with_reducible refine Rd.mko ?_ | with_reducible refine Rd.callB ?_ | with_reducible refine Rd.callS ?_ | with_reducible refine Rd.bm ?_ | with_reducible refine Rd.itl ?_ | with_reducible refine Rd.itt ?_
  | ((with_reducible refine' And.intro ?hl ?_); (case hl => ((with_reducible show List.length _ ≤ PySem.sizeLine); (show _ ≤ PySem.sizeLine); rw [PySem.sizeLine_eq]; simp)))
  | (intro p0 n0; generalize hK0 : L2.upd _ p0 _ = K0; obtain ⟨e0, t0⟩ := Dt.newK hK0 n0)
  | ((with_reducible refine' Rd.lenKL ?he ?_); (case he => walk_at "heap")) | ((with_reducible refine' Rd.lenKT ?he ?_); (case he => walk_at "heap"))
  | ((with_reducible refine' Rd.var ?hv ?_); (case hv => exact rfl))
  | ((with_reducible refine' Rd.ifT ?hv ?_); (case hv => first | exact rfl | assumption)) | ((with_reducible refine' Rd.ifF ?hv ?_); (case hv => first | exact rfl | assumption))
  | ((with_reducible refine' Rd.eq ?hv ?_); (case hv => exact rfl))
  | ((with_reducible refine' Rd.ne ?hv ?_); (case hv => exact rfl))
  | ((with_reducible refine' Dt.isi_int ?hr ?_); (case hr => walk_at "rp")) | ((with_reducible refine' Dt.isi_bool ?hr ?_); (case hr => walk_at "rp")) | ((with_reducible refine' Dt.isi_tuple ?hr ?_); (case hr => walk_at "rp")) | ((with_reducible refine' Dt.isi_str ?hr ?_); (case hr => walk_at "rp")) | ((with_reducible refine' Dt.isi_list ?hr ?_); (case hr => walk_at "rp"))
  | with_reducible refine ⟨rfl, ?_⟩ | with_reducible refine Or.inl ⟨_, rfl, ?_⟩ | with_reducible refine Or.inr ⟨_, rfl, ?_⟩ | with_reducible refine ⟨_, rfl, ?_⟩
  | ((with_reducible refine' Rd.ex2 ⟨rfl, ?hl, ?_⟩); (case hl => first | exact Or.inl ⟨_, L2.SqL.of (by walk_at "heap"), rfl⟩ | exact Or.inr ⟨_, L2.SqT.of (by walk_at "heap"), rfl⟩))
  | ((with_reducible refine' Rd.i1 ?hv ?_); (case hv => first | exact ⟨by decide, by decide, by decide⟩ | exact Or.inr ⟨by decide, by decide⟩ | exact Or.inl ⟨by decide, by decide⟩ | exact ⟨by decide, by decide⟩ | decide | assumption | (show _ ≠ _; omega) | (refine ⟨?_, ?_⟩ <;> omega) | (refine Or.inl ⟨?_, ?_⟩ <;> omega)))
  | ((with_reducible refine' Rd.ixL ?he ?hx ?_); (case he => walk_at "heap"); (case hx => rfl))
  | ((with_reducible refine' Rd.ixT ?he ?hx ?_); (case he => walk_at "heap"); (case hx => rfl))
  | ((with_reducible refine' Rd.setL ?he ?hx ?_); (case he => first | assumption | exact L2.upd_same); (case hx => rfl)))
local macro_rules | `(tactic| walk_at "rd") => `(tactic| first | with_reducible refine Rd.isT ?_ | with_reducible refine Rd.isnT ?_)
local macro_rules | `(tactic| walk_at "rd") => `(tactic| first | ((with_reducible refine' Rd.gtup ?he ?hl ?_); (case he => walk_at "heap"); (case hl => exact rfl)) | with_reducible refine Rd.brk ?_ | with_reducible refine Rd.callR ?_ | ((with_reducible refine' Rd.tupOf ?hp ?hk); (case hp => walk_at "heap"); (case hk => intro r0 J0 e0 t0 n0)) | ((with_reducible refine' Rd.lstOf ?hp ?hk); (case hp => walk_at "heap"); (case hk => intro r0 J0 e0 t0 n0)) | ((with_reducible refine' Rd.catL ?hp ?hq ?hl ?hk); (case hp => walk_at "heap"); (case hq => walk_at "heap"); (case hl => (simp only [List.length_map, List.length_append, List.length_cons, List.length_nil]; omega)); (case hk => intro r0 J0 e0 t0 n0)) | with_reducible refine Rd.bits ?_ | with_reducible refine Rd.max2 ?_ | with_reducible refine Rd.gcons ?_ | with_reducible refine Rd.gnil ?_)
local macro_rules | `(tactic| walk_at "rds") => `(tactic| repeat (first | walk_at "rd" | assumption))
namespace K15
open PySem PySem.Spec PyProof.Rows L2 L2H Err Dt
def dNz : PyData → Bool | .int i => !decide (i = 0) | _ => false
theorem int_of {d : PyData} (h : dInt d = true) : ∃ i, d = .int i := by
  cases d with
  | int i => exact ⟨i, rfl⟩
  | _ => cases h
theorem _root_.Dt.Rp.i {H : Hp} {v : V} {i : Int} (h : Rp H v (.int i)) : v = .int i := by cases h; rfl
/-- x / y is a / b in lowest terms -/
structure QF (x y a b : Int) : Prop where
  mul : x * b = a * y
  pos : 1 ≤ y
  low : Nat.gcd x.natAbs y.natAbs = 1
  le1 : x.natAbs ≤ a.natAbs
  le2 : y.natAbs ≤ b.natAbs
theorem QF.neg {x y a b : Int} (h : QF x y (-a) (-b)) : QF x y a b :=
  ⟨by have := h.mul; rw [Int.mul_neg, Int.neg_mul] at this; exact Int.neg_inj.mp this, h.pos, h.low, by have := h.le1; rwa [Int.natAbs_neg] at this, by have := h.le2; rwa [Int.natAbs_neg] at this⟩
theorem low_two {a b : Int} (hb : 0 < b) : ∃ x y, lowL [a, b] = [x, y] ∧ QF x y a b := by
  have hm : b ∈ [a, b] := by simp
  have hn : b ≠ 0 := by omega
  have g0 : 0 < gcdL [a, b] := by rw [gcdL_eq]; have := gN_pos hm hn; omega
  have e1 := low_mul (ns := [a, b]) (m := a) (by simp)
  have e2 := low_mul (ns := [a, b]) (m := b) (by simp)
  have el := gN_low hm hn
  generalize hg : gcdL [a, b] = gg at *
  refine ⟨a / gg, b / gg, by unfold lowL; rw [hg]; rfl, ?_, ?_, ?_, ?_, ?_⟩
  · calc a / gg * b = a / gg * (b / gg * gg) := by rw [e2]
      _ = (a / gg * gg) * (b / gg) := by rw [Int.mul_assoc, Int.mul_comm gg]
      _ = a * (b / gg) := by rw [e1]
  · have : 0 < b / gg * gg := by rw [e2]; exact hb
    have := Int.pos_of_mul_pos_left this g0
    omega
  · have z : lowL [a, b] = [a / gg, b / gg] := by unfold lowL; rw [hg]; rfl
    rw [z] at el
    unfold gN at el
    simpa using el
  · have := congrArg Int.natAbs e1
    rw [Int.natAbs_mul] at this
    rw [← this]
    exact Nat.le_mul_of_pos_right _ (by omega)
  · have := congrArg Int.natAbs e2
    rw [Int.natAbs_mul] at this
    rw [← this]
    exact Nat.le_mul_of_pos_right _ (by omega)
def spQuotOf (CN : Addr) : Sp := fun vs H Q E => ∃ (tv bv : V) (dt db : PyData), vs = [tv, bv] ∧ Rp H tv dt ∧ Rp H bv db ∧ (dInt dt = false → NU CN "top" E H) ∧ (dInt dt = true → dNz db = false → NU CN "bottom" E H) ∧
  (∀ a b, dt = .int a → db = .int b → b ≠ 0 → b.natAbs < 2 ^ 8000 ∧ ∀ (p : Addr) (H' : Hp) (x y : Int), H' p = some (.tup [.int x, .int y]) → QF x y a b → Same H H' → Q (.ref p) H')
/-- quotients as data -/
theorem quot_of {d : PyData} (h : dLow 2 d = true) : ∃ a b, d = .tuple [.int a, .int b] ∧ 1 ≤ b ∧ Nat.gcd a.natAbs b.natAbs = 1 := by
  unfold dLow at h
  rw [Bool.and_eq_true] at h
  obtain ⟨h1, h2⟩ := h
  obtain ⟨ns, rfl, hn⟩ := row_ints h1
  match ns, hn with
  | [a, b], _ =>
    have h3 : lowB [a, b] = true := h2
    unfold lowB at h3
    rw [Bool.and_eq_true] at h3
    refine ⟨a, b, rfl, of_decide_eq_true h3.1, ?_⟩
    have z := of_decide_eq_true h3.2
    rw [gcdL_eq] at z
    have z2 : gN [a, b] = 1 := by omega
    unfold gN at z2
    simpa using z2
theorem low_of {a b : Int} (h1 : 1 ≤ b) (h2 : Nat.gcd a.natAbs b.natAbs = 1) : dLow 2 (.tuple [.int a, .int b]) = true := by
  have z : gcdL [a, b] = 1 := by
    rw [gcdL_eq]
    unfold gN
    have : ([a, b].foldl (fun g n => Nat.gcd g n.natAbs) 0) = 1 := by simpa using h2
    rw [this]; rfl
  show (decide ((2 : Int) = 2) && (true && (true && true)) && lowB [a, b]) = true
  unfold lowB
  rw [show ([a, b].getLastD 0) = b from rfl, decide_eq_true h1, decide_eq_true z]
  rfl
theorem _root_.Dt.Rp.q {H : Hp} {v : V} {a b : Int} (h : Rp H v (.tuple [.int a, .int b])) : ∃ p, v = .ref p ∧ H p = some (.tup [.int a, .int b]) := by
  cases h with
  | tup e r l =>
    have := r.ints [a, b]
    subst this
    exact ⟨_, rfl, e⟩
theorem rp_q {H : Hp} {p : Addr} {a b : Int} (e : H p = some (.tup [.int a, .int b])) : Rp H (.ref p) (.tuple [.int a, .int b]) := .tup e (.cons (.int a) (.cons (.int b) .nil)) (by show 2 ≤ 1000; decide)
/-- a quotient's sizes -/
abbrev Sm (i : Int) : Prop := i.natAbs < 2 ^ 2000
theorem sm_mul {a b : Int} (ha : Sm a) (hb : Sm b) : CMulW a b := wide_mul ha hb (by decide) (by decide) (by decide)
theorem sm_mul_lt {a b : Int} (ha : Sm a) (hb : Sm b) : (a * b).natAbs < 2 ^ 8000 := Nat.lt_of_lt_of_le (wide_lt ha hb) (Nat.pow_le_pow_right (by decide) (by decide))
def spBoth (CN : Addr) : Sp := fun vs H Q E => ∃ (u v : V) (d1 d2 : PyData), vs = [u, v] ∧ Rp H u d1 ∧ Rp H v d2 ∧ (dLow 2 d1 = false → NU CN "one" E H) ∧ (dLow 2 d1 = true → dLow 2 d2 = false → NU CN "other" E H) ∧ (dLow 2 d1 = true → dLow 2 d2 = true → ∀ H', Same H H' → Q .non H')
def spBin (CN : Addr) (ok : Int → Bool) (tf bf : Int → Int → Int → Int → Int) : Sp := fun vs H Q E => ∃ (u v : V) (d1 d2 : PyData), vs = [u, v] ∧ Rp H u d1 ∧ Rp H v d2 ∧ (dLow 2 d1 = false → NU CN "one" E H) ∧ (dLow 2 d1 = true → dLow 2 d2 = false → NU CN "other" E H) ∧
  (∀ a b c d, d1 = .tuple [.int a, .int b] → d2 = .tuple [.int c, .int d] → dLow 2 d1 = true → dLow 2 d2 = true → (ok c = false → NU CN "other" E H) ∧ (ok c = true → Sm a ∧ Sm b ∧ Sm c ∧ Sm d ∧
    ∀ (p : Addr) (H' : Hp) (x y : Int), H' p = some (.tup [.int x, .int y]) → QF x y (tf a b c d) (bf a b c d) → Same H H' → Q (.ref p) H'))
def spLess (CN : Addr) : Sp := fun vs H Q E => ∃ (u v : V) (d1 d2 : PyData), vs = [u, v] ∧ Rp H u d1 ∧ Rp H v d2 ∧ (dLow 2 d1 = false → NU CN "one" E H) ∧ (dLow 2 d1 = true → dLow 2 d2 = false → NU CN "other" E H) ∧
  (∀ a b c d, d1 = .tuple [.int a, .int b] → d2 = .tuple [.int c, .int d] → dLow 2 d1 = true → dLow 2 d2 = true → Sm a ∧ Sm b ∧ Sm c ∧ Sm d ∧ ∀ H', Same H H' → Q (.bl (decide (a * d < c * b))) H')
section
variable {P : Program} {w : World} {K : PySem.W.Frag} {mg : Str → Option Value} {base : Heap}
set_option pp.maxSteps 3000
abbrev sQuotientOf : Stmt := topS 25
theorem scQuotientOf : FnScope ["top", "bottom"] ["top", "bottom"] (defScope sQuotientOf) := ⟨rfl, rfl, rfl, by decide +kernel, rfl, by decide +kernel, by decide +kernel⟩
theorem okQuotientOf {f : Addr} {fd : FuncData} (F : Fun K "quotient_of" "quotient_of" sQuotientOf f fd) (T : Tx mg) {CN : Addr} (DDemand : Dn P w K mg base (L2N.CX P w) "demand" 3 ["fits", "word"] (spDemand CN)) (DIsInteger : Dn P w K mg base CX0 "is_integer" 1 ["thing"] spIsInt) (DLowestTerms : Dn P w K mg base CX0 "lowest_terms" 2 ["numbers"] spLow)  : FnOk P w K mg base (L2N.CX P w) 4 f fd ["top", "bottom"] (spQuotOf CN) := by
  refine okN F scQuotientOf (fun vs H Q E h => ?_) (fun cdv A outer s H vs Q E hr h => ?_)
  · obtain ⟨tv, bv, dt, db, rfl, _⟩ := h
    rfl
  · obtain ⟨tv, bv, dt, db, rfl, r1, r2, k1, k2, kk⟩ := h
    refine ⟨_, (pss_cons (ps_expr (pe_dnX DDemand (hr.mono (by omega)) (L2N.takes_of rfl rfl rfl rfl) (pa_cons (pe_dn DIsInteger (hr.mono (by omega)) (pa_cons (pv 0) pa_nil)) (pa_cons pe_str pa_nil))))
    (pss_cons (ps_expr (pe_dnX DDemand (hr.mono (by omega)) (L2N.takes_of rfl rfl rfl rfl) (pa_cons (pe_and (pe_dn DIsInteger (hr.mono (by omega)) (pa_cons (pv 1) pa_nil)) (pe_one (pe_cmpR op_ne (pv 1) pe_int (nomark _)))) (pa_cons pe_str pa_nil))))
    (pss_cons (ps_if (pt_cmpR op_lt (pv 1) pe_int (nomark _))
    (pss_one (ps_ret (pe_dn DLowestTerms (hr.mono (by omega)) (pa_cons (pe_tup (pa_cons (pe_un un_neg (pv 0)) (pa_cons (pe_un un_neg (pv 1)) pa_nil))) pa_nil))))
    pss_nil)
    (pss_one (ps_ret (pe_dn DLowestTerms (hr.mono (by omega)) (pa_cons (pe_tup (pa_cons (pv 0) (pa_cons (pv 1) pa_nil))) pa_nil))))))), ?_⟩
    have st0 : L2.start ["top", "bottom"] [tv, bv] = [some (tv), some (bv)] := rfl
    rw [st0]
    walk_at "rds"
    refine ⟨tv, dt, rfl, r1, fun H1 t1 => ?_⟩
    walk_at "rds"
    refine ⟨_, _, rfl, fun h => ?_, fun h => (k1 h).to t1⟩
    obtain ⟨a, rfl⟩ := int_of h
    cases r1.i
    walk_at "rds"
    refine ⟨bv, db, rfl, r2.to t1, fun H2 t2 => ?_⟩
    walk_at "rds"
    have t12 := t1.trans t2
    refine Rd.ifB (fun hb => ?_) fun hb => ?_
    · obtain ⟨b, rfl⟩ := int_of hb
      cases r2.i
      walk_at "rds"
      have ez : (!decide (V.int b = V.int 0)) = dNz (.int b) := by
        show _ = !decide (b = 0)
        rw [decide_eq_decide.mpr ⟨fun z => V.int.inj z, fun z => by rw [z]⟩]
      refine ⟨_, _, rfl, fun h2 => ?_, fun h2 => (k2 rfl (by rw [← ez]; exact h2)).to t12⟩
      have b0 : b ≠ 0 := fun z => by rw [z] at h2; exact absurd h2 (by decide)
      obtain ⟨bd, k⟩ := kk a b rfl rfl b0
      walk_at "rds"
      refine Rd.ifB (fun h3 => ?_) fun h3 => ?_
      · have hn : b < 0 := of_decide_eq_true h3
        walk_at "rds"
        obtain ⟨x, y, el, q⟩ := low_two (a := -a) (b := -b) (by omega)
        refine ⟨_, [-a, -b], rfl, ⟨.inr (by assumption), by show 2 ≤ 1000; decide⟩, ⟨-b, by simp, by omega, by rw [Int.natAbs_neg]; exact bd⟩, fun q' H3 e3 t3 => ?_⟩
        rw [el] at e3
        exact k q' H3 x y e3 q.neg ((t12.trans (by assumption)).trans t3)
      · have hn : ¬ b < 0 := of_decide_eq_false h3
        walk_at "rds"
        obtain ⟨x, y, el, q⟩ := low_two (a := a) (b := b) (by omega)
        refine ⟨_, [a, b], rfl, ⟨.inr (by assumption), by show 2 ≤ 1000; decide⟩, ⟨b, by simp, b0, bd⟩, fun q' H3 e3 t3 => ?_⟩
        rw [el] at e3
        exact k q' H3 x y e3 q ((t12.trans (by assumption)).trans t3)
    · walk_at "rds"
      have kz : dNz db = false := by
        cases db with
        | int i => cases hb
        | _ => rfl
      first | exact ⟨_, _, rfl, (fun h2 => by cases h2), fun _ => (k2 rfl kz).to t12⟩ | exact ⟨_, rfl, (fun h2 => by cases h2), fun _ => (k2 rfl kz).to t12⟩
abbrev sDemandBoth : Stmt := topS 26
theorem scDemandBoth : FnScope ["one", "other"] ["one", "other"] (defScope sDemandBoth) := ⟨rfl, rfl, rfl, by decide +kernel, rfl, by decide +kernel, by decide +kernel⟩
theorem okDemandBoth {f : Addr} {fd : FuncData} (F : Fun K "demand_both" "demand_both" sDemandBoth f fd) (T : Tx mg) {CN : Addr} (DDemand : Dn P w K mg base (L2N.CX P w) "demand" 3 ["fits", "word"] (spDemand CN)) (DIsQuotient : Dn P w K mg base CX0 "is_quotient" 3 ["thing"] spIsQuot)  : FnOk P w K mg base (L2N.CX P w) 4 f fd ["one", "other"] (spBoth CN) := by
  refine okN F scDemandBoth (fun vs H Q E h => ?_) (fun cdv A outer s H vs Q E hr h => ?_)
  · obtain ⟨u, v, d1, d2, rfl, _⟩ := h
    rfl
  · obtain ⟨u, v, d1, d2, rfl, r1, r2, k1, k2, kk⟩ := h
    refine ⟨_, (pss_cons (ps_expr (pe_dnX DDemand (hr.mono (by omega)) (L2N.takes_of rfl rfl rfl rfl) (pa_cons (pe_dn DIsQuotient (hr.mono (by omega)) (pa_cons (pv 0) pa_nil)) (pa_cons pe_str pa_nil))))
    (pss_one (ps_expr (pe_dnX DDemand (hr.mono (by omega)) (L2N.takes_of rfl rfl rfl rfl) (pa_cons (pe_dn DIsQuotient (hr.mono (by omega)) (pa_cons (pv 1) pa_nil)) (pa_cons pe_str pa_nil)))))), ?_⟩
    have st0 : L2.start ["one", "other"] [u, v] = [some (u), some (v)] := rfl
    rw [st0]
    walk_at "rds"
    refine ⟨u, d1, rfl, r1, fun H1 t1 => ?_⟩
    walk_at "rds"
    refine ⟨_, _, rfl, fun h => ?_, fun h => (k1 h).to t1⟩
    walk_at "rds"
    refine ⟨v, d2, rfl, r2.to t1, fun H2 t2 => ?_⟩
    walk_at "rds"
    exact ⟨_, _, rfl, fun h2 => kk h h2 _ (t1.trans t2), fun h2 => (k2 h h2).to (t1.trans t2)⟩
abbrev sPlus : Stmt := topS 27
theorem scPlus : FnScope ["one", "other"] ["one", "other"] (defScope sPlus) := ⟨rfl, rfl, rfl, by decide +kernel, rfl, by decide +kernel, by decide +kernel⟩
theorem okPlus {f : Addr} {fd : FuncData} (F : Fun K "plus" "plus" sPlus f fd) (T : Tx mg) {CN : Addr} (DDemandBoth : Dn P w K mg base (L2N.CX P w) "demand_both" 4 ["one", "other"] (spBoth CN)) (DQuotientOf : Dn P w K mg base (L2N.CX P w) "quotient_of" 4 ["top", "bottom"] (spQuotOf CN))  : FnOk P w K mg base (L2N.CX P w) 5 f fd ["one", "other"] (spBin CN (fun _ => true) (fun a b c d => a * d + c * b) (fun a b c d => b * d)) := by
  refine okN F scPlus (fun vs H Q E h => ?_) (fun cdv A outer s H vs Q E hr h => ?_)
  · obtain ⟨u, v, d1, d2, rfl, _⟩ := h
    rfl
  · obtain ⟨u, v, d1, d2, rfl, r1, r2, k1, k2, kk⟩ := h
    refine ⟨_, (pss_cons (ps_expr (pe_dnX DDemandBoth (hr.mono (by omega)) (L2N.takes_of rfl rfl rfl rfl) (pa_cons (pv 0) (pa_cons (pv 1) pa_nil))))
    (pss_one (ps_ret (pe_dnX DQuotientOf (hr.mono (by omega)) (L2N.takes_of rfl rfl rfl rfl) (pa_cons (pe_op op_add (pe_op op_mulW (pe_ix ix_tup (pv 0) pe_int (fun _ _ => rfl)) (pe_ix ix_tup (pv 1) pe_int (fun _ _ => rfl))) (pe_op op_mulW (pe_ix ix_tup (pv 1) pe_int (fun _ _ => rfl)) (pe_ix ix_tup (pv 0) pe_int (fun _ _ => rfl)))) (pa_cons (pe_op op_mulW (pe_ix ix_tup (pv 0) pe_int (fun _ _ => rfl)) (pe_ix ix_tup (pv 1) pe_int (fun _ _ => rfl))) pa_nil)))))), ?_⟩
    have st0 : L2.start ["one", "other"] [u, v] = [some (u), some (v)] := rfl
    rw [st0]
    walk_at "rds"
    refine ⟨u, v, d1, d2, rfl, r1, r2, k1, k2, fun h1 h2 H1 t1 => ?_⟩
    obtain ⟨a, b, rfl, pb, gb⟩ := quot_of h1
    obtain ⟨c, d, rfl, pd, gd⟩ := quot_of h2
    obtain ⟨k3, k4⟩ := kk a b c d rfl rfl h1 h2
    obtain ⟨p1, rfl, e1⟩ := r1.q
    obtain ⟨p2, rfl, e2⟩ := r2.q
    have okc : (fun _ : Int => true) c = true := rfl
    have tt := t1
    obtain ⟨sa, sb, sc, sd, k5⟩ := k4 okc
    have m1 := sm_mul sa sd
    have m2 := sm_mul sc sb
    have m3 := sm_mul sb sd
    have m4 := sm_mul sa sc
    have m5 := sm_mul sb sc
    walk_at "rds"
    refine ⟨_, _, _, _, rfl, .int _, .int _, (fun h => by cases h), (fun _ h => ?_), fun a' b' ea eb hb => ?_⟩
    · exfalso
      have z : b * d = 0 := of_decide_eq_true (by rw [← Bool.not_eq_false']; exact h)
      exact Int.ne_of_gt (Int.mul_pos (by omega) (by omega)) z
    · cases ea
      cases eb
      exact ⟨sm_mul_lt sb sd, fun p H' x y e q t => k5 p H' x y e q (tt.trans t)⟩
abbrev sMinus : Stmt := topS 28
theorem scMinus : FnScope ["one", "other"] ["one", "other"] (defScope sMinus) := ⟨rfl, rfl, rfl, by decide +kernel, rfl, by decide +kernel, by decide +kernel⟩
theorem okMinus {f : Addr} {fd : FuncData} (F : Fun K "minus" "minus" sMinus f fd) (T : Tx mg) {CN : Addr} (DDemandBoth : Dn P w K mg base (L2N.CX P w) "demand_both" 4 ["one", "other"] (spBoth CN)) (DQuotientOf : Dn P w K mg base (L2N.CX P w) "quotient_of" 4 ["top", "bottom"] (spQuotOf CN))  : FnOk P w K mg base (L2N.CX P w) 5 f fd ["one", "other"] (spBin CN (fun _ => true) (fun a b c d => a * d - c * b) (fun a b c d => b * d)) := by
  refine okN F scMinus (fun vs H Q E h => ?_) (fun cdv A outer s H vs Q E hr h => ?_)
  · obtain ⟨u, v, d1, d2, rfl, _⟩ := h
    rfl
  · obtain ⟨u, v, d1, d2, rfl, r1, r2, k1, k2, kk⟩ := h
    refine ⟨_, (pss_cons (ps_expr (pe_dnX DDemandBoth (hr.mono (by omega)) (L2N.takes_of rfl rfl rfl rfl) (pa_cons (pv 0) (pa_cons (pv 1) pa_nil))))
    (pss_one (ps_ret (pe_dnX DQuotientOf (hr.mono (by omega)) (L2N.takes_of rfl rfl rfl rfl) (pa_cons (pe_op op_sub (pe_op op_mulW (pe_ix ix_tup (pv 0) pe_int (fun _ _ => rfl)) (pe_ix ix_tup (pv 1) pe_int (fun _ _ => rfl))) (pe_op op_mulW (pe_ix ix_tup (pv 1) pe_int (fun _ _ => rfl)) (pe_ix ix_tup (pv 0) pe_int (fun _ _ => rfl)))) (pa_cons (pe_op op_mulW (pe_ix ix_tup (pv 0) pe_int (fun _ _ => rfl)) (pe_ix ix_tup (pv 1) pe_int (fun _ _ => rfl))) pa_nil)))))), ?_⟩
    have st0 : L2.start ["one", "other"] [u, v] = [some (u), some (v)] := rfl
    rw [st0]
    walk_at "rds"
    refine ⟨u, v, d1, d2, rfl, r1, r2, k1, k2, fun h1 h2 H1 t1 => ?_⟩
    obtain ⟨a, b, rfl, pb, gb⟩ := quot_of h1
    obtain ⟨c, d, rfl, pd, gd⟩ := quot_of h2
    obtain ⟨k3, k4⟩ := kk a b c d rfl rfl h1 h2
    obtain ⟨p1, rfl, e1⟩ := r1.q
    obtain ⟨p2, rfl, e2⟩ := r2.q
    have okc : (fun _ : Int => true) c = true := rfl
    have tt := t1
    obtain ⟨sa, sb, sc, sd, k5⟩ := k4 okc
    have m1 := sm_mul sa sd
    have m2 := sm_mul sc sb
    have m3 := sm_mul sb sd
    have m4 := sm_mul sa sc
    have m5 := sm_mul sb sc
    walk_at "rds"
    refine ⟨_, _, _, _, rfl, .int _, .int _, (fun h => by cases h), (fun _ h => ?_), fun a' b' ea eb hb => ?_⟩
    · exfalso
      have z : b * d = 0 := of_decide_eq_true (by rw [← Bool.not_eq_false']; exact h)
      exact Int.ne_of_gt (Int.mul_pos (by omega) (by omega)) z
    · cases ea
      cases eb
      exact ⟨sm_mul_lt sb sd, fun p H' x y e q t => k5 p H' x y e q (tt.trans t)⟩
abbrev sTimes : Stmt := topS 29
theorem scTimes : FnScope ["one", "other"] ["one", "other"] (defScope sTimes) := ⟨rfl, rfl, rfl, by decide +kernel, rfl, by decide +kernel, by decide +kernel⟩
theorem okTimes {f : Addr} {fd : FuncData} (F : Fun K "times" "times" sTimes f fd) (T : Tx mg) {CN : Addr} (DDemandBoth : Dn P w K mg base (L2N.CX P w) "demand_both" 4 ["one", "other"] (spBoth CN)) (DQuotientOf : Dn P w K mg base (L2N.CX P w) "quotient_of" 4 ["top", "bottom"] (spQuotOf CN))  : FnOk P w K mg base (L2N.CX P w) 5 f fd ["one", "other"] (spBin CN (fun _ => true) (fun a b c d => a * c) (fun a b c d => b * d)) := by
  refine okN F scTimes (fun vs H Q E h => ?_) (fun cdv A outer s H vs Q E hr h => ?_)
  · obtain ⟨u, v, d1, d2, rfl, _⟩ := h
    rfl
  · obtain ⟨u, v, d1, d2, rfl, r1, r2, k1, k2, kk⟩ := h
    refine ⟨_, (pss_cons (ps_expr (pe_dnX DDemandBoth (hr.mono (by omega)) (L2N.takes_of rfl rfl rfl rfl) (pa_cons (pv 0) (pa_cons (pv 1) pa_nil))))
    (pss_one (ps_ret (pe_dnX DQuotientOf (hr.mono (by omega)) (L2N.takes_of rfl rfl rfl rfl) (pa_cons (pe_op op_mulW (pe_ix ix_tup (pv 0) pe_int (fun _ _ => rfl)) (pe_ix ix_tup (pv 1) pe_int (fun _ _ => rfl))) (pa_cons (pe_op op_mulW (pe_ix ix_tup (pv 0) pe_int (fun _ _ => rfl)) (pe_ix ix_tup (pv 1) pe_int (fun _ _ => rfl))) pa_nil)))))), ?_⟩
    have st0 : L2.start ["one", "other"] [u, v] = [some (u), some (v)] := rfl
    rw [st0]
    walk_at "rds"
    refine ⟨u, v, d1, d2, rfl, r1, r2, k1, k2, fun h1 h2 H1 t1 => ?_⟩
    obtain ⟨a, b, rfl, pb, gb⟩ := quot_of h1
    obtain ⟨c, d, rfl, pd, gd⟩ := quot_of h2
    obtain ⟨k3, k4⟩ := kk a b c d rfl rfl h1 h2
    obtain ⟨p1, rfl, e1⟩ := r1.q
    obtain ⟨p2, rfl, e2⟩ := r2.q
    have okc : (fun _ : Int => true) c = true := rfl
    have tt := t1
    obtain ⟨sa, sb, sc, sd, k5⟩ := k4 okc
    have m1 := sm_mul sa sd
    have m2 := sm_mul sc sb
    have m3 := sm_mul sb sd
    have m4 := sm_mul sa sc
    have m5 := sm_mul sb sc
    walk_at "rds"
    refine ⟨_, _, _, _, rfl, .int _, .int _, (fun h => by cases h), (fun _ h => ?_), fun a' b' ea eb hb => ?_⟩
    · exfalso
      have z : b * d = 0 := of_decide_eq_true (by rw [← Bool.not_eq_false']; exact h)
      exact Int.ne_of_gt (Int.mul_pos (by omega) (by omega)) z
    · cases ea
      cases eb
      exact ⟨sm_mul_lt sb sd, fun p H' x y e q t => k5 p H' x y e q (tt.trans t)⟩
abbrev sOver : Stmt := topS 30
theorem scOver : FnScope ["one", "other"] ["one", "other"] (defScope sOver) := ⟨rfl, rfl, rfl, by decide +kernel, rfl, by decide +kernel, by decide +kernel⟩
theorem okOver {f : Addr} {fd : FuncData} (F : Fun K "over" "over" sOver f fd) (T : Tx mg) {CN : Addr} (DDemand : Dn P w K mg base (L2N.CX P w) "demand" 3 ["fits", "word"] (spDemand CN)) (DDemandBoth : Dn P w K mg base (L2N.CX P w) "demand_both" 4 ["one", "other"] (spBoth CN)) (DQuotientOf : Dn P w K mg base (L2N.CX P w) "quotient_of" 4 ["top", "bottom"] (spQuotOf CN))  : FnOk P w K mg base (L2N.CX P w) 5 f fd ["one", "other"] (spBin CN (fun c => !decide (c = 0)) (fun a b c d => a * d) (fun a b c d => b * c)) := by
  refine okN F scOver (fun vs H Q E h => ?_) (fun cdv A outer s H vs Q E hr h => ?_)
  · obtain ⟨u, v, d1, d2, rfl, _⟩ := h
    rfl
  · obtain ⟨u, v, d1, d2, rfl, r1, r2, k1, k2, kk⟩ := h
    refine ⟨_, (pss_cons (ps_expr (pe_dnX DDemandBoth (hr.mono (by omega)) (L2N.takes_of rfl rfl rfl rfl) (pa_cons (pv 0) (pa_cons (pv 1) pa_nil))))
    (pss_cons (ps_expr (pe_dnX DDemand (hr.mono (by omega)) (L2N.takes_of rfl rfl rfl rfl) (pa_cons (pe_cmpR op_ne (pe_ix ix_tup (pv 1) pe_int (fun _ _ => rfl)) pe_int (nomark _)) (pa_cons pe_str pa_nil))))
    (pss_one (ps_ret (pe_dnX DQuotientOf (hr.mono (by omega)) (L2N.takes_of rfl rfl rfl rfl) (pa_cons (pe_op op_mulW (pe_ix ix_tup (pv 0) pe_int (fun _ _ => rfl)) (pe_ix ix_tup (pv 1) pe_int (fun _ _ => rfl))) (pa_cons (pe_op op_mulW (pe_ix ix_tup (pv 0) pe_int (fun _ _ => rfl)) (pe_ix ix_tup (pv 1) pe_int (fun _ _ => rfl))) pa_nil))))))), ?_⟩
    have st0 : L2.start ["one", "other"] [u, v] = [some (u), some (v)] := rfl
    rw [st0]
    walk_at "rds"
    refine ⟨u, v, d1, d2, rfl, r1, r2, k1, k2, fun h1 h2 H1 t1 => ?_⟩
    obtain ⟨a, b, rfl, pb, gb⟩ := quot_of h1
    obtain ⟨c, d, rfl, pd, gd⟩ := quot_of h2
    obtain ⟨k3, k4⟩ := kk a b c d rfl rfl h1 h2
    obtain ⟨p1, rfl, e1⟩ := r1.q
    obtain ⟨p2, rfl, e2⟩ := r2.q
    walk_at "rds"
    have ez : (!decide (V.int c = V.int 0)) = (fun c : Int => !decide (c = 0)) c := by
      show _ = !decide (c = 0)
      rw [decide_eq_decide.mpr ⟨fun z => V.int.inj z, fun z => by rw [z]⟩]
    rw [ez]
    refine ⟨_, _, rfl, fun okc => ?_, fun h => (k3 h).to t1⟩
    have c0 : ¬ c = 0 := fun z => by rw [z] at okc; exact absurd okc (by decide)
    have tt := t1
    obtain ⟨sa, sb, sc, sd, k5⟩ := k4 okc
    have m1 := sm_mul sa sd
    have m2 := sm_mul sc sb
    have m3 := sm_mul sb sd
    have m4 := sm_mul sa sc
    have m5 := sm_mul sb sc
    walk_at "rds"
    refine ⟨_, _, _, _, rfl, .int _, .int _, (fun h => by cases h), (fun _ h => ?_), fun a' b' ea eb hb => ?_⟩
    · exfalso
      have z : b * c = 0 := of_decide_eq_true (by rw [← Bool.not_eq_false']; exact h)
      exact (fun z => (Int.mul_eq_zero.mp z).elim (by omega) c0) z
    · cases ea
      cases eb
      exact ⟨sm_mul_lt sb sc, fun p H' x y e q t => k5 p H' x y e q (tt.trans t)⟩
abbrev sLess : Stmt := topS 31
theorem scLess : FnScope ["one", "other"] ["one", "other"] (defScope sLess) := ⟨rfl, rfl, rfl, by decide +kernel, rfl, by decide +kernel, by decide +kernel⟩
theorem okLess {f : Addr} {fd : FuncData} (F : Fun K "less" "less" sLess f fd) (T : Tx mg) {CN : Addr} (DDemandBoth : Dn P w K mg base (L2N.CX P w) "demand_both" 4 ["one", "other"] (spBoth CN))  : FnOk P w K mg base (L2N.CX P w) 5 f fd ["one", "other"] (spLess CN) := by
  refine okN F scLess (fun vs H Q E h => ?_) (fun cdv A outer s H vs Q E hr h => ?_)
  · obtain ⟨u, v, d1, d2, rfl, _⟩ := h
    rfl
  · obtain ⟨u, v, d1, d2, rfl, r1, r2, k1, k2, kk⟩ := h
    refine ⟨_, (pss_cons (ps_expr (pe_dnX DDemandBoth (hr.mono (by omega)) (L2N.takes_of rfl rfl rfl rfl) (pa_cons (pv 0) (pa_cons (pv 1) pa_nil))))
    (pss_one (ps_ret (pe_cmpR op_lt (pe_op op_mulW (pe_ix ix_tup (pv 0) pe_int (fun _ _ => rfl)) (pe_ix ix_tup (pv 1) pe_int (fun _ _ => rfl))) (pe_op op_mulW (pe_ix ix_tup (pv 1) pe_int (fun _ _ => rfl)) (pe_ix ix_tup (pv 0) pe_int (fun _ _ => rfl))) (nomark _))))), ?_⟩
    have st0 : L2.start ["one", "other"] [u, v] = [some (u), some (v)] := rfl
    rw [st0]
    walk_at "rds"
    refine ⟨u, v, d1, d2, rfl, r1, r2, k1, k2, fun h1 h2 H1 t1 => ?_⟩
    obtain ⟨a, b, rfl, pb, gb⟩ := quot_of h1
    obtain ⟨c, d, rfl, pd, gd⟩ := quot_of h2
    obtain ⟨sa, sb, sc, sd, k5⟩ := kk a b c d rfl rfl h1 h2
    obtain ⟨p1, rfl, e1⟩ := r1.q
    obtain ⟨p2, rfl, e2⟩ := r2.q
    have m1 := sm_mul sa sd
    have m2 := sm_mul sc sb
    walk_at "rds"
    exact k5 _ t1
end
end K15
end SecP3
section SecP4
set_option Elab.async false
set_option linter.all false
set_option maxRecDepth 100000
set_option maxHeartbeats 4000000
set_option pp.deepTerms false
local macro_rules | `(tactic| walk_at "tq") => `(tactic| first | assumption | (refine' Dt.Tq.to ?s0 ?h0; (case h0 => assumption); (case s0 => walk_at "same")))
local macro_rules | `(tactic| walk_at "same") => `(tactic| first | exact L2.Same.refl _ | assumption | (refine' L2.Same.trans ?s1 ?s2; (case s2 => assumption); (case s1 => walk_at "same")))
local macro_rules | `(tactic| walk_at "sam") => `(tactic| first | exact Dt.Sam.refl | assumption | exact Dt.Sam.of (by assumption) | (refine' Dt.Sam.trans ?s1 ?s2; (case s2 => first | assumption | exact Dt.Sam.of (by assumption)); (case s1 => walk_at "sam")))
local macro_rules | `(tactic| walk_at "tape") => `(tactic| first | assumption | (refine' Dt.Tape.mono ?h0 ?s0; (case h0 => assumption); (case s0 => walk_at "same")))
local macro_rules | `(tactic| walk_at "nt") => `(tactic| first | exact Dt.nt_tup | exact Dt.nt_ints | assumption | (intro a0 b0 c0 l0 z0; cases z0) | (intro a0 b0 c0 l0 z0; simp at z0))
local macro_rules | `(tactic| walk_at "heap") => `(tactic| first | assumption | exact L2.upd_same | (refine' Rd.at_to ?s0 ?h0; (case h0 => assumption); (case s0 => walk_at "same")) | (refine' Dt.at_sam ?n0 ?s0 ?h0; (case h0 => assumption); (case n0 => walk_at "nt"); (case s0 => walk_at "sam")))
local macro_rules | `(tactic| walk_at "rp") => `(tactic| first | exact Dt.Rp.int _ | exact Dt.Rp.bl _ | exact Dt.Rp.str _ | exact Dt.Rp.non | assumption | (refine' Dt.Rp.sm ?s0 ?h0; (case h0 => assumption); (case s0 => walk_at "sam")) | (refine' Dt.Rp.tup ?h1 ?h2 ?h3; (case h1 => walk_at "heap"); (case h2 => walk_at "rps"); (case h3 => first | assumption | (show _ ≤ 1000; decide) | (show _ ≤ 1000; simp) | (show _ ≤ 1000; omega))) | (refine' Dt.Rp.lst ?h1 ?h2 ?h3 ?h4; (case h1 => walk_at "heap"); (case h2 => walk_at "rps"); (case h3 => first | assumption | (show _ ≤ 1000; decide) | (show _ ≤ 1000; simp) | (show _ ≤ 1000; omega)); (case h4 => walk_at "nt")))
local macro_rules | `(tactic| walk_at "rps") => `(tactic| first | exact Dt.RpAll.nil | assumption | (refine' Dt.RpAll.cons ?h1 ?h2; (case h1 => walk_at "rp"); (case h2 => walk_at "rps")) | (refine' Dt.RpAll.sm ?s0 ?h0; (case h0 => assumption); (case s0 => walk_at "sam")))
local macro_rules | `(tactic| walk_at "rd") => `(tactic| first
  | with_reducible refine Rd.seq ?_ | with_reducible refine Rd.asg ?_ | with_reducible refine Rd.nm ?_ | with_reducible refine Rd.sub ?_ | with_reducible refine Rd.ret ?_ | with_reducible refine Rd.retN ?_
  | with_reducible refine Rd.drop ?_ | with_reducible refine Rd.ifs ?_ | with_reducible refine Rd.next ?_ | with_reducible refine Rd.cst ?_ | with_reducible refine Rd.op ?_ | with_reducible refine Rd.un ?_
  | with_reducible refine Rd.test ?_ | with_reducible refine Rd.tb' ?_ | with_reducible refine Rd.exb ?_ | with_reducible refine Rd.exi ?_ | with_reducible refine Rd.and2 ?_ | with_reducible refine Rd.or2 ?_ | with_reducible refine Rd.not1 ?_
  | with_reducible refine Rd.andV ?_ | with_reducible refine Rd.orV ?_ | with_reducible refine Rd.notV ?_ | with_reducible refine Rd.nil ?_ | with_reducible refine Rd.cons ?_ | with_reducible refine Rd.cb ?_
  | with_reducible refine Rd.i0 ?_ | with_reducible refine Rd.u1 ?_ | with_reducible refine Rd.call ?_ | with_reducible refine Rd.tup ?_ | with_reducible refine Rd.lst ?_ | with_reducible refine Rd.sl ?_ | with_reducible refine Rd.no ?_ | with_reducible refine Rd.part ?_ | with_reducible refine Rd.at_ ?_ | with_reducible refine Rd.yes ?_ | with_reducible refine Rd.fors ?_ | with_reducible refine Rd.m1 ?_ | with_reducible refine Rd.exs ?_ | with_reducible refine Rd.lc ?_ | with_reducible refine Rd.rng ?_
  | with_reducible refine Rd.mkv ?_ | with_reducible refine Rd.mko ?_ | with_reducible refine Rd.callB ?_ | with_reducible refine Rd.callS ?_ | with_reducible refine Rd.bm ?_ | with_reducible refine Rd.itl ?_ | with_reducible refine Rd.itt ?_
  | ((with_reducible refine' And.intro ?hl ?_); (case hl => ((with_reducible show List.length _ ≤ PySem.sizeLine); (show _ ≤ PySem.sizeLine); rw [PySem.sizeLine_eq]; simp)))
  | (intro p0 n0; generalize hK0 : L2.upd _ p0 _ = K0; obtain ⟨e0, t0⟩ := Dt.newK hK0 n0)
  | ((with_reducible refine' Rd.lenKL ?he ?_); (case he => walk_at "heap")) | ((with_reducible refine' Rd.lenKT ?he ?_); (case he => walk_at "heap"))
  | ((with_reducible refine' Rd.var ?hv ?_); (case hv => exact rfl))
  | ((with_reducible refine' Rd.ifT ?hv ?_); (case hv => first | exact rfl | assumption)) | ((with_reducible refine' Rd.ifF ?hv ?_); (case hv => first | exact rfl | assumption))
  | ((with_reducible refine' Rd.eq ?hv ?_); (case hv => exact rfl))
  | ((with_reducible refine' Rd.ne ?hv ?_); (case hv => exact rfl))
  | ((with_reducible refine' Dt.isi_int ?hr ?_); (case hr => walk_at "rp")) | ((with_reducible refine' Dt.isi_bool ?hr ?_); (case hr => walk_at "rp")) | ((with_reducible refine' Dt.isi_tuple ?hr ?_); (case hr => walk_at "rp")) | ((with_reducible refine' Dt.isi_str ?hr ?_); (case hr => walk_at "rp")) | ((with_reducible refine' Dt.isi_list ?hr ?_); (case hr => walk_at "rp"))
  | with_reducible refine ⟨rfl, ?_⟩ | with_reducible refine Or.inl ⟨_, rfl, ?_⟩ | with_reducible refine Or.inr ⟨_, rfl, ?_⟩ | with_reducible refine ⟨_, rfl, ?_⟩
  | ((with_reducible refine' Rd.ex2 ⟨rfl, ?hl, ?_⟩); (case hl => first | exact Or.inl ⟨_, L2.SqL.of (by walk_at "heap"), rfl⟩ | exact Or.inr ⟨_, L2.SqT.of (by walk_at "heap"), rfl⟩))
  | ((with_reducible refine' Rd.i1 ?hv ?_); (case hv => first | exact ⟨by decide, by decide, by decide⟩ | exact Or.inr ⟨by decide, by decide⟩ | exact Or.inl ⟨by decide, by decide⟩ | exact ⟨by decide, by decide⟩ | decide | assumption | (show _ ≠ _; omega) | (refine ⟨?_, ?_⟩ <;> omega) | (refine Or.inl ⟨?_, ?_⟩ <;> omega)))
  | ((with_reducible refine' Rd.ixL ?he ?hx ?_); (case he => walk_at "heap"); (case hx => rfl))
  | ((with_reducible refine' Rd.ixT ?he ?hx ?_); (case he => walk_at "heap"); (case hx => rfl))
  | ((with_reducible refine' Rd.setL ?he ?hx ?_); (case he => first | assumption | exact L2.upd_same); (case hx => rfl)))
local macro_rules | `(tactic| walk_at "rd") => `(tactic| first | with_reducible refine Rd.isT ?_ | with_reducible refine Rd.isnT ?_)
local macro_rules | `(tactic| walk_at "rd") => `(tactic| first | ((with_reducible refine' Rd.gtup ?he ?hl ?_); (case he => walk_at "heap"); (case hl => exact rfl)) | with_reducible refine Rd.brk ?_ | with_reducible refine Rd.callR ?_ | ((with_reducible refine' ⟨_, _, rfl, Or.inl ⟨L2.SqL.of ?hp, ?_⟩⟩); (case hp => walk_at "heap")) | ((with_reducible refine' ⟨_, _, rfl, Or.inl (L2.SqL.of ?hp), ?_⟩); (case hp => walk_at "heap")) | ((with_reducible refine' Rd.catL ?hp ?hq ?hl ?_); (case hp => walk_at "heap"); (case hq => walk_at "heap"); (case hl => (simp only [List.length_map, List.length_append, List.length_cons, List.length_nil]; omega)); (intro r0 J0 e0 t0 n0)) | with_reducible refine Rd.bits ?_ | with_reducible refine Rd.max2 ?_ | with_reducible refine Rd.gcons ?_ | with_reducible refine Rd.gnil ?_)
local macro_rules | `(tactic| walk_at "rds") => `(tactic| repeat (first | walk_at "rd" | assumption))
namespace K15
open PySem PySem.Spec PyProof.Rows L2 L2H Err Dt
def dPos : PyData → Bool | .int i => decide (1 ≤ i) | _ => false
theorem _root_.Dt.Rp.row {H : Hp} {v : V} {ns : List Int} (h : Rp H v (.tuple (ns.map PyData.int))) : ∃ p, v = .ref p ∧ H p = some (.tup (ns.map V.int)) ∧ ns.length ≤ 1000 := by
  cases h with
  | tup e r l =>
    have := r.ints ns
    subst this
    exact ⟨_, rfl, e, by rwa [List.length_map] at l⟩
theorem rp_row {H : Hp} {p : Addr} {ns : List Int} (e : H p = some (.tup (ns.map V.int))) (l : ns.length ≤ 1000) : Rp H (.ref p) (.tuple (ns.map PyData.int)) := .tup e (rp_ints ns) (by rwa [List.length_map])
def spPlaceOf (CN : Addr) : Sp := fun vs H Q E => ∃ (s : Addr) (n r : Int) (nv bv : V) (dn db : PyData), vs = [.ref s, nv, bv] ∧ Space H s n r ∧ Rp H nv dn ∧ Rp H bv db ∧ (dRow n dn = false → NU CN "numbers" E H) ∧ (dRow n dn = true → dPos db = false → NU CN "bottom" E H) ∧
  (∀ (ns : List Int) (b : Int), dn = .tuple (ns.map PyData.int) → db = .int b → (ns.length : Int) = n → 1 ≤ b → b.natAbs < 2 ^ 8000 ∧ ∀ (p : Addr) (H' : Hp), H' p = some (.tup ((lowL (ns ++ [b])).map V.int)) → Same H H' → Q (.ref p) H')
def spPointPlace (CN : Addr) : Sp := fun vs H Q E => ∃ (s : Addr) (n r : Int) (nv : V) (dn : PyData), vs = [.ref s, nv] ∧ Space H s n r ∧ Rp H nv dn ∧ (dRow n dn = false → NU CN "point" E H) ∧
  (∀ (ns : List Int), dn = .tuple (ns.map PyData.int) → (ns.length : Int) = n → ∀ (p : Addr) (H' : Hp), H' p = some (.tup ((ns ++ [1]).map V.int)) → Same H H' → Q (.ref p) H')
theorem low_row {n : Int} {d : PyData} (h : dLow n d = true) : ∃ ns : List Int, d = .tuple (ns.map PyData.int) ∧ (ns.length : Int) = n ∧ lowB ns = true := by
  unfold dLow at h
  rw [Bool.and_eq_true] at h
  obtain ⟨ns, rfl, hn⟩ := row_ints h.1
  have h2 : lowB (intsOf (ns.map PyData.int)) = true := h.2
  rw [intsOf_map] at h2
  exact ⟨ns, rfl, hn, h2⟩
/-- the last of a row -/
theorem row_last {ns : List Int} {n : Int} (h : (ns.length : Int) = n + 1) (h0 : 0 ≤ n) : ∃ (a : List Int) (b : Int), ns = a ++ [b] ∧ (a.length : Int) = n := by
  have h1 : ns ≠ [] := fun z => by rw [z] at h; simp at h; omega
  refine ⟨ns.dropLast, ns.getLast h1, (List.dropLast_concat_getLast h1).symm, ?_⟩
  rw [List.length_dropLast]
  omega
theorem lowB_last {a : List Int} {b : Int} (h : lowB (a ++ [b]) = true) : 1 ≤ b := by
  unfold lowB at h
  rw [Bool.and_eq_true] at h
  have e : (a ++ [b]).getLastD 0 = b := by simp
  rw [e] at h
  exact of_decide_eq_true h.1
/-- what between adds up: ps, os the places' numbers, p, o their bottoms, t / b the moment -/
def betw (ps os : List Int) (p o t b : Int) : List Int := (List.range ps.length).map (fun i => o * (b - t) * ps.getD i 0 + p * t * os.getD i 0) ++ [p * o * b]
def spBetween (CN : Addr) : Sp := fun vs H Q E => ∃ (s : Addr) (n r : Int) (v1 v2 v3 : V) (d1 d2 d3 : PyData), vs = [.ref s, v1, v2, v3] ∧ Space H s n r ∧ Rp H v1 d1 ∧ Rp H v2 d2 ∧ Rp H v3 d3 ∧
  (dLow (n + 1) d1 = false → NU CN "place" E H) ∧ (dLow (n + 1) d1 = true → dLow (n + 1) d2 = false → NU CN "other" E H) ∧ (dLow (n + 1) d1 = true → dLow (n + 1) d2 = true → dLow 2 d3 = false → NU CN "moment" E H) ∧
  (∀ (ps os : List Int) (p o t b : Int), d1 = .tuple ((ps ++ [p]).map PyData.int) → d2 = .tuple ((os ++ [o]).map PyData.int) → d3 = .tuple [.int t, .int b] → (ps.length : Int) = n → (os.length : Int) = n → 1 ≤ p → 1 ≤ o → 1 ≤ b → dLow (n + 1) d1 = true → dLow (n + 1) d2 = true → dLow 2 d3 = true →
    (∀ x ∈ ps ++ [p], Sm x) ∧ (∀ x ∈ os ++ [o], Sm x) ∧ Sm t ∧ Sm b ∧ ∀ (q : Addr) (H' : Hp), H' q = some (.tup ((lowL (betw ps os p o t b)).map V.int)) → Same H H' → Q (.ref q) H')
theorem last_int {a : List Int} {b : Int} : atI ((a ++ [b]).map V.int) (-1) = some (.int b) := by
  rw [List.map_append]
  exact atI_last _ _
theorem at_int {a : List Int} {b : Int} {i : Nat} (h : i < a.length) : atI ((a ++ [b]).map V.int) (i : Int) = some (.int (a.getD i 0)) := by
  apply atI_nat
  rw [List.getElem?_map, List.getElem?_append_left h, List.getElem?_eq_getElem h]
  show some (V.int a[i]) = _
  rw [List.getD_eq_getElem?_getD, List.getElem?_eq_getElem h]
  rfl
theorem getD_mem {a : List Int} {b : Int} {i : Nat} (h : i < a.length) : a.getD i 0 ∈ a ++ [b] := by
  rw [List.getD_eq_getElem?_getD, List.getElem?_eq_getElem h]
  exact List.mem_append_left _ (List.getElem_mem h)
section
variable {P : Program} {w : World} {K : PySem.W.Frag} {mg : Str → Option Value} {base : Heap}
set_option pp.maxSteps 3000
abbrev sPlaceOf : Stmt := topS 20
theorem scPlaceOf : FnScope ["space", "numbers", "bottom"] ["space", "numbers", "bottom"] (defScope sPlaceOf) := ⟨rfl, rfl, rfl, by decide +kernel, rfl, by decide +kernel, by decide +kernel⟩
theorem okPlaceOf {f : Addr} {fd : FuncData} (F : Fun K "place_of" "place_of" sPlaceOf f fd) (T : Tx mg) {CN : Addr} (DDemand : Dn P w K mg base (L2N.CX P w) "demand" 3 ["fits", "word"] (spDemand CN)) (DIsInteger : Dn P w K mg base CX0 "is_integer" 1 ["thing"] spIsInt) (DLowestTerms : Dn P w K mg base CX0 "lowest_terms" 2 ["numbers"] spLow) (DIsPoint : Dn P w K mg base CX0 "is_point" 3 ["space", "thing"] spIsPoint)  : FnOk P w K mg base (L2N.CX P w) 4 f fd ["space", "numbers", "bottom"] (spPlaceOf CN) := by
  refine okN F scPlaceOf (fun vs H Q E h => ?_) (fun cdv A outer s H vs Q E hr h => ?_)
  · obtain ⟨s, n, rr, nv, bv, dn, db, rfl, _⟩ := h
    rfl
  · obtain ⟨s, n, rr, nv, bv, dn, db, rfl, hS, r1, r2, k1, k2, kk⟩ := h
    refine ⟨_, (pss_cons (ps_expr (pe_dnX DDemand (hr.mono (by omega)) (L2N.takes_of rfl rfl rfl rfl) (pa_cons (pe_dn DIsPoint (hr.mono (by omega)) (pa_cons (pv 0) (pa_cons (pv 1) pa_nil))) (pa_cons pe_str pa_nil))))
    (pss_cons (ps_expr (pe_dnX DDemand (hr.mono (by omega)) (L2N.takes_of rfl rfl rfl rfl) (pa_cons (pe_and (pe_dn DIsInteger (hr.mono (by omega)) (pa_cons (pv 2) pa_nil)) (pe_one (pe_cmpR op_ge (pv 2) pe_int (nomark _)))) (pa_cons pe_str pa_nil))))
    (pss_one (ps_ret (pe_dn DLowestTerms (hr.mono (by omega)) (pa_cons (pe_op op_catA (pv 1) (pe_tup (pa_cons (pv 2) pa_nil))) pa_nil)))))), ?_⟩
    have st0 : L2.start ["space", "numbers", "bottom"] [V.ref s, nv, bv] = [some (V.ref s), some (nv), some (bv)] := rfl
    rw [st0]
    walk_at "rds"
    refine ⟨s, n, rr, nv, dn, rfl, hS, r1, fun H1 t1 => ?_⟩
    walk_at "rds"
    refine ⟨_, _, rfl, fun h => ?_, fun h => (k1 h).to t1⟩
    obtain ⟨ns, rfl, hn⟩ := row_ints h
    obtain ⟨p, rfl, e, l⟩ := r1.row
    walk_at "rds"
    refine ⟨bv, db, rfl, r2.to t1, fun H2 t2 => ?_⟩
    have t12 := t1.trans t2
    walk_at "rds"
    refine Rd.ifB (fun hb => ?_) fun hb => ?_
    · obtain ⟨b, rfl⟩ := int_of hb
      cases r2.i
      walk_at "rds"
      refine ⟨_, _, rfl, fun h2 => ?_, fun h2 => (k2 h h2).to t12⟩
      have b1 : 1 ≤ b := of_decide_eq_true h2
      obtain ⟨bd, k⟩ := kk ns b rfl rfl hn b1
      have n0 : ns ≠ [] := fun z => by rw [z] at hn; have := hS.2; simp at hn; omega
      walk_at "rds"
      refine Rd.catT (by walk_at "heap") (by walk_at "heap") (by simpa using n0) (by simp) (by rw [List.length_map]; show ns.length + 1 ≤ _; omega) fun q4 H4 e4 t4 n4 => ?_
      walk_at "rds"
      have e4' : H4 q4 = some (.tup ((ns ++ [b]).map V.int)) := by rw [e4, List.map_append]; rfl
      refine ⟨_, ns ++ [b], rfl, ⟨.inr e4', by rw [List.length_append]; show ns.length + 1 ≤ 1000; have := hS.2; omega⟩, ⟨b, by simp, by omega, bd⟩, fun q' H5 e5 t5 => k q' H5 e5 (by walk_at "same")⟩
    · have kz : dPos db = false := by
        cases db with
        | int i => cases hb
        | _ => rfl
      walk_at "rds"
      first | exact ⟨_, _, rfl, (fun h2 => by cases h2), fun _ => (k2 h kz).to t12⟩ | exact ⟨_, rfl, (fun h2 => by cases h2), fun _ => (k2 h kz).to t12⟩
abbrev sPointPlace : Stmt := topS 21
theorem scPointPlace : FnScope ["space", "point"] ["space", "point"] (defScope sPointPlace) := ⟨rfl, rfl, rfl, by decide +kernel, rfl, by decide +kernel, by decide +kernel⟩
theorem okPointPlace {f : Addr} {fd : FuncData} (F : Fun K "point_place" "point_place" sPointPlace f fd) (T : Tx mg) {CN : Addr} (DDemand : Dn P w K mg base (L2N.CX P w) "demand" 3 ["fits", "word"] (spDemand CN)) (DIsPoint : Dn P w K mg base CX0 "is_point" 3 ["space", "thing"] spIsPoint)  : FnOk P w K mg base (L2N.CX P w) 4 f fd ["space", "point"] (spPointPlace CN) := by
  refine okN F scPointPlace (fun vs H Q E h => ?_) (fun cdv A outer s H vs Q E hr h => ?_)
  · obtain ⟨s, n, rr, nv, dn, rfl, _⟩ := h
    rfl
  · obtain ⟨s, n, rr, nv, dn, rfl, hS, r1, k1, kk⟩ := h
    refine ⟨_, (pss_cons (ps_expr (pe_dnX DDemand (hr.mono (by omega)) (L2N.takes_of rfl rfl rfl rfl) (pa_cons (pe_dn DIsPoint (hr.mono (by omega)) (pa_cons (pv 0) (pa_cons (pv 1) pa_nil))) (pa_cons pe_str pa_nil))))
    (pss_one (ps_ret (pe_op op_catA (pv 1) (pe_tup (pa_cons pe_int pa_nil)))))), ?_⟩
    have st0 : L2.start ["space", "point"] [V.ref s, nv] = [some (V.ref s), some (nv)] := rfl
    rw [st0]
    walk_at "rds"
    refine ⟨s, n, rr, nv, dn, rfl, hS, r1, fun H1 t1 => ?_⟩
    walk_at "rds"
    refine ⟨_, _, rfl, fun h => ?_, fun h => (k1 h).to t1⟩
    obtain ⟨ns, rfl, hn⟩ := row_ints h
    obtain ⟨p, rfl, e, l⟩ := r1.row
    have n0 : ns ≠ [] := fun z => by rw [z] at hn; have := hS.2; simp at hn; omega
    walk_at "rds"
    refine Rd.catT (by walk_at "heap") (by walk_at "heap") (by simpa using n0) (by simp) (by rw [List.length_map]; show ns.length + 1 ≤ _; omega) fun q4 H4 e4 t4 n4 => ?_
    exact kk ns rfl hn q4 H4 (by rw [e4, List.map_append]; rfl) (by walk_at "same")
abbrev sBetween : Stmt := topS 22
theorem scBetween : FnScope ["space", "place", "other", "moment", "top", "bottom", "here", "there", "numbers", "i"] ["space", "place", "other", "moment"] (defScope sBetween) := ⟨rfl, rfl, rfl, by decide +kernel, rfl, by decide +kernel, by decide +kernel⟩
theorem okBetween {f : Addr} {fd : FuncData} (F : Fun K "between" "between" sBetween f fd) (T : Tx mg) {CN : Addr} (DDemand : Dn P w K mg base (L2N.CX P w) "demand" 3 ["fits", "word"] (spDemand CN)) (DLowestTerms : Dn P w K mg base CX0 "lowest_terms" 2 ["numbers"] spLow) (DIsQuotient : Dn P w K mg base CX0 "is_quotient" 3 ["thing"] spIsQuot) (DIsPlace : Dn P w K mg base CX0 "is_place" 3 ["space", "thing"] spIsPlace)  : FnOk P w K mg base (L2N.CX P w) 4 f fd ["space", "place", "other", "moment"] (spBetween CN) := by
  refine okN F scBetween (fun vs H Q E h => ?_) (fun cdv A outer s H vs Q E hr h => ?_)
  · obtain ⟨s, n, rr, v1, v2, v3, d1, d2, d3, rfl, _⟩ := h
    rfl
  · obtain ⟨s, n, rr, v1, v2, v3, d1, d2, d3, rfl, hS, r1, r2, r3, k1, k2, k3, kk⟩ := h
    refine ⟨_, (pss_cons (ps_expr (pe_dnX DDemand (hr.mono (by omega)) (L2N.takes_of rfl rfl rfl rfl) (pa_cons (pe_dn DIsPlace (hr.mono (by omega)) (pa_cons (pv 0) (pa_cons (pv 1) pa_nil))) (pa_cons pe_str pa_nil))))
    (pss_cons (ps_expr (pe_dnX DDemand (hr.mono (by omega)) (L2N.takes_of rfl rfl rfl rfl) (pa_cons (pe_dn DIsPlace (hr.mono (by omega)) (pa_cons (pv 0) (pa_cons (pv 2) pa_nil))) (pa_cons pe_str pa_nil))))
    (pss_cons (ps_expr (pe_dnX DDemand (hr.mono (by omega)) (L2N.takes_of rfl rfl rfl rfl) (pa_cons (pe_dn DIsQuotient (hr.mono (by omega)) (pa_cons (pv 3) pa_nil)) (pa_cons pe_str pa_nil))))
    (pss_cons (ps_asg (pv 3) (pg_tup rfl (pgs_cons (pg_name (i := 4) scBetween.nd rfl (Or.inl rfl)) (pgs_cons (pg_name (i := 5) scBetween.nd rfl (Or.inl rfl)) pgs_nil))))
    (pss_cons (ps_set (i := 6) scBetween.nd rfl (Or.inr rfl) (pe_op op_mulW (pe_ix ix_tup (pv 2) (pe_un un_neg pe_int) (fun _ _ => rfl)) (pe_op op_sub (pv 5) (pv 4))))
    (pss_cons (ps_set (i := 7) scBetween.nd rfl (Or.inr rfl) (pe_op op_mulW (pe_ix ix_tup (pv 1) (pe_un un_neg pe_int) (fun _ _ => rfl)) (pv 4)))
    (pss_cons (ps_setLc (i := 8) (own := [("i", 9)]) (g := gName 9) (by rfl) scBetween.nd rfl rfl (sw_true rfl rfl rfl (by decide +kernel)) (pi_range1 rfl T.n_range (pa_cons (pe_ix ix_tup (pv 0) pe_int (fun _ _ => rfl)) pa_nil)) (blkOk_by (own := [("i", 9)]) (N := ["space", "place", "other", "moment", "top", "bottom", "here", "there", "numbers", "i"]) (sc := defScope sBetween) (by decide +kernel)) (fun _ _ _ _ _ => pg_name (i := 9) scBetween.nd rfl (Or.inl rfl)) (fun _ _ _ _ _ => pts_nil) (fun _ _ _ _ _ => (pe_op op_add (pe_op op_mulW (pv 6) (pe_ix (r := rIxT K) ix_tup (pv 1) (pv 9) (fun _ _ => rfl))) (pe_op op_mulW (pv 7) (pe_ix (r := rIxT K) ix_tup (pv 2) (pv 9) (fun _ _ => rfl))))))
    (pss_one (ps_ret (pe_dn DLowestTerms (hr.mono (by omega)) (pa_cons (pe_op op_cat (pv 8) (pe_lst (pa_cons (pe_op op_mulW (pe_op op_mulW (pe_ix ix_tup (pv 1) (pe_un un_neg pe_int) (fun _ _ => rfl)) (pe_ix ix_tup (pv 2) (pe_un un_neg pe_int) (fun _ _ => rfl))) (pv 5)) pa_nil))) pa_nil))))))))))), ?_⟩
    have st0 : L2.start ["space", "place", "other", "moment", "top", "bottom", "here", "there", "numbers", "i"] [V.ref s, v1, v2, v3] = [some (V.ref s), some (v1), some (v2), some (v3), none, none, none, none, none, none] := rfl
    rw [st0]
    walk_at "rds"
    refine ⟨s, n, rr, v1, d1, rfl, hS, r1, fun H1 t1 => ?_⟩
    walk_at "rds"
    refine ⟨_, _, rfl, fun h1 => ?_, fun h => (k1 h).to t1⟩
    walk_at "rds"
    refine ⟨s, n, rr, v2, d2, rfl, hS.to t1, r2.to t1, fun H2 t2 => ?_⟩
    walk_at "rds"
    refine ⟨_, _, rfl, fun h2 => ?_, fun h => (k2 h1 h).to (t1.trans t2)⟩
    walk_at "rds"
    refine ⟨v3, d3, rfl, r3.to (t1.trans t2), fun H3 t3 => ?_⟩
    have t13 := (t1.trans t2).trans t3
    walk_at "rds"
    refine ⟨_, _, rfl, fun h3 => ?_, fun h => (k3 h1 h2 h).to t13⟩
    obtain ⟨n1, rfl, l1, b1⟩ := low_row h1
    obtain ⟨n2, rfl, l2, b2⟩ := low_row h2
    obtain ⟨t, b, rfl, pb, gb⟩ := quot_of h3
    have hn := hS.2
    obtain ⟨ps, p, rfl, lp⟩ := row_last l1 (by omega)
    obtain ⟨os, o, rfl, lo⟩ := row_last l2 (by omega)
    obtain ⟨q1, rfl, e1, _⟩ := r1.row
    obtain ⟨q2, rfl, e2, _⟩ := r2.row
    obtain ⟨q3, rfl, e3⟩ := r3.q
    obtain ⟨sp, so, st, sb, k⟩ := kk ps os p o t b rfl rfl rfl lp lo (lowB_last b1) (lowB_last b2) pb h1 h2 h3
    have f1 := t13 _ _ e1
    have f2 := t13 _ _ e2
    have f3 := t13 _ _ e3
    have fs := t13 _ _ hS.1
    have Sp : Sm p := sp p (by simp)
    have So : Sm o := so o (by simp)
    have dbt : (b - t).natAbs < 2 ^ 2001 := by
      have : (b - t).natAbs ≤ b.natAbs + t.natAbs := Int.natAbs_sub_le b t
      have e : 2 ^ 2001 = 2 ^ 2000 + 2 ^ 2000 := by rw [Nat.pow_succ]; omega
      rw [e]
      exact Nat.lt_of_le_of_lt this (Nat.add_lt_add sb st)
    have m1 : CMulW o (b - t) := wide_mul So dbt (by decide) (by decide) (by decide)
    have m2 : CMulW p t := wide_mul Sp st (by decide) (by decide) (by decide)
    have m3 : CMulW p o := wide_mul Sp So (by decide) (by decide) (by decide)
    have m4 : CMulW (p * o) b := wide_mul (wide_lt Sp So) sb (by decide) (by decide) (by decide)
    walk_at "rds"
    refine Rd.ixT f2 last_int ?_
    walk_at "rds"
    refine Rd.ixT f1 last_int ?_
    walk_at "rds"
    refine ⟨by omega, by omega, fun d hd => ?_⟩
    have en : n.toNat = ps.length := by omega
    rw [en]
    refine lc_range (lo := 0) (n := ps.length) (fun i H4 => H4 d = some (.lst (((List.range i).map fun i => o * (b - t) * ps.getD i 0 + p * t * os.getD i 0).map V.int)) ∧ Same H3 H4) ⟨upd_same, same_put hd (Same.refl _)⟩ ?_ ?_
    · rintro i H4 hi ⟨e4, s4⟩
      refine ⟨rfl, ?_⟩
      walk_at "rds"
      rw [Int.zero_add]
      refine Rd.ixT (s4 _ _ f1) (at_int hi) ?_
      have m5 : CMulW (o * (b - t)) (ps.getD i 0) := wide_mul (wide_lt So dbt) (sp _ (getD_mem hi)) (by decide) (by decide) (by decide)
      walk_at "rds"
      refine Rd.ixT (s4 _ _ f2) (at_int (a := os) (by omega)) ?_
      have m6 : CMulW (p * t) (os.getD i 0) := wide_mul (wide_lt Sp st) (so _ (getD_mem (by omega))) (by decide) (by decide) (by decide)
      walk_at "rds"
      refine ⟨_, e4, ?_, ?_, same_put hd s4⟩
      · rw [List.length_map, List.length_map, List.length_range, sizeLine_eq]
        omega
      · rw [upd_same, List.range_succ, List.map_append, List.map_append]
        rfl
    · rintro H4 ⟨e4, s4⟩
      have g1 := s4 _ _ f1
      have g2 := s4 _ _ f2
      walk_at "rds"
      refine Rd.ixT g1 last_int ?_
      walk_at "rds"
      refine Rd.ixT g2 last_int ?_
      walk_at "rds"
      refine Rd.catL (by walk_at "heap") (by walk_at "heap") (by rw [List.length_map, List.length_map, List.length_range]; show ps.length + 1 ≤ _; omega) fun q5 H5 e5 t5 n5 => ?_
      walk_at "rds"
      have e5' : H5 q5 = some (.lst ((betw ps os p o t b).map V.int)) := by rw [e5]; unfold betw; rw [List.map_append]; rfl
      have bd : (p * o * b).natAbs < 2 ^ 8000 := Nat.lt_of_lt_of_le (wide_lt (wide_lt Sp So) sb) (Nat.pow_le_pow_right (by decide) (by decide))
      have b0 : p * o * b ≠ 0 := by
        have z1 := lowB_last b1
        have z2 := lowB_last b2
        exact Int.ne_of_gt (Int.mul_pos (Int.mul_pos (by omega) (by omega)) (by omega))
      refine ⟨_, _, rfl, ⟨.inl e5', by unfold betw; rw [List.length_append, List.length_map, List.length_range]; show ps.length + 1 ≤ 1000; omega⟩, ⟨p * o * b, by unfold betw; simp, b0, bd⟩, fun q' H6 e6 t6 => k q' H6 e6 (by walk_at "same")⟩
end
end K15
end SecP4
section SecP5
set_option Elab.async false
set_option linter.all false
set_option maxRecDepth 100000
set_option maxHeartbeats 4000000
set_option pp.deepTerms false
local macro_rules | `(tactic| walk_at "tq") => `(tactic| first | assumption | (refine' Dt.Tq.to ?s0 ?h0; (case h0 => assumption); (case s0 => walk_at "same")))
local macro_rules | `(tactic| walk_at "same") => `(tactic| first | exact L2.Same.refl _ | assumption | (refine' L2.Same.trans ?s1 ?s2; (case s2 => assumption); (case s1 => walk_at "same")))
local macro_rules | `(tactic| walk_at "sam") => `(tactic| first | exact Dt.Sam.refl | assumption | exact Dt.Sam.of (by assumption) | (refine' Dt.Sam.trans ?s1 ?s2; (case s2 => first | assumption | exact Dt.Sam.of (by assumption)); (case s1 => walk_at "sam")))
local macro_rules | `(tactic| walk_at "tape") => `(tactic| first | assumption | (refine' Dt.Tape.mono ?h0 ?s0; (case h0 => assumption); (case s0 => walk_at "same")))
local macro_rules | `(tactic| walk_at "nt") => `(tactic| first | exact Dt.nt_tup | exact Dt.nt_ints | assumption | (intro a0 b0 c0 l0 z0; cases z0) | (intro a0 b0 c0 l0 z0; simp at z0))
local macro_rules | `(tactic| walk_at "heap") => `(tactic| first | assumption | exact L2.upd_same | (refine' Rd.at_to ?s0 ?h0; (case h0 => assumption); (case s0 => walk_at "same")) | (refine' Dt.at_sam ?n0 ?s0 ?h0; (case h0 => assumption); (case n0 => walk_at "nt"); (case s0 => walk_at "sam")))
local macro_rules | `(tactic| walk_at "rp") => `(tactic| first | exact Dt.Rp.int _ | exact Dt.Rp.bl _ | exact Dt.Rp.str _ | exact Dt.Rp.non | assumption | (refine' Dt.Rp.sm ?s0 ?h0; (case h0 => assumption); (case s0 => walk_at "sam")) | (refine' Dt.Rp.tup ?h1 ?h2 ?h3; (case h1 => walk_at "heap"); (case h2 => walk_at "rps"); (case h3 => first | assumption | (show _ ≤ 1000; decide) | (show _ ≤ 1000; simp) | (show _ ≤ 1000; omega))) | (refine' Dt.Rp.lst ?h1 ?h2 ?h3 ?h4; (case h1 => walk_at "heap"); (case h2 => walk_at "rps"); (case h3 => first | assumption | (show _ ≤ 1000; decide) | (show _ ≤ 1000; simp) | (show _ ≤ 1000; omega)); (case h4 => walk_at "nt")))
local macro_rules | `(tactic| walk_at "rps") => `(tactic| first | exact Dt.RpAll.nil | assumption | (refine' Dt.RpAll.cons ?h1 ?h2; (case h1 => walk_at "rp"); (case h2 => walk_at "rps")) | (refine' Dt.RpAll.sm ?s0 ?h0; (case h0 => assumption); (case s0 => walk_at "sam")))
local macro_rules | `(tactic| walk_at "rd") => `(tactic| first
  | with_reducible refine Rd.seq ?_ | with_reducible refine Rd.asg ?_ | with_reducible refine Rd.nm ?_ | with_reducible refine Rd.sub ?_ | with_reducible refine Rd.ret ?_ | with_reducible refine Rd.retN ?_
  | with_reducible refine Rd.drop ?_ | with_reducible refine Rd.ifs ?_ | with_reducible refine Rd.next ?_ | with_reducible refine Rd.cst ?_ | with_reducible refine Rd.op ?_ | with_reducible refine Rd.un ?_
  | with_reducible refine Rd.test ?_ | with_reducible refine Rd.tb' ?_ | with_reducible refine Rd.exb ?_ | with_reducible refine Rd.exi ?_ | with_reducible refine Rd.and2 ?_ | with_reducible refine Rd.or2 ?_ | with_reducible refine Rd.not1 ?_
  | with_reducible refine Rd.andV ?_ | with_reducible refine Rd.orV ?_ | with_reducible refine Rd.notV ?_ | with_reducible refine Rd.nil ?_ | with_reducible refine Rd.cons ?_ | with_reducible refine Rd.cb ?_
  | with_reducible refine Rd.i0 ?_ | with_reducible refine Rd.u1 ?_ | with_reducible refine Rd.call ?_ | with_reducible refine Rd.tup ?_ | with_reducible refine Rd.lst ?_ | with_reducible refine Rd.sl ?_ | with_reducible refine Rd.no ?_ | with_reducible refine Rd.part ?_ | with_reducible refine Rd.at_ ?_ | with_reducible refine Rd.yes ?_ | with_reducible refine Rd.fors ?_ | with_reducible refine Rd.m1 ?_ | with_reducible refine Rd.exs ?_ | with_reducible refine Rd.lc ?_ | with_reducible refine Rd.rng ?_
  | with_reducible refine Rd.mkv ?_ | with_reducible refine Rd.mko ?_ | with_reducible refine Rd.callB ?_ | with_reducible refine Rd.callS ?_ | with_reducible refine Rd.bm ?_ | with_reducible refine Rd.itl ?_ | with_reducible refine Rd.itt ?_
  | ((with_reducible refine' And.intro ?hl ?_); (case hl => ((with_reducible show List.length _ ≤ PySem.sizeLine); (show _ ≤ PySem.sizeLine); rw [PySem.sizeLine_eq]; simp)))
  | (intro p0 n0; generalize hK0 : L2.upd _ p0 _ = K0; obtain ⟨e0, t0⟩ := Dt.newK hK0 n0)
  | ((with_reducible refine' Rd.lenKL ?he ?_); (case he => walk_at "heap")) | ((with_reducible refine' Rd.lenKT ?he ?_); (case he => walk_at "heap"))
  | ((with_reducible refine' Rd.var ?hv ?_); (case hv => exact rfl))
  | ((with_reducible refine' Rd.ifT ?hv ?_); (case hv => first | exact rfl | assumption)) | ((with_reducible refine' Rd.ifF ?hv ?_); (case hv => first | exact rfl | assumption))
  | ((with_reducible refine' Rd.eq ?hv ?_); (case hv => exact rfl))
  | ((with_reducible refine' Rd.ne ?hv ?_); (case hv => exact rfl))
  | ((with_reducible refine' Dt.isi_int ?hr ?_); (case hr => walk_at "rp")) | ((with_reducible refine' Dt.isi_bool ?hr ?_); (case hr => walk_at "rp")) | ((with_reducible refine' Dt.isi_tuple ?hr ?_); (case hr => walk_at "rp")) | ((with_reducible refine' Dt.isi_str ?hr ?_); (case hr => walk_at "rp")) | ((with_reducible refine' Dt.isi_list ?hr ?_); (case hr => walk_at "rp"))
  | with_reducible refine ⟨rfl, ?_⟩ | with_reducible refine Or.inl ⟨_, rfl, ?_⟩ | with_reducible refine Or.inr ⟨_, rfl, ?_⟩ | with_reducible refine ⟨_, rfl, ?_⟩
  | ((with_reducible refine' Rd.ex2 ⟨rfl, ?hl, ?_⟩); (case hl => first | exact Or.inl ⟨_, L2.SqL.of (by walk_at "heap"), rfl⟩ | exact Or.inr ⟨_, L2.SqT.of (by walk_at "heap"), rfl⟩))
  | ((with_reducible refine' Rd.i1 ?hv ?_); (case hv => first | exact ⟨by decide, by decide, by decide⟩ | exact Or.inr ⟨by decide, by decide⟩ | exact Or.inl ⟨by decide, by decide⟩ | exact ⟨by decide, by decide⟩ | decide | assumption | (show _ ≠ _; omega) | (refine ⟨?_, ?_⟩ <;> omega) | (refine Or.inl ⟨?_, ?_⟩ <;> omega)))
  | ((with_reducible refine' Rd.ixL ?he ?hx ?_); (case he => walk_at "heap"); (case hx => rfl))
  | ((with_reducible refine' Rd.ixT ?he ?hx ?_); (case he => walk_at "heap"); (case hx => rfl))
  | ((with_reducible refine' Rd.setL ?he ?hx ?_); (case he => first | assumption | exact L2.upd_same); (case hx => rfl)))
local macro_rules | `(tactic| walk_at "rd") => `(tactic| first | with_reducible refine Rd.isT ?_ | with_reducible refine Rd.isnT ?_)
local macro_rules | `(tactic| walk_at "rd") => `(tactic| first | ((with_reducible refine' Rd.gtup ?he ?hl ?_); (case he => walk_at "heap"); (case hl => exact rfl)) | with_reducible refine Rd.brk ?_ | with_reducible refine Rd.callR ?_ | ((with_reducible refine' Rd.tupOf ?hp ?hk); (case hp => walk_at "heap"); (case hk => intro r0 J0 e0 t0 n0)) | ((with_reducible refine' Rd.lstOf ?hp ?hk); (case hp => walk_at "heap"); (case hk => intro r0 J0 e0 t0 n0)) | ((with_reducible refine' Rd.catL ?hp ?hq ?hl ?hk); (case hp => walk_at "heap"); (case hq => walk_at "heap"); (case hl => (simp only [List.length_map, List.length_append, List.length_cons, List.length_nil]; omega)); (case hk => intro r0 J0 e0 t0 n0)) | with_reducible refine Rd.bits ?_ | with_reducible refine Rd.max2 ?_ | with_reducible refine Rd.gcons ?_ | with_reducible refine Rd.gnil ?_)
local macro_rules | `(tactic| walk_at "rds") => `(tactic| repeat (first | walk_at "rd" | assumption))
namespace K15
open PySem PySem.Spec PyProof.Rows L2 L2H Err Dt
/-- the scope of a list that is made in a statement -/
def lcScope : Stmt → Scope
  | .Assign _ (.ListComp _ _ sc _) _ => sc
  | _ => { kind := .function, names := [], isGenerator := false, isCoroutine := false, more := [] }
/-- rows of ints as data -/
def dRows (rows : List (List Int)) : List PyData := rows.map fun r => .tuple (r.map PyData.int)
def sumAt (rows : List (List Int)) (i : Nat) : Int := (rows.map fun r => r.getD i 0).sum
def meanL (n : Nat) (rows : List (List Int)) : List Int := (List.range n).map (sumAt rows) ++ [(rows.length : Int)]
def dSome : PyData → Bool | .tuple ds => decide (0 < ds.length) | _ => false
def spMean (CN : Addr) : Sp := fun vs H Q E => ∃ (s : Addr) (n r : Int) (v : V) (d : PyData), vs = [.ref s, v] ∧ Space H s n r ∧ Rp H v d ∧ ((dPoints n d && dSome d) = false → NU CN "points" E H) ∧
  (∀ rows : List (List Int), d = .tuple (dRows rows) → (∀ r ∈ rows, (r.length : Int) = n) → 0 < rows.length → ∀ (q : Addr) (H' : Hp), H' q = some (.tup ((lowL (meanL n.toNat rows)).map V.int)) → Same H H' → Q (.ref q) H')
theorem rows_of {n : Int} : ∀ {ds : List PyData}, ds.all (dRow n) = true → ∃ rows, ds = dRows rows ∧ ∀ r ∈ rows, (r.length : Int) = n
  | [], _ => ⟨[], rfl, fun _ h => by cases h⟩
  | d :: ds, h => by
    rw [List.all_cons, Bool.and_eq_true] at h
    obtain ⟨rows, rfl, k⟩ := rows_of h.2
    obtain ⟨ns, rfl, hn⟩ := row_ints h.1
    exact ⟨ns :: rows, rfl, fun r hr => by
      rcases List.mem_cons.mp hr with rfl | hr
      · exact hn
      · exact k r hr⟩
theorem rows_at {H : Hp} {vs : List V} {rows : List (List Int)} {j : Nat} {x : V} (a : RpAll H vs (dRows rows)) (h : vs[j]? = some x) : ∃ r p, rows[j]? = some r ∧ x = .ref p ∧ H p = some (.tup (r.map V.int)) := by
  obtain ⟨d, hd, rp⟩ := a.at h
  unfold dRows at hd
  rw [List.getElem?_map] at hd
  cases e : rows[j]? with
  | none => rw [e] at hd; cases hd
  | some r =>
    rw [e] at hd
    cases hd
    obtain ⟨p, rfl, e2, _⟩ := rp.row
    exact ⟨r, p, rfl, rfl, e2⟩
theorem at_row {r : List Int} {i : Nat} (h : i < r.length) : atI (r.map V.int) (i : Int) = some (.int (r.getD i 0)) := by
  apply atI_nat
  rw [List.getElem?_map, List.getElem?_eq_getElem h]
  show some (V.int r[i]) = _
  rw [List.getD_eq_getElem?_getD, List.getElem?_eq_getElem h]
  rfl
theorem sum_at : ∀ (rows : List (List Int)) (i : Nat), ((rows.map fun r => r.getD i 0)).sum = sumAt rows i := fun _ _ => rfl
section
variable {P : Program} {w : World} {K : PySem.W.Frag} {mg : Str → Option Value} {base : Heap}
set_option pp.maxSteps 3000
abbrev sMeanPlace : Stmt := topS 23
theorem scMeanPlace : FnScope ["space", "points", "totals", "point", "i"] ["space", "points"] (defScope sMeanPlace) := ⟨rfl, rfl, rfl, by decide +kernel, rfl, by decide +kernel, by decide +kernel⟩
theorem okMeanPlace {f : Addr} {fd : FuncData} (F : Fun K "mean_place" "mean_place" sMeanPlace f fd) (T : Tx mg) {CN : Addr} (DDemand : Dn P w K mg base (L2N.CX P w) "demand" 3 ["fits", "word"] (spDemand CN)) (DLowestTerms : Dn P w K mg base CX0 "lowest_terms" 2 ["numbers"] spLow) (DArePoints : Dn P w K mg base CX0 "are_points" 4 ["space", "thing"] spArePoints)  : FnOk P w K mg base (L2N.CX P w) 5 f fd ["space", "points"] (spMean CN) := by
  refine okN F scMeanPlace (fun vs H Q E h => ?_) (fun cdv A outer s H vs Q E hr h => ?_)
  · obtain ⟨s, n, rr, v, d, rfl, _⟩ := h
    rfl
  · obtain ⟨s, n, rr, v, d, rfl, hS, r1, k1, kk⟩ := h
    refine ⟨_, (pss_cons (ps_expr (pe_dnX DDemand (hr.mono (by omega)) (L2N.takes_of rfl rfl rfl rfl) (pa_cons (pe_and (pe_dn DArePoints (hr.mono (by omega)) (pa_cons (pv 0) (pa_cons (pv 1) pa_nil))) (pe_one (pe_cmpR op_gt (pe_callB call_len (by rfl) T.n_len (by decide +kernel) (pa_cons (pv 1) pa_nil)) pe_int (nomark _)))) (pa_cons pe_str pa_nil))))
    (pss_cons (ps_setLc (i := 2) (te := tCB (rSum K) (tCons (tLc (iTup K (tVar 1)) (gName 3) tYes (tOp (rIxT K) (tVar 3) (tVar 4)) (([(("point" : Str), 3)] : List (Str × Nat)).map (·.2))) tNil)) (own := [("i", 4)]) (g := gName 4) (by rfl) scMeanPlace.nd rfl rfl (sw_true rfl rfl rfl (by decide +kernel)) (pi_range1 rfl T.n_range (pa_cons (pe_ix ix_tup (pv 0) pe_int (fun _ _ => rfl)) pa_nil)) (blkOk_by (own := [("i", 4)]) (N := ["space", "points", "totals", "point", "i"]) (sc := defScope sMeanPlace) (by decide +kernel)) (fun _ _ _ _ _ => pg_name (i := 4) scMeanPlace.nd rfl (Or.inr rfl)) (fun _ _ _ _ _ => pts_nil) (fun _ _ _ _ _ => (pe_callB (r := rSum K) (cr_sum rfl) (by rfl) T.n_sum (by decide +kernel) (pa_cons (pe_lc (own := [("point", 3)]) (g := gName 3) (by rfl) scMeanPlace.nd (pi_tup (pv 1)) (blkOk_by (own := [("point", 3)]) (N := ["space", "points", "totals", "point", "i"]) (by first | rfl | kernel_rfl)) (fun _ _ _ _ _ => pg_name (i := 3) scMeanPlace.nd rfl (Or.inl rfl)) (fun _ _ _ _ _ => pts_nil) (fun _ _ _ _ _ => (pe_ix (r := rIxT K) ix_tup (pv 3) (pv 4) (fun _ _ => rfl)))) pa_nil))))
    (pss_one (ps_ret (pe_dn DLowestTerms (hr.mono (by omega)) (pa_cons (pe_op op_cat (pv 2) (pe_lst (pa_cons (pe_callB call_len (by rfl) T.n_len (by decide +kernel) (pa_cons (pv 1) pa_nil)) pa_nil))) pa_nil)))))), ?_⟩
    have st0 : L2.start ["space", "points", "totals", "point", "i"] [V.ref s, v] = [some (V.ref s), some (v), none, none, none] := rfl
    rw [st0]
    walk_at "rds"
    refine ⟨s, n, rr, v, d, rfl, hS, r1, fun H1 t1 => ?_⟩
    walk_at "rds"
    refine Rd.ifB (fun h => ?_) fun h => ?_
    · cases r1 with
      | @tup p vs ds e a l =>
        obtain ⟨rows, rfl, hr⟩ := rows_of (show ds.all (dRow n) = true from h)
        have lv : vs.length = rows.length := by rw [a.len]; unfold dRows; rw [List.length_map]
        have lr : rows.length ≤ 1000 := by unfold dRows at l; rwa [List.length_map] at l
        have hn := hS.2
        have ep := t1 _ _ e
        have es := t1 _ _ hS.1
        walk_at "rds"
        have ez : decide ((0 : Int) < ((vs.length : Nat) : Int)) = (dPoints n (.tuple (dRows rows)) && dSome (.tuple (dRows rows))) := by
          rw [h, Bool.true_and]
          show _ = decide (0 < (dRows rows).length)
          unfold dRows
          rw [List.length_map, lv]
          exact decide_eq_decide.mpr ⟨fun z => by omega, fun z => by omega⟩
        rw [ez]
        refine ⟨_, _, rfl, fun h2 => ?_, fun h2 => (k1 h2).to t1⟩
        have h0 : 0 < rows.length := by
          rw [← ez] at h2
          have := of_decide_eq_true h2
          omega
        have k := kk rows rfl hr h0
        walk_at "rds"
        refine ⟨by omega, by omega, fun dd hd => ?_⟩
        refine lc_range (lo := 0) (n := n.toNat) (fun i H3 => H3 dd = some (.lst (((List.range i).map (sumAt rows)).map V.int)) ∧ Same H1 H3) ⟨upd_same, same_put hd (Same.refl _)⟩ ?_ ?_
        · rintro i H3 hi ⟨e3, s3⟩
          refine ⟨rfl, ?_⟩
          have ep3 := s3 _ _ ep
          walk_at "rds"
          refine ⟨⟨_, SqT.of ep3⟩, fun d2 hd2 => lc_tup (K := K) (a := p) (xs := vs) (fun j H4 => H4 d2 = some (.lst (((rows.take j).map fun r => r.getD i 0).map V.int)) ∧ Same H3 H4) ⟨upd_same, same_put hd2 (Same.refl _)⟩ (fun j H4 _ ⟨_, s4⟩ => SqT.of (s4 _ _ ep3)) ?_ ?_⟩
          · rintro j x H4 hx ⟨e4, s4⟩
            refine ⟨rfl, ?_⟩
            obtain ⟨r, pr, hr2, rfl, er⟩ := rows_at a hx
            have er4 := s4 _ _ (s3 _ _ (t1 _ _ er))
            have lr2 := hr r (List.mem_of_getElem? hr2)
            walk_at "rds"
            rw [Int.zero_add]
            refine Rd.ixT er4 (at_row (by omega)) ?_
            refine ⟨_, e4, ?_, ?_, same_put hd2 s4⟩
            · rw [List.length_map, List.length_map, List.length_take, sizeLine_eq]
              omega
            · rw [upd_same, List.take_succ, hr2, List.map_append, List.map_append]
              rfl
          · rintro H4 ⟨e4, s4⟩
            rw [lv, List.take_length] at e4
            walk_at "rds"
            refine ⟨d2, _, rfl, SqL.of e4, ?_⟩
            have e34 : H4 dd = some (.lst (((List.range i).map (sumAt rows)).map V.int)) := s4 _ _ e3
            refine ⟨_, e34, ?_, ?_, same_put hd (s3.trans s4)⟩
            · rw [List.length_map, List.length_map, List.length_range, sizeLine_eq]
              omega
            · rw [upd_same, List.range_succ, List.map_append, List.map_append]
              rfl
        · rintro H4 ⟨e4, s4⟩
          have ep4 := s4 _ _ ep
          walk_at "rds"
          rw [lv] at *
          refine Rd.catL (by walk_at "heap") (by walk_at "heap") (by rw [List.length_map, List.length_map, List.length_range]; show n.toNat + 1 ≤ _; omega) fun q5 H5 e5 t5 n5 => ?_
          walk_at "rds"
          have e5' : H5 q5 = some (.lst ((meanL n.toNat rows).map V.int)) := by rw [e5]; unfold meanL; rw [List.map_append]; rfl
          refine ⟨_, _, rfl, ⟨.inl e5', by unfold meanL; rw [List.length_append, List.length_map, List.length_range]; show n.toNat + 1 ≤ 1000; omega⟩, ⟨(rows.length : Int), by unfold meanL; simp, by omega, ?_⟩, fun q' H6 e6 t6 => k q' H6 e6 (by walk_at "same")⟩
          rw [Int.natAbs_natCast]
          exact Nat.lt_of_le_of_lt lr (Nat.lt_of_lt_of_le (show 1000 < 2 ^ 10 by decide) (Nat.pow_le_pow_right (by decide) (by decide)))
      | _ => cases h
    · walk_at "rds"
      have kz : (dPoints n d && dSome d) = false := by rw [h, Bool.false_and]
      first | exact ⟨_, _, rfl, (fun h2 => by cases h2), fun _ => (k1 kz).to t1⟩ | exact ⟨_, rfl, (fun h2 => by cases h2), fun _ => (k1 kz).to t1⟩
end
end K15
end SecP5
section SecQ1
set_option Elab.async false
set_option linter.all false
set_option maxRecDepth 100000
set_option maxHeartbeats 4000000
set_option pp.deepTerms false
local macro_rules | `(tactic| walk_at "tq") => `(tactic| first | assumption | (refine' Dt.Tq.to ?s0 ?h0; (case h0 => assumption); (case s0 => walk_at "same")))
local macro_rules | `(tactic| walk_at "same") => `(tactic| first | exact L2.Same.refl _ | assumption | (refine' L2.Same.trans ?s1 ?s2; (case s2 => assumption); (case s1 => walk_at "same")))
local macro_rules | `(tactic| walk_at "sam") => `(tactic| first | exact Dt.Sam.refl | assumption | exact Dt.Sam.of (by assumption) | (refine' Dt.Sam.trans ?s1 ?s2; (case s2 => first | assumption | exact Dt.Sam.of (by assumption)); (case s1 => walk_at "sam")))
local macro_rules | `(tactic| walk_at "tape") => `(tactic| first | assumption | (refine' Dt.Tape.mono ?h0 ?s0; (case h0 => assumption); (case s0 => walk_at "same")))
local macro_rules | `(tactic| walk_at "nt") => `(tactic| first | exact Dt.nt_tup | exact Dt.nt_ints | assumption | (intro a0 b0 c0 l0 z0; cases z0) | (intro a0 b0 c0 l0 z0; simp at z0))
local macro_rules | `(tactic| walk_at "heap") => `(tactic| first | assumption | exact L2.upd_same | (refine' Rd.at_to ?s0 ?h0; (case h0 => assumption); (case s0 => walk_at "same")) | (refine' Dt.at_sam ?n0 ?s0 ?h0; (case h0 => assumption); (case n0 => walk_at "nt"); (case s0 => walk_at "sam")))
local macro_rules | `(tactic| walk_at "rp") => `(tactic| first | exact Dt.Rp.int _ | exact Dt.Rp.bl _ | exact Dt.Rp.str _ | exact Dt.Rp.non | assumption | (refine' Dt.Rp.sm ?s0 ?h0; (case h0 => assumption); (case s0 => walk_at "sam")) | (refine' Dt.Rp.tup ?h1 ?h2 ?h3; (case h1 => walk_at "heap"); (case h2 => walk_at "rps"); (case h3 => first | assumption | (show _ ≤ 1000; decide) | (show _ ≤ 1000; simp) | (show _ ≤ 1000; omega))) | (refine' Dt.Rp.lst ?h1 ?h2 ?h3 ?h4; (case h1 => walk_at "heap"); (case h2 => walk_at "rps"); (case h3 => first | assumption | (show _ ≤ 1000; decide) | (show _ ≤ 1000; simp) | (show _ ≤ 1000; omega)); (case h4 => walk_at "nt")))
local macro_rules | `(tactic| walk_at "rps") => `(tactic| first | exact Dt.RpAll.nil | assumption | (refine' Dt.RpAll.cons ?h1 ?h2; (case h1 => walk_at "rp"); (case h2 => walk_at "rps")) | (refine' Dt.RpAll.sm ?s0 ?h0; (case h0 => assumption); (case s0 => walk_at "sam")))
local macro_rules | `(tactic| walk_at "rd") => `(tactic| first
  | with_reducible refine Rd.seq ?_ | with_reducible refine Rd.asg ?_ | with_reducible refine Rd.nm ?_ | with_reducible refine Rd.sub ?_ | with_reducible refine Rd.ret ?_ | with_reducible refine Rd.retN ?_
  | with_reducible refine Rd.drop ?_ | with_reducible refine Rd.ifs ?_ | with_reducible refine Rd.next ?_ | with_reducible refine Rd.cst ?_ | with_reducible refine Rd.op ?_ | with_reducible refine Rd.un ?_
  | with_reducible refine Rd.test ?_ | with_reducible refine Rd.tb' ?_ | with_reducible refine Rd.exb ?_ | with_reducible refine Rd.exi ?_ | with_reducible refine Rd.and2 ?_ | with_reducible refine Rd.or2 ?_ | with_reducible refine Rd.not1 ?_
  | with_reducible refine Rd.andV ?_ | with_reducible refine Rd.orV ?_ | with_reducible refine Rd.notV ?_ | with_reducible refine Rd.nil ?_ | with_reducible refine Rd.cons ?_ | with_reducible refine Rd.cb ?_
  | with_reducible refine Rd.i0 ?_ | with_reducible refine Rd.u1 ?_ | with_reducible refine Rd.call ?_ | with_reducible refine Rd.tup ?_ | with_reducible refine Rd.lst ?_ | with_reducible refine Rd.sl ?_ | with_reducible refine Rd.no ?_ | with_reducible refine Rd.part ?_ | with_reducible refine Rd.at_ ?_ | with_reducible refine Rd.yes ?_ | with_reducible refine Rd.fors ?_ | with_reducible refine Rd.m1 ?_ | with_reducible refine Rd.exs ?_ | with_reducible refine Rd.lc ?_ | with_reducible refine Rd.rng ?_
  | with_reducible refine Rd.mkv ?_ | with_reducible refine Rd.mko ?_ | with_reducible refine Rd.callB ?_ | with_reducible refine Rd.callS ?_ | with_reducible refine Rd.bm ?_ | with_reducible refine Rd.itl ?_ | with_reducible refine Rd.itt ?_
  | ((with_reducible refine' And.intro ?hl ?_); (case hl => ((with_reducible show List.length _ ≤ PySem.sizeLine); (show _ ≤ PySem.sizeLine); rw [PySem.sizeLine_eq]; simp)))
  | (intro p0 n0; generalize hK0 : L2.upd _ p0 _ = K0; obtain ⟨e0, t0⟩ := Dt.newK hK0 n0)
  | ((with_reducible refine' Rd.lenKL ?he ?_); (case he => walk_at "heap")) | ((with_reducible refine' Rd.lenKT ?he ?_); (case he => walk_at "heap"))
  | ((with_reducible refine' Rd.var ?hv ?_); (case hv => exact rfl))
  | ((with_reducible refine' Rd.ifT ?hv ?_); (case hv => first | exact rfl | assumption)) | ((with_reducible refine' Rd.ifF ?hv ?_); (case hv => first | exact rfl | assumption))
  | ((with_reducible refine' Rd.eq ?hv ?_); (case hv => exact rfl))
  | ((with_reducible refine' Rd.ne ?hv ?_); (case hv => exact rfl))
  | ((with_reducible refine' Dt.isi_int ?hr ?_); (case hr => walk_at "rp")) | ((with_reducible refine' Dt.isi_bool ?hr ?_); (case hr => walk_at "rp")) | ((with_reducible refine' Dt.isi_tuple ?hr ?_); (case hr => walk_at "rp")) | ((with_reducible refine' Dt.isi_str ?hr ?_); (case hr => walk_at "rp")) | ((with_reducible refine' Dt.isi_list ?hr ?_); (case hr => walk_at "rp"))
  | with_reducible refine ⟨rfl, ?_⟩ | with_reducible refine Or.inl ⟨_, rfl, ?_⟩ | with_reducible refine Or.inr ⟨_, rfl, ?_⟩ | with_reducible refine ⟨_, rfl, ?_⟩
  | ((with_reducible refine' Rd.ex2 ⟨rfl, ?hl, ?_⟩); (case hl => first | exact Or.inl ⟨_, L2.SqL.of (by walk_at "heap"), rfl⟩ | exact Or.inr ⟨_, L2.SqT.of (by walk_at "heap"), rfl⟩))
  | ((with_reducible refine' Rd.i1 ?hv ?_); (case hv => first | exact ⟨by decide, by decide, by decide⟩ | exact Or.inr ⟨by decide, by decide⟩ | exact Or.inl ⟨by decide, by decide⟩ | exact ⟨by decide, by decide⟩ | decide | assumption | (show _ ≠ _; omega) | (refine ⟨?_, ?_⟩ <;> omega) | (refine Or.inl ⟨?_, ?_⟩ <;> omega)))
  | ((with_reducible refine' Rd.ixL ?he ?hx ?_); (case he => walk_at "heap"); (case hx => rfl))
  | ((with_reducible refine' Rd.ixT ?he ?hx ?_); (case he => walk_at "heap"); (case hx => rfl))
  | ((with_reducible refine' Rd.setL ?he ?hx ?_); (case he => first | assumption | exact L2.upd_same); (case hx => rfl)))
local macro_rules | `(tactic| walk_at "rd") => `(tactic| first | with_reducible refine Rd.isT ?_ | with_reducible refine Rd.isnT ?_)
local macro_rules | `(tactic| walk_at "rd") => `(tactic| first | ((with_reducible refine' Rd.gtup ?he ?hl ?_); (case he => walk_at "heap"); (case hl => exact rfl)) | with_reducible refine Rd.brk ?_ | with_reducible refine Rd.callR ?_ | ((with_reducible refine' Rd.tupOf ?hp ?hk); (case hp => walk_at "heap"); (case hk => intro r0 J0 e0 t0 n0)) | ((with_reducible refine' Rd.lstOf ?hp ?hk); (case hp => walk_at "heap"); (case hk => intro r0 J0 e0 t0 n0)) | ((with_reducible refine' Rd.catL ?hp ?hq ?hl ?hk); (case hp => walk_at "heap"); (case hq => walk_at "heap"); (case hl => (simp only [List.length_map, List.length_append, List.length_cons, List.length_nil]; omega)); (case hk => intro r0 J0 e0 t0 n0)) | with_reducible refine Rd.bits ?_ | with_reducible refine Rd.max2 ?_ | with_reducible refine Rd.gcons ?_ | with_reducible refine Rd.gnil ?_)
local macro_rules | `(tactic| walk_at "rds") => `(tactic| repeat (first | walk_at "rd" | assumption))
namespace K15
open PySem PySem.Spec PyProof.Rows L2 L2H Err Dt
theorem upd_idem {H : Hp} {t : Addr} {o : HO} (h : H t = some o) : upd H t o = H := by
  funext b
  by_cases e : b = t
  · rw [e, upd_same, h]
  · rw [upd_ne e]
theorem fmod_in {a m : Int} (h : 0 < m) : 0 ≤ a.fmod m ∧ a.fmod m < m := by
  rw [Int.fmod_eq_emod_of_nonneg _ (Int.le_of_lt h)]
  exact ⟨Int.emod_nonneg _ (by omega), Int.emod_lt_of_pos _ h⟩
/-- Euclid's walk -/
structure Eu (L G : Nat) (i x y : Nat) : Prop where
  g : Nat.gcd x y = G
  b : y = 0 ∨ (i = 0 ∧ x < 2 ^ L ∧ y < 2 ^ L) ∨ ∃ j, i = j + 1 ∧ y < x ∧ x * y * 2 ^ j < 2 ^ (2 * L)
theorem Eu.next {L G i x y : Nat} (h : Eu L G i x y) (hy : y ≠ 0) : Eu L G (i + 1) y (x % y) := by
  refine ⟨by rw [← h.g, Nat.gcd_comm x y, Nat.gcd_rec y x, Nat.gcd_comm], ?_⟩
  have hr : x % y < y := Nat.mod_lt _ (by omega)
  rcases h.b with z | ⟨rfl, hx, hy2⟩ | ⟨j, rfl, hlt, hb⟩
  · exact absurd z hy
  · refine .inr (.inr ⟨0, rfl, hr, ?_⟩)
    rw [Nat.pow_zero, Nat.mul_one, Nat.two_mul, Nat.pow_add]
    exact Nat.mul_lt_mul'' hy2 (Nat.lt_trans hr hy2)
  · refine .inr (.inr ⟨j + 1, rfl, hr, ?_⟩)
    have e := Nat.div_add_mod x y
    have q1 : 1 ≤ x / y := (Nat.one_le_div_iff (by omega)).mpr (Nat.le_of_lt hlt)
    have q2 : y * 1 ≤ y * (x / y) := Nat.mul_le_mul_left y q1
    have h2 : x % y * 2 ≤ x := by omega
    have h3 : y * (x % y) * 2 ≤ x * y := by
      rw [Nat.mul_assoc, Nat.mul_comm x y]
      exact Nat.mul_le_mul_left y h2
    rw [Nat.pow_succ, Nat.mul_comm (2 ^ j) 2, ← Nat.mul_assoc]
    exact Nat.lt_of_le_of_lt (Nat.mul_le_mul_right _ h3) hb
theorem Eu.end {L G i x y : Nat} (h : Eu L G i x y) (hi : i = 2 * L + 2) : x = G := by
  by_cases hc : y = 0
  · rw [← h.g, hc, Nat.gcd_zero_right]
  rcases h.b with z | ⟨z, _⟩ | ⟨j, e, hlt, hb⟩
  · exact absurd z hc
  · omega
  · exfalso
    rcases Nat.eq_zero_or_pos y with hy | hy
    · exact hc hy
    have h1 : 1 ≤ x * y := Nat.mul_pos (by omega) (by omega)
    have h2 : 2 ^ j ≤ x * y * 2 ^ j := Nat.le_mul_of_pos_left _ h1
    have h3 : 2 ^ (2 * L) ≤ 2 ^ j := Nat.pow_le_pow_right (by decide) (by omega)
    omega
theorem bits_lt (x : Int) : x.natAbs < 2 ^ Builtin.Int.intBits x := by
  unfold Builtin.Int.intBits
  split
  · rename_i h
    have : x = 0 := by simpa using h
    rw [this]; decide
  · exact Nat.lt_log2_self
theorem bits_le {x : Int} {n : Nat} (h : x.natAbs < 2 ^ n) : Builtin.Int.intBits x ≤ n := by
  unfold Builtin.Int.intBits
  split
  · omega
  · rename_i h0
    have hx : x.natAbs ≠ 0 := fun z => h0 (by simp; omega)
    exact (Nat.log2_lt hx).mpr h
def spGcd : Sp := fun vs H Q _ => ∃ a b : Int, vs = [.int a, .int b] ∧ a.natAbs < 2 ^ 9000 ∧ b.natAbs < 2 ^ 9000 ∧ Q (.int ((Nat.gcd a.natAbs b.natAbs : Nat) : Int)) H
def spLowest : Sp := fun vs H Q _ => ∃ a b : Int, vs = [.int a, .int b] ∧ a.natAbs < 2 ^ 8000 ∧ b.natAbs < 2 ^ 8000 ∧ b ≠ 0 ∧ ∀ (p : Addr) (H' : Hp) (x y : Int), H' p = some (.tup [.int x, .int y]) → QF x y a b → Same H H' → Q (.ref p) H'
def spWholes : Sp := fun vs H Q _ => ∃ (v : V) (d : PyData) (n : Int), vs = [v, .int n] ∧ Rp H v d ∧ ∀ H', Same H H' → Q (.bl (dRow n d)) H'
def spTruth : Sp := fun vs H Q _ => ∃ b c : Bool, vs = [.bl b, .bl c] ∧ Q (.bl (decide (b = c))) H
/-- the quotient is the given one -/
def spStands : Sp := fun vs H Q _ => ∃ (p : Addr) (x y a b : Int), vs = [.ref p, .int a, .int b] ∧ H p = some (.tup [.int x, .int y]) ∧ x * b = a * y ∧ 1 ≤ y ∧ Nat.gcd x.natAbs y.natAbs = 1 ∧ x.natAbs < 2 ^ 9000 ∧ y.natAbs < 2 ^ 9000 ∧ a.natAbs < 2 ^ 9000 ∧ b.natAbs < 2 ^ 9000 ∧ ∀ H', Same H H' → Q (.bl true) H'
/-- the place is the given one: got = lowL (tops ++ [bottom]) -/
def spLies : Sp := fun vs H Q _ => ∃ (p q : Addr) (xs : List Int) (y : Int) (tops : List Int) (b : Int), vs = [.ref p, .ref q, .int b] ∧ H p = some (.tup ((xs ++ [y]).map V.int)) ∧ H q = some (.lst (tops.map V.int)) ∧ xs.length = tops.length ∧ xs.length ≤ 900 ∧ 1 ≤ y ∧ gN (xs ++ [y]) = 1 ∧
  (∀ i, i < xs.length → xs.getD i 0 * b = tops.getD i 0 * y) ∧ (∀ x ∈ xs ++ [y], x.natAbs < 2 ^ 9000) ∧ (∀ x ∈ tops, x.natAbs < 2 ^ 9000) ∧ b.natAbs < 2 ^ 9000 ∧ ∀ H', Same H H' → Q (.bl true) H'
section
variable {P : Program} {w : World} {K : PySem.W.Frag} {mg : Str → Option Value} {base : Heap}
set_option pp.maxSteps 3000
abbrev sDrawL : Stmt := topS 33
theorem scDrawL : FnScope ["tape", "many", "cell", "value"] ["tape", "many"] (defScope sDrawL) := ⟨rfl, rfl, rfl, by decide +kernel, rfl, by decide +kernel, by decide +kernel⟩
theorem okDrawL {f : Addr} {fd : FuncData} (F : Fun K "_law_draw" "_law_draw" sDrawL f fd) (T : Tx mg) : FnOk P w K mg base CX0 1 f fd ["tape", "many"] spDr := by
  refine F.ok scDrawL (fun vs H Q E h => ?_) (fun cdv A outer s H vs Q E hr h => ?_)
  · obtain ⟨t, l, ns, m, rfl, _⟩ := h
    rfl
  · obtain ⟨t, l, ns, m, rfl, Tp, hl, m0, m1, k⟩ := h
    obtain ⟨a, b, c, e, hc⟩ := Tp.ex
    have ne := Tp.ne
    have sc := Tp.sc
    refine ⟨_, (C8.pss_cut (ps_if (PW.pt (pw_and (pt_cmpR op_eq (pe_ix ix_list (pv 0) pe_int (fun _ _ => rfl)) pe_int (nomark _)) (pw_and1 (pt_cmpR op_lt (pe_ix ix_list (pv 0) pe_int (fun _ _ => rfl)) (pe_callB call_len (by rfl) T.n_len (by decide +kernel) (pa_cons (pe_ix ix_list (pv 0) pe_int (fun _ _ => rfl)) pa_nil)) (nomark _)))))
    (pss_cons (ps_set (i := 2) scDrawL.nd rfl (Or.inl rfl) (pe_ix ix_list (pe_ix ix_list (pv 0) pe_int (fun _ _ => rfl)) (pe_ix ix_list (pv 0) pe_int (fun _ _ => rfl)) (fun _ _ => rfl)))
      (pss_cons (ps_asg (pe_op op_add (pe_ix ix_list (pv 0) pe_int (fun _ _ => rfl)) pe_int) (pg_sub (pv 0) pe_int set_list))
      (pss_one (ps_if (PW.pt (pw_or (pt_cmpR op_ge (pv 2) (pe_op op_pow pe_int pe_int) (nomark _)) (pw_or1 (pt_cmpR op_le (pv 2) (pe_un un_neg (pe_op op_pow pe_int pe_int)) (nomark _)))))
      (pss_one (ps_asg (pe_callB call_abs (by rfl) T.n_abs (by decide +kernel) (pa_cons (pv 2) pa_nil)) (pg_sub (pv 0) pe_int set_list)))
      (pss_one (ps_asg (pe_op op_modN (pe_callTy call_int1 (by rfl) T.n_int (by decide +kernel) (pa_cons (pe_op op_add (pe_op op_mul (pe_ix ix_list (pv 0) pe_int (fun _ _ => rfl)) pe_int) (pv 2)) pa_nil)) pe_int) (pg_sub (pv 0) pe_int set_list)))))))
    pss_nil)
    (pss_cons (ps_if (pt_cmpR op_gt (pe_ix ix_list (pv 0) pe_int (fun _ _ => rfl)) pe_int (nomark _))
    (pss_cons (ps_set (i := 3) scDrawL.nd rfl (Or.inl rfl) (pe_op op_modN (pe_callTy call_int1 (by rfl) T.n_int (by decide +kernel) (pa_cons (pe_ix ix_list (pv 0) pe_int (fun _ _ => rfl)) pa_nil)) (pv 1)))
      (pss_cons (ps_asg (pe_op op_fdivN (pe_ix ix_list (pv 0) pe_int (fun _ _ => rfl)) (pv 1)) (pg_sub (pv 0) pe_int set_list))
      (pss_one (ps_ret (pv 3)))))
    pss_nil)
    (pss_cons (ps_asg (pe_op op_modN (pe_callTy call_int1 (by rfl) T.n_int (by decide +kernel) (pa_cons (pe_op op_add (pe_op op_mul (pe_ix ix_list (pv 0) pe_int (fun _ _ => rfl)) pe_int) pe_int) pa_nil)) pe_int) (pg_sub (pv 0) pe_int set_list))
    (pss_one (ps_ret (pe_op op_modN (pe_callTy call_int1 (by rfl) T.n_int (by decide +kernel) (pa_cons (pe_op op_fdivN (pe_ix ix_list (pv 0) pe_int (fun _ _ => rfl)) pe_int) pa_nil)) (pv 1))))))), ?_⟩
    have st0 : L2.start ["tape", "many", "cell", "value"] [V.ref t, V.int m] = [some (.ref t), some (.int m), none, none] := rfl
    rw [st0]
    refine Rd.cut (fun σ' H' => ∃ (x y : Option V) (a b c : Int), σ' = [some (.ref t), some (.int m), x, y] ∧ H' = upd H t (.lst [.int a, .int b, .int c, .ref l]) ∧ 0 ≤ c) ?_ ?_
    · have fin : ∀ (x y : Option V) (a b c : Int), 0 ≤ c → ∃ (x' y' : Option V) (a' b' c' : Int), [some (V.ref t), some (V.int m), x, y] = [some (.ref t), some (.int m), x', y'] ∧ upd H t (.lst [.int a, .int b, .int c, .ref l]) = upd H t (.lst [.int a', .int b', .int c', .ref l]) ∧ 0 ≤ c' :=
        fun x y a b c h => ⟨x, y, a, b, c, rfl, rfl, h⟩
      have stop : ∀ (x y : Option V), ∃ (x' y' : Option V) (a' b' c' : Int), [some (V.ref t), some (V.int m), x, y] = [some (.ref t), some (.int m), x', y'] ∧ H = upd H t (.lst [.int a', .int b', .int c', .ref l]) ∧ 0 ≤ c' :=
        fun x y => ⟨x, y, a, b, c, rfl, (upd_idem e).symm, hc⟩
      walk_at "rds"
      refine Rd.ifB (fun ha => ?_) fun _ => ?_
      · walk_at "rds"
        refine Rd.ifB (fun hb => ?_) fun _ => ?_
        · have hb' : c < (ns.length : Int) := by
            have y : c < ((ns.map V.int).length : Int) := of_decide_eq_true hb
            rw [List.length_map] at y
            exact y
          walk_at "rds"
          obtain ⟨j, ej⟩ : ∃ j : Nat, c = (j : Int) := ⟨c.toNat, by omega⟩
          have hj : j < ns.length := by omega
          refine Rd.ixL sc (v := .int ns[j]) (at_of (j := j) ej (by rw [List.getElem?_map, List.getElem?_eq_getElem hj]; rfl)) ?_
          walk_at "rds"
          refine Rd.ifB (fun _ => ?_) fun _ => ?_
          · walk_at "rds"
            rw [upd_upd]
            exact fin _ _ _ _ _ (by show 0 ≤ c + 1; omega)
          · walk_at "rds"
            refine Rd.ifB (fun _ => ?_) fun _ => ?_ <;>
            · walk_at "rds"
              rw [upd_upd]
              exact fin _ _ _ _ _ (by show 0 ≤ c + 1; omega)
        · walk_at "rds"
          exact stop _ _
      · walk_at "rds"
        exact stop _ _
    · rintro σ' H' ⟨x, y, a, b, c, rfl, rfl, hc⟩
      have tp : ∀ (a b : Int) (H' : Hp), H' = upd H t (.lst [.int a, .int b, .int c, .ref l]) → Tape t l ns H' ∧ Keeps t H H' := fun a b H' e => by
        rw [e]
        exact ⟨⟨⟨a, b, c, upd_same, hc⟩, by rw [upd_ne ne]; exact sc⟩, fun z o n h => by rw [upd_ne n]; exact h⟩
      walk_at "rds"
      refine Rd.ifB (fun _ => ?_) fun _ => ?_
      · walk_at "rds"
        obtain ⟨tp1, tp2⟩ := tp (a.fdiv m) b _ (show upd (upd H t (.lst [.int a, .int b, .int c, .ref l])) t (.lst [.int (a.fdiv m), .int b, .int c, .ref l]) = _ from upd_upd)
        exact k _ _ (fmod_in m0).1 (fmod_in m0).2 tp1 (Keeps.sam Tp tp2)
      · walk_at "rds"
        obtain ⟨tp1, tp2⟩ := tp a ((b * 30941 + 7127).fmod 998244353) _ (show upd (upd H t (.lst [.int a, .int b, .int c, .ref l])) t (.lst [.int a, .int ((b * 30941 + 7127).fmod 998244353), .int c, .ref l]) = _ from upd_upd)
        exact k _ _ (fmod_in m0).1 (fmod_in m0).2 tp1 (Keeps.sam Tp tp2)
abbrev sGcdL : Stmt := topS 34
theorem scGcdL : FnScope ["one", "other", "turn", "rest"] ["one", "other"] (defScope sGcdL) := ⟨rfl, rfl, rfl, by decide +kernel, rfl, by decide +kernel, by decide +kernel⟩
theorem okGcdL {f : Addr} {fd : FuncData} (F : Fun K "_law_gcd" "_law_gcd" sGcdL f fd) (T : Tx mg)  : FnOk P w K mg base CX0 1 f fd ["one", "other"] spGcd := by
  refine F.ok scGcdL (fun vs H Q E h => ?_) (fun cdv A outer s H vs Q E hr h => ?_)
  · obtain ⟨a, b, rfl, _⟩ := h
    rfl
  · obtain ⟨a, b, rfl, ha, hb, kk⟩ := h
    refine ⟨_, (pss_cons (ps_set (i := 0) scGcdL.nd rfl (Or.inl rfl) (pe_callB call_abs (by rfl) T.n_abs (by decide +kernel) (pa_cons (pv 0) pa_nil)))
    (pss_cons (ps_set (i := 1) scGcdL.nd rfl (Or.inl rfl) (pe_callB call_abs (by rfl) T.n_abs (by decide +kernel) (pa_cons (pv 1) pa_nil)))
    (pss_cons (ps_for PassesOwn.never rfl (pi_range1 rfl T.n_range (pa_cons (pe_op op_add (pe_op op_mul pe_int (pe_bits (pe_callB (call_max2 rfl) (by rfl) T.n_max (by decide +kernel) (pa_cons (pv 0) (pa_cons (pv 1) pa_nil))))) pe_int) pa_nil)) (pg_name (i := 2) scGcdL.nd rfl (Or.inl rfl))
    (pss_cons (ps_if (pt_cmpR op_eq (pv 1) pe_int (nomark _))
      (pss_one ps_break)
      pss_nil)
      (pss_cons (ps_set (i := 3) scGcdL.nd rfl (Or.inl rfl) (pe_op op_mod (pe_callTy call_int1 (by rfl) T.n_int (by decide +kernel) (pa_cons (pv 0) pa_nil)) (pv 1)))
      (pss_cons (ps_set (i := 0) scGcdL.nd rfl (Or.inl rfl) (pv 1))
      (pss_one (ps_set (i := 1) scGcdL.nd rfl (Or.inl rfl) (pv 3)))))))
    (pss_one (ps_ret (pv 0)))))), ?_⟩
    have st0 : L2.start ["one", "other", "turn", "rest"] [V.int a, V.int b] = [some (V.int a), some (V.int b), none, none] := rfl
    rw [st0]
    walk_at "rds"
    refine ⟨_, _, rfl, ?_⟩
    walk_at "rds"
    generalize hA : (if a < 0 then -a else a) = a'
    generalize hB : (if b < 0 then -b else b) = b'
    have ea : a' = ((a.natAbs : Nat) : Int) := by rw [← hA]; split <;> omega
    have eb : b' = ((b.natAbs : Nat) : Int) := by rw [← hB]; split <;> omega
    generalize hM : (if b' > a' then b' else a') = m
    have hm : m.natAbs < 2 ^ 9000 := by rw [← hM]; split <;> (first | rw [eb, Int.natAbs_natCast]; exact hb | rw [ea, Int.natAbs_natCast]; exact ha)
    have hL := bits_le hm
    have hx : a.natAbs < 2 ^ Builtin.Int.intBits m := Nat.lt_of_le_of_lt (by rw [← hM]; split <;> omega) (bits_lt m)
    have hy : b.natAbs < 2 ^ Builtin.Int.intBits m := Nat.lt_of_le_of_lt (by rw [← hM]; split <;> omega) (bits_lt m)
    generalize hLL : Builtin.Int.intBits m = L at *
    refine ⟨by omega, by omega, ?_⟩
    rw [show (2 * ((L : Nat) : Int) + 2).toNat = 2 * L + 2 by omega]
    refine for_range (lo := 0) (n := 2 * L + 2) (fun i σ' H' => H' = H ∧ ∃ (x y : Nat) (u1 u2 : Option V), σ' = [some (.int (x : Int)), some (.int (y : Int)), u1, u2] ∧ Eu L (Nat.gcd a.natAbs b.natAbs) i x y) ⟨rfl, a.natAbs, b.natAbs, none, none, by rw [← ea, ← eb]; rfl, rfl, .inr (.inl ⟨rfl, hx, hy⟩)⟩ ?_ ?_
    · rintro i σ' H' hi ⟨rfl, x, y, u1, u2, rfl, eu⟩
      walk_at "rds"
      refine Rd.ifB (fun h => ?_) fun h => ?_
      · have y0 : y = 0 := by
          have := V.int.inj (of_decide_eq_true h)
          omega
        have ex : x = Nat.gcd a.natAbs b.natAbs := by rw [← eu.g, y0, Nat.gcd_zero_right]
        subst ex
        walk_at "rds"
      · have y0 : y ≠ 0 := fun z => by
          have := of_decide_eq_false h
          rw [z] at this
          exact this rfl
        walk_at "rds"
        refine Rd.i1 (show (0 : Int) < y by omega) ?_
        walk_at "rds"
        exact ⟨y, x % y, _, _, by rw [Int.natCast_emod]; rfl, eu.next y0⟩
    · rintro σ' H' ⟨rfl, x, y, u1, u2, rfl, eu⟩
      walk_at "rds"
      have ex := eu.end rfl
      subst ex
      exact kk
end
end K15
end SecQ1
section SecQ2
set_option Elab.async false
set_option linter.all false
set_option maxRecDepth 100000
set_option maxHeartbeats 4000000
set_option pp.deepTerms false
local macro_rules | `(tactic| walk_at "tq") => `(tactic| first | assumption | (refine' Dt.Tq.to ?s0 ?h0; (case h0 => assumption); (case s0 => walk_at "same")))
local macro_rules | `(tactic| walk_at "same") => `(tactic| first | exact L2.Same.refl _ | assumption | (refine' L2.Same.trans ?s1 ?s2; (case s2 => assumption); (case s1 => walk_at "same")))
local macro_rules | `(tactic| walk_at "sam") => `(tactic| first | exact Dt.Sam.refl | assumption | exact Dt.Sam.of (by assumption) | (refine' Dt.Sam.trans ?s1 ?s2; (case s2 => first | assumption | exact Dt.Sam.of (by assumption)); (case s1 => walk_at "sam")))
local macro_rules | `(tactic| walk_at "tape") => `(tactic| first | assumption | (refine' Dt.Tape.mono ?h0 ?s0; (case h0 => assumption); (case s0 => walk_at "same")))
local macro_rules | `(tactic| walk_at "nt") => `(tactic| first | exact Dt.nt_tup | exact Dt.nt_ints | assumption | (intro a0 b0 c0 l0 z0; cases z0) | (intro a0 b0 c0 l0 z0; simp at z0))
local macro_rules | `(tactic| walk_at "heap") => `(tactic| first | assumption | exact L2.upd_same | (refine' Rd.at_to ?s0 ?h0; (case h0 => assumption); (case s0 => walk_at "same")) | (refine' Dt.at_sam ?n0 ?s0 ?h0; (case h0 => assumption); (case n0 => walk_at "nt"); (case s0 => walk_at "sam")))
local macro_rules | `(tactic| walk_at "rp") => `(tactic| first | exact Dt.Rp.int _ | exact Dt.Rp.bl _ | exact Dt.Rp.str _ | exact Dt.Rp.non | assumption | (refine' Dt.Rp.sm ?s0 ?h0; (case h0 => assumption); (case s0 => walk_at "sam")) | (refine' Dt.Rp.tup ?h1 ?h2 ?h3; (case h1 => walk_at "heap"); (case h2 => walk_at "rps"); (case h3 => first | assumption | (show _ ≤ 1000; decide) | (show _ ≤ 1000; simp) | (show _ ≤ 1000; omega))) | (refine' Dt.Rp.lst ?h1 ?h2 ?h3 ?h4; (case h1 => walk_at "heap"); (case h2 => walk_at "rps"); (case h3 => first | assumption | (show _ ≤ 1000; decide) | (show _ ≤ 1000; simp) | (show _ ≤ 1000; omega)); (case h4 => walk_at "nt")))
local macro_rules | `(tactic| walk_at "rps") => `(tactic| first | exact Dt.RpAll.nil | assumption | (refine' Dt.RpAll.cons ?h1 ?h2; (case h1 => walk_at "rp"); (case h2 => walk_at "rps")) | (refine' Dt.RpAll.sm ?s0 ?h0; (case h0 => assumption); (case s0 => walk_at "sam")))
local macro_rules | `(tactic| walk_at "rd") => `(tactic| first
  | with_reducible refine Rd.seq ?_ | with_reducible refine Rd.asg ?_ | with_reducible refine Rd.nm ?_ | with_reducible refine Rd.sub ?_ | with_reducible refine Rd.ret ?_ | with_reducible refine Rd.retN ?_
  | with_reducible refine Rd.drop ?_ | with_reducible refine Rd.ifs ?_ | with_reducible refine Rd.next ?_ | with_reducible refine Rd.cst ?_ | with_reducible refine Rd.op ?_ | with_reducible refine Rd.un ?_
  | with_reducible refine Rd.test ?_ | with_reducible refine Rd.tb' ?_ | with_reducible refine Rd.exb ?_ | with_reducible refine Rd.exi ?_ | with_reducible refine Rd.and2 ?_ | with_reducible refine Rd.or2 ?_ | with_reducible refine Rd.not1 ?_
  | with_reducible refine Rd.andV ?_ | with_reducible refine Rd.orV ?_ | with_reducible refine Rd.notV ?_ | with_reducible refine Rd.nil ?_ | with_reducible refine Rd.cons ?_ | with_reducible refine Rd.cb ?_
  | with_reducible refine Rd.i0 ?_ | with_reducible refine Rd.u1 ?_ | with_reducible refine Rd.call ?_ | with_reducible refine Rd.tup ?_ | with_reducible refine Rd.lst ?_ | with_reducible refine Rd.sl ?_ | with_reducible refine Rd.no ?_ | with_reducible refine Rd.part ?_ | with_reducible refine Rd.at_ ?_ | with_reducible refine Rd.yes ?_ | with_reducible refine Rd.fors ?_ | with_reducible refine Rd.m1 ?_ | with_reducible refine Rd.exs ?_ | with_reducible refine Rd.lc ?_ | with_reducible refine Rd.rng ?_
  | with_reducible refine Rd.mkv ?_ | with_reducible refine Rd.mko ?_ | with_reducible refine Rd.callB ?_ | with_reducible refine Rd.callS ?_ | with_reducible refine Rd.bm ?_ | with_reducible refine Rd.itl ?_ | with_reducible refine Rd.itt ?_
  | ((with_reducible refine' And.intro ?hl ?_); (case hl => ((with_reducible show List.length _ ≤ PySem.sizeLine); (show _ ≤ PySem.sizeLine); rw [PySem.sizeLine_eq]; simp)))
  | (intro p0 n0; generalize hK0 : L2.upd _ p0 _ = K0; obtain ⟨e0, t0⟩ := Dt.newK hK0 n0)
  | ((with_reducible refine' Rd.lenKL ?he ?_); (case he => walk_at "heap")) | ((with_reducible refine' Rd.lenKT ?he ?_); (case he => walk_at "heap"))
  | ((with_reducible refine' Rd.var ?hv ?_); (case hv => exact rfl))
  | ((with_reducible refine' Rd.ifT ?hv ?_); (case hv => first | exact rfl | assumption)) | ((with_reducible refine' Rd.ifF ?hv ?_); (case hv => first | exact rfl | assumption))
  | ((with_reducible refine' Rd.eq ?hv ?_); (case hv => exact rfl))
  | ((with_reducible refine' Rd.ne ?hv ?_); (case hv => exact rfl))
  | ((with_reducible refine' Dt.isi_int ?hr ?_); (case hr => walk_at "rp")) | ((with_reducible refine' Dt.isi_bool ?hr ?_); (case hr => walk_at "rp")) | ((with_reducible refine' Dt.isi_tuple ?hr ?_); (case hr => walk_at "rp")) | ((with_reducible refine' Dt.isi_str ?hr ?_); (case hr => walk_at "rp")) | ((with_reducible refine' Dt.isi_list ?hr ?_); (case hr => walk_at "rp"))
  | with_reducible refine ⟨rfl, ?_⟩ | with_reducible refine Or.inl ⟨_, rfl, ?_⟩ | with_reducible refine Or.inr ⟨_, rfl, ?_⟩ | with_reducible refine ⟨_, rfl, ?_⟩
  | ((with_reducible refine' Rd.ex2 ⟨rfl, ?hl, ?_⟩); (case hl => first | exact Or.inl ⟨_, L2.SqL.of (by walk_at "heap"), rfl⟩ | exact Or.inr ⟨_, L2.SqT.of (by walk_at "heap"), rfl⟩))
  | ((with_reducible refine' Rd.i1 ?hv ?_); (case hv => first | exact ⟨by decide, by decide, by decide⟩ | exact Or.inr ⟨by decide, by decide⟩ | exact Or.inl ⟨by decide, by decide⟩ | exact ⟨by decide, by decide⟩ | decide | assumption | (show _ ≠ _; omega) | (refine ⟨?_, ?_⟩ <;> omega) | (refine Or.inl ⟨?_, ?_⟩ <;> omega)))
  | ((with_reducible refine' Rd.ixL ?he ?hx ?_); (case he => walk_at "heap"); (case hx => rfl))
  | ((with_reducible refine' Rd.ixT ?he ?hx ?_); (case he => walk_at "heap"); (case hx => rfl))
  | ((with_reducible refine' Rd.setL ?he ?hx ?_); (case he => first | assumption | exact L2.upd_same); (case hx => rfl)))
local macro_rules | `(tactic| walk_at "rd") => `(tactic| first | with_reducible refine Rd.isT ?_ | with_reducible refine Rd.isnT ?_)
local macro_rules | `(tactic| walk_at "rd") => `(tactic| first | ((with_reducible refine' Rd.gtup ?he ?hl ?_); (case he => walk_at "heap"); (case hl => exact rfl)) | with_reducible refine Rd.brk ?_ | with_reducible refine Rd.callR ?_ | ((with_reducible refine' Rd.tupOf ?hp ?hk); (case hp => walk_at "heap"); (case hk => intro r0 J0 e0 t0 n0)) | ((with_reducible refine' Rd.lstOf ?hp ?hk); (case hp => walk_at "heap"); (case hk => intro r0 J0 e0 t0 n0)) | ((with_reducible refine' Rd.catL ?hp ?hq ?hl ?hk); (case hp => walk_at "heap"); (case hq => walk_at "heap"); (case hl => (simp only [List.length_map, List.length_append, List.length_cons, List.length_nil]; omega)); (case hk => intro r0 J0 e0 t0 n0)) | with_reducible refine Rd.bits ?_ | with_reducible refine Rd.max2 ?_ | with_reducible refine Rd.gcons ?_ | with_reducible refine Rd.gnil ?_)
local macro_rules | `(tactic| walk_at "rds") => `(tactic| repeat (first | walk_at "rd" | assumption))
namespace K15
open PySem PySem.Spec PyProof.Rows L2 L2H Err Dt
theorem op_fdivZ {X : Cx} : OpR X (binaryOp .FloorDiv) (rI (fun _ j => j ≠ 0 ∧ j.natAbs.log2 < 9000) fun i j => .int (i.fdiv j)) := opI fun _ _ _ _ _ _ _ hc q => floordiv_int hc.1 q (.inl (PyProof.noPylong_of_log2 hc.2))
theorem fdiv_of {a s x : Int} (h : x * s = a) (h0 : s ≠ 0) : a.fdiv s = x := by
  rw [← h]
  exact Int.mul_fdiv_cancel x h0
theorem qf_of {x y a b s : Int} (h1 : x * s = a) (h2 : y * s = b) (hs : s ≠ 0) (hy : 1 ≤ y) (hg : Nat.gcd x.natAbs y.natAbs = 1) : QF x y a b := by
  refine ⟨?_, hy, hg, ?_, ?_⟩
  · rw [← h1, ← h2, Int.mul_assoc, Int.mul_comm s y]
  · rw [← h1, Int.natAbs_mul]
    exact Nat.le_mul_of_pos_right _ (by omega)
  · rw [← h2, Int.natAbs_mul]
    exact Nat.le_mul_of_pos_right _ (by omega)
/-- lowest terms by the gcd with the bottom's sign -/
theorem signed_low {a b : Int} (hb : b ≠ 0) : ∃ x y : Int, x * (if b < 0 then -((Nat.gcd a.natAbs b.natAbs : Nat) : Int) else ((Nat.gcd a.natAbs b.natAbs : Nat) : Int)) = a ∧ y * (if b < 0 then -((Nat.gcd a.natAbs b.natAbs : Nat) : Int) else ((Nat.gcd a.natAbs b.natAbs : Nat) : Int)) = b ∧ QF x y a b := by
  have g0 : 0 < Nat.gcd a.natAbs b.natAbs := Nat.gcd_pos_of_pos_right _ (by omega)
  generalize hg : Nat.gcd a.natAbs b.natAbs = gg at *
  have d1 : ((gg : Nat) : Int) ∣ a := Int.ofNat_dvd_left.mpr (by rw [← hg]; exact Nat.gcd_dvd_left _ _)
  have d2 : ((gg : Nat) : Int) ∣ b := Int.ofNat_dvd_left.mpr (by rw [← hg]; exact Nat.gcd_dvd_right _ _)
  obtain ⟨x, hx⟩ := d1
  obtain ⟨y, hy⟩ := d2
  have hgx : Nat.gcd x.natAbs y.natAbs = 1 := by
    have e : Nat.gcd (gg * x.natAbs) (gg * y.natAbs) = gg := by
      have z := hg
      rw [hx, hy, Int.natAbs_mul, Int.natAbs_mul, Int.natAbs_natCast] at z
      exact z
    rw [Nat.gcd_mul_left] at e
    exact Nat.eq_of_mul_eq_mul_left g0 (by rw [e, Nat.mul_one])
  by_cases h : b < 0
  · rw [if_pos h]
    have e1 : (-x) * -((gg : Nat) : Int) = a := by rw [Int.neg_mul_neg, Int.mul_comm]; exact hx.symm
    have e2 : (-y) * -((gg : Nat) : Int) = b := by rw [Int.neg_mul_neg, Int.mul_comm]; exact hy.symm
    have yn : y < 0 := by
      rcases Int.lt_or_le y 0 with z | z
      · exact z
      · have := Int.mul_nonneg (show (0 : Int) ≤ ((gg : Nat) : Int) by omega) z
        omega
    exact ⟨-x, -y, e1, e2, qf_of e1 e2 (by omega) (by omega) (by rw [Int.natAbs_neg, Int.natAbs_neg]; exact hgx)⟩
  · rw [if_neg h]
    have e1 : x * ((gg : Nat) : Int) = a := by rw [Int.mul_comm]; exact hx.symm
    have e2 : y * ((gg : Nat) : Int) = b := by rw [Int.mul_comm]; exact hy.symm
    have yp : 0 < y := by
      rcases Int.lt_or_le 0 y with z | z
      · exact z
      · exfalso
        have : y * ((gg : Nat) : Int) ≤ 0 := Int.mul_nonpos_of_nonpos_of_nonneg z (by omega)
        omega
    exact ⟨x, y, e1, e2, qf_of e1 e2 (by omega) (by omega) hgx⟩
theorem cmul9 {a b : Int} (ha : a.natAbs < 2 ^ 9000) (hb : b.natAbs < 2 ^ 9000) : CMulW a b := wide_mul ha hb (by decide) (by decide) (by decide)
section
variable {P : Program} {w : World} {K : PySem.W.Frag} {mg : Str → Option Value} {base : Heap}
set_option pp.maxSteps 3000
abbrev sWholeL : Stmt := topS 35
theorem scWholeL : FnScope ["thing"] ["thing"] (defScope sWholeL) := ⟨rfl, rfl, rfl, by decide +kernel, rfl, by decide +kernel, by decide +kernel⟩
theorem okWholeL {f : Addr} {fd : FuncData} (F : Fun K "_law_whole" "_law_whole" sWholeL f fd) (T : Tx mg)  : FnB P w K mg base 1 f fd ["thing"] (fun _ => spIsInt) := by
  refine fnB_of F scWholeL (fun pl vs H Q E h => ?_) (fun cdv A outer s H vs Q b pl hr mc h => ?_)
  · obtain ⟨v, d, rfl, _⟩ := h
    rfl
  · obtain ⟨v, d, rfl, r, kk⟩ := h
    refine ⟨_, (pss_one (ps_ret (pe_and (pe_callB call_isi (by rfl) T.n_isinstance (by decide +kernel) (pa_cons (pv 0) (pa_cons (pe_bltn (v := .ty "int") (u := .type "int") rfl T.n_int (by decide +kernel) rfl) pa_nil))) (pe_one (pe_not (pe_callB call_isi (by rfl) T.n_isinstance (by decide +kernel) (pa_cons (pv 0) (pa_cons (pe_bltn (v := .ty "bool") (u := .type "bool") rfl T.n_bool (by decide +kernel) rfl) pa_nil)))))))), ?_⟩
    have st0 : L2.start ["thing"] [v] = [some (v)] := rfl
    rw [st0]
    walk_at "rds"
    cases r <;>
    · walk_at "rds"
      exact kk _ (Same.refl _)
abbrev sWholesL : Stmt := topS 36
theorem scWholesL : FnScope ["thing", "many", "x"] ["thing", "many"] (defScope sWholesL) := ⟨rfl, rfl, rfl, by decide +kernel, rfl, by decide +kernel, by decide +kernel⟩
theorem okWholesL {f : Addr} {fd : FuncData} (F : Fun K "_law_wholes" "_law_wholes" sWholesL f fd) (T : Tx mg) (DWholeL : Dn P w K mg base CX0 "_law_whole" 1 ["thing"] spIsInt)  : FnOk P w K mg base CX0 2 f fd ["thing", "many"] spWholes := by
  refine F.ok scWholesL (fun vs H Q E h => ?_) (fun cdv A outer s H vs Q E hr h => ?_)
  · obtain ⟨v, d, n, rfl, _⟩ := h
    rfl
  · obtain ⟨v, d, n, rfl, r, kk⟩ := h
    refine ⟨_, (pss_cons (ps_if (PW.pt (pw_or (pt_not (pt_val (pe_callB call_isi (by rfl) T.n_isinstance (by decide +kernel) (pa_cons (pv 0) (pa_cons (pe_bltn (v := .ty "tuple") (u := .type "tuple") rfl T.n_tuple (by decide +kernel) rfl) pa_nil))))) (pw_or1 (pt_cmpR op_ne (pe_callB call_len (by rfl) T.n_len (by decide +kernel) (pa_cons (pv 0) pa_nil)) (pv 1) (nomark _)))))
    (pss_one (ps_ret pe_bl))
    pss_nil)
    (pss_one (ps_ret (pe_callB (cr_all rfl) (by rfl) T.n_all (by decide +kernel) (pa_cons (pe_lc (own := [("x", 2)]) (g := gName 2) (by rfl) scWholesL.nd (pi_tup (pv 0)) (blkOk_by (own := [("x", 2)]) (N := ["thing", "many", "x"]) (sc := defScope sWholesL) (by decide +kernel)) (fun _ _ _ _ _ => pg_name (i := 2) scWholesL.nd rfl (Or.inl rfl)) (fun _ _ _ _ _ => pts_nil) (fun _ _ _ _ _ => (pe_dn DWholeL (hr.mono (by omega)) (pa_cons (pv 2) pa_nil)))) pa_nil))))), ?_⟩
    have st0 : L2.start ["thing", "many", "x"] [v, V.int n] = [some (v), some (V.int n), none] := rfl
    rw [st0]
    cases r with
    | @tup p vs ds e a l =>
      walk_at "rds"
      have hl : vs.length = ds.length := a.len
      refine Rd.ifB (fun h => ?_) fun h => ?_
      · walk_at "rds"
        have ez : dRow n (.tuple ds) = false := by
          show (decide ((ds.length : Int) = n) && ds.all dInt) = _
          have h' : ¬ (ds.length : Int) = n := fun z => by
            rw [← hl] at z
            rw [z] at h
            exact absurd h (by simp)
          rw [decide_eq_false h', Bool.false_and]
        rw [← ez]
        exact kk _ (Same.refl _)
      · walk_at "rds"
        refine ⟨⟨_, SqT.of e⟩, fun d hd => lc_tup (K := K) (a := p) (xs := vs) (fun i H3 => H3 d = some (.lst (((ds.take i).map dInt).map V.bl)) ∧ Same H H3) ⟨upd_same, same_put hd (Same.refl _)⟩ (fun i H3 _ ⟨_, s3⟩ => SqT.of (s3 _ _ e)) ?_ ?_⟩
        · rintro i x H3 hx ⟨e3, s3⟩
          refine ⟨rfl, ?_⟩
          walk_at "rds"
          obtain ⟨d1, h1, r1⟩ := a.at hx
          refine ⟨x, d1, rfl, r1.to s3, fun H4 t4 => ⟨_, t4 _ _ e3, ?_, ?_, same_put hd (s3.trans t4)⟩⟩
          · rw [List.length_map, List.length_map, List.length_take, sizeLine_eq]
            omega
          · rw [upd_same, List.take_succ, h1, List.map_append, List.map_append]
            rfl
        · rintro H4 ⟨e4, s4⟩
          walk_at "rds"
          refine ⟨d, _, rfl, SqL.of e4, ?_⟩
          rw [hl, List.take_length]
          have ez : dRow n (.tuple ds) = (ds.map dInt).all id := by
            show (decide ((ds.length : Int) = n) && ds.all dInt) = _
            have h' : (ds.length : Int) = n := by
              rcases Decidable.em ((ds.length : Int) = n) with z | z
              · exact z
              · exfalso
                rw [hl] at h
                rw [decide_eq_false (fun y => z (V.int.inj y))] at h
                cases h
            rw [decide_eq_true h', Bool.true_and, List.all_map]
            rfl
          rw [← ez]
          exact kk _ s4
    | non | bl | int | str | lst =>
      walk_at "rds"
      exact kk _ (Same.refl _)
abbrev sTruthL : Stmt := topS 38
theorem scTruthL : FnScope ["got", "due"] ["got", "due"] (defScope sTruthL) := ⟨rfl, rfl, rfl, by decide +kernel, rfl, by decide +kernel, by decide +kernel⟩
theorem okTruthL {f : Addr} {fd : FuncData} (F : Fun K "_law_truth" "_law_truth" sTruthL f fd) (T : Tx mg)  : FnOk P w K mg base CX0 1 f fd ["got", "due"] spTruth := by
  refine F.ok scTruthL (fun vs H Q E h => ?_) (fun cdv A outer s H vs Q E hr h => ?_)
  · obtain ⟨b, c, rfl, _⟩ := h
    rfl
  · obtain ⟨b, c, rfl, kk⟩ := h
    refine ⟨_, (pss_one (ps_ret (pe_and (pe_callB call_isi (by rfl) T.n_isinstance (by decide +kernel) (pa_cons (pv 0) (pa_cons (pe_bltn (v := .ty "bool") (u := .type "bool") rfl T.n_bool (by decide +kernel) rfl) pa_nil))) (pe_one (pe_cmpR op_eq (pv 0) (pv 1) (nomark _)))))), ?_⟩
    have st0 : L2.start ["got", "due"] [V.bl b, V.bl c] = [some (V.bl b), some (V.bl c)] := rfl
    rw [st0]
    walk_at "rds"
    have ez : decide (V.bl b = V.bl c) = decide (b = c) := decide_eq_decide.mpr ⟨fun z => V.bl.inj z, fun z => by rw [z]⟩
    first | (rw [ez]; exact kk) | (show Q (.bl (decide (V.bl b = V.bl c))) H; rw [ez]; exact kk)
abbrev sLowestL : Stmt := topS 37
theorem scLowestL : FnScope ["top", "bottom", "shared"] ["top", "bottom"] (defScope sLowestL) := ⟨rfl, rfl, rfl, by decide +kernel, rfl, by decide +kernel, by decide +kernel⟩
theorem okLowestL {f : Addr} {fd : FuncData} (F : Fun K "_law_lowest" "_law_lowest" sLowestL f fd) (T : Tx mg) (DGcdL : Dn P w K mg base CX0 "_law_gcd" 1 ["one", "other"] spGcd)  : FnOk P w K mg base CX0 2 f fd ["top", "bottom"] spLowest := by
  refine F.ok scLowestL (fun vs H Q E h => ?_) (fun cdv A outer s H vs Q E hr h => ?_)
  · obtain ⟨a, b, rfl, _⟩ := h
    rfl
  · obtain ⟨a, b, rfl, ha, hb, b0, kk⟩ := h
    refine ⟨_, (pss_cons (ps_set (i := 2) scLowestL.nd rfl (Or.inl rfl) (pe_dn DGcdL (hr.mono (by omega)) (pa_cons (pv 0) (pa_cons (pv 1) pa_nil))))
    (C8.pss_cut (ps_if (pt_cmpR op_lt (pv 1) pe_int (nomark _))
    (pss_one (ps_set (i := 2) scLowestL.nd rfl (Or.inl rfl) (pe_un un_neg (pv 2))))
    pss_nil)
    (pss_one (ps_ret (pe_tup (pa_cons (pe_op op_fdivZ (pv 0) (pv 2)) (pa_cons (pe_op op_fdivZ (pv 1) (pv 2)) pa_nil))))))), ?_⟩
    have st0 : L2.start ["top", "bottom", "shared"] [V.int a, V.int b] = [some (V.int a), some (V.int b), none] := rfl
    rw [st0]
    obtain ⟨x, y, e1, e2, q⟩ := signed_low (a := a) (b := b) b0
    have g0 : 0 < Nat.gcd a.natAbs b.natAbs := Nat.gcd_pos_of_pos_right _ (by omega)
    have gl : Nat.gcd a.natAbs b.natAbs < 2 ^ 8000 := Nat.lt_of_le_of_lt (Nat.gcd_le_right _ (by omega)) hb
    have l9 : (2 : Nat) ^ 8000 ≤ 2 ^ 9000 := Nat.pow_le_pow_right (by decide) (by decide)
    walk_at "rds"
    refine ⟨a, b, rfl, Nat.lt_of_lt_of_le ha l9, Nat.lt_of_lt_of_le hb l9, ?_⟩
    walk_at "rds"
    refine Rd.cut (fun σ' H' => H' = H ∧ σ' = [some (.int a), some (.int b), some (.int (if b < 0 then -((Nat.gcd a.natAbs b.natAbs : Nat) : Int) else ((Nat.gcd a.natAbs b.natAbs : Nat) : Int)))]) ?_ ?_
    · walk_at "rds"
      refine Rd.ifB (fun h => ?_) fun h => ?_
      · have hn : b < 0 := of_decide_eq_true h
        walk_at "rds"
        first | exact ⟨rfl, by rw [if_pos hn]; rfl⟩ | (show _ = _; rw [if_pos hn]; rfl)
      · have hn : ¬ b < 0 := of_decide_eq_false h
        walk_at "rds"
        first | exact ⟨rfl, by rw [if_neg hn]⟩ | (show _ = _; rw [if_neg hn]; rfl)
    · rintro σ' H' ⟨rfl, rfl⟩
      generalize hs : (if b < 0 then -((Nat.gcd a.natAbs b.natAbs : Nat) : Int) else ((Nat.gcd a.natAbs b.natAbs : Nat) : Int)) = s1 at *
      have s0 : s1 ≠ 0 := by rw [← hs]; split <;> omega
      have sl : s1.natAbs < 2 ^ 8000 := by rw [← hs]; split <;> (first | rw [Int.natAbs_neg, Int.natAbs_natCast] | rw [Int.natAbs_natCast]) <;> exact gl
      have cd : s1 ≠ 0 ∧ s1.natAbs.log2 < 9000 := ⟨s0, Nat.lt_of_lt_of_le (PySem.Flt.log2_lt_of (by decide) sl) (by decide)⟩
      walk_at "rds"
      refine kk _ _ x y ?_ q (by assumption)
      rw [← fdiv_of e1 s0, ← fdiv_of e2 s0]
      assumption
abbrev sStandsL : Stmt := topS 39
theorem scStandsL : FnScope ["got", "top", "bottom"] ["got", "top", "bottom"] (defScope sStandsL) := ⟨rfl, rfl, rfl, by decide +kernel, rfl, by decide +kernel, by decide +kernel⟩
theorem okStandsL {f : Addr} {fd : FuncData} (F : Fun K "_law_stands" "_law_stands" sStandsL f fd) (T : Tx mg) (DGcdL : Dn P w K mg base CX0 "_law_gcd" 1 ["one", "other"] spGcd) (DWholesL : Dn P w K mg base CX0 "_law_wholes" 2 ["thing", "many"] spWholes)  : FnOk P w K mg base CX0 3 f fd ["got", "top", "bottom"] spStands := by
  refine F.ok scStandsL (fun vs H Q E h => ?_) (fun cdv A outer s H vs Q E hr h => ?_)
  · obtain ⟨p, x, y, a, b, rfl, _⟩ := h
    rfl
  · obtain ⟨p, x, y, a, b, rfl, e, hm, hy, hg, bx, by_, ba_, bb, kk⟩ := h
    refine ⟨_, (pss_cons (ps_if (PW.pt (pw_or (pt_not (pt_val (pe_dn DWholesL (hr.mono (by omega)) (pa_cons (pv 0) (pa_cons pe_int pa_nil))))) (pw_or (pt_cmpR op_lt (pe_ix ix_tup (pv 0) pe_int (fun _ _ => rfl)) pe_int (nomark _)) (pw_or1 (pt_cmpR op_ne (pe_dn DGcdL (hr.mono (by omega)) (pa_cons (pe_ix ix_tup (pv 0) pe_int (fun _ _ => rfl)) (pa_cons (pe_ix ix_tup (pv 0) pe_int (fun _ _ => rfl)) pa_nil))) pe_int (nomark _))))))
    (pss_one (ps_ret pe_bl))
    pss_nil)
    (pss_one (ps_ret (pe_cmpR op_eq (pe_op op_mulW (pe_ix ix_tup (pv 0) pe_int (fun _ _ => rfl)) (pv 2)) (pe_op op_mulW (pv 1) (pe_ix ix_tup (pv 0) pe_int (fun _ _ => rfl))) (nomark _))))), ?_⟩
    have st0 : L2.start ["got", "top", "bottom"] [V.ref p, V.int a, V.int b] = [some (V.ref p), some (V.int a), some (V.int b)] := rfl
    rw [st0]
    walk_at "rds"
    refine ⟨_, _, 2, rfl, rp_q e, fun H1 t1 => ?_⟩
    have ez : dRow 2 (.tuple [.int x, .int y]) = true := rfl
    rw [ez]
    have e1 := t1 _ _ e
    walk_at "rds"
    refine Rd.ifF (decide_eq_false (by omega)) ?_
    walk_at "rds"
    refine ⟨x, y, rfl, bx, by_, ?_⟩
    rw [hg]
    walk_at "rds"
    have c1 := cmul9 bx bb
    have c2 := cmul9 ba_ by_
    walk_at "rds"
    rw [hm, decide_eq_true rfl]
    exact kk _ t1
abbrev sLiesL : Stmt := topS 40
theorem scLiesL : FnScope ["got", "tops", "bottom", "many", "shared", "x", "i"] ["got", "tops", "bottom"] (defScope sLiesL) := ⟨rfl, rfl, rfl, by decide +kernel, rfl, by decide +kernel, by decide +kernel⟩
theorem okLiesL {f : Addr} {fd : FuncData} (F : Fun K "_law_lies" "_law_lies" sLiesL f fd) (T : Tx mg) (DGcdL : Dn P w K mg base CX0 "_law_gcd" 1 ["one", "other"] spGcd) (DWholesL : Dn P w K mg base CX0 "_law_wholes" 2 ["thing", "many"] spWholes)  : FnOk P w K mg base CX0 3 f fd ["got", "tops", "bottom"] spLies := by
  refine F.ok scLiesL (fun vs H Q E h => ?_) (fun cdv A outer s H vs Q E hr h => ?_)
  · obtain ⟨p, q, xs, y, tops, b, rfl, _⟩ := h
    rfl
  · obtain ⟨p, q, xs, y, tops, b, rfl, ep, eq_, hl, h9, hy, hg, hm, bx, bt, bb, kk⟩ := h
    refine ⟨_, (pss_cons (ps_set (i := 3) scLiesL.nd rfl (Or.inr rfl) (pe_callB call_len (by rfl) T.n_len (by decide +kernel) (pa_cons (pv 1) pa_nil)))
    (pss_cons (ps_if (PW.pt (pw_or (pt_not (pt_val (pe_dn DWholesL (hr.mono (by omega)) (pa_cons (pv 0) (pa_cons (pe_op op_add (pv 3) pe_int) pa_nil))))) (pw_or1 (pt_cmpR op_lt (pe_ix ix_tup (pv 0) (pv 3) (fun _ _ => rfl)) pe_int (nomark _)))))
    (pss_one (ps_ret pe_bl))
    pss_nil)
    (pss_cons (ps_set (i := 4) scLiesL.nd rfl (Or.inl rfl) (pe_ix ix_tup (pv 0) (pv 3) (fun _ _ => rfl)))
    (pss_cons (ps_for PassesOwn.never rfl (pi_tup (pv 0)) (pg_name (i := 5) scLiesL.nd rfl (Or.inl rfl))
    (pss_one (ps_set (i := 4) scLiesL.nd rfl (Or.inl rfl) (pe_dn DGcdL (hr.mono (by omega)) (pa_cons (pv 4) (pa_cons (pv 5) pa_nil))))))
    (pss_cons (ps_if (pt_cmpR op_ne (pv 4) pe_int (nomark _))
    (pss_one (ps_ret pe_bl))
    pss_nil)
    (pss_one (ps_ret (pe_callB (cr_all rfl) (by rfl) T.n_all (by decide +kernel) (pa_cons (pe_lc (own := [("i", 6)]) (g := gName 6) (by rfl) scLiesL.nd (pi_range1 rfl T.n_range (pa_cons (pv 3) pa_nil)) (blkOk_by (own := [("i", 6)]) (N := ["got", "tops", "bottom", "many", "shared", "x", "i"]) (sc := defScope sLiesL) (by decide +kernel)) (fun _ _ _ _ _ => pg_name (i := 6) scLiesL.nd rfl (Or.inl rfl)) (fun _ _ _ _ _ => pts_nil) (fun _ _ _ _ _ => (pe_cmpR op_eq (pe_op op_mulW (pe_ix (r := rIxT K) ix_tup (pv 0) (pv 6) (fun _ _ => rfl)) (pv 2)) (pe_op op_mulW (pe_ix (r := rIxL K) ix_list (pv 1) (pv 6) (fun _ _ => rfl)) (pe_ix (r := rIxT K) ix_tup (pv 0) (pv 3) (fun _ _ => rfl))) (nomark _)))) pa_nil))))))))), ?_⟩
    have st0 : L2.start ["got", "tops", "bottom", "many", "shared", "x", "i"] [V.ref p, V.ref q, V.int b] = [some (V.ref p), some (V.ref q), some (V.int b), none, none, none, none] := rfl
    rw [st0]
    have bls : (tops.map V.int).length = xs.length := by rw [List.length_map, hl]
    walk_at "rds"
    refine ⟨_, _, _, rfl, rp_row ep (by rw [List.length_append]; show xs.length + 1 ≤ 1000; omega), fun H1 t1 => ?_⟩
    have ez : dRow (((tops.map V.int).length : Nat) + 1) (.tuple ((xs ++ [y]).map PyData.int)) = true := by
      show (decide ((((xs ++ [y]).map PyData.int).length : Int) = _) && _) = true
      rw [List.length_map, List.length_append, bls, decide_eq_true (show ((xs.length + [y].length : Nat) : Int) = ((xs.length : Nat) : Int) + 1 from rfl), Bool.true_and]
      rw [List.all_map]
      exact List.all_eq_true.mpr fun _ _ => rfl
    rw [ez]
    have e1 := t1 _ _ ep
    have f1 := t1 _ _ eq_
    have al : atI ((xs ++ [y]).map V.int) (((tops.map V.int).length : Nat) : Int) = some (.int y) := by
      rw [bls]
      apply atI_nat
      rw [List.getElem?_map, List.getElem?_append_right (Nat.le_refl _)]
      simp
    walk_at "rds"
    refine Rd.ixT e1 al ?_
    walk_at "rds"
    refine Rd.ifF (decide_eq_false (by omega)) ?_
    walk_at "rds"
    refine Rd.ixT e1 al ?_
    walk_at "rds"
    refine ⟨⟨_, SqT.of e1⟩, for_tup (K := K) (a := p) (xs := (xs ++ [y]).map V.int) (fun i σ' H' => H' = H1 ∧ ∃ u, σ' = [some (.ref p), some (.ref q), some (.int b), some (.int (((tops.map V.int).length : Nat) : Int)), some (.int ((Nat.gcd y.natAbs (gN ((xs ++ [y]).take i)) : Nat) : Int)), u, none]) ⟨rfl, none, ?_⟩ (fun i σ' H' _ ⟨z, _⟩ => by rw [z]; exact SqT.of e1) ?_ ?_⟩
    · have z : gN (((xs ++ [y]).take 0)) = 0 := rfl
      rw [z, Nat.gcd_zero_right]
      have z2 : ((y.natAbs : Nat) : Int) = y := by omega
      rw [z2]
      rfl
    · rintro i x σ' H' hx ⟨rfl, u, rfl⟩
      obtain ⟨n, hn, rfl⟩ := int_at hx
      walk_at "rds"
      have gb : Nat.gcd y.natAbs (gN ((xs ++ [y]).take i)) < 2 ^ 9000 := Nat.lt_of_le_of_lt (Nat.gcd_le_left _ (by omega)) (bx y (by simp))
      refine ⟨_, n, rfl, by rw [Int.natAbs_natCast]; exact gb, bx n (List.mem_of_getElem? hn), ?_⟩
      rw [Int.natAbs_natCast]
      walk_at "rds"
      rw [gN_take hn, ← Nat.gcd_assoc]
      first | exact ⟨rfl, _, rfl⟩ | exact ⟨_, rfl⟩
    · rintro σ' H' ⟨rfl, u, rfl⟩
      have zt : (xs ++ [y]).take ((xs ++ [y]).map V.int).length = xs ++ [y] := by rw [List.length_map, List.take_length]
      rw [zt, hg, Nat.gcd_one_right]
      rw [bls]
      walk_at "rds"
      refine ⟨by omega, by omega, fun d hd => ?_⟩
      rw [Int.toNat_natCast]
      refine lc_range (lo := 0) (n := xs.length) (fun i H3 => H3 d = some (.lst ((List.replicate i true).map V.bl)) ∧ Same H' H3) ⟨upd_same, same_put hd (Same.refl _)⟩ ?_ ?_
      · rintro i H3 hi ⟨e3, s3⟩
        refine ⟨rfl, ?_⟩
        have e13 := s3 _ _ e1
        have f13 := s3 _ _ f1
        walk_at "rds"
        rw [Int.zero_add]
        refine Rd.ixT e13 (at_int hi) ?_
        have c1 : CMulW (xs.getD i 0) b := cmul9 (bx _ (getD_mem hi)) bb
        walk_at "rds"
        have ht : i < tops.length := by omega
        refine Rd.ixL f13 (at_row ht) ?_
        walk_at "rds"
        have ay : atI ((xs ++ [y]).map V.int) ((xs.length : Nat) : Int) = some (.int y) := by rw [← bls]; exact al
        refine Rd.ixT e13 ay ?_
        have tm : tops.getD i 0 ∈ tops := by
          rw [List.getD_eq_getElem?_getD, List.getElem?_eq_getElem ht]
          exact List.getElem_mem ht
        have c2 : CMulW (tops.getD i 0) y := cmul9 (bt _ tm) (bx y (by simp))
        walk_at "rds"
        refine ⟨_, e3, ?_, ?_, same_put hd s3⟩
        · rw [List.length_map, List.length_replicate, sizeLine_eq]
          omega
        · rw [upd_same, List.replicate_succ', List.map_append, hm i hi, decide_eq_true rfl]
          rfl
      · rintro H4 ⟨e4, s4⟩
        walk_at "rds"
        refine ⟨d, _, rfl, SqL.of e4, ?_⟩
        have ea : (List.replicate xs.length true).all id = true := by simp
        rw [ea]
        exact kk _ (t1.trans s4)
end
end K15
end SecQ2
section SecQ3
set_option Elab.async false
set_option linter.all false
set_option maxRecDepth 100000
set_option maxHeartbeats 4000000
set_option pp.deepTerms false
local macro_rules | `(tactic| walk_at "tq") => `(tactic| first | assumption | (refine' Dt.Tq.to ?s0 ?h0; (case h0 => assumption); (case s0 => walk_at "same")))
local macro_rules | `(tactic| walk_at "same") => `(tactic| first | exact L2.Same.refl _ | assumption | (refine' L2.Same.trans ?s1 ?s2; (case s2 => assumption); (case s1 => walk_at "same")))
local macro_rules | `(tactic| walk_at "sam") => `(tactic| first | exact Dt.Sam.refl | assumption | exact Dt.Sam.of (by assumption) | (refine' Dt.Sam.trans ?s1 ?s2; (case s2 => first | assumption | exact Dt.Sam.of (by assumption)); (case s1 => walk_at "sam")))
local macro_rules | `(tactic| walk_at "tape") => `(tactic| first | assumption | (refine' Dt.Tape.mono ?h0 ?s0; (case h0 => assumption); (case s0 => walk_at "same")))
local macro_rules | `(tactic| walk_at "nt") => `(tactic| first | exact Dt.nt_tup | exact Dt.nt_ints | assumption | (intro a0 b0 c0 l0 z0; cases z0) | (intro a0 b0 c0 l0 z0; simp at z0))
local macro_rules | `(tactic| walk_at "heap") => `(tactic| first | assumption | exact L2.upd_same | (refine' Rd.at_to ?s0 ?h0; (case h0 => assumption); (case s0 => walk_at "same")) | (refine' Dt.at_sam ?n0 ?s0 ?h0; (case h0 => assumption); (case n0 => walk_at "nt"); (case s0 => walk_at "sam")))
local macro_rules | `(tactic| walk_at "rp") => `(tactic| first | exact Dt.Rp.int _ | exact Dt.Rp.bl _ | exact Dt.Rp.str _ | exact Dt.Rp.non | assumption | (refine' Dt.Rp.sm ?s0 ?h0; (case h0 => assumption); (case s0 => walk_at "sam")) | (refine' Dt.Rp.tup ?h1 ?h2 ?h3; (case h1 => walk_at "heap"); (case h2 => walk_at "rps"); (case h3 => first | assumption | (show _ ≤ 1000; decide) | (show _ ≤ 1000; simp) | (show _ ≤ 1000; omega))) | (refine' Dt.Rp.lst ?h1 ?h2 ?h3 ?h4; (case h1 => walk_at "heap"); (case h2 => walk_at "rps"); (case h3 => first | assumption | (show _ ≤ 1000; decide) | (show _ ≤ 1000; simp) | (show _ ≤ 1000; omega)); (case h4 => walk_at "nt")))
local macro_rules | `(tactic| walk_at "rps") => `(tactic| first | exact Dt.RpAll.nil | assumption | (refine' Dt.RpAll.cons ?h1 ?h2; (case h1 => walk_at "rp"); (case h2 => walk_at "rps")) | (refine' Dt.RpAll.sm ?s0 ?h0; (case h0 => assumption); (case s0 => walk_at "sam")))
local macro_rules | `(tactic| walk_at "rd") => `(tactic| first
  | with_reducible refine Rd.seq ?_ | with_reducible refine Rd.asg ?_ | with_reducible refine Rd.nm ?_ | with_reducible refine Rd.sub ?_ | with_reducible refine Rd.ret ?_ | with_reducible refine Rd.retN ?_
  | with_reducible refine Rd.drop ?_ | with_reducible refine Rd.ifs ?_ | with_reducible refine Rd.next ?_ | with_reducible refine Rd.cst ?_ | with_reducible refine Rd.op ?_ | with_reducible refine Rd.un ?_
  | with_reducible refine Rd.test ?_ | with_reducible refine Rd.tb' ?_ | with_reducible refine Rd.exb ?_ | with_reducible refine Rd.exi ?_ | with_reducible refine Rd.and2 ?_ | with_reducible refine Rd.or2 ?_ | with_reducible refine Rd.not1 ?_
  | with_reducible refine Rd.andV ?_ | with_reducible refine Rd.orV ?_ | with_reducible refine Rd.notV ?_ | with_reducible refine Rd.nil ?_ | with_reducible refine Rd.cons ?_ | with_reducible refine Rd.cb ?_
  | with_reducible refine Rd.i0 ?_ | with_reducible refine Rd.u1 ?_ | with_reducible refine Rd.call ?_ | with_reducible refine Rd.tup ?_ | with_reducible refine Rd.lst ?_ | with_reducible refine Rd.sl ?_ | with_reducible refine Rd.no ?_ | with_reducible refine Rd.part ?_ | with_reducible refine Rd.at_ ?_ | with_reducible refine Rd.yes ?_ | with_reducible refine Rd.fors ?_ | with_reducible refine Rd.m1 ?_ | with_reducible refine Rd.exs ?_ | with_reducible refine Rd.lc ?_ | with_reducible refine Rd.rng ?_
  | with_reducible refine Rd.mkv ?_ | with_reducible refine Rd.mko ?_ | with_reducible refine Rd.callB ?_ | with_reducible refine Rd.callS ?_ | with_reducible refine Rd.bm ?_ | with_reducible refine Rd.itl ?_ | with_reducible refine Rd.itt ?_
  | ((with_reducible refine' And.intro ?hl ?_); (case hl => ((with_reducible show List.length _ ≤ PySem.sizeLine); (show _ ≤ PySem.sizeLine); rw [PySem.sizeLine_eq]; simp)))
  | (intro p0 n0; generalize hK0 : L2.upd _ p0 _ = K0; obtain ⟨e0, t0⟩ := Dt.newK hK0 n0)
  | ((with_reducible refine' Rd.lenKL ?he ?_); (case he => walk_at "heap")) | ((with_reducible refine' Rd.lenKT ?he ?_); (case he => walk_at "heap"))
  | ((with_reducible refine' Rd.var ?hv ?_); (case hv => exact rfl))
  | ((with_reducible refine' Rd.ifT ?hv ?_); (case hv => first | exact rfl | assumption)) | ((with_reducible refine' Rd.ifF ?hv ?_); (case hv => first | exact rfl | assumption))
  | ((with_reducible refine' Rd.eq ?hv ?_); (case hv => exact rfl))
  | ((with_reducible refine' Rd.ne ?hv ?_); (case hv => exact rfl))
  | ((with_reducible refine' Dt.isi_int ?hr ?_); (case hr => walk_at "rp")) | ((with_reducible refine' Dt.isi_bool ?hr ?_); (case hr => walk_at "rp")) | ((with_reducible refine' Dt.isi_tuple ?hr ?_); (case hr => walk_at "rp")) | ((with_reducible refine' Dt.isi_str ?hr ?_); (case hr => walk_at "rp")) | ((with_reducible refine' Dt.isi_list ?hr ?_); (case hr => walk_at "rp"))
  | with_reducible refine ⟨rfl, ?_⟩ | with_reducible refine Or.inl ⟨_, rfl, ?_⟩ | with_reducible refine Or.inr ⟨_, rfl, ?_⟩ | with_reducible refine ⟨_, rfl, ?_⟩
  | ((with_reducible refine' Rd.ex2 ⟨rfl, ?hl, ?_⟩); (case hl => first | exact Or.inl ⟨_, L2.SqL.of (by walk_at "heap"), rfl⟩ | exact Or.inr ⟨_, L2.SqT.of (by walk_at "heap"), rfl⟩))
  | ((with_reducible refine' Rd.i1 ?hv ?_); (case hv => first | exact ⟨by decide, by decide, by decide⟩ | exact Or.inr ⟨by decide, by decide⟩ | exact Or.inl ⟨by decide, by decide⟩ | exact ⟨by decide, by decide⟩ | decide | assumption | (show _ ≠ _; omega) | (refine ⟨?_, ?_⟩ <;> omega) | (refine Or.inl ⟨?_, ?_⟩ <;> omega)))
  | ((with_reducible refine' Rd.ixL ?he ?hx ?_); (case he => walk_at "heap"); (case hx => rfl))
  | ((with_reducible refine' Rd.ixT ?he ?hx ?_); (case he => walk_at "heap"); (case hx => rfl))
  | ((with_reducible refine' Rd.setL ?he ?hx ?_); (case he => first | assumption | exact L2.upd_same); (case hx => rfl)))
local macro_rules | `(tactic| walk_at "rd") => `(tactic| first | with_reducible refine Rd.isT ?_ | with_reducible refine Rd.isnT ?_)
local macro_rules | `(tactic| walk_at "rd") => `(tactic| first | ((with_reducible refine' Rd.gtup ?he ?hl ?_); (case he => walk_at "heap"); (case hl => exact rfl)) | with_reducible refine Rd.brk ?_ | with_reducible refine Rd.callR ?_ | ((with_reducible refine' Rd.tupOf ?hp ?hk); (case hp => walk_at "heap"); (case hk => intro r0 J0 e0 t0 n0)) | ((with_reducible refine' Rd.lstOf ?hp ?hk); (case hp => walk_at "heap"); (case hk => intro r0 J0 e0 t0 n0)) | ((with_reducible refine' Rd.catL ?hp ?hq ?hl ?hk); (case hp => walk_at "heap"); (case hq => walk_at "heap"); (case hl => (simp only [List.length_map, List.length_append, List.length_cons, List.length_nil]; omega)); (case hk => intro r0 J0 e0 t0 n0)) | with_reducible refine Rd.bits ?_ | with_reducible refine Rd.max2 ?_ | with_reducible refine Rd.gcons ?_ | with_reducible refine Rd.gnil ?_)
local macro_rules | `(tactic| walk_at "rds") => `(tactic| repeat (first | walk_at "rd" | assumption))
namespace K15
open PySem PySem.Spec PyProof.Rows L2 L2H Err Dt
theorem fn_imp {P : Program} {w : World} {K : PySem.W.Frag} {mg : Str → Option Value} {base : Heap} {CX : CXT} {k : Nat} {f : Addr} {fd : FuncData} {ps : List Str} {sp sp' : Sp} (h : ∀ vs H Q E, sp' vs H Q E → sp vs H Q E) (F : FnOk P w K mg base CX k f fd ps sp) : FnOk P w K mg base CX k f fd ps sp' :=
  ⟨fun vs H Q E z => F.len vs H Q E (h _ _ _ _ z), fun A outer s H args us vs Q E hr e0 hb r z => F.run A outer s H args us vs Q E hr e0 hb r (h _ _ _ _ z)⟩
def spDw : Sp := fun vs H Q _ => ∃ (t l : Addr) (m : Int), vs = [.ref t, .int m] ∧ Tq t l H ∧ 0 < m ∧ m < 1073741824 ∧ ∀ (v : Int) (H' : Hp), 0 ≤ v → v < m → Tq t l H' → Sam H H' → Q (.int v) H'
theorem dw_dr (vs : List V) (H : Hp) (Q : VK) (E : XK) (h : spDw vs H Q E) : spDr vs H Q E := by
  obtain ⟨t, l, m, rfl, ⟨ns, T, hl⟩, h0, h1, k⟩ := h
  exact ⟨t, l, ns, m, rfl, T, hl, h0, h1, fun v H' a b T' s => k v H' a b ⟨ns, T', hl⟩ s⟩
/-- ints at the top are of a size -/
def Bd : PyData → Prop | .tuple ds => ∀ i, PyData.int i ∈ ds → i.natAbs < 2 ^ 9000 | _ => True
theorem Bd.at {ns : List Int} (h : Bd (.tuple (ns.map PyData.int))) : ∀ i ∈ ns, i.natAbs < 2 ^ 9000 := fun i hi => h i (List.mem_map.mpr ⟨i, hi, rfl⟩)
def spKnown : Sp := fun vs H Q _ => ∃ (v : V) (d : PyData), vs = [v] ∧ Rp H v d ∧ Bd d ∧ ∀ H', Same H H' → Q (.bl (dLow 2 d)) H'
def spPlaced : Sp := fun vs H Q _ => ∃ (n : Int) (v : V) (d : PyData), vs = [.int n, v] ∧ 0 ≤ n ∧ n ≤ 900 ∧ Rp H v d ∧ Bd d ∧ ∀ H', Same H H' → Q (.bl (dLow (n + 1) d)) H'
def spNumber : Sp := fun vs H Q _ => ∃ t l : Addr, vs = [.ref t] ∧ Tq t l H ∧ ∀ (i : Int) (H' : Hp), -1000000000000000000 ≤ i → i ≤ 1000000000000000000 → Tq t l H' → Sam H H' → Q (.int i) H'
def spCoord : Sp := fun vs H Q _ => ∃ t l : Addr, vs = [.ref t] ∧ Tq t l H ∧ ∀ (i : Int) (H' : Hp), -80000 ≤ i → i ≤ 80000 → Tq t l H' → Sam H H' → Q (.int i) H'
def spPairL : Sp := fun vs H Q _ => ∃ t l : Addr, vs = [.ref t] ∧ Tq t l H ∧ ∀ (p : Addr) (a b : Int) (H' : Hp), H' p = some (.tup [.int a, .int b]) → b ≠ 0 → -12000000000000000000 ≤ a → a ≤ 12000000000000000000 → -12000000000000000000 ≤ b → b ≤ 12000000000000000000 → Tq t l H' → Sam H H' → Q (.ref p) H'
theorem getD_at {α : Type} {l : List V} {d : V} {i : Nat} (h : i < l.length) : atI l (i : Int) = some (l.getD i d) := by
  apply atI_nat
  rw [List.getD_eq_getElem?_getD, List.getElem?_eq_getElem h]
  rfl
theorem lowB_eq {ns : List Int} : lowB ns = (decide (1 ≤ ns.getLastD 0) && decide (V.int (gcdL ns) = V.int 1)) := by
  unfold lowB
  congr 1
  exact decide_eq_decide.mpr ⟨fun z => by rw [z], fun z => V.int.inj z⟩
section
variable {P : Program} {w : World} {K : PySem.W.Frag} {mg : Str → Option Value} {base : Heap}
set_option pp.maxSteps 3000
abbrev sNumberL : Stmt := topS 41
theorem scNumberL : FnScope ["tape", "small", "large", "sizes"] ["tape"] (defScope sNumberL) := ⟨rfl, rfl, rfl, by decide +kernel, rfl, by decide +kernel, by decide +kernel⟩
theorem okNumberL {f : Addr} {fd : FuncData} (F : Fun K "_law_number" "_law_number" sNumberL f fd) (T : Tx mg) (DDrawL : Dn P w K mg base CX0 "_law_draw" 1 ["tape", "many"] spDw)  : FnOk P w K mg base CX0 2 f fd ["tape"] spNumber := by
  refine F.ok scNumberL (fun vs H Q E h => ?_) (fun cdv A outer s H vs Q E hr h => ?_)
  · obtain ⟨t, l, rfl, _⟩ := h
    rfl
  · obtain ⟨t, l, rfl, Tt, kk⟩ := h
    refine ⟨_, (pss_cons (ps_set (i := 1) scNumberL.nd rfl (Or.inl rfl) (pe_op op_sub (pe_dn DDrawL (hr.mono (by omega)) (pa_cons (pv 0) (pa_cons pe_int pa_nil))) pe_int))
    (pss_cons (ps_set (i := 2) scNumberL.nd rfl (Or.inl rfl) (pe_op op_sub (pe_dn DDrawL (hr.mono (by omega)) (pa_cons (pv 0) (pa_cons pe_int pa_nil))) pe_int))
    (pss_cons (ps_set (i := 3) scNumberL.nd rfl (Or.inl rfl) (pe_lst (pa_cons pe_int (pa_cons (pv 1) (pa_cons (pv 1) (pa_cons (pv 1) (pa_cons (pe_op op_fdivN (pv 2) pe_int) (pa_cons (pe_op op_mul (pv 1) pe_int) (pa_cons (pe_op op_mul (pv 2) pe_int) pa_nil)))))))))
    (pss_one (ps_ret (pe_ix ix_list (pv 3) (pe_dn DDrawL (hr.mono (by omega)) (pa_cons (pv 0) (pa_cons pe_int pa_nil))) (fun _ _ => rfl))))))), ?_⟩
    have st0 : L2.start ["tape", "small", "large", "sizes"] [V.ref t] = [some (V.ref t), none, none, none] := rfl
    rw [st0]
    walk_at "rds"
    refine ⟨t, l, 25, rfl, by walk_at "tq", by decide, by decide, fun v1 H1 a1 b1 T1 s1 => ?_⟩
    walk_at "rds"
    refine ⟨t, l, 1000000007, rfl, by walk_at "tq", by decide, by decide, fun v2 H2 a2 b2 T2 s2 => ?_⟩
    walk_at "rds"
    refine ⟨t, l, 7, rfl, by walk_at "tq", by decide, by decide, fun v3 H3 a3 b3 T3 s3 => ?_⟩
    walk_at "rds"
    have T4 : Tq t l H3 := T3
    have q5 : (v2 - 500000003).fdiv 500 = (v2 - 500000003) / 500 := Int.fdiv_eq_ediv_of_nonneg _ (by decide)
    have pick : ∃ i : Int, atI [V.int 0, .int (v1 - 12), .int (v1 - 12), .int (v1 - 12), .int ((v2 - 500000003).fdiv 500), .int ((v1 - 12) * 360360), .int ((v2 - 500000003) * 1000000009)] v3 = some (.int i) ∧ -1000000000000000000 ≤ i ∧ i ≤ 1000000000000000000 := by
      rcases (by omega : v3 = 0 ∨ v3 = 1 ∨ v3 = 2 ∨ v3 = 3 ∨ v3 = 4 ∨ v3 = 5 ∨ v3 = 6) with rfl | rfl | rfl | rfl | rfl | rfl | rfl
      · exact ⟨_, rfl, by omega, by omega⟩
      · exact ⟨_, rfl, by omega, by omega⟩
      · exact ⟨_, rfl, by omega, by omega⟩
      · exact ⟨_, rfl, by omega, by omega⟩
      · exact ⟨_, rfl, by rw [q5]; omega, by rw [q5]; omega⟩
      · exact ⟨_, rfl, by omega, by omega⟩
      · exact ⟨_, rfl, by omega, by omega⟩
    obtain ⟨i, hi, i0, i1⟩ := pick
    refine Rd.ixL (by walk_at "heap") hi ?_
    exact kk i _ i0 i1 T3 (by walk_at "sam")
abbrev sCoordinateL : Stmt := topS 51
theorem scCoordinateL : FnScope ["tape", "small"] ["tape"] (defScope sCoordinateL) := ⟨rfl, rfl, rfl, by decide +kernel, rfl, by decide +kernel, by decide +kernel⟩
theorem okCoordinateL {f : Addr} {fd : FuncData} (F : Fun K "_law_coordinate" "_law_coordinate" sCoordinateL f fd) (T : Tx mg) (DDrawL : Dn P w K mg base CX0 "_law_draw" 1 ["tape", "many"] spDw)  : FnOk P w K mg base CX0 2 f fd ["tape"] spCoord := by
  refine F.ok scCoordinateL (fun vs H Q E h => ?_) (fun cdv A outer s H vs Q E hr h => ?_)
  · obtain ⟨t, l, rfl, _⟩ := h
    rfl
  · obtain ⟨t, l, rfl, Tt, kk⟩ := h
    refine ⟨_, (pss_cons (ps_set (i := 1) scCoordinateL.nd rfl (Or.inl rfl) (pe_op op_sub (pe_dn DDrawL (hr.mono (by omega)) (pa_cons (pv 0) (pa_cons pe_int pa_nil))) pe_int))
    (pss_one (ps_ret (pe_ix ix_list (pe_lst (pa_cons pe_int (pa_cons (pv 1) (pa_cons (pv 1) (pa_cons (pv 1) (pa_cons (pe_op op_sub (pe_dn DDrawL (hr.mono (by omega)) (pa_cons (pv 0) (pa_cons pe_int pa_nil))) pe_int) pa_nil)))))) (pe_dn DDrawL (hr.mono (by omega)) (pa_cons (pv 0) (pa_cons pe_int pa_nil))) (fun _ _ => rfl))))), ?_⟩
    have st0 : L2.start ["tape", "small"] [V.ref t] = [some (V.ref t), none] := rfl
    rw [st0]
    walk_at "rds"
    refine ⟨t, l, 33, rfl, by walk_at "tq", by decide, by decide, fun v1 H1 a1 b1 T1 s1 => ?_⟩
    walk_at "rds"
    refine ⟨t, l, 160001, rfl, by walk_at "tq", by decide, by decide, fun v2 H2 a2 b2 T2 s2 => ?_⟩
    walk_at "rds"
    refine ⟨t, l, 5, rfl, by walk_at "tq", by decide, by decide, fun v3 H3 a3 b3 T3 s3 => ?_⟩
    walk_at "rds"
    have pick : ∃ i : Int, atI [V.int 0, .int (v1 - 16), .int (v1 - 16), .int (v1 - 16), .int (v2 - 80000)] v3 = some (.int i) ∧ -80000 ≤ i ∧ i ≤ 80000 := by
      rcases (by omega : v3 = 0 ∨ v3 = 1 ∨ v3 = 2 ∨ v3 = 3 ∨ v3 = 4) with rfl | rfl | rfl | rfl | rfl <;>
      exact ⟨_, rfl, by omega, by omega⟩
    obtain ⟨i, hi, i0, i1⟩ := pick
    refine Rd.ixL (by walk_at "heap") hi ?_
    exact kk i _ i0 i1 T3 (by walk_at "sam")
abbrev sPairL : Stmt := topS 42
theorem scPairL : FnScope ["tape", "top", "bottom", "by"] ["tape"] (defScope sPairL) := ⟨rfl, rfl, rfl, by decide +kernel, rfl, by decide +kernel, by decide +kernel⟩
theorem okPairL {f : Addr} {fd : FuncData} (F : Fun K "_law_pair" "_law_pair" sPairL f fd) (T : Tx mg) (DDrawL : Dn P w K mg base CX0 "_law_draw" 1 ["tape", "many"] spDw) (DNumberL : Dn P w K mg base CX0 "_law_number" 2 ["tape"] spNumber) : FnOk P w K mg base CX0 3 f fd ["tape"] spPairL := by
  refine F.ok scPairL (fun vs H Q E h => ?_) (fun cdv A outer s H vs Q E hr h => ?_)
  · obtain ⟨t, l, rfl, _⟩ := h
    rfl
  · obtain ⟨t, l, rfl, Tt, kk⟩ := h
    refine ⟨_, (pss_cons (ps_set (i := 1) scPairL.nd rfl (Or.inl rfl) (pe_dn DNumberL (hr.mono (by omega)) (pa_cons (pv 0) pa_nil)))
    (pss_cons (ps_set (i := 2) scPairL.nd rfl (Or.inl rfl) (pe_dn DNumberL (hr.mono (by omega)) (pa_cons (pv 0) pa_nil)))
    (C8.pss_cut (ps_if (pt_cmpR op_eq (pv 2) pe_int (nomark _))
    (pss_one (ps_set (i := 2) scPairL.nd rfl (Or.inl rfl) (pe_op op_sub pe_int (pe_op op_mul pe_int (pe_dn DDrawL (hr.mono (by omega)) (pa_cons (pv 0) (pa_cons pe_int pa_nil)))))))
    pss_nil)
    (pss_cons (ps_set (i := 3) scPairL.nd rfl (Or.inl rfl) (pe_op op_add pe_int (pe_dn DDrawL (hr.mono (by omega)) (pa_cons (pv 0) (pa_cons pe_int pa_nil)))))
    (pss_one (ps_ret (pe_tup (pa_cons (pe_op op_mul (pv 1) (pv 3)) (pa_cons (pe_op op_mul (pv 2) (pv 3)) pa_nil))))))))), ?_⟩
    have st0 : L2.start ["tape", "top", "bottom", "by"] [V.ref t] = [some (V.ref t), none, none, none] := rfl
    rw [st0]
    walk_at "rds"
    refine ⟨t, l, rfl, Tt, fun a1 H1 l1 u1 T1 s1 => ?_⟩
    walk_at "rds"
    refine ⟨t, l, rfl, T1, fun a2 H2 l2 u2 T2 s2 => ?_⟩
    walk_at "rds"
    refine Rd.cut (fun σ' H' => ∃ b : Int, σ' = [some (.ref t), some (.int a1), some (.int b), none] ∧ b ≠ 0 ∧ -1000000000000000000 ≤ b ∧ b ≤ 1000000000000000000 ∧ Tq t l H' ∧ Sam H2 H') ?_ ?_
    · walk_at "rds"
      refine Rd.ifB (fun h => ?_) fun h => ?_
      · walk_at "rds"
        refine ⟨t, l, 2, rfl, by walk_at "tq", by decide, by decide, fun v3 H3 a3 b3 T3 s3 => ?_⟩
        walk_at "rds"
        first | exact ⟨by omega, by omega, by omega, T3, s3⟩ | exact ⟨_, rfl, by omega, by omega, by omega, T3, s3⟩
      · have h0 : a2 ≠ 0 := fun z => by rw [z] at h; cases h
        walk_at "rds"
        first | exact ⟨h0, l2, u2, T2, Sam.refl⟩ | exact ⟨_, rfl, h0, l2, u2, T2, Sam.refl⟩
    · rintro σ' H3 ⟨b, rfl, b0, lb, ub, T3, s3⟩
      walk_at "rds"
      refine ⟨t, l, 12, rfl, by walk_at "tq", by decide, by decide, fun v4 H4 a4 b4 T4 s4 => ?_⟩
      walk_at "rds"
      have hb : (1 + v4) ≠ 0 := by omega
      refine kk _ (a1 * (1 + v4)) (b * (1 + v4)) _ (by assumption) (Int.mul_ne_zero b0 hb) ?_ ?_ ?_ ?_ (by walk_at "tq") (by walk_at "sam") <;>
      · rcases (by omega : v4 = 0 ∨ v4 = 1 ∨ v4 = 2 ∨ v4 = 3 ∨ v4 = 4 ∨ v4 = 5 ∨ v4 = 6 ∨ v4 = 7 ∨ v4 = 8 ∨ v4 = 9 ∨ v4 = 10 ∨ v4 = 11) with rfl | rfl | rfl | rfl | rfl | rfl | rfl | rfl | rfl | rfl | rfl | rfl <;> omega
abbrev sKnownL : Stmt := topS 44
theorem scKnownL : FnScope ["thing"] ["thing"] (defScope sKnownL) := ⟨rfl, rfl, rfl, by decide +kernel, rfl, by decide +kernel, by decide +kernel⟩
theorem okKnownL {f : Addr} {fd : FuncData} (F : Fun K "_law_known" "_law_known" sKnownL f fd) (T : Tx mg) (DGcdL : Dn P w K mg base CX0 "_law_gcd" 1 ["one", "other"] spGcd) (DWholesL : Dn P w K mg base CX0 "_law_wholes" 2 ["thing", "many"] spWholes)  : FnOk P w K mg base CX0 3 f fd ["thing"] spKnown := by
  refine F.ok scKnownL (fun vs H Q E h => ?_) (fun cdv A outer s H vs Q E hr h => ?_)
  · obtain ⟨v, d, rfl, _⟩ := h
    rfl
  · obtain ⟨v, d, rfl, r, bd, kk⟩ := h
    refine ⟨_, (pss_cons (ps_if (pt_not (pt_val (pe_dn DWholesL (hr.mono (by omega)) (pa_cons (pv 0) (pa_cons pe_int pa_nil)))))
    (pss_one (ps_ret pe_bl))
    pss_nil)
    (pss_one (ps_ret (pe_and (pe_cmpR op_ge (pe_ix ix_tup (pv 0) pe_int (fun _ _ => rfl)) pe_int (nomark _)) (pe_one (pe_cmpR op_eq (pe_dn DGcdL (hr.mono (by omega)) (pa_cons (pe_ix ix_tup (pv 0) pe_int (fun _ _ => rfl)) (pa_cons (pe_ix ix_tup (pv 0) pe_int (fun _ _ => rfl)) pa_nil))) pe_int (nomark _))))))), ?_⟩
    have st0 : L2.start ["thing"] [v] = [some (v)] := rfl
    rw [st0]
    walk_at "rds"
    refine ⟨v, d, 2, rfl, r, fun H1 t1 => ?_⟩
    walk_at "rds"
    refine Rd.ifB (fun h => ?_) fun h => ?_
    · walk_at "rds"
      have hf : dRow 2 d = false := by rw [← Bool.not_eq_true']; exact h
      have ez : dLow 2 d = false := by
        unfold dLow
        rw [hf, Bool.false_and]
      rw [← ez]
      exact kk _ t1
    · have ht : dRow 2 d = true := by rw [← Bool.not_eq_false']; exact h
      obtain ⟨ns, rfl, hn⟩ := row_ints ht
      obtain ⟨p, rfl, e, l⟩ := r.row
      match ns, hn, bd, e, kk with
      | [a, b], _, bd, e, kk =>
        have bb := bd.at
        have e1 : H1 p = some (.tup [.int a, .int b]) := t1 _ _ e
        have ez : dLow 2 (.tuple ([a, b].map PyData.int)) = (decide (1 ≤ b) && decide (V.int ((Nat.gcd a.natAbs b.natAbs : Nat) : Int) = V.int 1)) := by
          show (true && lowB [a, b]) = _
          rw [Bool.true_and, lowB_eq]
          have : gcdL [a, b] = ((Nat.gcd a.natAbs b.natAbs : Nat) : Int) := by rw [gcdL_eq]; unfold gN; simp
          rw [this]
          rfl
        walk_at "rds"
        refine Rd.ifB (fun h1 => ?_) fun h1 => ?_
        · walk_at "rds"
          refine ⟨a, b, rfl, bb a (by simp), bb b (by simp), ?_⟩
          walk_at "rds"
          have h1' : decide (1 ≤ b) = true := h1
          rw [h1', Bool.true_and] at ez
          rw [← ez]
          exact kk _ t1
        · walk_at "rds"
          have h1' : decide (1 ≤ b) = false := h1
          rw [h1', Bool.false_and] at ez
          rw [← ez]
          exact kk _ t1
abbrev sPlacedL : Stmt := topS 45
theorem scPlacedL : FnScope ["dims", "thing", "shared", "x"] ["dims", "thing"] (defScope sPlacedL) := ⟨rfl, rfl, rfl, by decide +kernel, rfl, by decide +kernel, by decide +kernel⟩
theorem okPlacedL {f : Addr} {fd : FuncData} (F : Fun K "_law_placed" "_law_placed" sPlacedL f fd) (T : Tx mg) (DGcdL : Dn P w K mg base CX0 "_law_gcd" 1 ["one", "other"] spGcd) (DWholesL : Dn P w K mg base CX0 "_law_wholes" 2 ["thing", "many"] spWholes)  : FnOk P w K mg base CX0 3 f fd ["dims", "thing"] spPlaced := by
  refine F.ok scPlacedL (fun vs H Q E h => ?_) (fun cdv A outer s H vs Q E hr h => ?_)
  · obtain ⟨n, v, d, rfl, _⟩ := h
    rfl
  · obtain ⟨n, v, d, rfl, n0, n9, r, bd, kk⟩ := h
    refine ⟨_, (pss_cons (ps_if (PW.pt (pw_or (pt_not (pt_val (pe_dn DWholesL (hr.mono (by omega)) (pa_cons (pv 1) (pa_cons (pe_op op_add (pv 0) pe_int) pa_nil))))) (pw_or1 (pt_cmpR op_lt (pe_ix ix_tup (pv 1) (pv 0) (fun _ _ => rfl)) pe_int (nomark _)))))
    (pss_one (ps_ret pe_bl))
    pss_nil)
    (pss_cons (ps_set (i := 2) scPlacedL.nd rfl (Or.inl rfl) pe_int)
    (pss_cons (ps_for PassesOwn.never rfl (pi_tup (pv 1)) (pg_name (i := 3) scPlacedL.nd rfl (Or.inl rfl))
    (pss_one (ps_set (i := 2) scPlacedL.nd rfl (Or.inl rfl) (pe_dn DGcdL (hr.mono (by omega)) (pa_cons (pv 2) (pa_cons (pv 3) pa_nil))))))
    (pss_one (ps_ret (pe_cmpR op_eq (pv 2) pe_int (nomark _))))))), ?_⟩
    have st0 : L2.start ["dims", "thing", "shared", "x"] [V.int n, v] = [some (V.int n), some (v), none, none] := rfl
    rw [st0]
    walk_at "rds"
    refine ⟨v, d, n + 1, rfl, r, fun H1 t1 => ?_⟩
    walk_at "rds"
    refine Rd.ifB (fun h => ?_) fun h => ?_
    · walk_at "rds"
      have hf : dRow (n + 1) d = false := by rw [← Bool.not_eq_true']; exact h
      have ez : dLow (n + 1) d = false := by
        unfold dLow
        rw [hf, Bool.false_and]
      rw [← ez]
      exact kk _ t1
    · have ht : dRow (n + 1) d = true := by rw [← Bool.not_eq_false']; exact h
      obtain ⟨ns, rfl, hn⟩ := row_ints ht
      obtain ⟨p, rfl, e, l⟩ := r.row
      obtain ⟨xs, y, rfl, hx⟩ := row_last hn n0
      have bb := bd.at
      have e1 : H1 p = some (.tup ((xs ++ [y]).map V.int)) := t1 _ _ e
      have al : atI ((xs ++ [y]).map V.int) n = some (.int y) := by
        rw [← hx]
        apply atI_nat
        rw [List.getElem?_map, List.getElem?_append_right (Nat.le_refl _)]
        simp
      have el : (xs ++ [y]).getLastD 0 = y := by simp
      have ez : dLow (n + 1) (.tuple ((xs ++ [y]).map PyData.int)) = (decide (1 ≤ y) && decide (V.int (gcdL (xs ++ [y])) = V.int 1)) := by
        unfold dLow
        rw [ht, Bool.true_and]
        show lowB (intsOf ((xs ++ [y]).map PyData.int)) = _
        rw [intsOf_map, lowB_eq, el]
      walk_at "rds"
      refine Rd.ixT e1 al ?_
      walk_at "rds"
      refine Rd.ifB (fun h1 => ?_) fun h1 => ?_
      · walk_at "rds"
        have h1' : ¬ 1 ≤ y := by
          have : y < 1 := of_decide_eq_true h1
          omega
        rw [decide_eq_false h1', Bool.false_and] at ez
        rw [← ez]
        exact kk _ t1
      · have h1' : 1 ≤ y := by
          have : ¬ y < 1 := of_decide_eq_false h1
          omega
        rw [decide_eq_true h1', Bool.true_and] at ez
        walk_at "rds"
        refine ⟨⟨_, SqT.of e1⟩, for_tup (K := K) (a := p) (xs := (xs ++ [y]).map V.int) (fun i σ' H' => H' = H1 ∧ ∃ u, σ' = [some (.int n), some (.ref p), some (.int ((gN ((xs ++ [y]).take i) : Nat) : Int)), u]) ⟨rfl, none, rfl⟩ (fun i σ' H' _ ⟨z, _⟩ => by rw [z]; exact SqT.of e1) ?_ ?_⟩
        · rintro i x σ' H' hx2 ⟨rfl, u, rfl⟩
          obtain ⟨m, hm, rfl⟩ := int_at hx2
          walk_at "rds"
          have gb : gN ((xs ++ [y]).take i) < 2 ^ 9000 := by
            rcases Nat.eq_zero_or_pos (gN ((xs ++ [y]).take i)) with z | z
            · rw [z]; exact Nat.pow_pos (by decide)
            · obtain ⟨k, hk, hk0⟩ : ∃ k ∈ (xs ++ [y]).take i, k ≠ 0 := by
                rcases Decidable.em (∃ k ∈ (xs ++ [y]).take i, k ≠ 0) with q | q
                · exact q
                · exfalso
                  have : (2 : Nat) * gN ((xs ++ [y]).take i) ∣ gN ((xs ++ [y]).take i) := dvd_gN fun k hk => by
                    have : k = 0 := by
                      rcases Decidable.em (k = 0) with w | w
                      · exact w
                      · exact absurd ⟨k, hk, w⟩ q
                    rw [this]
                    exact Nat.dvd_zero _
                  have := Nat.le_of_dvd z this
                  omega
              exact Nat.lt_of_le_of_lt (gN_le hk hk0) (bb k (List.mem_of_mem_take hk))
          refine ⟨_, m, rfl, by rw [Int.natAbs_natCast]; exact gb, bb m (List.mem_of_getElem? hm), ?_⟩
          rw [Int.natAbs_natCast, ← gN_take hm]
          walk_at "rds"
          first | exact ⟨rfl, _, rfl⟩ | exact ⟨_, rfl⟩
        · rintro σ' H' ⟨rfl, u, rfl⟩
          have zt : (xs ++ [y]).take ((xs ++ [y]).map V.int).length = xs ++ [y] := by rw [List.length_map, List.take_length]
          rw [zt]
          walk_at "rds"
          rw [gcdL_eq] at ez
          rw [← ez]
          exact kk _ t1
end
end K15
end SecQ3
section SecQ4
set_option Elab.async false
set_option linter.all false
set_option maxRecDepth 100000
set_option maxHeartbeats 4000000
set_option pp.deepTerms false
local macro_rules | `(tactic| walk_at "tq") => `(tactic| first | assumption | (refine' Dt.Tq.to ?s0 ?h0; (case h0 => assumption); (case s0 => walk_at "same")))
local macro_rules | `(tactic| walk_at "same") => `(tactic| first | exact L2.Same.refl _ | assumption | (refine' L2.Same.trans ?s1 ?s2; (case s2 => assumption); (case s1 => walk_at "same")))
local macro_rules | `(tactic| walk_at "sam") => `(tactic| first | exact Dt.Sam.refl | assumption | exact Dt.Sam.of (by assumption) | (refine' Dt.Sam.trans ?s1 ?s2; (case s2 => first | assumption | exact Dt.Sam.of (by assumption)); (case s1 => walk_at "sam")))
local macro_rules | `(tactic| walk_at "tape") => `(tactic| first | assumption | (refine' Dt.Tape.mono ?h0 ?s0; (case h0 => assumption); (case s0 => walk_at "same")))
local macro_rules | `(tactic| walk_at "nt") => `(tactic| first | exact Dt.nt_tup | exact Dt.nt_ints | assumption | (intro a0 b0 c0 l0 z0; cases z0) | (intro a0 b0 c0 l0 z0; simp at z0))
local macro_rules | `(tactic| walk_at "heap") => `(tactic| first | assumption | exact L2.upd_same | (refine' Rd.at_to ?s0 ?h0; (case h0 => assumption); (case s0 => walk_at "same")) | (refine' Dt.at_sam ?n0 ?s0 ?h0; (case h0 => assumption); (case n0 => walk_at "nt"); (case s0 => walk_at "sam")))
local macro_rules | `(tactic| walk_at "rp") => `(tactic| first | exact Dt.Rp.int _ | exact Dt.Rp.bl _ | exact Dt.Rp.str _ | exact Dt.Rp.non | assumption | (refine' Dt.Rp.sm ?s0 ?h0; (case h0 => assumption); (case s0 => walk_at "sam")) | (refine' Dt.Rp.tup ?h1 ?h2 ?h3; (case h1 => walk_at "heap"); (case h2 => walk_at "rps"); (case h3 => first | assumption | (show _ ≤ 1000; decide) | (show _ ≤ 1000; simp) | (show _ ≤ 1000; omega))) | (refine' Dt.Rp.lst ?h1 ?h2 ?h3 ?h4; (case h1 => walk_at "heap"); (case h2 => walk_at "rps"); (case h3 => first | assumption | (show _ ≤ 1000; decide) | (show _ ≤ 1000; simp) | (show _ ≤ 1000; omega)); (case h4 => walk_at "nt")))
local macro_rules | `(tactic| walk_at "rps") => `(tactic| first | exact Dt.RpAll.nil | assumption | (refine' Dt.RpAll.cons ?h1 ?h2; (case h1 => walk_at "rp"); (case h2 => walk_at "rps")) | (refine' Dt.RpAll.sm ?s0 ?h0; (case h0 => assumption); (case s0 => walk_at "sam")))
local macro_rules | `(tactic| walk_at "rd") => `(tactic| first
  | with_reducible refine Rd.seq ?_ | with_reducible refine Rd.asg ?_ | with_reducible refine Rd.nm ?_ | with_reducible refine Rd.sub ?_ | with_reducible refine Rd.ret ?_ | with_reducible refine Rd.retN ?_
  | with_reducible refine Rd.drop ?_ | with_reducible refine Rd.ifs ?_ | with_reducible refine Rd.next ?_ | with_reducible refine Rd.cst ?_ | with_reducible refine Rd.op ?_ | with_reducible refine Rd.un ?_
  | with_reducible refine Rd.test ?_ | with_reducible refine Rd.tb' ?_ | with_reducible refine Rd.exb ?_ | with_reducible refine Rd.exi ?_ | with_reducible refine Rd.and2 ?_ | with_reducible refine Rd.or2 ?_ | with_reducible refine Rd.not1 ?_
  | with_reducible refine Rd.andV ?_ | with_reducible refine Rd.orV ?_ | with_reducible refine Rd.notV ?_ | with_reducible refine Rd.nil ?_ | with_reducible refine Rd.cons ?_ | with_reducible refine Rd.cb ?_
  | with_reducible refine Rd.i0 ?_ | with_reducible refine Rd.u1 ?_ | with_reducible refine Rd.call ?_ | with_reducible refine Rd.tup ?_ | with_reducible refine Rd.lst ?_ | with_reducible refine Rd.sl ?_ | with_reducible refine Rd.no ?_ | with_reducible refine Rd.part ?_ | with_reducible refine Rd.at_ ?_ | with_reducible refine Rd.yes ?_ | with_reducible refine Rd.fors ?_ | with_reducible refine Rd.m1 ?_ | with_reducible refine Rd.exs ?_ | with_reducible refine Rd.lc ?_ | with_reducible refine Rd.rng ?_
  | with_reducible refine Rd.mkv ?_ | with_reducible refine Rd.mko ?_ | with_reducible refine Rd.callB ?_ | with_reducible refine Rd.callS ?_ | with_reducible refine Rd.bm ?_ | with_reducible refine Rd.itl ?_ | with_reducible refine Rd.itt ?_
  | ((with_reducible refine' And.intro ?hl ?_); (case hl => ((with_reducible show List.length _ ≤ PySem.sizeLine); (show _ ≤ PySem.sizeLine); rw [PySem.sizeLine_eq]; simp)))
  | (intro p0 n0; generalize hK0 : L2.upd _ p0 _ = K0; obtain ⟨e0, t0⟩ := Dt.newK hK0 n0)
  | ((with_reducible refine' Rd.lenKL ?he ?_); (case he => walk_at "heap")) | ((with_reducible refine' Rd.lenKT ?he ?_); (case he => walk_at "heap"))
  | ((with_reducible refine' Rd.var ?hv ?_); (case hv => exact rfl))
  | ((with_reducible refine' Rd.ifT ?hv ?_); (case hv => first | exact rfl | assumption)) | ((with_reducible refine' Rd.ifF ?hv ?_); (case hv => first | exact rfl | assumption))
  | ((with_reducible refine' Rd.eq ?hv ?_); (case hv => exact rfl))
  | ((with_reducible refine' Rd.ne ?hv ?_); (case hv => exact rfl))
  | ((with_reducible refine' Dt.isi_int ?hr ?_); (case hr => walk_at "rp")) | ((with_reducible refine' Dt.isi_bool ?hr ?_); (case hr => walk_at "rp")) | ((with_reducible refine' Dt.isi_tuple ?hr ?_); (case hr => walk_at "rp")) | ((with_reducible refine' Dt.isi_str ?hr ?_); (case hr => walk_at "rp")) | ((with_reducible refine' Dt.isi_list ?hr ?_); (case hr => walk_at "rp"))
  | with_reducible refine ⟨rfl, ?_⟩ | with_reducible refine Or.inl ⟨_, rfl, ?_⟩ | with_reducible refine Or.inr ⟨_, rfl, ?_⟩ | with_reducible refine ⟨_, rfl, ?_⟩
  | ((with_reducible refine' Rd.ex2 ⟨rfl, ?hl, ?_⟩); (case hl => first | exact Or.inl ⟨_, L2.SqL.of (by walk_at "heap"), rfl⟩ | exact Or.inr ⟨_, L2.SqT.of (by walk_at "heap"), rfl⟩))
  | ((with_reducible refine' Rd.i1 ?hv ?_); (case hv => first | exact ⟨by decide, by decide, by decide⟩ | exact Or.inr ⟨by decide, by decide⟩ | exact Or.inl ⟨by decide, by decide⟩ | exact ⟨by decide, by decide⟩ | decide | assumption | (show _ ≠ _; omega) | (refine ⟨?_, ?_⟩ <;> omega) | (refine Or.inl ⟨?_, ?_⟩ <;> omega)))
  | ((with_reducible refine' Rd.ixL ?he ?hx ?_); (case he => walk_at "heap"); (case hx => rfl))
  | ((with_reducible refine' Rd.ixT ?he ?hx ?_); (case he => walk_at "heap"); (case hx => rfl))
  | ((with_reducible refine' Rd.setL ?he ?hx ?_); (case he => first | assumption | exact L2.upd_same); (case hx => rfl)))
local macro_rules | `(tactic| walk_at "rd") => `(tactic| first | with_reducible refine Rd.isT ?_ | with_reducible refine Rd.isnT ?_)
local macro_rules | `(tactic| walk_at "rd") => `(tactic| first | ((with_reducible refine' Rd.gtup ?he ?hl ?_); (case he => walk_at "heap"); (case hl => exact rfl)) | with_reducible refine Rd.brk ?_ | with_reducible refine Rd.callR ?_ | ((with_reducible refine' ⟨_, _, rfl, Or.inl ⟨L2.SqL.of ?hp, ?_⟩⟩); (case hp => walk_at "heap")) | ((with_reducible refine' ⟨_, _, rfl, Or.inl (L2.SqL.of ?hp), ?_⟩); (case hp => walk_at "heap")) | ((with_reducible refine' Rd.catL ?hp ?hq ?hl ?_); (case hp => walk_at "heap"); (case hq => walk_at "heap"); (case hl => (simp only [List.length_map, List.length_append, List.length_cons, List.length_nil]; omega)); (intro r0 J0 e0 t0 n0)) | with_reducible refine Rd.bits ?_ | with_reducible refine Rd.max2 ?_ | with_reducible refine Rd.gcons ?_ | with_reducible refine Rd.gnil ?_)
local macro_rules | `(tactic| walk_at "rds") => `(tactic| repeat (first | walk_at "rd" | assumption))
namespace K15
open PySem PySem.Spec PyProof.Rows L2 L2H Err Dt
theorem bd9 {i : Int} (h : i.natAbs < 2 ^ 300) : i.natAbs < 2 ^ 9000 := Nat.lt_of_lt_of_le h (Nat.pow_le_pow_right (by decide) (by decide))
theorem bd8 {i : Int} (h : i.natAbs < 2 ^ 300) : i.natAbs < 2 ^ 8000 := Nat.lt_of_lt_of_le h (Nat.pow_le_pow_right (by decide) (by decide))
/-- within ten to the seventy -/
theorem bd3 {i : Int} (h1 : -10000000000000000000000000000000000000000000000000000000000000000000000 ≤ i) (h2 : i ≤ 10000000000000000000000000000000000000000000000000000000000000000000000) : i.natAbs < 2 ^ 300 :=
  Nat.lt_of_le_of_lt (show i.natAbs ≤ 10000000000000000000000000000000000000000000000000000000000000000000000 by omega) (by decide +kernel)
theorem bd_row {ms : List Int} (h : ∀ m ∈ ms, m.natAbs < 2 ^ 300) : Bd (.tuple (ms.map PyData.int)) := fun i hi => by
  obtain ⟨m, hm, e⟩ := List.mem_map.mp hi
  cases e
  exact bd9 (h _ hm)
def spThing : Sp := fun vs H Q _ => ∃ (t l : Addr) (n : Int), vs = [.ref t, .int n] ∧ 2 ≤ n ∧ n ≤ 3 ∧ Tq t l H ∧ ∀ (v : V) (d : PyData) (H' : Hp), Rp H' v d → Bd d → Tq t l H' → Sam H H' → Q v H'
theorem p34 : (10 : Int) ^ (34 : Int).toNat = 10000000000000000000000000000000000 := by decide
theorem p40 : (10 : Int) ^ (40 : Int).toNat = 10000000000000000000000000000000000000000 := by decide
theorem p50 : (10 : Int) ^ (50 : Int).toNat = 100000000000000000000000000000000000000000000000000 := by decide
theorem p57 : (10 : Int) ^ (57 : Int).toNat = 1000000000000000000000000000000000000000000000000000000000 := by decide
theorem p58 : (10 : Int) ^ (58 : Int).toNat = 10000000000000000000000000000000000000000000000000000000000 := by decide
/-- what may be looked at: a value, its data, of a size -/
def Th (H : Hp) (v : V) : Prop := ∃ d, Rp H v d ∧ Bd d
theorem Th.to {H H' : Hp} {v : V} (s : Sam H H') (h : Th H v) : Th H' v := by
  obtain ⟨d, r, b⟩ := h
  exact ⟨d, r.sm s, b⟩
theorem th_row {H : Hp} {p : Addr} {ms : List Int} (e : H p = some (.tup (ms.map V.int))) (l : ms.length ≤ 1000) (b : ∀ m ∈ ms, m.natAbs < 2 ^ 300) : Th H (.ref p) := ⟨_, rp_row e l, bd_row b⟩
theorem lc_intsM {K : PySem.W.Frag} {a d : Addr} {ns : List Int} {H0 : Hp} {B : Hp → Prop} {te : TE} {j : Nat} {σ : L2.St} {vs : List Nat} (f : Int → Int) (hd : H0 d = none) (he : H0 a = some (.lst (ns.map V.int))) (hl : ns.length ≤ 1000)
    (step : ∀ (n : Int) (H' : Hp) (R : VK), n ∈ ns → Same H0 H' → R (.int (f n)) H' → wipe ((wipe σ vs).set j (some (.int n))) vs = wipe σ vs ∧ te ((wipe σ vs).set j (some (.int n))) H' R)
    (k : ∀ (H' : Hp), H' d = some (.lst ((ns.map f).map V.int)) → Same H0 H' → B H') :
    ∃ W : Nat → Nat → Hp → Prop, (∃ m, W 0 m (upd H0 d (.lst []))) ∧ ∀ i m H, W i m H →
      ((Itl K a).stop i H ∧ B H) ∨ ((Itl K a).go i H ∧ ∃ Nx : Hp → Prop, (∀ H', Nx H' → ∃ m', m' < m ∧ W (i + 1) m' H') ∧ ∀ x H', (Itl K a).yld i H x H' → gName j x (wipe σ vs) H' fun σ2 H2 => wipe σ2 vs = wipe σ vs ∧ tYes σ2 H2 fun b H3 =>
        if b = true then te σ2 H3 fun y H4 => ∃ acc, H4 d = some (.lst acc) ∧ acc.length < sizeLine ∧ Nx (upd H4 d (.lst (acc ++ [y]))) else Nx H3) := by
  refine lc_list (K := K) (a := a) (xs := ns.map V.int) (fun i H3 => H3 d = some (.lst (((ns.take i).map f).map V.int)) ∧ Same H0 H3) ⟨upd_same, same_put hd (Same.refl _)⟩ (fun i H3 _ ⟨_, s3⟩ => SqL.of (s3 _ _ he)) ?_ ?_
  · rintro i x H3 hx ⟨e3, s3⟩
    rw [List.getElem?_map] at hx
    cases hn : ns[i]? with
    | none => rw [hn] at hx; cases hx
    | some n =>
      rw [hn] at hx
      cases hx
      obtain ⟨h1, h2⟩ := step n H3 (fun y H4 => ∃ acc, H4 d = some (.lst acc) ∧ acc.length < sizeLine ∧ (upd H4 d (.lst (acc ++ [y]))) d = some (.lst (((ns.take (i + 1)).map f).map V.int)) ∧ Same H0 (upd H4 d (.lst (acc ++ [y])))) (List.mem_of_getElem? hn) s3
        ⟨_, e3, by rw [List.length_map, List.length_map, List.length_take, sizeLine_eq]; omega, by rw [upd_same, List.take_succ, hn, List.map_append, List.map_append]; rfl, same_put hd s3⟩
      exact ⟨h1, yes_if h2⟩
  · rintro H4 ⟨e4, s4⟩
    rw [List.length_map, List.take_length] at e4
    exact k H4 e4 s4

theorem th_nil {H : Hp} : ∀ v ∈ ([] : List V), Th H v := fun _ h => by cases h
theorem th_cons {H : Hp} {v : V} {vs : List V} (h : Th H v) (t : ∀ u ∈ vs, Th H u) : ∀ u ∈ v :: vs, Th H u := fun u hu => by
  rcases List.mem_cons.mp hu with rfl | hu
  · exact h
  · exact t u hu
theorem th_int {H : Hp} {i : Int} : Th H (.int i) := ⟨_, .int i, True.intro⟩
theorem th_bl {H : Hp} {b : Bool} : Th H (.bl b) := ⟨_, .bl b, True.intro⟩
theorem th_str {H : Hp} {z : Str} : Th H (.str z) := ⟨_, .str z, True.intro⟩
theorem th_non {H : Hp} : Th H .non := ⟨_, .non, True.intro⟩
theorem th_two {H : Hp} {p : Addr} {a b : Int} (e : H p = some (.tup [.int a, .int b])) (h1 : a.natAbs < 2 ^ 9000) (h2 : b.natAbs < 2 ^ 9000) : Th H (.ref p) :=
  ⟨_, rp_q e, fun i hi => by
    rcases List.mem_cons.mp hi with h | hi
    · cases h; exact h1
    · rcases List.mem_cons.mp hi with h | hi
      · cases h; exact h2
      · cases hi⟩
theorem bd_mix {ds : List PyData} (h : ∀ d ∈ ds, ∀ i, d = .int i → i.natAbs < 2 ^ 300) : Bd (.tuple ds) := fun i hi => bd9 (h _ hi i rfl)
theorem ds_ints {ms : List Int} (b : ∀ m ∈ ms, m.natAbs < 2 ^ 300) : ∀ d ∈ ms.map PyData.int, ∀ i, d = .int i → i.natAbs < 2 ^ 300 := fun d hd i e => by
  obtain ⟨m, hm, e2⟩ := List.mem_map.mp hd
  rw [e] at e2
  cases e2
  exact b _ hm
theorem th_app {H : Hp} {p : Addr} {ms : List Int} {c : V} {dc : PyData} (e : H p = some (.tup (ms.map V.int ++ [c]))) (l : ms.length ≤ 900) (b : ∀ m ∈ ms, m.natAbs < 2 ^ 300) (r : Rp H c dc) (bc : ∀ i, dc = .int i → i.natAbs < 2 ^ 300) : Th H (.ref p) :=
  ⟨_, .tup e ((rp_ints ms).app (.cons r .nil)) (by rw [List.length_append, List.length_map]; show ms.length + 1 ≤ 1000; omega), bd_mix fun d hd i e2 => by
    rcases List.mem_append.mp hd with h | h
    · exact ds_ints b d h i e2
    · rw [List.mem_singleton.mp h] at e2
      exact bc i e2⟩
theorem th_lapp {H : Hp} {p : Addr} {ms : List Int} {c : Int} (e : H p = some (.lst (ms.map V.int ++ [.int c]))) (l : ms.length ≤ 900) : Th H (.ref p) :=
  ⟨_, .lst e ((rp_ints ms).app (.cons (.int c) .nil)) (by rw [List.length_append, List.length_map]; show ms.length + 1 ≤ 1000; omega) (by have z := nt_ints (ns := ms ++ [c]); rw [List.map_append] at z; exact z), True.intro⟩
theorem th_bcut {H : Hp} {p : Addr} {ms : List Int} {c : Int} {lo hi : Option Int} (e : H p = some (.tup ([.bl true] ++ cutV (ms.map V.int) lo hi ++ [.int c]))) (l : ms.length ≤ 900) (b : ∀ m ∈ ms, m.natAbs < 2 ^ 300) (bc : c.natAbs < 2 ^ 300) : Th H (.ref p) := by
  obtain ⟨qs, eq, eq2⟩ := cut_ints (ns := ms) lo hi
  rw [eq] at e
  have lq : qs.length ≤ ms.length := by rw [eq2, List.length_take, List.length_drop]; omega
  have bq : ∀ m ∈ qs, m.natAbs < 2 ^ 300 := fun m hm => by rw [eq2] at hm; exact b m (List.mem_of_mem_drop (List.mem_of_mem_take hm))
  refine ⟨_, .tup e ((RpAll.cons (.bl true) .nil |>.app (rp_ints qs)).app (.cons (.int c) .nil)) (by simp; omega), bd_mix fun d hd i e2 => ?_⟩
  rcases List.mem_append.mp hd with h | h
  · rcases List.mem_append.mp h with h | h
    · rw [List.mem_singleton.mp h] at e2
      cases e2
    · exact ds_ints bq d h i e2
  · rw [List.mem_singleton.mp h] at e2
    cases e2
    exact bc
theorem ix_th {K : PySem.W.Frag} {H : Hp} {p : Addr} {k : Int} {xs : List V} {Q : VK} (e : H p = some (.lst xs)) (h : ∀ v ∈ xs, Th H v) (h0 : 0 ≤ k) (h1 : k < (xs.length : Int)) (q : ∀ v, Th H v → Q v H) : rIxL K (.ref p) (.int k) H Q := by
  have hk : k.toNat < xs.length := by omega
  have e2 := atI_nat (List.getElem?_eq_getElem hk)
  rw [show ((k.toNat : Nat) : Int) = k by omega] at e2
  exact ⟨p, xs, k, _, rfl, rfl, SqL.of e, e2, q _ (h _ (List.getElem_mem hk))⟩
theorem slL {K : PySem.W.Frag} {H : Hp} {p : Addr} {xs : List V} {lo hi : Option Int} {Q : VK} (e : H p = some (.lst xs)) (q : ∀ p', H p' = none → Q (.ref p') (upd H p' (.lst (cutV xs lo hi)))) : rSlL K (.ref p) lo hi H Q := ⟨p, xs, rfl, SqL.of e, q⟩
theorem pick_th {H : Hp} : ∀ {l : List V}, (∀ v ∈ l, Th H v) → ∀ {k : Int}, 0 ≤ k → k < (l.length : Int) → ∃ v d, atI l k = some v ∧ Rp H v d ∧ Bd d := by
  intro l h k h0 h1
  have hk : k.toNat < l.length := by omega
  obtain ⟨d, r, b⟩ := h l[k.toNat] (List.getElem_mem hk)
  refine ⟨_, d, ?_, r, b⟩
  have e := atI_nat (List.getElem?_eq_getElem hk)
  rwa [show ((k.toNat : Nat) : Int) = k by omega] at e
theorem cut_at {t u : TS} {D : Ends} {σ : L2.St} {H : Hp} (Mid : L2.St → Hp → Prop) (h1 : t { D with nx := Mid } σ H) (h2 : ∀ σ' H', Mid σ' H' → u D σ' H') : C8.tCut t u D σ H := ⟨Mid, h1, h2⟩
/-- what stays known from one statement to the next -/
structure Kt (t l pp rw : Addr) (a b : Int) (ms : List Int) (u1 u2 u3 u4 : V) (H0 H : Hp) : Prop where
  ep : H pp = some (.tup [.int a, .int b])
  er : H rw = some (.lst (ms.map V.int))
  t1 : Th H u1
  t2 : Th H u2
  t3 : Th H u3
  t4 : Th H u4
  tp : Th H (.ref pp)
  tr : Th H (.ref rw)
  T : Tq t l H
  s : Sam H0 H
/-- .. and the list so far -/
def Mt (t l pp rw : Addr) (a b : Int) (ms : List Int) (u1 u2 u3 u4 : V) (H0 : Hp) (f : V → L2.St) (n : Nat) : L2.St → Hp → Prop := fun σ' H' => ∃ (p : Addr) (L : List V), σ' = f (.ref p) ∧ H' p = some (.lst L) ∧ L.length = n ∧ (∀ v ∈ L, Th H' v) ∧ Kt t l pp rw a b ms u1 u2 u3 u4 H0 H'
theorem mt_mk {t l pp rw p : Addr} {a b : Int} {ms : List Int} {u1 u2 u3 u4 : V} {H0 H' : Hp} {f : V → L2.St} {n : Nat} {L : List V} {σ' : L2.St} (e1 : σ' = f (.ref p)) (e2 : H' p = some (.lst L)) (e3 : L.length = n) (h : ∀ v ∈ L, Th H' v) (k : Kt t l pp rw a b ms u1 u2 u3 u4 H0 H') : Mt t l pp rw a b ms u1 u2 u3 u4 H0 f n σ' H' := ⟨p, L, e1, e2, e3, h, k⟩
def Ms (t l pp rw : Addr) (a b : Int) (ms : List Int) (u1 : V) (H0 : Hp) (f : V → V → L2.St) : L2.St → Hp → Prop := fun σ' H' => ∃ u2 u3, σ' = f u2 u3 ∧ Kt t l pp rw a b ms u1 u2 u3 .non H0 H'
theorem ms_mk {t l pp rw : Addr} {a b : Int} {ms : List Int} {u1 u2 u3 : V} {H0 H' : Hp} {f : V → V → L2.St} {σ' : L2.St} (e1 : σ' = f u2 u3) (k : Kt t l pp rw a b ms u1 u2 u3 .non H0 H') : Ms t l pp rw a b ms u1 H0 f σ' H' := ⟨u2, u3, e1, k⟩
def Mv (t l pp rw : Addr) (a b : Int) (ms : List Int) (u1 u2 u3 : V) (H0 : Hp) (f : V → L2.St) : L2.St → Hp → Prop := fun σ' H' => ∃ v, σ' = f v ∧ Kt t l pp rw a b ms u1 u2 u3 v H0 H'
theorem mv_mk {t l pp rw : Addr} {a b : Int} {ms : List Int} {u1 u2 u3 v : V} {H0 H' : Hp} {f : V → L2.St} {σ' : L2.St} (e1 : σ' = f v) (k : Kt t l pp rw a b ms u1 u2 u3 v H0 H') : Mv t l pp rw a b ms u1 u2 u3 H0 f σ' H' := ⟨v, e1, k⟩
theorem th_appd {H : Hp} {L M : List V} (h1 : ∀ v ∈ L, Th H v) (h2 : ∀ v ∈ M, Th H v) : ∀ v ∈ L ++ M, Th H v := fun v hv => by
  rcases List.mem_append.mp hv with h | h
  · exact h1 v h
  · exact h2 v h
theorem th_all {H H' : Hp} {L : List V} (s : Sam H H') (h : ∀ v ∈ L, Th H v) : ∀ v ∈ L, Th H' v := fun v hv => (h v hv).to s
theorem th_rowL {H : Hp} {p : Addr} {ms : List Int} (e : H p = some (.lst (ms.map V.int))) (l : ms.length ≤ 1000) : Th H (.ref p) := ⟨_, .lst e (rp_ints ms) (by rw [List.length_map]; exact l) nt_ints, True.intro⟩
local macro_rules | `(tactic| walk_at "th") => `(tactic| first | exact th_int | exact th_bl | exact th_str | exact th_non | assumption | (refine' Th.to ?s0 ?h0; (case h0 => assumption); (case s0 => walk_at "sam")) | (refine' th_two ?e0 ?h1 ?h2; (case e0 => walk_at "heap"); (case h1 => first | assumption | (apply bd9; assumption) | (apply bd9; decide)); (case h2 => first | assumption | (apply bd9; assumption) | (apply bd9; decide))) | (refine' th_row ?e0 ?l0 ?b0; (case e0 => walk_at "heap"); (case l0 => omega); (case b0 => assumption)) | (refine' th_app ?e0 ?l0 ?b0 ?r0 ?c0; (case e0 => walk_at "heap"); (case l0 => first | omega | (simp only [List.length_map]; omega)); (case b0 => assumption); (case r0 => walk_at "rp"); (case c0 => (intro i0 z0; first | (cases z0; assumption) | (cases z0; decide +kernel) | cases z0))) | (refine' th_lapp ?e0 ?l0; (case e0 => walk_at "heap"); (case l0 => omega)) | (refine' th_bcut ?e0 ?l0 ?b0 ?c0; (case e0 => walk_at "heap"); (case l0 => omega); (case b0 => assumption); (case c0 => decide)) | (refine' ⟨_, ?r0, ?b0⟩; (case r0 => walk_at "rp"); (case b0 => first | exact True.intro | (intro i0 z0; simp at z0; done) | (intro i0 z0; simp at z0; subst z0; first | assumption | (apply bd9; assumption) | decide +kernel) | (intro i0 z0; simp at z0; (obtain (z0 | z0) := z0) <;> (subst z0; first | assumption | (apply bd9; assumption) | decide +kernel)))))
local macro_rules | `(tactic| walk_at "rd") => `(tactic| ((with_reducible refine' slL ?e0 ?_); (case e0 => walk_at "heap")))
local macro_rules | `(tactic| walk_at "ths") => `(tactic| first | exact th_nil | (refine' th_cons ?h0 ?t0; (case h0 => walk_at "th"); (case t0 => walk_at "ths")))
local macro_rules | `(tactic| walk_at "kt") => `(tactic| (refine' Kt.mk ?k1 ?k2 ?k3 ?k4 ?k5 ?k6 ?k7 ?k8 ?k9 ?k10; (case k1 => walk_at "heap"); (case k2 => walk_at "heap"); (case k3 => walk_at "th"); (case k4 => walk_at "th"); (case k5 => walk_at "th"); (case k6 => walk_at "th"); (case k7 => walk_at "th"); (case k8 => walk_at "th"); (case k9 => walk_at "tq"); (case k10 => walk_at "sam")))
section
variable {P : Program} {w : World} {K : PySem.W.Frag} {mg : Str → Option Value} {base : Heap}
set_option pp.maxSteps 3000
abbrev sThingL : Stmt := topS 43
theorem scThingL : FnScope ["tape", "dims", "pair", "low", "row", "i", "bottom", "place", "nought", "x", "strange", "things"] ["tape", "dims"] (defScope sThingL) := ⟨rfl, rfl, rfl, by decide +kernel, rfl, by decide +kernel, by decide +kernel⟩
theorem okThingL {f : Addr} {fd : FuncData} (F : Fun K "_law_thing" "_law_thing" sThingL f fd) (T : Tx mg) (DDrawL : Dn P w K mg base CX0 "_law_draw" 1 ["tape", "many"] spDw) (DPairL : Dn P w K mg base CX0 "_law_pair" 3 ["tape"] spPairL) (DLowestL : Dn P w K mg base CX0 "_law_lowest" 2 ["top", "bottom"] spLowest)  : FnOk P w K mg base CX0 4 f fd ["tape", "dims"] spThing := by
  refine F.ok scThingL (fun vs H Q E h => ?_) (fun cdv A outer s H vs Q E hr h => ?_)
  · obtain ⟨t, l, n, rfl, _⟩ := h
    rfl
  · obtain ⟨t, l, n, rfl, n2, n3, Tt, kk⟩ := h
    refine ⟨_, (pss_cons (ps_set (i := 2) scThingL.nd rfl (Or.inl rfl) (pe_dn DPairL (hr.mono (by omega)) (pa_cons (pv 0) pa_nil)))
    (pss_cons (ps_set (i := 3) scThingL.nd rfl (Or.inl rfl) (pe_dn DLowestL (hr.mono (by omega)) (pa_cons (pe_ix ix_tup (pv 2) pe_int (fun _ _ => rfl)) (pa_cons (pe_ix ix_tup (pv 2) pe_int (fun _ _ => rfl)) pa_nil))))
    (pss_cons (ps_setLc (i := 4) (own := [("i", 5)]) (g := gName 5) (by rfl) scThingL.nd rfl rfl (sw_true rfl rfl rfl (by decide +kernel)) (pi_range1 rfl T.n_range (pa_cons (pe_op op_add (pe_op op_sub (pv 1) pe_int) (pe_dn DDrawL (hr.mono (by omega)) (pa_cons (pv 0) (pa_cons pe_int pa_nil)))) pa_nil)) (blkOk_by (own := [("i", 5)]) (N := ["tape", "dims", "pair", "low", "row", "i", "bottom", "place", "nought", "x", "strange", "things"]) (sc := defScope sThingL) (by decide +kernel)) (fun _ _ _ _ _ => pg_name (i := 5) scThingL.nd rfl (Or.inl rfl)) (fun _ _ _ _ _ => pts_nil) (fun _ _ _ _ _ => (pe_op op_sub (pe_op op_mul (pe_dn DDrawL (hr.mono (by omega)) (pa_cons (pv 0) (pa_cons pe_int pa_nil))) (pe_op op_add pe_int (pe_dn DDrawL (hr.mono (by omega)) (pa_cons (pv 0) (pa_cons pe_int pa_nil))))) pe_int)))
    (pss_cons (ps_set (i := 6) scThingL.nd rfl (Or.inl rfl) (pe_op op_add pe_int (pe_dn DDrawL (hr.mono (by omega)) (pa_cons (pv 0) (pa_cons pe_int pa_nil)))))
    (pss_cons (ps_set (i := 7) scThingL.nd rfl (Or.inl rfl) (pe_callTy call_tuple_of (by rfl) T.n_tuple (by decide +kernel) (pa_cons (pe_op op_cat (pv 4) (pe_lst (pa_cons (pv 6) pa_nil))) pa_nil)))
    (C8.pss_cut (ps_set (i := 8) scThingL.nd rfl (Or.inl rfl) (pe_callTy call_tuple_of (by rfl) T.n_tuple (by decide +kernel) (pa_cons (pe_op op_cat (pe_lc (own := [("x", 9)]) (g := gName 9) (by rfl) scThingL.nd (pi_list (pv 4)) (blkOk_by (own := [("x", 9)]) (N := ["tape", "dims", "pair", "low", "row", "i", "bottom", "place", "nought", "x", "strange", "things"]) (sc := defScope sThingL) (by decide +kernel)) (fun _ _ _ _ _ => pg_name (i := 9) scThingL.nd rfl (Or.inl rfl)) (fun _ _ _ _ _ => pts_nil) (fun _ _ _ _ _ => pe_int)) (pe_lst (pa_cons (pv 6) pa_nil))) pa_nil)))
    (pss_cons (ps_set (i := 10) scThingL.nd rfl (Or.inl rfl) (pe_lst (pa_cons pe_bl (pa_cons pe_bl (pa_cons pe_non (pa_cons pe_str (pa_cons pe_str (pa_cons (pe_tup pa_nil) (pa_cons (pe_lst pa_nil) (pa_cons (pe_tup (pa_cons pe_int pa_nil)) (pa_cons (pe_tup (pa_cons (pe_tup (pa_cons pe_int (pa_cons pe_int pa_nil))) (pa_cons pe_int pa_nil))) (pa_cons (pe_tup (pa_cons pe_non (pa_cons pe_int pa_nil))) (pa_cons (pe_tup (pa_cons pe_str (pa_cons pe_int pa_nil))) (pa_cons (pe_tup (pa_cons pe_int (pa_cons pe_int pa_nil))) pa_nil))))))))))))))
    (C8.pss_cut (ps_set (i := 10) scThingL.nd rfl (Or.inl rfl) (pe_ix ix_list (pv 10) (pe_dn DDrawL (hr.mono (by omega)) (pa_cons (pv 0) (pa_cons pe_int pa_nil))) (fun _ _ => rfl)))
    (C8.pss_cut (ps_set (i := 11) scThingL.nd rfl (Or.inl rfl) (pe_lst (pa_cons (pv 2) (pa_cons (pv 3) (pa_cons (pv 3) (pa_cons (pe_lst (pa_cons (pe_ix ix_tup (pv 2) pe_int (fun _ _ => rfl)) (pa_cons pe_int pa_nil))) (pa_cons (pv 7) (pa_cons (pv 7) (pa_cons (pv 7) (pa_cons (pv 8) (pa_cons (pe_callTy call_tuple_of (by rfl) T.n_tuple (by decide +kernel) (pa_cons (pv 4) pa_nil)) (pa_cons (pe_callTy call_tuple_of (by rfl) T.n_tuple (by decide +kernel) (pa_cons (pe_op op_cat (pv 4) (pe_lst (pa_cons (pe_op op_sub (pv 6) pe_int) pa_nil))) pa_nil)) pa_nil))))))))))))
    (C8.pss_cut (ps_set (i := 11) scThingL.nd rfl (Or.inl rfl) (pe_op op_cat (pv 11) (pe_lst (pa_cons (pe_op op_cat (pv 4) (pe_lst (pa_cons pe_int pa_nil))) (pa_cons (pe_callTy call_tuple_of (by rfl) T.n_tuple (by decide +kernel) (pa_cons (pe_op op_cat (pe_op op_cat (pe_lst (pa_cons pe_bl pa_nil)) (pe_slice sl_list (pv 4) (po_some pe_int) po_none)) (pe_lst (pa_cons pe_int pa_nil))) pa_nil)) (pa_cons (pe_callTy call_tuple_of (by rfl) T.n_tuple (by decide +kernel) (pa_cons (pe_op op_cat (pv 4) (pe_lst (pa_cons pe_bl pa_nil))) pa_nil)) (pa_cons (pe_ix ix_tup (pv 2) pe_int (fun _ _ => rfl)) pa_nil)))))))
    (C8.pss_cut (ps_set (i := 11) scThingL.nd rfl (Or.inl rfl) (pe_op op_cat (pv 11) (pe_lst (pa_cons (pe_op op_mul (pe_ix ix_tup (pv 2) pe_int (fun _ _ => rfl)) (pe_op op_pow pe_int pe_int)) (pa_cons (pe_tup (pa_cons (pe_ix ix_tup (pv 2) pe_int (fun _ _ => rfl)) (pa_cons pe_bl pa_nil))) (pa_cons (pe_tup (pa_cons pe_bl (pa_cons (pe_callB call_abs (by rfl) T.n_abs (by decide +kernel) (pa_cons (pe_ix ix_tup (pv 2) pe_int (fun _ _ => rfl)) pa_nil)) pa_nil))) (pa_cons (pv 10) (pa_cons (pv 10) (pa_cons (pv 10) pa_nil)))))))))
    (C8.pss_cut (ps_set (i := 11) scThingL.nd rfl (Or.inl rfl) (pe_op op_cat (pv 11) (pe_lst (pa_cons (pe_dn DLowestL (hr.mono (by omega)) (pa_cons (pe_op op_add (pe_op op_mul (pe_ix ix_tup (pv 2) pe_int (fun _ _ => rfl)) (pe_op op_pow pe_int pe_int)) pe_int) (pa_cons (pe_ix ix_tup (pv 2) pe_int (fun _ _ => rfl)) pa_nil))) (pa_cons (pe_tup (pa_cons (pe_op op_mul (pe_ix ix_tup (pv 2) pe_int (fun _ _ => rfl)) (pe_op op_pow pe_int pe_int)) (pa_cons (pe_callB call_abs (by rfl) T.n_abs (by decide +kernel) (pa_cons (pe_ix ix_tup (pv 2) pe_int (fun _ _ => rfl)) pa_nil)) pa_nil))) pa_nil)))))
    (C8.pss_cut (ps_set (i := 11) scThingL.nd rfl (Or.inl rfl) (pe_op op_cat (pv 11) (pe_lst (pa_cons (pe_dn DLowestL (hr.mono (by omega)) (pa_cons (pe_ix ix_tup (pv 2) pe_int (fun _ _ => rfl)) (pa_cons (pe_op op_add (pe_op op_pow pe_int pe_int) (pe_callB call_abs (by rfl) T.n_abs (by decide +kernel) (pa_cons (pe_ix ix_tup (pv 2) pe_int (fun _ _ => rfl)) pa_nil))) pa_nil))) (pa_cons (pe_callTy call_tuple_of (by rfl) T.n_tuple (by decide +kernel) (pa_cons (pe_op op_cat (pe_lc (own := [("x", 9)]) (g := gName 9) (by rfl) scThingL.nd (pi_list (pv 4)) (blkOk_by (own := [("x", 9)]) (N := ["tape", "dims", "pair", "low", "row", "i", "bottom", "place", "nought", "x", "strange", "things"]) (sc := defScope sThingL) (by decide +kernel)) (fun _ _ _ _ _ => pg_name (i := 9) scThingL.nd rfl (Or.inl rfl)) (fun _ _ _ _ _ => pts_nil) (fun _ _ _ _ _ => (pe_op op_add (pv 9) (pe_op op_pow pe_int pe_int)))) (pe_lst (pa_cons (pv 6) pa_nil))) pa_nil)) pa_nil)))))
    (C8.pss_cut (ps_set (i := 11) scThingL.nd rfl (Or.inl rfl) (pe_op op_cat (pv 11) (pe_lst (pa_cons (pe_callTy call_tuple_of (by rfl) T.n_tuple (by decide +kernel) (pa_cons (pe_op op_cat (pe_lc (own := [("x", 9)]) (g := gName 9) (by rfl) scThingL.nd (pi_list (pv 4)) (blkOk_by (own := [("x", 9)]) (N := ["tape", "dims", "pair", "low", "row", "i", "bottom", "place", "nought", "x", "strange", "things"]) (sc := defScope sThingL) (by decide +kernel)) (fun _ _ _ _ _ => pg_name (i := 9) scThingL.nd rfl (Or.inl rfl)) (fun _ _ _ _ _ => pts_nil) (fun _ _ _ _ _ => (pe_op op_add (pe_op op_mul pe_int (pv 9)) pe_int))) (pe_lst (pa_cons (pe_op op_mul pe_int (pe_op op_pow pe_int pe_int)) pa_nil))) pa_nil)) (pa_cons (pe_callTy call_tuple_of (by rfl) T.n_tuple (by decide +kernel) (pa_cons (pe_op op_cat (pe_lc (own := [("x", 9)]) (g := gName 9) (by rfl) scThingL.nd (pi_list (pv 4)) (blkOk_by (own := [("x", 9)]) (N := ["tape", "dims", "pair", "low", "row", "i", "bottom", "place", "nought", "x", "strange", "things"]) (sc := defScope sThingL) (by decide +kernel)) (fun _ _ _ _ _ => pg_name (i := 9) scThingL.nd rfl (Or.inl rfl)) (fun _ _ _ _ _ => pts_nil) (fun _ _ _ _ _ => (pe_op op_mul (pe_op op_mul pe_int (pv 9)) (pe_op op_pow pe_int pe_int)))) (pe_lst (pa_cons pe_int pa_nil))) pa_nil)) pa_nil)))))
    (pss_one (ps_ret (pe_ix ix_list (pv 11) (pe_dn DDrawL (hr.mono (by omega)) (pa_cons (pv 0) (pa_cons pe_int pa_nil))) (fun _ _ => rfl)))))))))))))))))), ?_⟩
    have st0 : L2.start ["tape", "dims", "pair", "low", "row", "i", "bottom", "place", "nought", "x", "strange", "things"] [V.ref t, V.int n] = [some (V.ref t), some (V.int n), none, none, none, none, none, none, none, none, none, none] := rfl
    rw [st0]
    walk_at "rds"
    refine ⟨t, l, rfl, Tt, fun pp a b H1 ep b0 la ua lb ub T1 s1 => ?_⟩
    have ba : a.natAbs < 2 ^ 300 := bd3 (by omega) (by omega)
    have bb : b.natAbs < 2 ^ 300 := bd3 (by omega) (by omega)
    walk_at "rds"
    refine ⟨a, b, rfl, bd8 ba, bd8 bb, b0, fun pl H2 x y el q t2 => ?_⟩
    have T2 := T1.to t2
    walk_at "rds"
    refine ⟨t, l, 3, rfl, T2, by decide, by decide, fun v3 H3 a3 b3 T3 s3 => ?_⟩
    walk_at "rds"
    refine ⟨by omega, by omega, fun d hd => ?_⟩
    have nd := T3.ne hd
    refine lc_range (lo := 0) (n := (n - 1 + v3).toNat) (fun i H4 => ∃ ms : List Int, ms.length = i ∧ (∀ m ∈ ms, -4 ≤ m ∧ m ≤ 12) ∧ H4 d = some (.lst (ms.map V.int)) ∧ Tq t l H4 ∧ Sam H3 H4) ⟨[], rfl, (fun m hm => by cases hm), upd_same, T3.to (same_put hd (Same.refl _)), Sam.of (same_put hd (Same.refl _))⟩ ?_ ?_
    · rintro i H4 hi ⟨ms, lm, bm, e4, T4, s4⟩
      refine ⟨rfl, ?_⟩
      walk_at "rds"
      refine ⟨t, l, 9, rfl, T4, by decide, by decide, fun v5 H5 a5 b5 T5 s5 => ?_⟩
      walk_at "rds"
      refine ⟨t, l, 2, rfl, T5, by decide, by decide, fun v6 H6 a6 b6 T6 s6 => ?_⟩
      walk_at "rds"
      refine ⟨_, s6 _ _ nt_ints (s5 _ _ nt_ints e4), ?_, ms ++ [v5 * (1 + v6) - 4], by rw [List.length_append, lm]; rfl, fun m hm => ?_, by rw [upd_same, List.map_append]; rfl, T6.put nd, sam_put hd ((s4.trans s5).trans s6)⟩
      · rw [List.length_map, lm, sizeLine_eq]
        omega
      · rcases List.mem_append.mp hm with h | h
        · exact bm m h
        · rw [List.mem_singleton.mp h]
          rcases (by omega : v6 = 0 ∨ v6 = 1) with rfl | rfl <;> constructor <;> omega
    rintro H4 ⟨ms, lm, bm, e4, T4, s4⟩
    have lms : ms.length ≤ 4 := by omega
    have ep4 := s4 _ _ nt_tup (s3 _ _ nt_tup (t2 _ _ ep))
    have el4 := s4 _ _ nt_tup (s3 _ _ nt_tup el)
    have s04 : Sam H H4 := ((s1.trans (Sam.of t2)).trans s3).trans s4
    have rms : ∀ m ∈ ms, m.natAbs < 2 ^ 300 := fun m hm => by have := bm m hm; exact bd3 (by omega) (by omega)
    walk_at "rds"
    refine ⟨t, l, 3, rfl, T4, by decide, by decide, fun v7 H7 a7 b7 T7 s7 => ?_⟩
    have ep7 := s7 _ _ nt_tup ep4
    have el7 := s7 _ _ nt_tup el4
    have e7 := s7 _ _ nt_ints e4
    have s07 : Sam H H7 := s04.trans s7
    have bx9 : x.natAbs < 2 ^ 9000 := bd9 (Nat.lt_of_le_of_lt q.le1 ba)
    have by9 : y.natAbs < 2 ^ 9000 := bd9 (Nat.lt_of_le_of_lt q.le2 bb)
    have tpl7 : Th H7 (.ref pl) := th_two el7 bx9 by9
    have tpp7 : Th H7 (.ref pp) := th_two ep7 (bd9 ba) (bd9 bb)
    have trw7 : Th H7 (.ref d) := th_rowL e7 (by omega)
    have c7 : (1 + v7).natAbs < 2 ^ 300 := bd3 (by omega) (by omega)
    have c73 : (1 + v7 - 3).natAbs < 2 ^ 300 := bd3 (by omega) (by omega)
    have r0s : ∀ m ∈ ms.map (fun _ => (0 : Int)), m.natAbs < 2 ^ 300 := fun m hm => by
      obtain ⟨k, _, e⟩ := List.mem_map.mp hm
      rw [← e]
      decide +kernel
    clear ep el ep4 el4 e4 s04 T1 T2 T3 T4 s1 t2 s3 s4 s7 hd
    walk_at "rds"
    refine cut_at (Ms t l pp d a b ms (.ref pl) H (fun u2 u3 => [some (.ref t), some (.int n), some (.ref pp), some (.ref pl), some (.ref d), none, some (.int (1 + v7)), some u2, some u3, none, none, none])) ?_ ?_
    · walk_at "rds"
      refine ⟨⟨_, SqL.of (by walk_at "heap")⟩, fun d8 n8 => ?_⟩
      refine' lc_intsM (fun _ => 0) n8 ?heu1 ?hlu2 ?stu3 ?_
      case heu1 => walk_at "heap"
      case hlu2 => omega
      case stu3 =>
        intro m H' R hm s' r
        have bmm := bm m hm
        refine ⟨rfl, ?_⟩
        walk_at "rds"
      intro J8 e8 t8
      walk_at "rds"
      refine' ms_mk ?e1u4 ?e5u5
      case e1u4 => exact rfl
      case e5u5 => walk_at "kt"
    rintro _ H9 ⟨u2, u3, rfl, ⟨ep, er, t1, t2, t3, t4, tp, tr, T9, s9⟩⟩
    clear t4 e7 el7 ep7 trw7 tpp7 tpl7 s07 T7
    walk_at "rds"
    refine cut_at (Mv t l pp d a b ms (.ref pl) u2 u3 H (fun z => [some (.ref t), some (.int n), some (.ref pp), some (.ref pl), some (.ref d), none, some (.int (1 + v7)), some u2, some u3, none, some z, none])) ?_ ?_
    · walk_at "rds"
      refine ⟨t, l, 12, rfl, by walk_at "tq", by decide, by decide, fun v9 J9 a9 b9 Z9 z9 => ?_⟩
      refine' ix_th ?e9u6 ?h9u7 a9 ?l9u8 ?_
      case e9u6 => walk_at "heap"
      case l9u8 => exact b9
      case h9u7 => walk_at "ths"
      intro sv Ts
      refine' mv_mk ?e1u9 ?e5u10
      case e1u9 => exact rfl
      case e5u10 => walk_at "kt"
    clear ep er t1 t2 t3 tp tr T9 s9
    rintro _ H9 ⟨sv, rfl, ⟨ep, er, t1, t2, t3, t4, tp, tr, T9, s9⟩⟩
    have g1 : (a * 10 ^ (40 : Int).toNat).natAbs < 2 ^ 300 := bd3 (by rw [p40]; omega) (by rw [p40]; omega)
    have g3 : (a * 10 ^ (40 : Int).toNat + 1).natAbs < 2 ^ 300 := bd3 (by rw [p40]; omega) (by rw [p40]; omega)
    have g2 : (if b < 0 then -b else b).natAbs < 2 ^ 300 := bd3 (by split <;> omega) (by split <;> omega)
    have g4 : (10 ^ (58 : Int).toNat + (if b < 0 then -b else b)).natAbs < 2 ^ 300 := bd3 (by rw [p58]; split <;> omega) (by rw [p58]; split <;> omega)
    have g5 : (10 ^ (58 : Int).toNat + (if b < 0 then -b else b)) ≠ 0 := by rw [p58]; split <;> omega
    have g6 : (7 * 10 ^ (57 : Int).toNat : Int).natAbs < 2 ^ 300 := bd3 (by rw [p57]; decide) (by rw [p57]; decide)
    have r1s : ∀ m ∈ ms.map (fun x => x + 10 ^ (58 : Int).toNat), m.natAbs < 2 ^ 300 := fun m hm => by
      obtain ⟨k, hk, e⟩ := List.mem_map.mp hm
      have := bm k hk
      rw [← e]
      exact bd3 (by rw [p58]; omega) (by rw [p58]; omega)
    have r2s : ∀ m ∈ ms.map (fun x => 7 * x + 1), m.natAbs < 2 ^ 300 := fun m hm => by
      obtain ⟨k, hk, e⟩ := List.mem_map.mp hm
      have := bm k hk
      rw [← e]
      exact bd3 (by omega) (by omega)
    have r3s : ∀ m ∈ ms.map (fun x => 2 * x * 10 ^ (50 : Int).toNat), m.natAbs < 2 ^ 300 := fun m hm => by
      obtain ⟨k, hk, e⟩ := List.mem_map.mp hm
      have := bm k hk
      rw [← e]
      exact bd3 (by rw [p50]; omega) (by rw [p50]; omega)
    refine cut_at (Mt t l pp d a b ms (.ref pl) u2 u3 sv H (fun z => [some (.ref t), some (.int n), some (.ref pp), some (.ref pl), some (.ref d), none, some (.int (1 + v7)), some u2, some u3, none, some sv, some z]) 10) ?_ ?_
    · walk_at "rds"
      walk_at "rds"
      show Mt t l pp d a b ms (.ref pl) u2 u3 sv H (fun z => [some (.ref t), some (.int n), some (.ref pp), some (.ref pl), some (.ref d), none, some (.int (1 + v7)), some u2, some u3, none, some sv, some z]) 10 _ _
      refine' mt_mk ?e1u11 ?e2u12 ?e3u13 ?e4u14 ?e5u15
      case e1u11 => exact rfl
      case e2u12 => walk_at "heap"
      case e3u13 => first | exact rfl | (simp only [List.length_append, List.length_cons, List.length_nil]; omega)
      case e4u14 => (first | walk_at "ths" | (refine' th_appd ?d1 ?d2; (case d1 => (refine' th_all ?s0 hL; (case s0 => walk_at "sam"))); (case d2 => walk_at "ths")))
      case e5u15 => walk_at "kt"
    clear ep er t1 t2 t3 t4 tp tr T9 s9
    rintro _ H9 ⟨p, L, rfl, eL, lL, hL, ⟨ep, er, t1, t2, t3, t4, tp, tr, T9, s9⟩⟩
    refine cut_at (Mt t l pp d a b ms (.ref pl) u2 u3 sv H (fun z => [some (.ref t), some (.int n), some (.ref pp), some (.ref pl), some (.ref d), none, some (.int (1 + v7)), some u2, some u3, none, some sv, some z]) 14) ?_ ?_
    · walk_at "rds"
      refine' Rd.catL ?a1u16 ?a2u17 ?a3u18 ?_
      case a1u16 => walk_at "heap"
      case a2u17 => walk_at "heap"
      case a3u18 => (have z := cutV_length (ms.map V.int) (some 1) none; rw [List.length_map] at z; simp only [List.length_append, List.length_cons, List.length_nil]; omega)
      intro rA JA eA tA nA
      walk_at "rds"
      refine' Rd.catL ?c1u19 ?c2u20 ?c3u21 ?_
      case c1u19 => walk_at "heap"
      case c2u20 => walk_at "heap"
      case c3u21 => (have z := cutV_length (ms.map V.int) (some 1) none; rw [List.length_map] at z; simp only [List.length_append, List.length_cons, List.length_nil]; omega)
      intro rB JB eB tB nB
      walk_at "rds"
      show Mt t l pp d a b ms (.ref pl) u2 u3 sv H (fun z => [some (.ref t), some (.int n), some (.ref pp), some (.ref pl), some (.ref d), none, some (.int (1 + v7)), some u2, some u3, none, some sv, some z]) 14 _ _
      refine' mt_mk ?e1u22 ?e2u23 ?e3u24 ?e4u25 ?e5u26
      case e1u22 => exact rfl
      case e2u23 => walk_at "heap"
      case e3u24 => first | exact rfl | (simp only [List.length_append, List.length_cons, List.length_nil]; omega)
      case e4u25 => (first | walk_at "ths" | (refine' th_appd ?d1 ?d2; (case d1 => (refine' th_all ?s0 hL; (case s0 => walk_at "sam"))); (case d2 => walk_at "ths")))
      case e5u26 => walk_at "kt"
    clear ep er t1 t2 t3 t4 tp tr T9 s9 eL lL hL
    rintro _ H9 ⟨p, L, rfl, eL, lL, hL, ⟨ep, er, t1, t2, t3, t4, tp, tr, T9, s9⟩⟩
    refine cut_at (Mt t l pp d a b ms (.ref pl) u2 u3 sv H (fun z => [some (.ref t), some (.int n), some (.ref pp), some (.ref pl), some (.ref d), none, some (.int (1 + v7)), some u2, some u3, none, some sv, some z]) 20) ?_ ?_
    · walk_at "rds"
      walk_at "rds"
      show Mt t l pp d a b ms (.ref pl) u2 u3 sv H (fun z => [some (.ref t), some (.int n), some (.ref pp), some (.ref pl), some (.ref d), none, some (.int (1 + v7)), some u2, some u3, none, some sv, some z]) 20 _ _
      refine' mt_mk ?e1u27 ?e2u28 ?e3u29 ?e4u30 ?e5u31
      case e1u27 => exact rfl
      case e2u28 => walk_at "heap"
      case e3u29 => first | exact rfl | (simp only [List.length_append, List.length_cons, List.length_nil]; omega)
      case e4u30 => (first | walk_at "ths" | (refine' th_appd ?d1 ?d2; (case d1 => (refine' th_all ?s0 hL; (case s0 => walk_at "sam"))); (case d2 => walk_at "ths")))
      case e5u31 => walk_at "kt"
    clear ep er t1 t2 t3 t4 tp tr T9 s9 eL lL hL
    rintro _ H9 ⟨p, L, rfl, eL, lL, hL, ⟨ep, er, t1, t2, t3, t4, tp, tr, T9, s9⟩⟩
    refine cut_at (Mt t l pp d a b ms (.ref pl) u2 u3 sv H (fun z => [some (.ref t), some (.int n), some (.ref pp), some (.ref pl), some (.ref d), none, some (.int (1 + v7)), some u2, some u3, none, some sv, some z]) 22) ?_ ?_
    · walk_at "rds"
      refine ⟨_, b, rfl, bd8 g3, bd8 bb, b0, fun pq Hq x2 y2 e2 q2 t2' => ?_⟩
      have bx2 : x2.natAbs < 2 ^ 9000 := bd9 (Nat.lt_of_le_of_lt q2.le1 g3)
      have by2 : y2.natAbs < 2 ^ 9000 := bd9 (Nat.lt_of_le_of_lt q2.le2 bb)
      walk_at "rds"
      show Mt t l pp d a b ms (.ref pl) u2 u3 sv H (fun z => [some (.ref t), some (.int n), some (.ref pp), some (.ref pl), some (.ref d), none, some (.int (1 + v7)), some u2, some u3, none, some sv, some z]) 22 _ _
      refine' mt_mk ?e1u32 ?e2u33 ?e3u34 ?e4u35 ?e5u36
      case e1u32 => exact rfl
      case e2u33 => walk_at "heap"
      case e3u34 => first | exact rfl | (simp only [List.length_append, List.length_cons, List.length_nil]; omega)
      case e4u35 => (first | walk_at "ths" | (refine' th_appd ?d1 ?d2; (case d1 => (refine' th_all ?s0 hL; (case s0 => walk_at "sam"))); (case d2 => walk_at "ths")))
      case e5u36 => walk_at "kt"
    clear ep er t1 t2 t3 t4 tp tr T9 s9 eL lL hL
    rintro _ H9 ⟨p, L, rfl, eL, lL, hL, ⟨ep, er, t1, t2, t3, t4, tp, tr, T9, s9⟩⟩
    refine cut_at (Mt t l pp d a b ms (.ref pl) u2 u3 sv H (fun z => [some (.ref t), some (.int n), some (.ref pp), some (.ref pl), some (.ref d), none, some (.int (1 + v7)), some u2, some u3, none, some sv, some z]) 24) ?_ ?_
    · walk_at "rds"
      refine ⟨a, _, rfl, bd8 ba, bd8 g4, g5, fun pr Hr x3 y3 e3' q3 t3' => ?_⟩
      have bx3 : x3.natAbs < 2 ^ 9000 := bd9 (Nat.lt_of_le_of_lt q3.le1 ba)
      have by3 : y3.natAbs < 2 ^ 9000 := bd9 (Nat.lt_of_le_of_lt q3.le2 g4)
      walk_at "rds"
      refine ⟨⟨_, SqL.of (by walk_at "heap")⟩, fun d11 n11 => ?_⟩
      refine' lc_intsM (fun x => x + 10 ^ (58 : Int).toNat) n11 ?heu37 ?hlu38 ?stu39 ?_
      case heu37 => walk_at "heap"
      case hlu38 => omega
      case stu39 =>
        intro m H' R hm s' r
        have bmm := bm m hm
        refine ⟨rfl, ?_⟩
        walk_at "rds"
      intro J11 e11 t11
      walk_at "rds"
      walk_at "rds"
      show Mt t l pp d a b ms (.ref pl) u2 u3 sv H (fun z => [some (.ref t), some (.int n), some (.ref pp), some (.ref pl), some (.ref d), none, some (.int (1 + v7)), some u2, some u3, none, some sv, some z]) 24 _ _
      refine' mt_mk ?e1u40 ?e2u41 ?e3u42 ?e4u43 ?e5u44
      case e1u40 => exact rfl
      case e2u41 => walk_at "heap"
      case e3u42 => first | exact rfl | (simp only [List.length_append, List.length_cons, List.length_nil]; omega)
      case e4u43 => (first | walk_at "ths" | (refine' th_appd ?d1 ?d2; (case d1 => (refine' th_all ?s0 hL; (case s0 => walk_at "sam"))); (case d2 => walk_at "ths")))
      case e5u44 => walk_at "kt"
    clear ep er t1 t2 t3 t4 tp tr T9 s9 eL lL hL
    rintro _ H9 ⟨p, L, rfl, eL, lL, hL, ⟨ep, er, t1, t2, t3, t4, tp, tr, T9, s9⟩⟩
    refine cut_at (Mt t l pp d a b ms (.ref pl) u2 u3 sv H (fun z => [some (.ref t), some (.int n), some (.ref pp), some (.ref pl), some (.ref d), none, some (.int (1 + v7)), some u2, some u3, none, some sv, some z]) 26) ?_ ?_
    · walk_at "rds"
      refine ⟨⟨_, SqL.of (by walk_at "heap")⟩, fun d12 n12 => ?_⟩
      refine' lc_intsM (fun x => 7 * x + 1) n12 ?heu45 ?hlu46 ?stu47 ?_
      case heu45 => walk_at "heap"
      case hlu46 => omega
      case stu47 =>
        intro m H' R hm s' r
        have bmm := bm m hm
        refine ⟨rfl, ?_⟩
        walk_at "rds"
      intro J12 e12 t12
      walk_at "rds"
      refine ⟨⟨_, SqL.of (by walk_at "heap")⟩, fun d13 n13 => ?_⟩
      refine' lc_intsM (fun x => 2 * x * 10 ^ (50 : Int).toNat) n13 ?heu48 ?hlu49 ?stu50 ?_
      case heu48 => walk_at "heap"
      case hlu49 => omega
      case stu50 =>
        intro m H' R hm s' r
        have bmm := bm m hm
        refine ⟨rfl, ?_⟩
        walk_at "rds"
      intro J13 e13 t13
      walk_at "rds"
      walk_at "rds"
      show Mt t l pp d a b ms (.ref pl) u2 u3 sv H (fun z => [some (.ref t), some (.int n), some (.ref pp), some (.ref pl), some (.ref d), none, some (.int (1 + v7)), some u2, some u3, none, some sv, some z]) 26 _ _
      refine' mt_mk ?e1u51 ?e2u52 ?e3u53 ?e4u54 ?e5u55
      case e1u51 => exact rfl
      case e2u52 => walk_at "heap"
      case e3u53 => first | exact rfl | (simp only [List.length_append, List.length_cons, List.length_nil]; omega)
      case e4u54 => (first | walk_at "ths" | (refine' th_appd ?d1 ?d2; (case d1 => (refine' th_all ?s0 hL; (case s0 => walk_at "sam"))); (case d2 => walk_at "ths")))
      case e5u55 => walk_at "kt"
    clear ep er t1 t2 t3 t4 tp tr T9 s9 eL lL hL
    rintro _ H9 ⟨p, L, rfl, eL, lL, hL, ⟨ep, er, t1, t2, t3, t4, tp, tr, T9, s9⟩⟩
    walk_at "rds"
    refine ⟨t, l, 26, rfl, T9, by decide, by decide, fun v14 H14 a14 b14 T14 s14 => ?_⟩
    refine' ix_th ?e9u56 ?h9u57 a14 ?l9u58 ?_
    case e9u56 => exact s14 _ _ (fun _ _ _ _ z => by cases z; simp at lL) eL
    case l9u58 => omega
    case h9u57 => exact th_all s14 hL
    intro tv ⟨td, tr, tb⟩
    exact kk tv td _ tr tb T14 (s9.trans s14)
end
end K15
end SecQ4
section SecQ5
set_option Elab.async false
set_option linter.all false
set_option maxRecDepth 100000
set_option maxHeartbeats 4000000
set_option pp.deepTerms false
local macro_rules | `(tactic| walk_at "tq") => `(tactic| first | assumption | (refine' Dt.Tq.to ?s0 ?h0; (case h0 => assumption); (case s0 => walk_at "same")))
local macro_rules | `(tactic| walk_at "same") => `(tactic| first | exact L2.Same.refl _ | assumption | (refine' L2.Same.trans ?s1 ?s2; (case s2 => assumption); (case s1 => walk_at "same")))
local macro_rules | `(tactic| walk_at "sam") => `(tactic| first | exact Dt.Sam.refl | assumption | exact Dt.Sam.of (by assumption) | (refine' Dt.Sam.trans ?s1 ?s2; (case s2 => first | assumption | exact Dt.Sam.of (by assumption)); (case s1 => walk_at "sam")))
local macro_rules | `(tactic| walk_at "tape") => `(tactic| first | assumption | (refine' Dt.Tape.mono ?h0 ?s0; (case h0 => assumption); (case s0 => walk_at "same")))
local macro_rules | `(tactic| walk_at "nt") => `(tactic| first | exact Dt.nt_tup | exact Dt.nt_ints | assumption | (intro a0 b0 c0 l0 z0; cases z0) | (intro a0 b0 c0 l0 z0; simp at z0))
local macro_rules | `(tactic| walk_at "heap") => `(tactic| first | assumption | exact L2.upd_same | (refine' Rd.at_to ?s0 ?h0; (case h0 => assumption); (case s0 => walk_at "same")) | (refine' Dt.at_sam ?n0 ?s0 ?h0; (case h0 => assumption); (case n0 => walk_at "nt"); (case s0 => walk_at "sam")))
local macro_rules | `(tactic| walk_at "rp") => `(tactic| first | exact Dt.Rp.int _ | exact Dt.Rp.bl _ | exact Dt.Rp.str _ | exact Dt.Rp.non | assumption | (refine' Dt.Rp.sm ?s0 ?h0; (case h0 => assumption); (case s0 => walk_at "sam")) | (refine' Dt.Rp.tup ?h1 ?h2 ?h3; (case h1 => walk_at "heap"); (case h2 => walk_at "rps"); (case h3 => first | assumption | (show _ ≤ 1000; decide) | (show _ ≤ 1000; simp) | (show _ ≤ 1000; omega))) | (refine' Dt.Rp.lst ?h1 ?h2 ?h3 ?h4; (case h1 => walk_at "heap"); (case h2 => walk_at "rps"); (case h3 => first | assumption | (show _ ≤ 1000; decide) | (show _ ≤ 1000; simp) | (show _ ≤ 1000; omega)); (case h4 => walk_at "nt")))
local macro_rules | `(tactic| walk_at "rps") => `(tactic| first | exact Dt.RpAll.nil | assumption | (refine' Dt.RpAll.cons ?h1 ?h2; (case h1 => walk_at "rp"); (case h2 => walk_at "rps")) | (refine' Dt.RpAll.sm ?s0 ?h0; (case h0 => assumption); (case s0 => walk_at "sam")))
local macro_rules | `(tactic| walk_at "rd") => `(tactic| first
  | with_reducible refine Rd.seq ?_ | with_reducible refine Rd.asg ?_ | with_reducible refine Rd.nm ?_ | with_reducible refine Rd.sub ?_ | with_reducible refine Rd.ret ?_ | with_reducible refine Rd.retN ?_
  | with_reducible refine Rd.drop ?_ | with_reducible refine Rd.ifs ?_ | with_reducible refine Rd.next ?_ | with_reducible refine Rd.cst ?_ | with_reducible refine Rd.op ?_ | with_reducible refine Rd.un ?_
  | with_reducible refine Rd.test ?_ | with_reducible refine Rd.tb' ?_ | with_reducible refine Rd.exb ?_ | with_reducible refine Rd.exi ?_ | with_reducible refine Rd.and2 ?_ | with_reducible refine Rd.or2 ?_ | with_reducible refine Rd.not1 ?_
  | with_reducible refine Rd.andV ?_ | with_reducible refine Rd.orV ?_ | with_reducible refine Rd.notV ?_ | with_reducible refine Rd.nil ?_ | with_reducible refine Rd.cons ?_ | with_reducible refine Rd.cb ?_
  | with_reducible refine Rd.i0 ?_ | with_reducible refine Rd.u1 ?_ | with_reducible refine Rd.call ?_ | with_reducible refine Rd.tup ?_ | with_reducible refine Rd.lst ?_ | with_reducible refine Rd.sl ?_ | with_reducible refine Rd.no ?_ | with_reducible refine Rd.part ?_ | with_reducible refine Rd.at_ ?_ | with_reducible refine Rd.yes ?_ | with_reducible refine Rd.fors ?_ | with_reducible refine Rd.m1 ?_ | with_reducible refine Rd.exs ?_ | with_reducible refine Rd.lc ?_ | with_reducible refine Rd.rng ?_
  | with_reducible refine Rd.mkv ?_ | with_reducible refine Rd.mko ?_ | with_reducible refine Rd.callB ?_ | with_reducible refine Rd.callS ?_ | with_reducible refine Rd.bm ?_ | with_reducible refine Rd.itl ?_ | with_reducible refine Rd.itt ?_
  | ((with_reducible refine' And.intro ?hl ?_); (case hl => ((with_reducible show List.length _ ≤ PySem.sizeLine); (show _ ≤ PySem.sizeLine); rw [PySem.sizeLine_eq]; simp)))
  | (intro p0 n0; generalize hK0 : L2.upd _ p0 _ = K0; obtain ⟨e0, t0⟩ := Dt.newK hK0 n0)
  | ((with_reducible refine' Rd.lenKL ?he ?_); (case he => walk_at "heap")) | ((with_reducible refine' Rd.lenKT ?he ?_); (case he => walk_at "heap"))
  | ((with_reducible refine' Rd.var ?hv ?_); (case hv => exact rfl))
  | ((with_reducible refine' Rd.ifT ?hv ?_); (case hv => first | exact rfl | assumption)) | ((with_reducible refine' Rd.ifF ?hv ?_); (case hv => first | exact rfl | assumption))
  | ((with_reducible refine' Rd.eq ?hv ?_); (case hv => exact rfl))
  | ((with_reducible refine' Rd.ne ?hv ?_); (case hv => exact rfl))
  | ((with_reducible refine' Dt.isi_int ?hr ?_); (case hr => walk_at "rp")) | ((with_reducible refine' Dt.isi_bool ?hr ?_); (case hr => walk_at "rp")) | ((with_reducible refine' Dt.isi_tuple ?hr ?_); (case hr => walk_at "rp")) | ((with_reducible refine' Dt.isi_str ?hr ?_); (case hr => walk_at "rp")) | ((with_reducible refine' Dt.isi_list ?hr ?_); (case hr => walk_at "rp"))
  | with_reducible refine ⟨rfl, ?_⟩ | with_reducible refine Or.inl ⟨_, rfl, ?_⟩ | with_reducible refine Or.inr ⟨_, rfl, ?_⟩ | with_reducible refine ⟨_, rfl, ?_⟩
  | ((with_reducible refine' Rd.ex2 ⟨rfl, ?hl, ?_⟩); (case hl => first | exact Or.inl ⟨_, L2.SqL.of (by walk_at "heap"), rfl⟩ | exact Or.inr ⟨_, L2.SqT.of (by walk_at "heap"), rfl⟩))
  | ((with_reducible refine' Rd.i1 ?hv ?_); (case hv => first | exact ⟨by decide, by decide, by decide⟩ | exact Or.inr ⟨by decide, by decide⟩ | exact Or.inl ⟨by decide, by decide⟩ | exact ⟨by decide, by decide⟩ | decide | assumption | (show _ ≠ _; omega) | (refine ⟨?_, ?_⟩ <;> omega) | (refine Or.inl ⟨?_, ?_⟩ <;> omega)))
  | ((with_reducible refine' Rd.ixL ?he ?hx ?_); (case he => walk_at "heap"); (case hx => rfl))
  | ((with_reducible refine' Rd.ixT ?he ?hx ?_); (case he => walk_at "heap"); (case hx => rfl))
  | ((with_reducible refine' Rd.setL ?he ?hx ?_); (case he => first | assumption | exact L2.upd_same); (case hx => rfl)))
local macro_rules | `(tactic| walk_at "rd") => `(tactic| first | with_reducible refine Rd.isT ?_ | with_reducible refine Rd.isnT ?_)
local macro_rules | `(tactic| walk_at "rd") => `(tactic| first | ((with_reducible refine' Rd.gtup ?he ?hl ?_); (case he => walk_at "heap"); (case hl => exact rfl)) | with_reducible refine Rd.brk ?_ | with_reducible refine Rd.callR ?_ | ((with_reducible refine' ⟨_, _, rfl, Or.inl ⟨L2.SqL.of ?hp, ?_⟩⟩); (case hp => walk_at "heap")) | ((with_reducible refine' ⟨_, _, rfl, Or.inl (L2.SqL.of ?hp), ?_⟩); (case hp => walk_at "heap")) | ((with_reducible refine' Rd.catL ?hp ?hq ?hl ?_); (case hp => walk_at "heap"); (case hq => walk_at "heap"); (case hl => (simp only [List.length_map, List.length_append, List.length_cons, List.length_nil]; omega)); (intro r0 J0 e0 t0 n0)) | with_reducible refine Rd.bits ?_ | with_reducible refine Rd.max2 ?_ | with_reducible refine Rd.gcons ?_ | with_reducible refine Rd.gnil ?_)
local macro_rules | `(tactic| walk_at "rds") => `(tactic| repeat (first | walk_at "rd" | assumption))
namespace K15
open PySem PySem.Spec PyProof.Rows L2 L2H Err Dt
def spKinds : Sp := fun vs H Q _ => ∃ (t l s : Addr) (n r : Int), vs = [.ref t, .ref s] ∧ Space H s n r ∧ Tq t l H ∧ ∀ H', Tq t l H' → Sam H H' → Q (.bl true) H'
theorem rp_dint {H : Hp} {v : V} {d : PyData} (r : Rp H v d) (h : dInt d = true) : ∃ j, v = .int j ∧ d = .int j := by
  cases r with
  | int j => exact ⟨j, rfl, rfl⟩
  | _ => cases h
theorem dnum_of {d : PyData} (h : dInt d = false) : dNum d = false := by
  cases d <;> first | rfl | cases h
theorem ifT {A B : Prop} (q : A) : if (decide True) = true then A else B := by rw [if_pos (by decide)]; exact q
section
variable {P : Program} {w : World} {K : PySem.W.Frag} {mg : Str → Option Value} {base : Heap}
set_option pp.maxSteps 3000
abbrev sKindsL : Stmt := topS 46
theorem scKindsL : FnScope ["tape", "space", "turn", "thing", "whole", "number"] ["tape", "space"] (defScope sKindsL) := ⟨rfl, rfl, rfl, by decide +kernel, rfl, by decide +kernel, by decide +kernel⟩
theorem okKindsL {f : Addr} {fd : FuncData} (F : Fun K "_law_kinds" "_law_kinds" sKindsL f fd) (T : Tx mg) (DThingL : Dn P w K mg base CX0 "_law_thing" 4 ["tape", "dims"] spThing) (DTruthL : Dn P w K mg base CX0 "_law_truth" 1 ["got", "due"] spTruth) (DKnownL : Dn P w K mg base CX0 "_law_known" 3 ["thing"] spKnown) (DPlacedL : Dn P w K mg base CX0 "_law_placed" 3 ["dims", "thing"] spPlaced) (DWholeL : Dn P w K mg base CX0 "_law_whole" 1 ["thing"] spIsInt) (KDIsInteger : Dk P w K mg base CX0 "is_integer" 1 ["thing"] spIsInt) (KDIsQuotient : Dk P w K mg base CX0 "is_quotient" 3 ["thing"] spIsQuot) (KDIsNumber : Dk P w K mg base CX0 "is_number" 2 ["thing"] spIsNum) (KDIsPlace : Dk P w K mg base CX0 "is_place" 3 ["space", "thing"] spIsPlace)  : FnOk P w K mg base CX0 5 f fd ["tape", "space"] spKinds := by
  refine F.ok scKindsL (fun vs H Q E h => ?_) (fun cdv A outer s H vs Q E hr h => ?_)
  · obtain ⟨t, l, s, n, r, rfl, _⟩ := h
    rfl
  · obtain ⟨t, l, s, n, r, rfl, Ss, Tt, kk⟩ := h
    refine ⟨_, (pss_cons (ps_for PassesOwn.never rfl (pi_range1 rfl T.n_range (pa_cons pe_int pa_nil)) (pg_name (i := 2) scKindsL.nd rfl (Or.inl rfl))
    (pss_cons (ps_set (i := 3) scKindsL.nd rfl (Or.inl rfl) (pe_dn DThingL (hr.mono (by omega)) (pa_cons (pv 0) (pa_cons (pe_ix ix_tup (pv 1) pe_int (fun _ _ => rfl)) pa_nil))))
      (pss_cons (ps_set (i := 4) scKindsL.nd rfl (Or.inl rfl) (pe_dn DWholeL (hr.mono (by omega)) (pa_cons (pv 3) pa_nil)))
      (pss_cons (ps_if (pt_not (pt_val (pe_dn DTruthL (hr.mono (by omega)) (pa_cons (pe_dnKx KDIsInteger (hr.mono (by omega)) pass0 (pk_cons (pv 3) pk_nil)) (pa_cons (pv 4) pa_nil)))))
      (pss_one (ps_ret pe_bl))
      pss_nil)
      (pss_cons (ps_if (pt_not (pt_val (pe_dn DTruthL (hr.mono (by omega)) (pa_cons (pe_dnKx KDIsQuotient (hr.mono (by omega)) pass0 (pk_cons (pv 3) pk_nil)) (pa_cons (pe_dn DKnownL (hr.mono (by omega)) (pa_cons (pv 3) pa_nil)) pa_nil)))))
      (pss_one (ps_ret pe_bl))
      pss_nil)
      (pss_cons (ps_set (i := 5) scKindsL.nd rfl (Or.inl rfl) pe_bl)
      (pss_cons (ps_if (pt_val (pv 4))
      (pss_one (ps_set (i := 5) scKindsL.nd rfl (Or.inl rfl) (pe_cmpR op_ge (pv 3) pe_int (nomark _))))
      pss_nil)
      (pss_cons (ps_if (pt_not (pt_val (pe_dn DTruthL (hr.mono (by omega)) (pa_cons (pe_dnKx KDIsNumber (hr.mono (by omega)) pass0 (pk_cons (pv 3) pk_nil)) (pa_cons (pv 5) pa_nil)))))
      (pss_one (ps_ret pe_bl))
      pss_nil)
      (pss_one (ps_if (pt_not (pt_val (pe_dn DTruthL (hr.mono (by omega)) (pa_cons (pe_dnKx KDIsPlace (hr.mono (by omega)) pass0 (pk_cons (pv 3) (pk_cons (pv 1) pk_nil))) (pa_cons (pe_dn DPlacedL (hr.mono (by omega)) (pa_cons (pe_ix ix_tup (pv 1) pe_int (fun _ _ => rfl)) (pa_cons (pv 3) pa_nil))) pa_nil)))))
      (pss_one (ps_ret pe_bl))
      pss_nil))))))))))
    (pss_one (ps_ret pe_bl))), ?_⟩
    have st0 : L2.start ["tape", "space", "turn", "thing", "whole", "number"] [V.ref t, V.ref s] = [some (V.ref t), some (V.ref s), none, none, none, none] := rfl
    rw [st0]
    walk_at "rds"
    refine ⟨by decide, by decide, ?_⟩
    refine for_range (lo := 0) (n := 3) (fun i σ' H' => Tq t l H' ∧ Sam H H' ∧ ∃ a b c e, σ' = [some (.ref t), some (.ref s), a, b, c, e]) ⟨Tt, Sam.refl, _, _, _, _, rfl⟩ ?_ ?_
    · rintro i σ' H1 hi ⟨T1, s1, a, b, c, e, rfl⟩
      have es1 : H1 s = _ := s1 _ _ nt_tup Ss.1
      walk_at "rds"
      refine ⟨t, l, n, rfl, Ss.2.1, Ss.2.2, T1, fun v d H2 rv bd T2 s2 => ?_⟩
      have es2 : H2 s = _ := s2 _ _ nt_tup es1
      walk_at "rds"
      refine ⟨v, d, rfl, rv, fun H3 t3 => ?_⟩
      have es3 : H3 s = _ := t3 _ _ es2
      have rv3 := rv.sm (Sam.of t3)
      have T3 := T2.to t3
      walk_at "rds"
      refine ⟨v, d, rfl, rv3, fun H4 t4 => ?_⟩
      have rv4 := rv3.sm (Sam.of t4)
      walk_at "rds"
      refine ⟨_, _, rfl, ?_⟩
      walk_at "rds"
      refine Rd.ifF (by simp) ?_
      walk_at "rds"
      refine ⟨v, d, rfl, rv4, fun H5 t5 => ?_⟩
      have rv5 := rv4.sm (Sam.of t5)
      walk_at "rds"
      refine ⟨v, d, rfl, rv5, bd, fun H6 t6 => ?_⟩
      have rv6 := rv5.sm (Sam.of t6)
      have es6 : H6 s = _ := t6 _ _ (t5 _ _ (t4 _ _ es3))
      have T6 := ((T3.to t4).to t5).to t6
      have s6 : Sam H H6 := (((((s1.trans s2).trans (Sam.of t3)).trans (Sam.of t4)).trans (Sam.of t5)).trans (Sam.of t6))
      clear t3 t4 t5 t6 rv rv3 rv4 rv5 es1 es2 es3 s1 s2 T1 T2 T3
      walk_at "rds"
      refine ⟨_, _, rfl, ?_⟩
      walk_at "rds"
      refine Rd.ifF (by simp) ?_
      walk_at "rds"
      refine Rd.ifB (fun h => ?_) fun h => ?_
      · obtain ⟨j, rfl, rfl⟩ := rp_dint rv6 h
        walk_at "rds"
        refine ⟨_, _, rfl, rv6, fun H7 t7 => ?_⟩
        have rv7 := rv6.sm (Sam.of t7)
        walk_at "rds"
        refine ⟨_, _, rfl, ?_⟩
        walk_at "rds"
        refine Rd.ifF (by first | (rw [hn]; rfl) | (simp only [dNum, decide_true]; rfl) | simp) ?_
        walk_at "rds"
        refine ⟨s, n, r, _, _, rfl, ⟨t7 _ _ es6, Ss.2⟩, rv7, fun H8 t8 => ?_⟩
        have rv8 := rv7.sm (Sam.of t8)
        have es8 := t8 _ _ (t7 _ _ es6)
        walk_at "rds"
        refine ⟨n, _, _, rfl, by have := Ss.2; omega, by have := Ss.2; omega, rv8, bd, fun H9 t9 => ?_⟩
        walk_at "rds"
        refine ⟨_, _, rfl, ?_⟩
        walk_at "rds"
        try (refine Rd.ifF (by simp) ?_; walk_at "rds")
        exact ⟨((T6.to t7).to t8).to t9, ((s6.trans (Sam.of t7)).trans (Sam.of t8)).trans (Sam.of t9), _, _, _, _, rfl⟩
      · have hn := dnum_of h
        walk_at "rds"
        refine ⟨_, _, rfl, rv6, fun H7 t7 => ?_⟩
        have rv7 := rv6.sm (Sam.of t7)
        walk_at "rds"
        refine ⟨_, _, rfl, ?_⟩
        walk_at "rds"
        refine Rd.ifF (by first | (rw [hn]; rfl) | (simp only [dNum, decide_true]; rfl) | simp) ?_
        walk_at "rds"
        refine ⟨s, n, r, _, _, rfl, ⟨t7 _ _ es6, Ss.2⟩, rv7, fun H8 t8 => ?_⟩
        have rv8 := rv7.sm (Sam.of t8)
        have es8 := t8 _ _ (t7 _ _ es6)
        walk_at "rds"
        refine ⟨n, _, _, rfl, by have := Ss.2; omega, by have := Ss.2; omega, rv8, bd, fun H9 t9 => ?_⟩
        walk_at "rds"
        refine ⟨_, _, rfl, ?_⟩
        walk_at "rds"
        try (refine Rd.ifF (by simp) ?_; walk_at "rds")
        exact ⟨((T6.to t7).to t8).to t9, ((s6.trans (Sam.of t7)).trans (Sam.of t8)).trans (Sam.of t9), _, _, _, _, rfl⟩
    · rintro σ' H1 ⟨T1, s1, a, b, c, e, rfl⟩
      walk_at "rds"
      exact kk _ T1 s1
end
end K15
end SecQ5
section SecQ6
set_option Elab.async false
set_option linter.all false
set_option maxRecDepth 100000
set_option maxHeartbeats 4000000
set_option pp.deepTerms false
local macro_rules | `(tactic| walk_at "tq") => `(tactic| first | assumption | (refine' Dt.Tq.to ?s0 ?h0; (case h0 => assumption); (case s0 => walk_at "same")))
local macro_rules | `(tactic| walk_at "same") => `(tactic| first | exact L2.Same.refl _ | assumption | (refine' L2.Same.trans ?s1 ?s2; (case s2 => assumption); (case s1 => walk_at "same")))
local macro_rules | `(tactic| walk_at "sam") => `(tactic| first | exact Dt.Sam.refl | assumption | exact Dt.Sam.of (by assumption) | (refine' Dt.Sam.trans ?s1 ?s2; (case s2 => first | assumption | exact Dt.Sam.of (by assumption)); (case s1 => walk_at "sam")))
local macro_rules | `(tactic| walk_at "tape") => `(tactic| first | assumption | (refine' Dt.Tape.mono ?h0 ?s0; (case h0 => assumption); (case s0 => walk_at "same")))
local macro_rules | `(tactic| walk_at "nt") => `(tactic| first | exact Dt.nt_tup | exact Dt.nt_ints | assumption | (intro a0 b0 c0 l0 z0; cases z0) | (intro a0 b0 c0 l0 z0; simp at z0))
local macro_rules | `(tactic| walk_at "heap") => `(tactic| first | assumption | exact L2.upd_same | (refine' Rd.at_to ?s0 ?h0; (case h0 => assumption); (case s0 => walk_at "same")) | (refine' Dt.at_sam ?n0 ?s0 ?h0; (case h0 => assumption); (case n0 => walk_at "nt"); (case s0 => walk_at "sam")))
local macro_rules | `(tactic| walk_at "rp") => `(tactic| first | exact Dt.Rp.int _ | exact Dt.Rp.bl _ | exact Dt.Rp.str _ | exact Dt.Rp.non | assumption | (refine' Dt.Rp.sm ?s0 ?h0; (case h0 => assumption); (case s0 => walk_at "sam")) | (refine' Dt.Rp.tup ?h1 ?h2 ?h3; (case h1 => walk_at "heap"); (case h2 => walk_at "rps"); (case h3 => first | assumption | (show _ ≤ 1000; decide) | (show _ ≤ 1000; simp) | (show _ ≤ 1000; omega))) | (refine' Dt.Rp.lst ?h1 ?h2 ?h3 ?h4; (case h1 => walk_at "heap"); (case h2 => walk_at "rps"); (case h3 => first | assumption | (show _ ≤ 1000; decide) | (show _ ≤ 1000; simp) | (show _ ≤ 1000; omega)); (case h4 => walk_at "nt")))
local macro_rules | `(tactic| walk_at "rps") => `(tactic| first | exact Dt.RpAll.nil | assumption | (refine' Dt.RpAll.cons ?h1 ?h2; (case h1 => walk_at "rp"); (case h2 => walk_at "rps")) | (refine' Dt.RpAll.sm ?s0 ?h0; (case h0 => assumption); (case s0 => walk_at "sam")))
local macro_rules | `(tactic| walk_at "rd") => `(tactic| first
  | with_reducible refine Rd.seq ?_ | with_reducible refine Rd.asg ?_ | with_reducible refine Rd.nm ?_ | with_reducible refine Rd.sub ?_ | with_reducible refine Rd.ret ?_ | with_reducible refine Rd.retN ?_
  | with_reducible refine Rd.drop ?_ | with_reducible refine Rd.ifs ?_ | with_reducible refine Rd.next ?_ | with_reducible refine Rd.cst ?_ | with_reducible refine Rd.op ?_ | with_reducible refine Rd.un ?_
  | with_reducible refine Rd.test ?_ | with_reducible refine Rd.tb' ?_ | with_reducible refine Rd.exb ?_ | with_reducible refine Rd.exi ?_ | with_reducible refine Rd.and2 ?_ | with_reducible refine Rd.or2 ?_ | with_reducible refine Rd.not1 ?_
  | with_reducible refine Rd.andV ?_ | with_reducible refine Rd.orV ?_ | with_reducible refine Rd.notV ?_ | with_reducible refine Rd.nil ?_ | with_reducible refine Rd.cons ?_ | with_reducible refine Rd.cb ?_
  | with_reducible refine Rd.i0 ?_ | with_reducible refine Rd.u1 ?_ | with_reducible refine Rd.call ?_ | with_reducible refine Rd.tup ?_ | with_reducible refine Rd.lst ?_ | with_reducible refine Rd.sl ?_ | with_reducible refine Rd.no ?_ | with_reducible refine Rd.part ?_ | with_reducible refine Rd.at_ ?_ | with_reducible refine Rd.yes ?_ | with_reducible refine Rd.fors ?_ | with_reducible refine Rd.m1 ?_ | with_reducible refine Rd.exs ?_ | with_reducible refine Rd.lc ?_ | with_reducible refine Rd.rng ?_
  | with_reducible refine Rd.mkv ?_ | with_reducible refine Rd.mko ?_ | with_reducible refine Rd.callB ?_ | with_reducible refine Rd.callS ?_ | with_reducible refine Rd.bm ?_ | with_reducible refine Rd.itl ?_ | with_reducible refine Rd.itt ?_
  | ((with_reducible refine' And.intro ?hl ?_); (case hl => ((with_reducible show List.length _ ≤ PySem.sizeLine); (show _ ≤ PySem.sizeLine); rw [PySem.sizeLine_eq]; simp)))
  | (intro p0 n0; generalize hK0 : L2.upd _ p0 _ = K0; obtain ⟨e0, t0⟩ := Dt.newK hK0 n0)
  | ((with_reducible refine' Rd.lenKL ?he ?_); (case he => walk_at "heap")) | ((with_reducible refine' Rd.lenKT ?he ?_); (case he => walk_at "heap"))
  | ((with_reducible refine' Rd.var ?hv ?_); (case hv => exact rfl))
  | ((with_reducible refine' Rd.ifT ?hv ?_); (case hv => first | exact rfl | assumption)) | ((with_reducible refine' Rd.ifF ?hv ?_); (case hv => first | exact rfl | assumption))
  | ((with_reducible refine' Rd.eq ?hv ?_); (case hv => exact rfl))
  | ((with_reducible refine' Rd.ne ?hv ?_); (case hv => exact rfl))
  | ((with_reducible refine' Dt.isi_int ?hr ?_); (case hr => walk_at "rp")) | ((with_reducible refine' Dt.isi_bool ?hr ?_); (case hr => walk_at "rp")) | ((with_reducible refine' Dt.isi_tuple ?hr ?_); (case hr => walk_at "rp")) | ((with_reducible refine' Dt.isi_str ?hr ?_); (case hr => walk_at "rp")) | ((with_reducible refine' Dt.isi_list ?hr ?_); (case hr => walk_at "rp"))
  | with_reducible refine ⟨rfl, ?_⟩ | with_reducible refine Or.inl ⟨_, rfl, ?_⟩ | with_reducible refine Or.inr ⟨_, rfl, ?_⟩ | with_reducible refine ⟨_, rfl, ?_⟩
  | ((with_reducible refine' Rd.ex2 ⟨rfl, ?hl, ?_⟩); (case hl => first | exact Or.inl ⟨_, L2.SqL.of (by walk_at "heap"), rfl⟩ | exact Or.inr ⟨_, L2.SqT.of (by walk_at "heap"), rfl⟩))
  | ((with_reducible refine' Rd.i1 ?hv ?_); (case hv => first | exact ⟨by decide, by decide, by decide⟩ | exact Or.inr ⟨by decide, by decide⟩ | exact Or.inl ⟨by decide, by decide⟩ | exact ⟨by decide, by decide⟩ | decide | assumption | (show _ ≠ _; omega) | (refine ⟨?_, ?_⟩ <;> omega) | (refine Or.inl ⟨?_, ?_⟩ <;> omega)))
  | ((with_reducible refine' Rd.ixL ?he ?hx ?_); (case he => walk_at "heap"); (case hx => rfl))
  | ((with_reducible refine' Rd.ixT ?he ?hx ?_); (case he => walk_at "heap"); (case hx => rfl))
  | ((with_reducible refine' Rd.setL ?he ?hx ?_); (case he => first | assumption | exact L2.upd_same); (case hx => rfl)))
local macro_rules | `(tactic| walk_at "rd") => `(tactic| first | with_reducible refine Rd.isT ?_ | with_reducible refine Rd.isnT ?_)
local macro_rules | `(tactic| walk_at "rd") => `(tactic| first | ((with_reducible refine' Rd.gtup ?he ?hl ?_); (case he => walk_at "heap"); (case hl => exact rfl)) | with_reducible refine Rd.brk ?_ | with_reducible refine Rd.callR ?_ | ((with_reducible refine' ⟨_, _, rfl, Or.inl ⟨L2.SqL.of ?hp, ?_⟩⟩); (case hp => walk_at "heap")) | ((with_reducible refine' ⟨_, _, rfl, Or.inl (L2.SqL.of ?hp), ?_⟩); (case hp => walk_at "heap")) | ((with_reducible refine' Rd.catL ?hp ?hq ?hl ?_); (case hp => walk_at "heap"); (case hq => walk_at "heap"); (case hl => (simp only [List.length_map, List.length_append, List.length_cons, List.length_nil]; omega)); (intro r0 J0 e0 t0 n0)) | with_reducible refine Rd.bits ?_ | with_reducible refine Rd.max2 ?_ | with_reducible refine Rd.gcons ?_ | with_reducible refine Rd.gnil ?_)
local macro_rules | `(tactic| walk_at "rds") => `(tactic| repeat (first | walk_at "rd" | assumption))
namespace K15
open PySem PySem.Spec PyProof.Rows L2 L2H Err Dt
/-- a quotient of a size -/
structure Qt (x y : Int) : Prop where
  pos : 1 ≤ y
  low : Nat.gcd x.natAbs y.natAbs = 1
  bx : x.natAbs ≤ 12000000000000000001
  bY : y.natAbs ≤ 12000000000000000001
theorem qt_of {x y a b : Int} (q : QF x y a b) (ha : a.natAbs ≤ 12000000000000000001) (hb : b.natAbs ≤ 12000000000000000001) : Qt x y := ⟨q.pos, q.low, Nat.le_trans q.le1 ha, Nat.le_trans q.le2 hb⟩
theorem le_sz {i : Int} (h : i.natAbs ≤ 12000000000000000001) : i.natAbs < 2 ^ 300 := Nat.lt_of_le_of_lt h (by decide +kernel)
def spTwo : Sp := fun vs H Q _ => ∃ t l : Addr, vs = [.ref t] ∧ Tq t l H ∧ ∀ (p p1 p2 : Addr) (x y z u : Int) (H' : Hp), H' p = some (.tup [.ref p1, .ref p2]) → H' p1 = some (.tup [.int x, .int y]) → H' p2 = some (.tup [.int z, .int u]) → Qt x y → Qt z u → Tq t l H' → Sam H H' → Q (.ref p) H'
/-- the first one, the other so far -/
def Mo (t l pl : Addr) (k x y : Int) (H0 : Hp) : L2.St → Hp → Prop := fun σ' H' => ∃ (r : Option V) (po : Addr) (z u : Int), σ' = [some (.ref t), r, some (.ref pl), some (.int k), some (.ref po)] ∧ H' pl = some (.tup [.int x, .int y]) ∧ H' po = some (.tup [.int z, .int u]) ∧ Qt z u ∧ Tq t l H' ∧ Sam H0 H'
theorem mo_mk {t l pl po : Addr} {k x y z u : Int} {H0 H' : Hp} {σ' : L2.St} {r : Option V} (e : σ' = [some (.ref t), r, some (.ref pl), some (.int k), some (.ref po)]) (h1 : H' pl = some (.tup [.int x, .int y])) (h2 : H' po = some (.tup [.int z, .int u])) (q : Qt z u) (T : Tq t l H') (s : Sam H0 H') : Mo t l pl k x y H0 σ' H' := ⟨r, po, z, u, e, h1, h2, q, T, s⟩
section
variable {P : Program} {w : World} {K : PySem.W.Frag} {mg : Str → Option Value} {base : Heap}
set_option pp.maxSteps 3000
abbrev sTwoL : Stmt := topS 47
theorem scTwoL : FnScope ["tape", "raw", "one", "kind", "other"] ["tape"] (defScope sTwoL) := ⟨rfl, rfl, rfl, by decide +kernel, rfl, by decide +kernel, by decide +kernel⟩
theorem okTwoL {f : Addr} {fd : FuncData} (F : Fun K "_law_two" "_law_two" sTwoL f fd) (T : Tx mg) (DDrawL : Dn P w K mg base CX0 "_law_draw" 1 ["tape", "many"] spDw) {CN : Addr} (KDQuotientOf : Dk P w K mg base (L2N.CX P w) "quotient_of" 4 ["top", "bottom"] (spQuotOf CN)) (DPairL : Dn P w K mg base CX0 "_law_pair" 3 ["tape"] spPairL) (DLowestL : Dn P w K mg base CX0 "_law_lowest" 2 ["top", "bottom"] spLowest) (DStandsL : Dn P w K mg base CX0 "_law_stands" 3 ["got", "top", "bottom"] spStands)  : FnOk P w K mg base CX0 5 f fd ["tape"] spTwo := by
  refine F.ok scTwoL (fun vs H Q E h => ?_) (fun cdv A outer s H vs Q E hr h => ?_)
  · obtain ⟨t, l, rfl, _⟩ := h
    rfl
  · obtain ⟨t, l, rfl, Tt, kk⟩ := h
    refine ⟨_, (pss_cons (ps_set (i := 1) scTwoL.nd rfl (Or.inl rfl) (pe_dn DPairL (hr.mono (by omega)) (pa_cons (pv 0) pa_nil)))
    (pss_cons (ps_if (pt_not (pt_val (pe_dn DStandsL (hr.mono (by omega)) (pa_cons (pe_dnKx KDQuotientOf (hr.mono (by omega)) passN0' (pk_cons (pe_ix ix_tup (pv 1) pe_int (fun _ _ => rfl)) (pk_cons (pe_ix ix_tup (pv 1) pe_int (fun _ _ => rfl)) pk_nil))) (pa_cons (pe_ix ix_tup (pv 1) pe_int (fun _ _ => rfl)) (pa_cons (pe_ix ix_tup (pv 1) pe_int (fun _ _ => rfl)) pa_nil))))))
    (pss_one (ps_ret pe_non))
    pss_nil)
    (pss_cons (ps_set (i := 2) scTwoL.nd rfl (Or.inl rfl) (pe_dn DLowestL (hr.mono (by omega)) (pa_cons (pe_ix ix_tup (pv 1) pe_int (fun _ _ => rfl)) (pa_cons (pe_ix ix_tup (pv 1) pe_int (fun _ _ => rfl)) pa_nil))))
    (pss_cons (ps_set (i := 3) scTwoL.nd rfl (Or.inl rfl) (pe_dn DDrawL (hr.mono (by omega)) (pa_cons (pv 0) (pa_cons pe_int pa_nil))))
    (pss_cons (ps_set (i := 4) scTwoL.nd rfl (Or.inl rfl) (pv 2))
    (C8.pss_cut (ps_if (pt_cmpR op_eq (pv 3) pe_int (nomark _))
    (pss_one (ps_set (i := 4) scTwoL.nd rfl (Or.inl rfl) (pe_tup (pa_cons pe_int (pa_cons pe_int pa_nil)))))
    pss_nil)
    (C8.pss_cut (ps_if (pt_cmpR op_eq (pv 3) pe_int (nomark _))
    (pss_one (ps_set (i := 4) scTwoL.nd rfl (Or.inl rfl) (pe_tup (pa_cons (pe_un un_neg (pe_ix ix_tup (pv 2) pe_int (fun _ _ => rfl))) (pa_cons (pe_ix ix_tup (pv 2) pe_int (fun _ _ => rfl)) pa_nil)))))
    pss_nil)
    (C8.pss_cut (ps_if (pt_cmpR op_eq (pv 3) pe_int (nomark _))
    (pss_one (ps_set (i := 4) scTwoL.nd rfl (Or.inl rfl) (pe_dn DLowestL (hr.mono (by omega)) (pa_cons (pe_op op_add (pe_ix ix_tup (pv 2) pe_int (fun _ _ => rfl)) pe_int) (pa_cons (pe_ix ix_tup (pv 2) pe_int (fun _ _ => rfl)) pa_nil)))))
    pss_nil)
    (C8.pss_cut (ps_if (pt_cmpR op_eq (pv 3) pe_int (nomark _))
    (pss_one (ps_set (i := 4) scTwoL.nd rfl (Or.inl rfl) (pe_dn DLowestL (hr.mono (by omega)) (pa_cons (pe_ix ix_tup (pv 2) pe_int (fun _ _ => rfl)) (pa_cons (pe_op op_add (pe_ix ix_tup (pv 2) pe_int (fun _ _ => rfl)) pe_int) pa_nil)))))
    pss_nil)
    (C8.pss_cut (ps_if (pt_cmpR op_gt (pv 3) pe_int (nomark _))
    (pss_cons (ps_set (i := 1) scTwoL.nd rfl (Or.inl rfl) (pe_dn DPairL (hr.mono (by omega)) (pa_cons (pv 0) pa_nil)))
      (pss_one (ps_set (i := 4) scTwoL.nd rfl (Or.inl rfl) (pe_dn DLowestL (hr.mono (by omega)) (pa_cons (pe_ix ix_tup (pv 1) pe_int (fun _ _ => rfl)) (pa_cons (pe_ix ix_tup (pv 1) pe_int (fun _ _ => rfl)) pa_nil))))))
    pss_nil)
    (pss_one (ps_ret (pe_tup (pa_cons (pv 2) (pa_cons (pv 4) pa_nil))))))))))))))), ?_⟩
    have st0 : L2.start ["tape", "raw", "one", "kind", "other"] [V.ref t] = [some (V.ref t), none, none, none, none] := rfl
    rw [st0]
    walk_at "rds"
    refine ⟨t, l, rfl, Tt, fun pp a b H1 ep b0 la ua lb ub T1 s1 => ?_⟩
    have ba : a.natAbs < 2 ^ 300 := bd3 (by omega) (by omega)
    have bb : b.natAbs < 2 ^ 300 := bd3 (by omega) (by omega)
    walk_at "rds"
    refine ⟨_, _, _, _, rfl, .int a, .int b, (fun z => by cases z), (fun _ z => absurd (of_decide_eq_true (by simpa [dNz] using z)) b0), fun a' b' e1 e2 _ => ?_⟩
    cases e1
    cases e2
    refine ⟨bd8 bb, fun p0 H2 x0 y0 e0 q0 t2 => ?_⟩
    have ep2 := t2 _ _ ep
    walk_at "rds"
    refine ⟨p0, x0, y0, a, b, rfl, e0, q0.mul, q0.pos, q0.low, bd9 (Nat.lt_of_le_of_lt q0.le1 ba), bd9 (Nat.lt_of_le_of_lt q0.le2 bb), bd9 ba, bd9 bb, fun H3 t3 => ?_⟩
    have ep3 := t3 _ _ ep2
    walk_at "rds"
    refine ⟨a, b, rfl, bd8 ba, bd8 bb, b0, fun pl H4 x y el q t4 => ?_⟩
    have T4 := ((T1.to t2).to t3).to t4
    have s4 : Sam H H4 := ((s1.trans (Sam.of t2)).trans (Sam.of t3)).trans (Sam.of t4)
    have qxy : Qt x y := qt_of q (by omega) (by omega)
    walk_at "rds"
    refine ⟨t, l, 8, rfl, T4, by decide, by decide, fun v3 H5 a3 b3 T5 s5 => ?_⟩
    have el5 := s5 _ _ nt_tup el
    have s05 : Sam H H5 := s4.trans s5
    clear ep ep2 ep3 e0 el t2 t3 t4 T1 T4 s4 s1 s5 q0
    have el := el5
    have ep := el5
    have T := T5
    have s := s05
    have q2 := qxy
    clear el5 T5 s05
    have hx : x.natAbs ≤ 12000000000000000000 := by have := q.le1; omega
    have hy : y.natAbs ≤ 12000000000000000000 := by have := q.le2; omega
    have y0 := qxy.pos
    walk_at "rds"
    refine cut_at (Mo t l pl v3 x y H) ?_ ?_
    · walk_at "rds"
      refine Rd.ifB (fun h => ?_) fun h => ?_
      · walk_at "rds"
        refine' mo_mk rfl ?h11 ?h21 ?q1 ?T1 ?s1
        case h11 => walk_at "heap"
        case h21 => walk_at "heap"
        case q1 => exact ⟨by decide, by decide, by decide, by decide⟩
        case T1 => walk_at "tq"
        case s1 => walk_at "sam"
      · walk_at "rds"
        exact mo_mk rfl el ep q2 T s
    clear el ep q2 T s
    rintro _ H4 ⟨r, po, z, u, rfl, el, ep, q2, T, s⟩
    try clear z3
    refine cut_at (Mo t l pl v3 x y H) ?_ ?_
    · walk_at "rds"
      refine Rd.ifB (fun h => ?_) fun h => ?_
      · walk_at "rds"
        refine' mo_mk rfl ?h12 ?h22 ?q2 ?T2 ?s2
        case h12 => walk_at "heap"
        case h22 => walk_at "heap"
        case q2 => exact ⟨qxy.pos, by rw [Int.natAbs_neg]; exact qxy.low, by rw [Int.natAbs_neg]; exact qxy.bx, qxy.bY⟩
        case T2 => walk_at "tq"
        case s2 => walk_at "sam"
      · walk_at "rds"
        exact mo_mk rfl el ep q2 T s
    clear el ep q2 T s
    rintro _ H4 ⟨r, po, z, u, rfl, el, ep, q2, T, s⟩
    try clear z3
    refine cut_at (Mo t l pl v3 x y H) ?_ ?_
    · walk_at "rds"
      refine Rd.ifB (fun h => ?_) fun h => ?_
      · walk_at "rds"
        refine ⟨_, _, rfl, bd8 (bd3 (by omega) (by omega)), bd8 (bd3 (by omega) (by omega)), by omega, fun pn Hn xn yn en qn tn => ?_⟩
        walk_at "rds"
        refine' mo_mk rfl ?h13 ?h23 ?q3 ?T3 ?s3
        case h13 => walk_at "heap"
        case h23 => walk_at "heap"
        case q3 => exact qt_of qn (by omega) (by omega)
        case T3 => walk_at "tq"
        case s3 => walk_at "sam"
      · walk_at "rds"
        exact mo_mk rfl el ep q2 T s
    clear el ep q2 T s
    rintro _ H4 ⟨r, po, z, u, rfl, el, ep, q2, T, s⟩
    try clear z3
    refine cut_at (Mo t l pl v3 x y H) ?_ ?_
    · walk_at "rds"
      refine Rd.ifB (fun h => ?_) fun h => ?_
      · walk_at "rds"
        refine ⟨_, _, rfl, bd8 (bd3 (by omega) (by omega)), bd8 (bd3 (by omega) (by omega)), by omega, fun pn Hn xn yn en qn tn => ?_⟩
        walk_at "rds"
        refine' mo_mk rfl ?h14 ?h24 ?q4 ?T4 ?s4
        case h14 => walk_at "heap"
        case h24 => walk_at "heap"
        case q4 => exact qt_of qn (by omega) (by omega)
        case T4 => walk_at "tq"
        case s4 => walk_at "sam"
      · walk_at "rds"
        exact mo_mk rfl el ep q2 T s
    clear el ep q2 T s
    rintro _ H4 ⟨r, po, z, u, rfl, el, ep, q2, T, s⟩
    try clear z3
    refine cut_at (Mo t l pl v3 x y H) ?_ ?_
    · walk_at "rds"
      refine Rd.ifB (fun h => ?_) fun h => ?_
      · walk_at "rds"
        refine ⟨t, l, rfl, T, fun pp a b H1 ep b0 la ua lb ub T1 s1 => ?_⟩
        walk_at "rds"
        refine ⟨_, _, rfl, bd8 (bd3 (by omega) (by omega)), bd8 (bd3 (by omega) (by omega)), b0, fun pn Hn xn yn en qn tn => ?_⟩
        walk_at "rds"
        refine' mo_mk rfl ?h15 ?h25 ?q5 ?T5 ?s5
        case h15 => walk_at "heap"
        case h25 => walk_at "heap"
        case q5 => exact qt_of qn (by omega) (by omega)
        case T5 => walk_at "tq"
        case s5 => walk_at "sam"
      · walk_at "rds"
        exact mo_mk rfl el ep q2 T s
    clear el ep q2 T s
    rintro _ H4 ⟨r, po, z, u, rfl, el, ep, q2, T, s⟩
    try clear z3
    walk_at "rds"
    refine' kk _ pl po x y z u _ ?ka ?kb ?kc qxy q2 ?kd ?ke
    case ka => walk_at "heap"
    case kb => walk_at "heap"
    case kc => walk_at "heap"
    case kd => walk_at "tq"
    case ke => walk_at "sam"
end
end K15
end SecQ6
section SecQ7
set_option Elab.async false
set_option linter.all false
set_option maxRecDepth 100000
set_option maxHeartbeats 4000000
set_option pp.deepTerms false
local macro_rules | `(tactic| walk_at "tq") => `(tactic| first | assumption | (refine' Dt.Tq.to ?s0 ?h0; (case h0 => assumption); (case s0 => walk_at "same")))
local macro_rules | `(tactic| walk_at "same") => `(tactic| first | exact L2.Same.refl _ | assumption | (refine' L2.Same.trans ?s1 ?s2; (case s2 => assumption); (case s1 => walk_at "same")))
local macro_rules | `(tactic| walk_at "sam") => `(tactic| first | exact Dt.Sam.refl | assumption | exact Dt.Sam.of (by assumption) | (refine' Dt.Sam.trans ?s1 ?s2; (case s2 => first | assumption | exact Dt.Sam.of (by assumption)); (case s1 => walk_at "sam")))
local macro_rules | `(tactic| walk_at "tape") => `(tactic| first | assumption | (refine' Dt.Tape.mono ?h0 ?s0; (case h0 => assumption); (case s0 => walk_at "same")))
local macro_rules | `(tactic| walk_at "nt") => `(tactic| first | exact Dt.nt_tup | exact Dt.nt_ints | assumption | (intro a0 b0 c0 l0 z0; cases z0) | (intro a0 b0 c0 l0 z0; simp at z0))
local macro_rules | `(tactic| walk_at "heap") => `(tactic| first | assumption | exact L2.upd_same | (refine' Rd.at_to ?s0 ?h0; (case h0 => assumption); (case s0 => walk_at "same")) | (refine' Dt.at_sam ?n0 ?s0 ?h0; (case h0 => assumption); (case n0 => walk_at "nt"); (case s0 => walk_at "sam")))
local macro_rules | `(tactic| walk_at "rp") => `(tactic| first | exact Dt.Rp.int _ | exact Dt.Rp.bl _ | exact Dt.Rp.str _ | exact Dt.Rp.non | assumption | (refine' Dt.Rp.sm ?s0 ?h0; (case h0 => assumption); (case s0 => walk_at "sam")) | (refine' Dt.Rp.tup ?h1 ?h2 ?h3; (case h1 => walk_at "heap"); (case h2 => walk_at "rps"); (case h3 => first | assumption | (show _ ≤ 1000; decide) | (show _ ≤ 1000; simp) | (show _ ≤ 1000; omega))) | (refine' Dt.Rp.lst ?h1 ?h2 ?h3 ?h4; (case h1 => walk_at "heap"); (case h2 => walk_at "rps"); (case h3 => first | assumption | (show _ ≤ 1000; decide) | (show _ ≤ 1000; simp) | (show _ ≤ 1000; omega)); (case h4 => walk_at "nt")))
local macro_rules | `(tactic| walk_at "rps") => `(tactic| first | exact Dt.RpAll.nil | assumption | (refine' Dt.RpAll.cons ?h1 ?h2; (case h1 => walk_at "rp"); (case h2 => walk_at "rps")) | (refine' Dt.RpAll.sm ?s0 ?h0; (case h0 => assumption); (case s0 => walk_at "sam")))
local macro_rules | `(tactic| walk_at "rd") => `(tactic| first
  | with_reducible refine Rd.seq ?_ | with_reducible refine Rd.asg ?_ | with_reducible refine Rd.nm ?_ | with_reducible refine Rd.sub ?_ | with_reducible refine Rd.ret ?_ | with_reducible refine Rd.retN ?_
  | with_reducible refine Rd.drop ?_ | with_reducible refine Rd.ifs ?_ | with_reducible refine Rd.next ?_ | with_reducible refine Rd.cst ?_ | with_reducible refine Rd.op ?_ | with_reducible refine Rd.un ?_
  | with_reducible refine Rd.test ?_ | with_reducible refine Rd.tb' ?_ | with_reducible refine Rd.exb ?_ | with_reducible refine Rd.exi ?_ | with_reducible refine Rd.and2 ?_ | with_reducible refine Rd.or2 ?_ | with_reducible refine Rd.not1 ?_
  | with_reducible refine Rd.andV ?_ | with_reducible refine Rd.orV ?_ | with_reducible refine Rd.notV ?_ | with_reducible refine Rd.nil ?_ | with_reducible refine Rd.cons ?_ | with_reducible refine Rd.cb ?_
  | with_reducible refine Rd.i0 ?_ | with_reducible refine Rd.u1 ?_ | with_reducible refine Rd.call ?_ | with_reducible refine Rd.tup ?_ | with_reducible refine Rd.lst ?_ | with_reducible refine Rd.sl ?_ | with_reducible refine Rd.no ?_ | with_reducible refine Rd.part ?_ | with_reducible refine Rd.at_ ?_ | with_reducible refine Rd.yes ?_ | with_reducible refine Rd.fors ?_ | with_reducible refine Rd.m1 ?_ | with_reducible refine Rd.exs ?_ | with_reducible refine Rd.lc ?_ | with_reducible refine Rd.rng ?_
  | with_reducible refine Rd.mkv ?_ | with_reducible refine Rd.mko ?_ | with_reducible refine Rd.callB ?_ | with_reducible refine Rd.callS ?_ | with_reducible refine Rd.bm ?_ | with_reducible refine Rd.itl ?_ | with_reducible refine Rd.itt ?_
  | ((with_reducible refine' And.intro ?hl ?_); (case hl => ((with_reducible show List.length _ ≤ PySem.sizeLine); (show _ ≤ PySem.sizeLine); rw [PySem.sizeLine_eq]; simp)))
  | (intro p0 n0; generalize hK0 : L2.upd _ p0 _ = K0; obtain ⟨e0, t0⟩ := Dt.newK hK0 n0)
  | ((with_reducible refine' Rd.lenKL ?he ?_); (case he => walk_at "heap")) | ((with_reducible refine' Rd.lenKT ?he ?_); (case he => walk_at "heap"))
  | ((with_reducible refine' Rd.var ?hv ?_); (case hv => exact rfl))
  | ((with_reducible refine' Rd.ifT ?hv ?_); (case hv => first | exact rfl | assumption)) | ((with_reducible refine' Rd.ifF ?hv ?_); (case hv => first | exact rfl | assumption))
  | ((with_reducible refine' Rd.eq ?hv ?_); (case hv => exact rfl))
  | ((with_reducible refine' Rd.ne ?hv ?_); (case hv => exact rfl))
  | ((with_reducible refine' Dt.isi_int ?hr ?_); (case hr => walk_at "rp")) | ((with_reducible refine' Dt.isi_bool ?hr ?_); (case hr => walk_at "rp")) | ((with_reducible refine' Dt.isi_tuple ?hr ?_); (case hr => walk_at "rp")) | ((with_reducible refine' Dt.isi_str ?hr ?_); (case hr => walk_at "rp")) | ((with_reducible refine' Dt.isi_list ?hr ?_); (case hr => walk_at "rp"))
  | with_reducible refine ⟨rfl, ?_⟩ | with_reducible refine Or.inl ⟨_, rfl, ?_⟩ | with_reducible refine Or.inr ⟨_, rfl, ?_⟩ | with_reducible refine ⟨_, rfl, ?_⟩
  | ((with_reducible refine' Rd.ex2 ⟨rfl, ?hl, ?_⟩); (case hl => first | exact Or.inl ⟨_, L2.SqL.of (by walk_at "heap"), rfl⟩ | exact Or.inr ⟨_, L2.SqT.of (by walk_at "heap"), rfl⟩))
  | ((with_reducible refine' Rd.i1 ?hv ?_); (case hv => first | exact ⟨by decide, by decide, by decide⟩ | exact Or.inr ⟨by decide, by decide⟩ | exact Or.inl ⟨by decide, by decide⟩ | exact ⟨by decide, by decide⟩ | decide | assumption | (show _ ≠ _; omega) | (refine ⟨?_, ?_⟩ <;> omega) | (refine Or.inl ⟨?_, ?_⟩ <;> omega)))
  | ((with_reducible refine' Rd.ixL ?he ?hx ?_); (case he => walk_at "heap"); (case hx => rfl))
  | ((with_reducible refine' Rd.ixT ?he ?hx ?_); (case he => walk_at "heap"); (case hx => rfl))
  | ((with_reducible refine' Rd.setL ?he ?hx ?_); (case he => first | assumption | exact L2.upd_same); (case hx => rfl)))
local macro_rules | `(tactic| walk_at "rd") => `(tactic| first | with_reducible refine Rd.isT ?_ | with_reducible refine Rd.isnT ?_)
local macro_rules | `(tactic| walk_at "rd") => `(tactic| first | ((with_reducible refine' Rd.gtup ?he ?hl ?_); (case he => walk_at "heap"); (case hl => exact rfl)) | with_reducible refine Rd.brk ?_ | with_reducible refine Rd.callR ?_ | ((with_reducible refine' ⟨_, _, rfl, Or.inl ⟨L2.SqL.of ?hp, ?_⟩⟩); (case hp => walk_at "heap")) | ((with_reducible refine' ⟨_, _, rfl, Or.inl (L2.SqL.of ?hp), ?_⟩); (case hp => walk_at "heap")) | ((with_reducible refine' Rd.catL ?hp ?hq ?hl ?_); (case hp => walk_at "heap"); (case hq => walk_at "heap"); (case hl => (simp only [List.length_map, List.length_append, List.length_cons, List.length_nil]; omega)); (intro r0 J0 e0 t0 n0)) | with_reducible refine Rd.bits ?_ | with_reducible refine Rd.max2 ?_ | with_reducible refine Rd.gcons ?_ | with_reducible refine Rd.gnil ?_)
local macro_rules | `(tactic| walk_at "rds") => `(tactic| repeat (first | walk_at "rd" | assumption))
namespace K15
open PySem PySem.Spec PyProof.Rows L2 L2H Err Dt
/-- the error's fields, as its dict has them -/
abbrev nuF (w : Str) (i : Int) : List (Str × V) := [(("at" : Str), .int i), (("word" : Str), .str w)]
def spNote (CN : Addr) (pl : List (Addr × Obj)) : Sp := fun vs H Q _ => ∃ (a : Addr) (w : Str) (i : Int), vs = [.ref a] ∧ ErrX pl H a CN (nuF w i) ∧ ∀ (p : Addr) (H' : Hp), H' p = some (.tup [.str "refused", .str w, .int i]) → Same H H' → Q (.ref p) H'
/-- the text's own classes, as far as they are asked -/
structure Nk (P : Program) (w : World) (K : PySem.W.Frag) (mg : Str → Option Value) (base : Heap) (CN SH ME : Addr) : Prop where
  L : Kl P w K mg base "NotUsable" CN ["word", "at"]
  gS : mg "ShapeError" = some (.ref SH)
  gM : mg "MeshError" = some (.ref ME)
  kS : PySem.W.kitOne K (.ref CN) (.ref SH) = some true
  kV : PySem.W.kitOne K (.ref CN) (.type "ValueError") = some true
  xN : PySem.W.exmOne K (.ref CN) (.ref CN) = some true
section
variable {P : Program} {w : World} {K : PySem.W.Frag} {mg : Str → Option Value} {base : Heap}
set_option pp.maxSteps 3000
abbrev sNoteL : Stmt := topS 53
theorem scNoteL : FnScope ["e"] ["e"] (defScope sNoteL) := ⟨rfl, rfl, rfl, by decide +kernel, rfl, by decide +kernel, by decide +kernel⟩
theorem okNoteL {f : Addr} {fd : FuncData} (F : Fun K "_law_note" "_law_note" sNoteL f fd) (T : Tx mg) {CN SH ME : Addr} (C : Nk P w K mg base CN SH ME) (DWholeM : Dm P w K mg base "_law_whole" 1 ["thing"] (fun _ => spIsInt)) : FnB P w K mg base 2 f fd ["e"] (spNote CN) := by
  refine fnB_of F scNoteL (fun pl vs H Q E h => ?_) (fun cdv A outer s H vs Q b pl hr mc h => ?_)
  · obtain ⟨a, z, i, rfl, _⟩ := h
    rfl
  · obtain ⟨a, z, i, rfl, he, kk⟩ := h
    refine ⟨_, (pss_cons (ps_if (PW.pt (pw_or (pt_not (pt_val (pe_callB call_isA (by rfl) T.n_isinstance (by decide +kernel) (pa_cons (pv 0) (pa_cons (pe_cls C.gS) pa_nil))))) (pw_or1 (pt_not (pt_val (pe_callB call_isA (by rfl) T.n_isinstance (by decide +kernel) (pa_cons (pv 0) (pa_cons (pe_bltn (v := .ty "ValueError") (u := .type "ValueError") rfl T.n_ValueError (by decide +kernel) rfl) pa_nil))))))))
    (pss_one (ps_ret (pe_tup (pa_cons pe_str pa_nil))))
    pss_nil)
    (pss_cons (ps_if (PW.pt (pw_or (pt_not (pt_val (pe_callB call_isi (by rfl) T.n_isinstance (by decide +kernel) (pa_cons (pe_at (pv 0)) (pa_cons (pe_bltn (v := .ty "str") (u := .type "str") rfl T.n_str (by decide +kernel) rfl) pa_nil))))) (pw_or1 (pt_not (pt_val (pe_dm DWholeM (hr.mono (by omega)) mc (pa_cons (pe_at (pv 0)) pa_nil)))))))
    (pss_one (ps_ret (pe_tup (pa_cons pe_str pa_nil))))
    pss_nil)
    (pss_one (ps_ret (pe_tup (pa_cons pe_str (pa_cons (pe_at (pv 0)) (pa_cons (pe_at (pv 0)) pa_nil)))))))), ?_⟩
    have st0 : L2.start ["e"] [V.ref a] = [some (V.ref a)] := rfl
    rw [st0]
    obtain ⟨d, hE, hD⟩ := fld_of he
    have ec := C.L.ec
    walk_at "rds"
    refine isA_of ec he (.own _) C.kS ?_
    walk_at "rds"
    refine isA_of ec he (.ty _) C.kV ?_
    walk_at "rds"
    refine ⟨a, _, d, _, .str z, rfl, ec, C.L.no _ (by exact List.mem_cons_self), EAt.seen hE, hD, by rfl, ?_⟩
    walk_at "rds"
    refine ⟨a, _, d, _, .int i, rfl, ec, C.L.no _ (by exact List.mem_cons_of_mem _ List.mem_cons_self), EAt.seen hE, hD, by rfl, ?_⟩
    walk_at "rds"
    refine ⟨_, _, rfl, .int i, fun H1 t1 => ?_⟩
    have he1 := he.mono t1
    obtain ⟨d1, hE1, hD1⟩ := fld_of he1
    walk_at "rds"
    refine ⟨a, _, d1, _, .str z, rfl, ec, C.L.no _ (by exact List.mem_cons_self), EAt.seen hE1, hD1, by rfl, ?_⟩
    walk_at "rds"
    refine ⟨a, _, d1, _, .int i, rfl, ec, C.L.no _ (by exact List.mem_cons_of_mem _ List.mem_cons_self), EAt.seen hE1, hD1, by rfl, ?_⟩
    walk_at "rds"
    exact kk _ _ (by assumption) (by walk_at "same")
end
end K15
end SecQ7
section SecQ8
set_option Elab.async false
set_option linter.all false
set_option maxRecDepth 100000
set_option maxHeartbeats 4000000
set_option pp.deepTerms false
local macro_rules | `(tactic| walk_at "tq") => `(tactic| first | assumption | (refine' Dt.Tq.to ?s0 ?h0; (case h0 => assumption); (case s0 => walk_at "same")))
local macro_rules | `(tactic| walk_at "same") => `(tactic| first | exact L2.Same.refl _ | assumption | (refine' L2.Same.trans ?s1 ?s2; (case s2 => assumption); (case s1 => walk_at "same")))
local macro_rules | `(tactic| walk_at "sam") => `(tactic| first | exact Dt.Sam.refl | assumption | exact Dt.Sam.of (by assumption) | (refine' Dt.Sam.trans ?s1 ?s2; (case s2 => first | assumption | exact Dt.Sam.of (by assumption)); (case s1 => walk_at "sam")))
local macro_rules | `(tactic| walk_at "tape") => `(tactic| first | assumption | (refine' Dt.Tape.mono ?h0 ?s0; (case h0 => assumption); (case s0 => walk_at "same")))
local macro_rules | `(tactic| walk_at "nt") => `(tactic| first | exact Dt.nt_tup | exact Dt.nt_ints | assumption | (intro a0 b0 c0 l0 z0; cases z0) | (intro a0 b0 c0 l0 z0; simp at z0))
local macro_rules | `(tactic| walk_at "heap") => `(tactic| first | assumption | exact L2.upd_same | (refine' Rd.at_to ?s0 ?h0; (case h0 => assumption); (case s0 => walk_at "same")) | (refine' Dt.at_sam ?n0 ?s0 ?h0; (case h0 => assumption); (case n0 => walk_at "nt"); (case s0 => walk_at "sam")))
local macro_rules | `(tactic| walk_at "rp") => `(tactic| first | exact Dt.Rp.int _ | exact Dt.Rp.bl _ | exact Dt.Rp.str _ | exact Dt.Rp.non | assumption | (refine' Dt.Rp.sm ?s0 ?h0; (case h0 => assumption); (case s0 => walk_at "sam")) | (refine' Dt.Rp.tup ?h1 ?h2 ?h3; (case h1 => walk_at "heap"); (case h2 => walk_at "rps"); (case h3 => first | assumption | (show _ ≤ 1000; decide) | (show _ ≤ 1000; simp) | (show _ ≤ 1000; omega))) | (refine' Dt.Rp.lst ?h1 ?h2 ?h3 ?h4; (case h1 => walk_at "heap"); (case h2 => walk_at "rps"); (case h3 => first | assumption | (show _ ≤ 1000; decide) | (show _ ≤ 1000; simp) | (show _ ≤ 1000; omega)); (case h4 => walk_at "nt")))
local macro_rules | `(tactic| walk_at "rps") => `(tactic| first | exact Dt.RpAll.nil | assumption | (refine' Dt.RpAll.cons ?h1 ?h2; (case h1 => walk_at "rp"); (case h2 => walk_at "rps")) | (refine' Dt.RpAll.sm ?s0 ?h0; (case h0 => assumption); (case s0 => walk_at "sam")))
local macro_rules | `(tactic| walk_at "rd") => `(tactic| first
  | with_reducible refine Rd.seq ?_ | with_reducible refine Rd.asg ?_ | with_reducible refine Rd.nm ?_ | with_reducible refine Rd.sub ?_ | with_reducible refine Rd.ret ?_ | with_reducible refine Rd.retN ?_
  | with_reducible refine Rd.drop ?_ | with_reducible refine Rd.ifs ?_ | with_reducible refine Rd.next ?_ | with_reducible refine Rd.cst ?_ | with_reducible refine Rd.op ?_ | with_reducible refine Rd.un ?_
  | with_reducible refine Rd.test ?_ | with_reducible refine Rd.tb' ?_ | with_reducible refine Rd.exb ?_ | with_reducible refine Rd.exi ?_ | with_reducible refine Rd.and2 ?_ | with_reducible refine Rd.or2 ?_ | with_reducible refine Rd.not1 ?_
  | with_reducible refine Rd.andV ?_ | with_reducible refine Rd.orV ?_ | with_reducible refine Rd.notV ?_ | with_reducible refine Rd.nil ?_ | with_reducible refine Rd.cons ?_ | with_reducible refine Rd.cb ?_
  | with_reducible refine Rd.i0 ?_ | with_reducible refine Rd.u1 ?_ | with_reducible refine Rd.call ?_ | with_reducible refine Rd.tup ?_ | with_reducible refine Rd.lst ?_ | with_reducible refine Rd.sl ?_ | with_reducible refine Rd.no ?_ | with_reducible refine Rd.part ?_ | with_reducible refine Rd.at_ ?_ | with_reducible refine Rd.yes ?_ | with_reducible refine Rd.fors ?_ | with_reducible refine Rd.m1 ?_ | with_reducible refine Rd.exs ?_ | with_reducible refine Rd.lc ?_ | with_reducible refine Rd.rng ?_
  | with_reducible refine Rd.mkv ?_ | with_reducible refine Rd.mko ?_ | with_reducible refine Rd.callB ?_ | with_reducible refine Rd.callS ?_ | with_reducible refine Rd.bm ?_ | with_reducible refine Rd.itl ?_ | with_reducible refine Rd.itt ?_
  | ((with_reducible refine' And.intro ?hl ?_); (case hl => ((with_reducible show List.length _ ≤ PySem.sizeLine); (show _ ≤ PySem.sizeLine); rw [PySem.sizeLine_eq]; simp)))
  | (intro p0 n0; generalize hK0 : L2.upd _ p0 _ = K0; obtain ⟨e0, t0⟩ := Dt.newK hK0 n0)
  | ((with_reducible refine' Rd.lenKL ?he ?_); (case he => walk_at "heap")) | ((with_reducible refine' Rd.lenKT ?he ?_); (case he => walk_at "heap"))
  | ((with_reducible refine' Rd.var ?hv ?_); (case hv => exact rfl))
  | ((with_reducible refine' Rd.ifT ?hv ?_); (case hv => first | exact rfl | assumption)) | ((with_reducible refine' Rd.ifF ?hv ?_); (case hv => first | exact rfl | assumption))
  | ((with_reducible refine' Rd.eq ?hv ?_); (case hv => exact rfl))
  | ((with_reducible refine' Rd.ne ?hv ?_); (case hv => exact rfl))
  | ((with_reducible refine' Dt.isi_int ?hr ?_); (case hr => walk_at "rp")) | ((with_reducible refine' Dt.isi_bool ?hr ?_); (case hr => walk_at "rp")) | ((with_reducible refine' Dt.isi_tuple ?hr ?_); (case hr => walk_at "rp")) | ((with_reducible refine' Dt.isi_str ?hr ?_); (case hr => walk_at "rp")) | ((with_reducible refine' Dt.isi_list ?hr ?_); (case hr => walk_at "rp"))
  | with_reducible refine ⟨rfl, ?_⟩ | with_reducible refine Or.inl ⟨_, rfl, ?_⟩ | with_reducible refine Or.inr ⟨_, rfl, ?_⟩ | with_reducible refine ⟨_, rfl, ?_⟩
  | ((with_reducible refine' Rd.ex2 ⟨rfl, ?hl, ?_⟩); (case hl => first | exact Or.inl ⟨_, L2.SqL.of (by walk_at "heap"), rfl⟩ | exact Or.inr ⟨_, L2.SqT.of (by walk_at "heap"), rfl⟩))
  | ((with_reducible refine' Rd.i1 ?hv ?_); (case hv => first | exact ⟨by decide, by decide, by decide⟩ | exact Or.inr ⟨by decide, by decide⟩ | exact Or.inl ⟨by decide, by decide⟩ | exact ⟨by decide, by decide⟩ | decide | assumption | (show _ ≠ _; omega) | (refine ⟨?_, ?_⟩ <;> omega) | (refine Or.inl ⟨?_, ?_⟩ <;> omega)))
  | ((with_reducible refine' Rd.ixL ?he ?hx ?_); (case he => walk_at "heap"); (case hx => rfl))
  | ((with_reducible refine' Rd.ixT ?he ?hx ?_); (case he => walk_at "heap"); (case hx => rfl))
  | ((with_reducible refine' Rd.setL ?he ?hx ?_); (case he => first | assumption | exact L2.upd_same); (case hx => rfl)))
local macro_rules | `(tactic| walk_at "rd") => `(tactic| first | with_reducible refine Rd.isT ?_ | with_reducible refine Rd.isnT ?_)
local macro_rules | `(tactic| walk_at "rd") => `(tactic| first | ((with_reducible refine' Rd.gtup ?he ?hl ?_); (case he => walk_at "heap"); (case hl => exact rfl)) | with_reducible refine Rd.brk ?_ | with_reducible refine Rd.callR ?_ | ((with_reducible refine' ⟨_, _, rfl, Or.inl ⟨L2.SqL.of ?hp, ?_⟩⟩); (case hp => walk_at "heap")) | ((with_reducible refine' ⟨_, _, rfl, Or.inl (L2.SqL.of ?hp), ?_⟩); (case hp => walk_at "heap")) | ((with_reducible refine' Rd.catL ?hp ?hq ?hl ?_); (case hp => walk_at "heap"); (case hq => walk_at "heap"); (case hl => (simp only [List.length_map, List.length_append, List.length_cons, List.length_nil]; omega)); (intro r0 J0 e0 t0 n0)) | with_reducible refine Rd.bits ?_ | with_reducible refine Rd.max2 ?_ | with_reducible refine Rd.gcons ?_ | with_reducible refine Rd.gnil ?_)
local macro_rules | `(tactic| walk_at "rds") => `(tactic| repeat (first | walk_at "rd" | assumption))
namespace K15
open PySem PySem.Spec PyProof.Rows L2 L2H Err Dt
def Sd : PyData → Prop | .int i => Sm i | .tuple ds => ∀ i, PyData.int i ∈ ds → Sm i | _ => True
def dZ : PyData → Bool | .tuple [.int c, .int _] => decide (c = 0) | _ => false
/-- the word of the refusal -/
def rTold (i : Int) (d1 d2 : PyData) : Option Str :=
  if i = 0 then (if dInt d1 = true then (if dNz d2 = true then none else some "bottom") else some "top")
  else if dLow 2 d1 = true then (if dLow 2 d2 = true then (if i = 4 ∧ dZ d2 = true then some "other" else none) else some "other") else some "one"
def spTold : Sp := fun vs H Q _ => ∃ (i : Int) (u v : V) (d1 d2 : PyData), vs = [.int i, u, v] ∧ 0 ≤ i ∧ i ≤ 5 ∧ Rp H u d1 ∧ Rp H v d2 ∧ Sd d1 ∧ Sd d2 ∧
  (∀ (z : Str) (p : Addr) (H' : Hp), rTold i d1 d2 = some z → H' p = some (.tup [.str "refused", .str z, .int (-1)]) → Same H H' → Q (.ref p) H') ∧
  (∀ (p : Addr) (H' : Hp), rTold i d1 d2 = none → H' p = some (.tup [.str "let"]) → Same H H' → Q (.ref p) H')
theorem sdp {a b : Int} {d : PyData} (h : Sd d) (e : d = .tuple [.int a, .int b]) : Sm a ∧ Sm b := by
  rw [e] at h
  exact ⟨h a (by simp), h b (by simp)⟩
theorem sm8 {b : Int} (h : Sm b) : b.natAbs < 2 ^ 8000 := Nat.lt_of_lt_of_le h (Nat.pow_le_pow_right (by decide) (by decide))
section
variable {P : Program} {w : World} {K : PySem.W.Frag} {mg : Str → Option Value} {base : Heap}
set_option pp.maxSteps 3000
abbrev sToldL : Stmt := topS 54
theorem scToldL : FnScope ["which", "one", "other", "e"] ["which", "one", "other"] (defScope sToldL) := ⟨rfl, rfl, rfl, by decide +kernel, rfl, by decide +kernel, by decide +kernel⟩
theorem okToldL {f : Addr} {fd : FuncData} (F : Fun K "_law_told" "_law_told" sToldL f fd) (T : Tx mg) {CN SH ME : Addr} (C : Nk P w K mg base CN SH ME) (DNoteM : Dm P w K mg base "_law_note" 2 ["e"] (spNote CN)) (DQuotientOf : Dn P w K mg base (L2N.CX P w) "quotient_of" 4 ["top", "bottom"] (spQuotOf CN)) (DPlus : Dn P w K mg base (L2N.CX P w) "plus" 5 ["one", "other"] (spBin CN (fun _ => true) (fun a b c d => a * d + c * b) (fun a b c d => b * d))) (DMinus : Dn P w K mg base (L2N.CX P w) "minus" 5 ["one", "other"] (spBin CN (fun _ => true) (fun a b c d => a * d - c * b) (fun a b c d => b * d))) (DTimes : Dn P w K mg base (L2N.CX P w) "times" 5 ["one", "other"] (spBin CN (fun _ => true) (fun a b c d => a * c) (fun a b c d => b * d))) (DOver : Dn P w K mg base (L2N.CX P w) "over" 5 ["one", "other"] (spBin CN (fun c => !decide (c = 0)) (fun a b c d => a * d) (fun a b c d => b * c))) (DLess : Dn P w K mg base (L2N.CX P w) "less" 5 ["one", "other"] (spLess CN))  : FnOk P w K mg base CX0 6 f fd ["which", "one", "other"] spTold := by
  refine F.ok scToldL (fun vs H Q E h => ?_) (fun cdv A outer s H vs Q E hr h => ?_)
  · obtain ⟨i, u, v, d1, d2, rfl, _⟩ := h
    rfl
  · obtain ⟨i, u, v, d1, d2, rfl, i0, i5, r1, r2, z1, z2, k1, k2⟩ := h
    refine ⟨_, (pss_cons (ps_trys (Wout := fun _ _ _ _ => False) rfl rfl scToldL.nd takes0N
    (fun W pn xe tk _ => (pss_one (ps_if (pt_cmpR op_eq (pv 0) pe_int (nomark _))
      (pss_one (ps_expr (pe_dnS DQuotientOf (hr.mono (by omega)) tk (pa_cons (pv 1) (pa_cons (pv 2) pa_nil)))))
      (pss_one (ps_if (pt_cmpR op_eq (pv 0) pe_int (nomark _))
        (pss_one (ps_expr (pe_dnS DPlus (hr.mono (by omega)) tk (pa_cons (pv 1) (pa_cons (pv 2) pa_nil)))))
        (pss_one (ps_if (pt_cmpR op_eq (pv 0) pe_int (nomark _))
          (pss_one (ps_expr (pe_dnS DMinus (hr.mono (by omega)) tk (pa_cons (pv 1) (pa_cons (pv 2) pa_nil)))))
          (pss_one (ps_if (pt_cmpR op_eq (pv 0) pe_int (nomark _))
            (pss_one (ps_expr (pe_dnS DTimes (hr.mono (by omega)) tk (pa_cons (pv 1) (pa_cons (pv 2) pa_nil)))))
            (pss_one (ps_if (pt_cmpR op_eq (pv 0) pe_int (nomark _))
              (pss_one (ps_expr (pe_dnS DOver (hr.mono (by omega)) tk (pa_cons (pv 1) (pa_cons (pv 2) pa_nil)))))
              (pss_one (ps_expr (pe_dnS DLess (hr.mono (by omega)) tk (pa_cons (pv 1) (pa_cons (pv 2) pa_nil))))))))))))))))
    (ClOk.as (i := 3) (ts := (fun a cls d => tsAll cls d fun oe pn => _)) (tst_name ⟨rfl, by decide, .inl C.L.g⟩) rfl rfl (fun a oe cls d pn hz hf => pss_all (pn := pn) hz hf (pss_one (ps_ret (pe_dm DNoteM (roomH_mk (hr.mono (by omega)) _) (mood_suite hz hf) (pa_cons (pv 3) pa_nil)))))
    (ClOk.only (ts := (fun a cls d => tsAll cls d fun oe pn => _)) (tst_name ⟨rfl, by decide, .inl C.gM⟩) (fun a oe cls d pn hz hf => pss_all (pn := pn) hz hf (pss_one (ps_ret (pe_tup (pa_cons pe_str pa_nil))))) ClOk.nil)))
    (pss_one (ps_ret (pe_tup (pa_cons pe_str pa_nil))))), ?_⟩
    have st0 : L2.start ["which", "one", "other", "e"] [V.int i, u, v] = [some (V.int i), some (u), some (v), none] := rfl
    rw [st0]
    rcases (by omega : i = 0 ∨ i = 1 ∨ i = 2 ∨ i = 3 ∨ i = 4 ∨ i = 5) with rfl | rfl | rfl | rfl | rfl | rfl
    · walk_at "rds"
      refine ⟨u, v, d1, d2, rfl, r1, r2, fun e1 => ?_, fun e1 e2 => ?_, fun a b e1 e2 b0 => ⟨?_, fun p H8 x y hp q s8 => ?_⟩⟩
      ·
        intro dd H9 hd s9
        refine ⟨_, C.xN, fun _ a9 na => ?_, fun n => (by cases n)⟩
        intro oe pn hz hf
        refine Rd.ret ?_
        walk_at "rds"
        refine ⟨a9, "top", -1, rfl, .inr ⟨dd, .inr ⟨oe, List.mem_cons_self, ⟨hz.1, hz.2.1⟩, hf⟩, .inl hd⟩, fun p9 H10 e10 s10 => ?_⟩
        exact k1 _ p9 H10 (by simp [rTold, e1]) e10 (s9.trans s10)
      ·
        intro dd H9 hd s9
        refine ⟨_, C.xN, fun _ a9 na => ?_, fun n => (by cases n)⟩
        intro oe pn hz hf
        refine Rd.ret ?_
        walk_at "rds"
        refine ⟨a9, "bottom", -1, rfl, .inr ⟨dd, .inr ⟨oe, List.mem_cons_self, ⟨hz.1, hz.2.1⟩, hf⟩, .inl hd⟩, fun p9 H10 e10 s10 => ?_⟩
        exact k1 _ p9 H10 (by simp [rTold, e1, e2]) e10 (s9.trans s10)
      · subst e2
        exact sm8 z2
      ·
        walk_at "rds"
        refine' k2 _ _ ?hn ?hp ?hs
        case hn => simp [rTold, e1, e2, dInt, dNz, b0]
        case hp => walk_at "heap"
        case hs => walk_at "same"
    · walk_at "rds"
      refine ⟨u, v, d1, d2, rfl, r1, r2, fun e1 => ?_, fun e1 e2 => ?_, fun a b c d e1 e2 l1 l2 => ⟨fun z => ?_, fun z => ⟨(sdp z1 e1).1, (sdp z1 e1).2, (sdp z2 e2).1, (sdp z2 e2).2, fun p H8 x y hp q s8 => ?_⟩⟩⟩
      ·
        intro dd H9 hd s9
        refine ⟨_, C.xN, fun _ a9 na => ?_, fun n => (by cases n)⟩
        intro oe pn hz hf
        refine Rd.ret ?_
        walk_at "rds"
        refine ⟨a9, "one", -1, rfl, .inr ⟨dd, .inr ⟨oe, List.mem_cons_self, ⟨hz.1, hz.2.1⟩, hf⟩, .inl hd⟩, fun p9 H10 e10 s10 => ?_⟩
        exact k1 _ p9 H10 (by simp [rTold, e1]) e10 (s9.trans s10)
      ·
        intro dd H9 hd s9
        refine ⟨_, C.xN, fun _ a9 na => ?_, fun n => (by cases n)⟩
        intro oe pn hz hf
        refine Rd.ret ?_
        walk_at "rds"
        refine ⟨a9, "other", -1, rfl, .inr ⟨dd, .inr ⟨oe, List.mem_cons_self, ⟨hz.1, hz.2.1⟩, hf⟩, .inl hd⟩, fun p9 H10 e10 s10 => ?_⟩
        exact k1 _ p9 H10 (by simp [rTold, e1, e2]) e10 (s9.trans s10)
      · cases z
      ·
        walk_at "rds"
        refine' k2 _ _ ?hn ?hp ?hs
        case hn => simp [rTold, l1, l2]
        case hp => walk_at "heap"
        case hs => walk_at "same"
    · walk_at "rds"
      refine ⟨u, v, d1, d2, rfl, r1, r2, fun e1 => ?_, fun e1 e2 => ?_, fun a b c d e1 e2 l1 l2 => ⟨fun z => ?_, fun z => ⟨(sdp z1 e1).1, (sdp z1 e1).2, (sdp z2 e2).1, (sdp z2 e2).2, fun p H8 x y hp q s8 => ?_⟩⟩⟩
      ·
        intro dd H9 hd s9
        refine ⟨_, C.xN, fun _ a9 na => ?_, fun n => (by cases n)⟩
        intro oe pn hz hf
        refine Rd.ret ?_
        walk_at "rds"
        refine ⟨a9, "one", -1, rfl, .inr ⟨dd, .inr ⟨oe, List.mem_cons_self, ⟨hz.1, hz.2.1⟩, hf⟩, .inl hd⟩, fun p9 H10 e10 s10 => ?_⟩
        exact k1 _ p9 H10 (by simp [rTold, e1]) e10 (s9.trans s10)
      ·
        intro dd H9 hd s9
        refine ⟨_, C.xN, fun _ a9 na => ?_, fun n => (by cases n)⟩
        intro oe pn hz hf
        refine Rd.ret ?_
        walk_at "rds"
        refine ⟨a9, "other", -1, rfl, .inr ⟨dd, .inr ⟨oe, List.mem_cons_self, ⟨hz.1, hz.2.1⟩, hf⟩, .inl hd⟩, fun p9 H10 e10 s10 => ?_⟩
        exact k1 _ p9 H10 (by simp [rTold, e1, e2]) e10 (s9.trans s10)
      · cases z
      ·
        walk_at "rds"
        refine' k2 _ _ ?hn ?hp ?hs
        case hn => simp [rTold, l1, l2]
        case hp => walk_at "heap"
        case hs => walk_at "same"
    · walk_at "rds"
      refine ⟨u, v, d1, d2, rfl, r1, r2, fun e1 => ?_, fun e1 e2 => ?_, fun a b c d e1 e2 l1 l2 => ⟨fun z => ?_, fun z => ⟨(sdp z1 e1).1, (sdp z1 e1).2, (sdp z2 e2).1, (sdp z2 e2).2, fun p H8 x y hp q s8 => ?_⟩⟩⟩
      ·
        intro dd H9 hd s9
        refine ⟨_, C.xN, fun _ a9 na => ?_, fun n => (by cases n)⟩
        intro oe pn hz hf
        refine Rd.ret ?_
        walk_at "rds"
        refine ⟨a9, "one", -1, rfl, .inr ⟨dd, .inr ⟨oe, List.mem_cons_self, ⟨hz.1, hz.2.1⟩, hf⟩, .inl hd⟩, fun p9 H10 e10 s10 => ?_⟩
        exact k1 _ p9 H10 (by simp [rTold, e1]) e10 (s9.trans s10)
      ·
        intro dd H9 hd s9
        refine ⟨_, C.xN, fun _ a9 na => ?_, fun n => (by cases n)⟩
        intro oe pn hz hf
        refine Rd.ret ?_
        walk_at "rds"
        refine ⟨a9, "other", -1, rfl, .inr ⟨dd, .inr ⟨oe, List.mem_cons_self, ⟨hz.1, hz.2.1⟩, hf⟩, .inl hd⟩, fun p9 H10 e10 s10 => ?_⟩
        exact k1 _ p9 H10 (by simp [rTold, e1, e2]) e10 (s9.trans s10)
      · cases z
      ·
        walk_at "rds"
        refine' k2 _ _ ?hn ?hp ?hs
        case hn => simp [rTold, l1, l2]
        case hp => walk_at "heap"
        case hs => walk_at "same"
    · walk_at "rds"
      refine ⟨u, v, d1, d2, rfl, r1, r2, fun e1 => ?_, fun e1 e2 => ?_, fun a b c d e1 e2 l1 l2 => ⟨fun z => ?_, fun z => ⟨(sdp z1 e1).1, (sdp z1 e1).2, (sdp z2 e2).1, (sdp z2 e2).2, fun p H8 x y hp q s8 => ?_⟩⟩⟩
      ·
        intro dd H9 hd s9
        refine ⟨_, C.xN, fun _ a9 na => ?_, fun n => (by cases n)⟩
        intro oe pn hz hf
        refine Rd.ret ?_
        walk_at "rds"
        refine ⟨a9, "one", -1, rfl, .inr ⟨dd, .inr ⟨oe, List.mem_cons_self, ⟨hz.1, hz.2.1⟩, hf⟩, .inl hd⟩, fun p9 H10 e10 s10 => ?_⟩
        exact k1 _ p9 H10 (by simp [rTold, e1]) e10 (s9.trans s10)
      ·
        intro dd H9 hd s9
        refine ⟨_, C.xN, fun _ a9 na => ?_, fun n => (by cases n)⟩
        intro oe pn hz hf
        refine Rd.ret ?_
        walk_at "rds"
        refine ⟨a9, "other", -1, rfl, .inr ⟨dd, .inr ⟨oe, List.mem_cons_self, ⟨hz.1, hz.2.1⟩, hf⟩, .inl hd⟩, fun p9 H10 e10 s10 => ?_⟩
        exact k1 _ p9 H10 (by simp [rTold, e1, e2]) e10 (s9.trans s10)
      ·
        have zz : dZ d2 = true := (by rw [e2]; simpa [dZ] using z)
        intro dd H9 hd s9
        refine ⟨_, C.xN, fun _ a9 na => ?_, fun n => (by cases n)⟩
        intro oe pn hz hf
        refine Rd.ret ?_
        walk_at "rds"
        refine ⟨a9, "other", -1, rfl, .inr ⟨dd, .inr ⟨oe, List.mem_cons_self, ⟨hz.1, hz.2.1⟩, hf⟩, .inl hd⟩, fun p9 H10 e10 s10 => ?_⟩
        exact k1 _ p9 H10 (by simp [rTold, l1, l2, zz]) e10 (s9.trans s10)
      ·
        have zz : dZ d2 = false := (by rw [e2]; simpa [dZ] using z)
        walk_at "rds"
        refine' k2 _ _ ?hn ?hp ?hs
        case hn => simp [rTold, l1, l2, zz]
        case hp => walk_at "heap"
        case hs => walk_at "same"
    · walk_at "rds"
      refine ⟨u, v, d1, d2, rfl, r1, r2, fun e1 => ?_, fun e1 e2 => ?_, fun a b c d e1 e2 l1 l2 => ⟨(sdp z1 e1).1, (sdp z1 e1).2, (sdp z2 e2).1, (sdp z2 e2).2, fun H8 s8 => ?_⟩⟩
      ·
        intro dd H9 hd s9
        refine ⟨_, C.xN, fun _ a9 na => ?_, fun n => (by cases n)⟩
        intro oe pn hz hf
        refine Rd.ret ?_
        walk_at "rds"
        refine ⟨a9, "one", -1, rfl, .inr ⟨dd, .inr ⟨oe, List.mem_cons_self, ⟨hz.1, hz.2.1⟩, hf⟩, .inl hd⟩, fun p9 H10 e10 s10 => ?_⟩
        exact k1 _ p9 H10 (by simp [rTold, e1]) e10 (s9.trans s10)
      ·
        intro dd H9 hd s9
        refine ⟨_, C.xN, fun _ a9 na => ?_, fun n => (by cases n)⟩
        intro oe pn hz hf
        refine Rd.ret ?_
        walk_at "rds"
        refine ⟨a9, "other", -1, rfl, .inr ⟨dd, .inr ⟨oe, List.mem_cons_self, ⟨hz.1, hz.2.1⟩, hf⟩, .inl hd⟩, fun p9 H10 e10 s10 => ?_⟩
        exact k1 _ p9 H10 (by simp [rTold, e1, e2]) e10 (s9.trans s10)
      ·
        walk_at "rds"
        refine' k2 _ _ ?hn ?hp ?hs
        case hn => simp [rTold, l1, l2]
        case hp => walk_at "heap"
        case hs => walk_at "same"
end
end K15
end SecQ8
section SecQ9
set_option Elab.async false
set_option linter.all false
set_option maxRecDepth 100000
set_option maxHeartbeats 4000000
set_option pp.deepTerms false
local macro_rules | `(tactic| walk_at "tq") => `(tactic| first | assumption | (refine' Dt.Tq.to ?s0 ?h0; (case h0 => assumption); (case s0 => walk_at "same")))
local macro_rules | `(tactic| walk_at "same") => `(tactic| first | exact L2.Same.refl _ | assumption | (refine' L2.Same.trans ?s1 ?s2; (case s2 => assumption); (case s1 => walk_at "same")))
local macro_rules | `(tactic| walk_at "sam") => `(tactic| first | exact Dt.Sam.refl | assumption | exact Dt.Sam.of (by assumption) | (refine' Dt.Sam.trans ?s1 ?s2; (case s2 => first | assumption | exact Dt.Sam.of (by assumption)); (case s1 => walk_at "sam")))
local macro_rules | `(tactic| walk_at "tape") => `(tactic| first | assumption | (refine' Dt.Tape.mono ?h0 ?s0; (case h0 => assumption); (case s0 => walk_at "same")))
local macro_rules | `(tactic| walk_at "nt") => `(tactic| first | exact Dt.nt_tup | exact Dt.nt_ints | assumption | (intro a0 b0 c0 l0 z0; cases z0) | (intro a0 b0 c0 l0 z0; simp at z0))
local macro_rules | `(tactic| walk_at "heap") => `(tactic| first | assumption | exact L2.upd_same | (refine' Rd.at_to ?s0 ?h0; (case h0 => assumption); (case s0 => walk_at "same")) | (refine' Dt.at_sam ?n0 ?s0 ?h0; (case h0 => assumption); (case n0 => walk_at "nt"); (case s0 => walk_at "sam")))
local macro_rules | `(tactic| walk_at "rp") => `(tactic| first | exact Dt.Rp.int _ | exact Dt.Rp.bl _ | exact Dt.Rp.str _ | exact Dt.Rp.non | assumption | (refine' Dt.Rp.sm ?s0 ?h0; (case h0 => assumption); (case s0 => walk_at "sam")) | (refine' Dt.Rp.tup ?h1 ?h2 ?h3; (case h1 => walk_at "heap"); (case h2 => walk_at "rps"); (case h3 => first | assumption | (show _ ≤ 1000; decide) | (show _ ≤ 1000; simp) | (show _ ≤ 1000; omega))) | (refine' Dt.Rp.lst ?h1 ?h2 ?h3 ?h4; (case h1 => walk_at "heap"); (case h2 => walk_at "rps"); (case h3 => first | assumption | (show _ ≤ 1000; decide) | (show _ ≤ 1000; simp) | (show _ ≤ 1000; omega)); (case h4 => walk_at "nt")))
local macro_rules | `(tactic| walk_at "rps") => `(tactic| first | exact Dt.RpAll.nil | assumption | (refine' Dt.RpAll.cons ?h1 ?h2; (case h1 => walk_at "rp"); (case h2 => walk_at "rps")) | (refine' Dt.RpAll.sm ?s0 ?h0; (case h0 => assumption); (case s0 => walk_at "sam")))
local macro_rules | `(tactic| walk_at "rd") => `(tactic| first
  | with_reducible refine Rd.seq ?_ | with_reducible refine Rd.asg ?_ | with_reducible refine Rd.nm ?_ | with_reducible refine Rd.sub ?_ | with_reducible refine Rd.ret ?_ | with_reducible refine Rd.retN ?_
  | with_reducible refine Rd.drop ?_ | with_reducible refine Rd.ifs ?_ | with_reducible refine Rd.next ?_ | with_reducible refine Rd.cst ?_ | with_reducible refine Rd.op ?_ | with_reducible refine Rd.un ?_
  | with_reducible refine Rd.test ?_ | with_reducible refine Rd.tb' ?_ | with_reducible refine Rd.exb ?_ | with_reducible refine Rd.exi ?_ | with_reducible refine Rd.and2 ?_ | with_reducible refine Rd.or2 ?_ | with_reducible refine Rd.not1 ?_
  | with_reducible refine Rd.andV ?_ | with_reducible refine Rd.orV ?_ | with_reducible refine Rd.notV ?_ | with_reducible refine Rd.nil ?_ | with_reducible refine Rd.cons ?_ | with_reducible refine Rd.cb ?_
  | with_reducible refine Rd.i0 ?_ | with_reducible refine Rd.u1 ?_ | with_reducible refine Rd.call ?_ | with_reducible refine Rd.tup ?_ | with_reducible refine Rd.lst ?_ | with_reducible refine Rd.sl ?_ | with_reducible refine Rd.no ?_ | with_reducible refine Rd.part ?_ | with_reducible refine Rd.at_ ?_ | with_reducible refine Rd.yes ?_ | with_reducible refine Rd.fors ?_ | with_reducible refine Rd.m1 ?_ | with_reducible refine Rd.exs ?_ | with_reducible refine Rd.lc ?_ | with_reducible refine Rd.rng ?_
  | with_reducible refine Rd.mkv ?_ | with_reducible refine Rd.mko ?_ | with_reducible refine Rd.callB ?_ | with_reducible refine Rd.callS ?_ | with_reducible refine Rd.bm ?_ | with_reducible refine Rd.itl ?_ | with_reducible refine Rd.itt ?_
  | ((with_reducible refine' And.intro ?hl ?_); (case hl => ((with_reducible show List.length _ ≤ PySem.sizeLine); (show _ ≤ PySem.sizeLine); rw [PySem.sizeLine_eq]; simp)))
  | (intro p0 n0; generalize hK0 : L2.upd _ p0 _ = K0; obtain ⟨e0, t0⟩ := Dt.newK hK0 n0)
  | ((with_reducible refine' Rd.lenKL ?he ?_); (case he => walk_at "heap")) | ((with_reducible refine' Rd.lenKT ?he ?_); (case he => walk_at "heap"))
  | ((with_reducible refine' Rd.var ?hv ?_); (case hv => exact rfl))
  | ((with_reducible refine' Rd.ifT ?hv ?_); (case hv => first | exact rfl | assumption)) | ((with_reducible refine' Rd.ifF ?hv ?_); (case hv => first | exact rfl | assumption))
  | ((with_reducible refine' Rd.eq ?hv ?_); (case hv => exact rfl))
  | ((with_reducible refine' Rd.ne ?hv ?_); (case hv => exact rfl))
  | ((with_reducible refine' Dt.isi_int ?hr ?_); (case hr => walk_at "rp")) | ((with_reducible refine' Dt.isi_bool ?hr ?_); (case hr => walk_at "rp")) | ((with_reducible refine' Dt.isi_tuple ?hr ?_); (case hr => walk_at "rp")) | ((with_reducible refine' Dt.isi_str ?hr ?_); (case hr => walk_at "rp")) | ((with_reducible refine' Dt.isi_list ?hr ?_); (case hr => walk_at "rp"))
  | with_reducible refine ⟨rfl, ?_⟩ | with_reducible refine Or.inl ⟨_, rfl, ?_⟩ | with_reducible refine Or.inr ⟨_, rfl, ?_⟩ | with_reducible refine ⟨_, rfl, ?_⟩
  | ((with_reducible refine' Rd.ex2 ⟨rfl, ?hl, ?_⟩); (case hl => first | exact Or.inl ⟨_, L2.SqL.of (by walk_at "heap"), rfl⟩ | exact Or.inr ⟨_, L2.SqT.of (by walk_at "heap"), rfl⟩))
  | ((with_reducible refine' Rd.i1 ?hv ?_); (case hv => first | exact ⟨by decide, by decide, by decide⟩ | exact Or.inr ⟨by decide, by decide⟩ | exact Or.inl ⟨by decide, by decide⟩ | exact ⟨by decide, by decide⟩ | decide | assumption | (show _ ≠ _; omega) | (refine ⟨?_, ?_⟩ <;> omega) | (refine Or.inl ⟨?_, ?_⟩ <;> omega)))
  | ((with_reducible refine' Rd.ixL ?he ?hx ?_); (case he => walk_at "heap"); (case hx => rfl))
  | ((with_reducible refine' Rd.ixT ?he ?hx ?_); (case he => walk_at "heap"); (case hx => rfl))
  | ((with_reducible refine' Rd.setL ?he ?hx ?_); (case he => first | assumption | exact L2.upd_same); (case hx => rfl)))
local macro_rules | `(tactic| walk_at "rd") => `(tactic| first | with_reducible refine Rd.isT ?_ | with_reducible refine Rd.isnT ?_)
local macro_rules | `(tactic| walk_at "rd") => `(tactic| first | ((with_reducible refine' Rd.gtup ?he ?hl ?_); (case he => walk_at "heap"); (case hl => exact rfl)) | with_reducible refine Rd.brk ?_ | with_reducible refine Rd.callR ?_ | ((with_reducible refine' ⟨_, _, rfl, Or.inl ⟨L2.SqL.of ?hp, ?_⟩⟩); (case hp => walk_at "heap")) | ((with_reducible refine' ⟨_, _, rfl, Or.inl (L2.SqL.of ?hp), ?_⟩); (case hp => walk_at "heap")) | ((with_reducible refine' Rd.catL ?hp ?hq ?hl ?_); (case hp => walk_at "heap"); (case hq => walk_at "heap"); (case hl => (simp only [List.length_map, List.length_append, List.length_cons, List.length_nil]; omega)); (intro r0 J0 e0 t0 n0)) | with_reducible refine Rd.bits ?_ | with_reducible refine Rd.max2 ?_ | with_reducible refine Rd.gcons ?_ | with_reducible refine Rd.gnil ?_)
local macro_rules | `(tactic| walk_at "rds") => `(tactic| repeat (first | walk_at "rd" | assumption))
namespace K15
open PySem PySem.Spec PyProof.Rows L2 L2H Err Dt
theorem huR {k : Nat} {A : Around} (r : Room k A) : A.units + 64 < cLine := by
  have := r.un
  omega
theorem sm_of {i : Int} (h : i.natAbs ≤ 12000000000000000001) : Sm i := Nat.lt_of_le_of_lt h (by decide +kernel)
theorem qd {x y : Int} (q : Qt x y) : dLow 2 (.tuple [.int x, .int y]) = true := low_of q.pos q.low
theorem bin_of {CN : Addr} {ok : Int → Bool} {tf bf : Int → Int → Int → Int → Int} {H : Hp} {p1 p2 : Addr} {x y z u : Int} {Q : VK} {E : XK} (h1 : H p1 = some (.tup [.int x, .int y])) (h2 : H p2 = some (.tup [.int z, .int u])) (q1 : Qt x y) (q2 : Qt z u) (hok : ok z = true)
    (k : ∀ (p : Addr) (H' : Hp) (v w : Int), H' p = some (.tup [.int v, .int w]) → QF v w (tf x y z u) (bf x y z u) → Same H H' → Q (.ref p) H') : spBin CN ok tf bf [.ref p1, .ref p2] H Q E := by
  refine ⟨_, _, _, _, rfl, rp_q h1, rp_q h2, fun e => ?_, fun _ e => ?_, fun a b c d e1 e2 _ _ => ?_⟩
  · rw [qd q1] at e; cases e
  · rw [qd q2] at e; cases e
  · cases e1
    cases e2
    exact ⟨fun e => (by rw [hok] at e; cases e), fun _ => ⟨sm_of q1.bx, sm_of q1.bY, sm_of q2.bx, sm_of q2.bY, k⟩⟩
theorem less_of {CN : Addr} {H : Hp} {p1 p2 : Addr} {x y z u : Int} {Q : VK} {E : XK} (h1 : H p1 = some (.tup [.int x, .int y])) (h2 : H p2 = some (.tup [.int z, .int u])) (q1 : Qt x y) (q2 : Qt z u)
    (k : ∀ H', Same H H' → Q (.bl (decide (x * u < z * y))) H') : spLess CN [.ref p1, .ref p2] H Q E := by
  refine ⟨_, _, _, _, rfl, rp_q h1, rp_q h2, fun e => ?_, fun _ e => ?_, fun a b c d e1 e2 _ _ => ?_⟩
  · rw [qd q1] at e; cases e
  · rw [qd q2] at e; cases e
  · cases e1
    cases e2
    exact ⟨sm_of q1.bx, sm_of q1.bY, sm_of q2.bx, sm_of q2.bY, k⟩
theorem m8 {i j : Int} (hi : i.natAbs ≤ 12000000000000000001) (hj : j.natAbs ≤ 12000000000000000001) : (i * j).natAbs ≤ 144000000000000000024000000000000000001 := by
  rw [Int.natAbs_mul]
  exact Nat.mul_le_mul hi hj
theorem m9 {i : Int} (h : i.natAbs ≤ 288000000000000000048000000000000000002) : i.natAbs < 2 ^ 300 := Nat.lt_of_le_of_lt h (by decide +kernel)
theorem st_of {H : Hp} {p : Addr} {v w a b : Int} {Q : VK} {E : XK} (e : H p = some (.tup [.int v, .int w])) (q : QF v w a b) (ha : a.natAbs ≤ 288000000000000000048000000000000000002) (hb : b.natAbs ≤ 288000000000000000048000000000000000002)
    (k : ∀ H', Same H H' → Q (.bl true) H') : spStands [.ref p, .int a, .int b] H Q E :=
  ⟨p, v, w, a, b, rfl, e, q.mul, q.pos, q.low, bd9 (m9 (Nat.le_trans q.le1 ha)), bd9 (m9 (Nat.le_trans q.le2 hb)), bd9 (m9 ha), bd9 (m9 hb), k⟩
theorem told_eq {K : PySem.W.Frag} {H : Hp} {p q : Addr} {z : Str} {Q : VK} (hz : SeqAt.shaped (.tuple [.str "refused", .str z, .int (-1)]) = true) (hp : H p = some (.tup [.str "refused", .str z, .int (-1)])) (hq : H q = some (.tup [.str "refused", .str z, .int (-1)])) (k : Q (.bl true) H) : rEqD K (.ref p) (.ref q) H Q := by
  refine ⟨_, _, .tup (SqT.of hp) (.cons (.str _) (.cons (.str _) (.cons (.int _) .nil))), .tup (SqT.of hq) (.cons (.str _) (.cons (.str _) (.cons (.int _) .nil))), hz, hz, ?_⟩
  rw [SeqAt.eqv_refl _ (SeqAt.canLay_of_shaped hz)]
  exact k
theorem sdq {x y : Int} (q : Qt x y) : Sd (.tuple [.int x, .int y]) := fun i hi => by
  rcases List.mem_cons.mp hi with h | hi
  · cases h; exact sm_of q.bx
  · rcases List.mem_cons.mp hi with h | hi
    · cases h; exact sm_of q.bY
    · cases hi
def spSums : Sp := fun vs H Q _ => ∃ t l : Addr, vs = [.ref t] ∧ Tq t l H ∧ ∀ H', Tq t l H' → Sam H H' → Q (.bl true) H'
section
variable {P : Program} {w : World} {K : PySem.W.Frag} {mg : Str → Option Value} {base : Heap}
set_option pp.maxSteps 3000
abbrev sSumsL : Stmt := topS 48
theorem scSumsL : FnScope ["tape", "both", "a", "b", "c", "d"] ["tape"] (defScope sSumsL) := ⟨rfl, rfl, rfl, by decide +kernel, rfl, by decide +kernel, by decide +kernel⟩
theorem okSumsL {f : Addr} {fd : FuncData} (F : Fun K "_law_sums" "_law_sums" sSumsL f fd) (T : Tx mg) {CN : Addr} (DTwoL : Dn P w K mg base CX0 "_law_two" 5 ["tape"] spTwo) (DStandsL : Dn P w K mg base CX0 "_law_stands" 3 ["got", "top", "bottom"] spStands) (DTruthL : Dn P w K mg base CX0 "_law_truth" 1 ["got", "due"] spTruth) (DToldL : Dn P w K mg base CX0 "_law_told" 6 ["which", "one", "other"] spTold) (DLess : Dn P w K mg base (L2N.CX P w) "less" 5 ["one", "other"] (spLess CN)) (KDPlus : Dk P w K mg base (L2N.CX P w) "plus" 5 ["one", "other"] (spBin CN (fun _ => true) (fun a b c d => a * d + c * b) (fun a b c d => b * d))) (KDMinus : Dk P w K mg base (L2N.CX P w) "minus" 5 ["one", "other"] (spBin CN (fun _ => true) (fun a b c d => a * d - c * b) (fun a b c d => b * d))) (KDTimes : Dk P w K mg base (L2N.CX P w) "times" 5 ["one", "other"] (spBin CN (fun _ => true) (fun a b c d => a * c) (fun a b c d => b * d))) (KDOver : Dk P w K mg base (L2N.CX P w) "over" 5 ["one", "other"] (spBin CN (fun c => !decide (c = 0)) (fun a b c d => a * d) (fun a b c d => b * c))) (KDLess : Dk P w K mg base (L2N.CX P w) "less" 5 ["one", "other"] (spLess CN))  : FnOk P w K mg base CX0 7 f fd ["tape"] spSums := by
  refine F.ok scSumsL (fun vs H Q E h => ?_) (fun cdv A outer s H vs Q E hr h => ?_)
  · obtain ⟨t, l, rfl, _⟩ := h
    rfl
  · obtain ⟨t, l, rfl, Tt, kk⟩ := h
    refine ⟨_, (pss_cons (ps_set (i := 1) scSumsL.nd rfl (Or.inl rfl) (pe_dn DTwoL (hr.mono (by omega)) (pa_cons (pv 0) pa_nil)))
    (pss_cons (ps_if (pt_cmpR op_isN (pv 1) pe_non (nomark _))
    (pss_one (ps_ret pe_bl))
    pss_nil)
    (pss_cons (ps_set (i := 2) scSumsL.nd rfl (Or.inl rfl) (pe_ix ix_tup (pe_ix ix_tup (pv 1) pe_int (fun _ _ => rfl)) pe_int (fun _ _ => rfl)))
    (pss_cons (ps_set (i := 3) scSumsL.nd rfl (Or.inl rfl) (pe_ix ix_tup (pe_ix ix_tup (pv 1) pe_int (fun _ _ => rfl)) pe_int (fun _ _ => rfl)))
    (pss_cons (ps_set (i := 4) scSumsL.nd rfl (Or.inl rfl) (pe_ix ix_tup (pe_ix ix_tup (pv 1) pe_int (fun _ _ => rfl)) pe_int (fun _ _ => rfl)))
    (pss_cons (ps_set (i := 5) scSumsL.nd rfl (Or.inl rfl) (pe_ix ix_tup (pe_ix ix_tup (pv 1) pe_int (fun _ _ => rfl)) pe_int (fun _ _ => rfl)))
    (pss_cons (ps_if (pt_not (pt_val (pe_dn DStandsL (hr.mono (by omega)) (pa_cons (pe_dnKx KDPlus (hr.mono (by omega)) passN0' (pk_cons (pe_ix ix_tup (pv 1) pe_int (fun _ _ => rfl)) (pk_cons (pe_ix ix_tup (pv 1) pe_int (fun _ _ => rfl)) pk_nil))) (pa_cons (pe_op op_add (pe_op op_mulW (pv 2) (pv 5)) (pe_op op_mulW (pv 4) (pv 3))) (pa_cons (pe_op op_mulW (pv 3) (pv 5)) pa_nil))))))
    (pss_one (ps_ret pe_bl))
    pss_nil)
    (pss_cons (ps_if (pt_not (pt_val (pe_dn DStandsL (hr.mono (by omega)) (pa_cons (pe_dnKx KDMinus (hr.mono (by omega)) passN0' (pk_cons (pe_ix ix_tup (pv 1) pe_int (fun _ _ => rfl)) (pk_cons (pe_ix ix_tup (pv 1) pe_int (fun _ _ => rfl)) pk_nil))) (pa_cons (pe_op op_sub (pe_op op_mulW (pv 2) (pv 5)) (pe_op op_mulW (pv 4) (pv 3))) (pa_cons (pe_op op_mulW (pv 3) (pv 5)) pa_nil))))))
    (pss_one (ps_ret pe_bl))
    pss_nil)
    (pss_cons (ps_if (pt_not (pt_val (pe_dn DStandsL (hr.mono (by omega)) (pa_cons (pe_dnKx KDTimes (hr.mono (by omega)) passN0' (pk_cons (pe_ix ix_tup (pv 1) pe_int (fun _ _ => rfl)) (pk_cons (pe_ix ix_tup (pv 1) pe_int (fun _ _ => rfl)) pk_nil))) (pa_cons (pe_op op_mulW (pv 2) (pv 4)) (pa_cons (pe_op op_mulW (pv 3) (pv 5)) pa_nil))))))
    (pss_one (ps_ret pe_bl))
    pss_nil)
    (pss_cons (ps_if (pt_not (pt_val (pe_dn DTruthL (hr.mono (by omega)) (pa_cons (pe_dnKx KDLess (hr.mono (by omega)) passN0' (pk_cons (pe_ix ix_tup (pv 1) pe_int (fun _ _ => rfl)) (pk_cons (pe_ix ix_tup (pv 1) pe_int (fun _ _ => rfl)) pk_nil))) (pa_cons (pe_cmpR op_lt (pe_op op_mulW (pv 2) (pv 5)) (pe_op op_mulW (pv 4) (pv 3)) (nomark _)) pa_nil)))))
    (pss_one (ps_ret pe_bl))
    pss_nil)
    (pss_cons (ps_if (PW.pt (pw_or (pt_not (pt_val (pe_dn DTruthL (hr.mono (by omega)) (pa_cons (pe_dn0 DLess (hr.mono (by omega)) (pa_cons (pe_ix ix_tup (pv 1) pe_int (fun _ _ => rfl)) (pa_cons (pe_ix ix_tup (pv 1) pe_int (fun _ _ => rfl)) pa_nil))) (pa_cons (pe_cmpR op_lt (pe_op op_mulW (pv 4) (pv 3)) (pe_op op_mulW (pv 2) (pv 5)) (nomark _)) pa_nil))))) (pw_or1 (pt_not (pt_val (pe_dn DTruthL (hr.mono (by omega)) (pa_cons (pe_dn0 DLess (hr.mono (by omega)) (pa_cons (pe_ix ix_tup (pv 1) pe_int (fun _ _ => rfl)) (pa_cons (pe_ix ix_tup (pv 1) pe_int (fun _ _ => rfl)) pa_nil))) (pa_cons pe_bl pa_nil))))))))
    (pss_one (ps_ret pe_bl))
    pss_nil)
    (pss_cons (ps_if (pt_cmpR op_eq (pv 4) pe_int (nomark _))
    (pss_one (ps_ret (pe_cmpR (op_eqD (huR hr)) (pe_dn DToldL (hr.mono (by omega)) (pa_cons pe_int (pa_cons (pe_ix ix_tup (pv 1) pe_int (fun _ _ => rfl)) (pa_cons (pe_ix ix_tup (pv 1) pe_int (fun _ _ => rfl)) pa_nil)))) (pe_tup (pa_cons pe_str (pa_cons pe_str (pa_cons (pe_un un_neg pe_int) pa_nil)))) (nomark _))))
    pss_nil)
    (pss_one (ps_ret (pe_dn DStandsL (hr.mono (by omega)) (pa_cons (pe_dnKx KDOver (hr.mono (by omega)) passN0' (pk_cons (pe_ix ix_tup (pv 1) pe_int (fun _ _ => rfl)) (pk_cons (pe_ix ix_tup (pv 1) pe_int (fun _ _ => rfl)) pk_nil))) (pa_cons (pe_op op_mulW (pv 2) (pv 5)) (pa_cons (pe_op op_mulW (pv 3) (pv 4)) pa_nil)))))))))))))))))), ?_⟩
    have st0 : L2.start ["tape", "both", "a", "b", "c", "d"] [V.ref t] = [some (V.ref t), none, none, none, none, none] := rfl
    rw [st0]
    walk_at "rds"
    refine ⟨t, l, rfl, Tt, fun pb p1 p2 x y z u H1 fp f1 f2 q1 q2 T s => ?_⟩
    have w1 : CMulW x u := sm_mul (sm_of q1.bx) (sm_of q2.bY)
    have w2 : CMulW z y := sm_mul (sm_of q2.bx) (sm_of q1.bY)
    have w3 : CMulW y u := sm_mul (sm_of q1.bY) (sm_of q2.bY)
    have w4 : CMulW x z := sm_mul (sm_of q1.bx) (sm_of q2.bx)
    have w5 : CMulW y z := sm_mul (sm_of q1.bY) (sm_of q2.bx)
    have b1 := m8 q1.bx q2.bY
    have b2 := m8 q2.bx q1.bY
    have b3 := m8 q1.bY q2.bY
    have b4 := m8 q1.bx q2.bx
    have b5 := m8 q1.bY q2.bx
    walk_at "rds"
    refine bin_of f1 f2 q1 q2 (by rfl) fun pr2 G2 v2 w2 e2 qf2 t2 => ?_
    have f1 := t2 _ _ f1
    have f2 := t2 _ _ f2
    have fp := t2 _ _ fp
    have T := T.to t2
    have s := s.trans (Sam.of t2)
    clear t2
    walk_at "rds"
    refine st_of e2 qf2 (by omega) (by omega) fun G3 t3 => ?_
    have f1 := t3 _ _ f1
    have f2 := t3 _ _ f2
    have fp := t3 _ _ fp
    have T := T.to t3
    have s := s.trans (Sam.of t3)
    clear t3
    walk_at "rds"
    refine bin_of f1 f2 q1 q2 (by rfl) fun pr4 G4 v4 w4 e4 qf4 t4 => ?_
    have f1 := t4 _ _ f1
    have f2 := t4 _ _ f2
    have fp := t4 _ _ fp
    have T := T.to t4
    have s := s.trans (Sam.of t4)
    clear t4
    walk_at "rds"
    refine st_of e4 qf4 (by omega) (by omega) fun G5 t5 => ?_
    have f1 := t5 _ _ f1
    have f2 := t5 _ _ f2
    have fp := t5 _ _ fp
    have T := T.to t5
    have s := s.trans (Sam.of t5)
    clear t5
    walk_at "rds"
    refine bin_of f1 f2 q1 q2 (by rfl) fun pr6 G6 v6 w6 e6 qf6 t6 => ?_
    have f1 := t6 _ _ f1
    have f2 := t6 _ _ f2
    have fp := t6 _ _ fp
    have T := T.to t6
    have s := s.trans (Sam.of t6)
    clear t6
    walk_at "rds"
    refine st_of e6 qf6 (by omega) (by omega) fun G7 t7 => ?_
    have f1 := t7 _ _ f1
    have f2 := t7 _ _ f2
    have fp := t7 _ _ fp
    have T := T.to t7
    have s := s.trans (Sam.of t7)
    clear t7
    walk_at "rds"
    refine less_of f1 f2 q1 q2 fun G8 t8 => ?_
    have f1 := t8 _ _ f1
    have f2 := t8 _ _ f2
    have fp := t8 _ _ fp
    have T := T.to t8
    have s := s.trans (Sam.of t8)
    clear t8
    walk_at "rds"
    refine ⟨_, _, rfl, ?_⟩
    walk_at "rds"
    refine Rd.ifF (by simp) ?_
    walk_at "rds"
    refine less_of f2 f1 q2 q1 fun G9 t9 => ?_
    have f1 := t9 _ _ f1
    have f2 := t9 _ _ f2
    have fp := t9 _ _ fp
    have T := T.to t9
    have s := s.trans (Sam.of t9)
    clear t9
    walk_at "rds"
    refine ⟨_, _, rfl, ?_⟩
    walk_at "rds"
    refine Rd.ifF (by simp) ?_
    walk_at "rds"
    refine less_of f1 f1 q1 q1 fun G10 t10 => ?_
    have f1 := t10 _ _ f1
    have f2 := t10 _ _ f2
    have fp := t10 _ _ fp
    have T := T.to t10
    have s := s.trans (Sam.of t10)
    clear t10
    walk_at "rds"
    refine ⟨_, _, rfl, ?_⟩
    walk_at "rds"
    refine Rd.ifF (by simp) ?_
    walk_at "rds"
    refine Rd.ifB (fun h => ?_) fun h => ?_
    · have z0 : z = 0 := by have := of_decide_eq_true h; cases this; rfl
      have qd1 := qd q1
      have qd2 := qd q2
      walk_at "rds"
      refine ⟨4, _, _, _, _, rfl, by decide, by decide, rp_q f1, rp_q f2, sdq q1, sdq q2, fun zz pt Ht hz et tt => ?_, fun pt Ht hz et tt => ?_⟩
      · have hz2 : (("other" : Str)) = zz := by
          have : rTold 4 (.tuple [.int x, .int y]) (.tuple [.int z, .int u]) = some "other" := by simp [rTold, qd1, qd2, dZ, z0]
          rw [this] at hz
          exact Option.some.inj hz
        subst hz2
        walk_at "rds"
        refine' told_eq (z := "other") (by decide +kernel) ?hp ?hq ?_
        case hp => walk_at "heap"
        case hq => walk_at "heap"
        walk_at "rds"
        refine' kk _ ?h1 ?h2
        case h1 => walk_at "tq"
        case h2 => walk_at "sam"
      · have : rTold 4 (.tuple [.int x, .int y]) (.tuple [.int z, .int u]) = some "other" := by simp [rTold, qd1, qd2, dZ, z0]
        rw [this] at hz
        cases hz
    · have z0 : z ≠ 0 := fun e => by rw [e] at h; simp at h
      walk_at "rds"
      refine bin_of f1 f2 q1 q2 (by simpa using z0) fun pr11 G11 v11 w11 e11 qf11 t11 => ?_
      walk_at "rds"
      refine st_of e11 qf11 (by omega) (by omega) fun G12 t12 => ?_
      walk_at "rds"
      exact kk _ ((T.to t11).to t12) ((s.trans (Sam.of t11)).trans (Sam.of t12))
end
end K15
end SecQ9
section SecQ10
set_option Elab.async false
set_option linter.all false
set_option maxRecDepth 100000
set_option maxHeartbeats 4000000
set_option pp.deepTerms false
local macro_rules | `(tactic| walk_at "tq") => `(tactic| first | assumption | (refine' Dt.Tq.to ?s0 ?h0; (case h0 => assumption); (case s0 => walk_at "same")))
local macro_rules | `(tactic| walk_at "same") => `(tactic| first | exact L2.Same.refl _ | assumption | (refine' L2.Same.trans ?s1 ?s2; (case s2 => assumption); (case s1 => walk_at "same")))
local macro_rules | `(tactic| walk_at "sam") => `(tactic| first | exact Dt.Sam.refl | assumption | exact Dt.Sam.of (by assumption) | (refine' Dt.Sam.trans ?s1 ?s2; (case s2 => first | assumption | exact Dt.Sam.of (by assumption)); (case s1 => walk_at "sam")))
local macro_rules | `(tactic| walk_at "tape") => `(tactic| first | assumption | (refine' Dt.Tape.mono ?h0 ?s0; (case h0 => assumption); (case s0 => walk_at "same")))
local macro_rules | `(tactic| walk_at "nt") => `(tactic| first | exact Dt.nt_tup | exact Dt.nt_ints | assumption | (intro a0 b0 c0 l0 z0; cases z0) | (intro a0 b0 c0 l0 z0; simp at z0))
local macro_rules | `(tactic| walk_at "heap") => `(tactic| first | assumption | exact L2.upd_same | (refine' Rd.at_to ?s0 ?h0; (case h0 => assumption); (case s0 => walk_at "same")) | (refine' Dt.at_sam ?n0 ?s0 ?h0; (case h0 => assumption); (case n0 => walk_at "nt"); (case s0 => walk_at "sam")))
local macro_rules | `(tactic| walk_at "rp") => `(tactic| first | exact Dt.Rp.int _ | exact Dt.Rp.bl _ | exact Dt.Rp.str _ | exact Dt.Rp.non | assumption | (refine' Dt.Rp.sm ?s0 ?h0; (case h0 => assumption); (case s0 => walk_at "sam")) | (refine' Dt.Rp.tup ?h1 ?h2 ?h3; (case h1 => walk_at "heap"); (case h2 => walk_at "rps"); (case h3 => first | assumption | (show _ ≤ 1000; decide) | (show _ ≤ 1000; simp) | (show _ ≤ 1000; omega))) | (refine' Dt.Rp.lst ?h1 ?h2 ?h3 ?h4; (case h1 => walk_at "heap"); (case h2 => walk_at "rps"); (case h3 => first | assumption | (show _ ≤ 1000; decide) | (show _ ≤ 1000; simp) | (show _ ≤ 1000; omega)); (case h4 => walk_at "nt")))
local macro_rules | `(tactic| walk_at "rps") => `(tactic| first | exact Dt.RpAll.nil | assumption | (refine' Dt.RpAll.cons ?h1 ?h2; (case h1 => walk_at "rp"); (case h2 => walk_at "rps")) | (refine' Dt.RpAll.sm ?s0 ?h0; (case h0 => assumption); (case s0 => walk_at "sam")))
local macro_rules | `(tactic| walk_at "rd") => `(tactic| first
  | with_reducible refine Rd.seq ?_ | with_reducible refine Rd.asg ?_ | with_reducible refine Rd.nm ?_ | with_reducible refine Rd.sub ?_ | with_reducible refine Rd.ret ?_ | with_reducible refine Rd.retN ?_
  | with_reducible refine Rd.drop ?_ | with_reducible refine Rd.ifs ?_ | with_reducible refine Rd.next ?_ | with_reducible refine Rd.cst ?_ | with_reducible refine Rd.op ?_ | with_reducible refine Rd.un ?_
  | with_reducible refine Rd.test ?_ | with_reducible refine Rd.tb' ?_ | with_reducible refine Rd.exb ?_ | with_reducible refine Rd.exi ?_ | with_reducible refine Rd.and2 ?_ | with_reducible refine Rd.or2 ?_ | with_reducible refine Rd.not1 ?_
  | with_reducible refine Rd.andV ?_ | with_reducible refine Rd.orV ?_ | with_reducible refine Rd.notV ?_ | with_reducible refine Rd.nil ?_ | with_reducible refine Rd.cons ?_ | with_reducible refine Rd.cb ?_
  | with_reducible refine Rd.i0 ?_ | with_reducible refine Rd.u1 ?_ | with_reducible refine Rd.call ?_ | with_reducible refine Rd.tup ?_ | with_reducible refine Rd.lst ?_ | with_reducible refine Rd.sl ?_ | with_reducible refine Rd.no ?_ | with_reducible refine Rd.part ?_ | with_reducible refine Rd.at_ ?_ | with_reducible refine Rd.yes ?_ | with_reducible refine Rd.fors ?_ | with_reducible refine Rd.m1 ?_ | with_reducible refine Rd.exs ?_ | with_reducible refine Rd.lc ?_ | with_reducible refine Rd.rng ?_
  | with_reducible refine Rd.mkv ?_ | with_reducible refine Rd.mko ?_ | with_reducible refine Rd.callB ?_ | with_reducible refine Rd.callS ?_ | with_reducible refine Rd.bm ?_ | with_reducible refine Rd.itl ?_ | with_reducible refine Rd.itt ?_
  | ((with_reducible refine' And.intro ?hl ?_); (case hl => ((with_reducible show List.length _ ≤ PySem.sizeLine); (show _ ≤ PySem.sizeLine); rw [PySem.sizeLine_eq]; simp)))
  | (intro p0 n0; generalize hK0 : L2.upd _ p0 _ = K0; obtain ⟨e0, t0⟩ := Dt.newK hK0 n0)
  | ((with_reducible refine' Rd.lenKL ?he ?_); (case he => walk_at "heap")) | ((with_reducible refine' Rd.lenKT ?he ?_); (case he => walk_at "heap"))
  | ((with_reducible refine' Rd.var ?hv ?_); (case hv => exact rfl))
  | ((with_reducible refine' Rd.ifT ?hv ?_); (case hv => first | exact rfl | assumption)) | ((with_reducible refine' Rd.ifF ?hv ?_); (case hv => first | exact rfl | assumption))
  | ((with_reducible refine' Rd.eq ?hv ?_); (case hv => exact rfl))
  | ((with_reducible refine' Rd.ne ?hv ?_); (case hv => exact rfl))
  | ((with_reducible refine' Dt.isi_int ?hr ?_); (case hr => walk_at "rp")) | ((with_reducible refine' Dt.isi_bool ?hr ?_); (case hr => walk_at "rp")) | ((with_reducible refine' Dt.isi_tuple ?hr ?_); (case hr => walk_at "rp")) | ((with_reducible refine' Dt.isi_str ?hr ?_); (case hr => walk_at "rp")) | ((with_reducible refine' Dt.isi_list ?hr ?_); (case hr => walk_at "rp"))
  | with_reducible refine ⟨rfl, ?_⟩ | with_reducible refine Or.inl ⟨_, rfl, ?_⟩ | with_reducible refine Or.inr ⟨_, rfl, ?_⟩ | with_reducible refine ⟨_, rfl, ?_⟩
  | ((with_reducible refine' Rd.ex2 ⟨rfl, ?hl, ?_⟩); (case hl => first | exact Or.inl ⟨_, L2.SqL.of (by walk_at "heap"), rfl⟩ | exact Or.inr ⟨_, L2.SqT.of (by walk_at "heap"), rfl⟩))
  | ((with_reducible refine' Rd.i1 ?hv ?_); (case hv => first | exact ⟨by decide, by decide, by decide⟩ | exact Or.inr ⟨by decide, by decide⟩ | exact Or.inl ⟨by decide, by decide⟩ | exact ⟨by decide, by decide⟩ | decide | assumption | (show _ ≠ _; omega) | (refine ⟨?_, ?_⟩ <;> omega) | (refine Or.inl ⟨?_, ?_⟩ <;> omega)))
  | ((with_reducible refine' Rd.ixL ?he ?hx ?_); (case he => walk_at "heap"); (case hx => rfl))
  | ((with_reducible refine' Rd.ixT ?he ?hx ?_); (case he => walk_at "heap"); (case hx => rfl))
  | ((with_reducible refine' Rd.setL ?he ?hx ?_); (case he => first | assumption | exact L2.upd_same); (case hx => rfl)))
local macro_rules | `(tactic| walk_at "rd") => `(tactic| first | with_reducible refine Rd.isT ?_ | with_reducible refine Rd.isnT ?_)
local macro_rules | `(tactic| walk_at "rd") => `(tactic| first | ((with_reducible refine' Rd.gtup ?he ?hl ?_); (case he => walk_at "heap"); (case hl => exact rfl)) | with_reducible refine Rd.brk ?_ | with_reducible refine Rd.callR ?_ | ((with_reducible refine' ⟨_, _, rfl, Or.inl ⟨L2.SqL.of ?hp, ?_⟩⟩); (case hp => walk_at "heap")) | ((with_reducible refine' ⟨_, _, rfl, Or.inl (L2.SqL.of ?hp), ?_⟩); (case hp => walk_at "heap")) | ((with_reducible refine' Rd.catL ?hp ?hq ?hl ?_); (case hp => walk_at "heap"); (case hq => walk_at "heap"); (case hl => (simp only [List.length_map, List.length_append, List.length_cons, List.length_nil]; omega)); (intro r0 J0 e0 t0 n0)) | with_reducible refine Rd.bits ?_ | with_reducible refine Rd.max2 ?_ | with_reducible refine Rd.gcons ?_ | with_reducible refine Rd.gnil ?_)
local macro_rules | `(tactic| walk_at "rds") => `(tactic| repeat (first | walk_at "rd" | assumption))
namespace K15
open PySem PySem.Spec PyProof.Rows L2 L2H Err Dt
def rTT (i n : Int) (d1 d2 d3 : PyData) : Option Str :=
  if i = 0 then (if dRow n d1 = true then (if dPos d2 = true then none else some "bottom") else some "numbers")
  else if i = 1 then (if dRow n d1 = true then none else some "point")
  else if i = 2 then (if dLow (n + 1) d1 = true then (if dLow (n + 1) d2 = true then (if dLow 2 d3 = true then none else some "moment") else some "other") else some "place")
  else (if (dPoints n d1 && dSome d1) = true then none else some "points")
def spToldT : Sp := fun vs H Q _ => ∃ (i n r : Int) (s : Addr) (u v m : V) (d1 d2 d3 : PyData), vs = [.int i, .ref s, u, v, m] ∧ 0 ≤ i ∧ i ≤ 3 ∧ Space H s n r ∧ Rp H u d1 ∧ Rp H v d2 ∧ Rp H m d3 ∧ (rTT i n d1 d2 d3 = none → i = 2 ∧ Sd d1 ∧ Sd d2 ∧ Sd d3) ∧
  (∀ (z : Str) (p : Addr) (H' : Hp), rTT i n d1 d2 d3 = some z → H' p = some (.tup [.str "refused", .str z, .int (-1)]) → Same H H' → Q (.ref p) H') ∧
  (∀ (p : Addr) (H' : Hp), rTT i n d1 d2 d3 = none → H' p = some (.tup [.str "let"]) → Same H H' → Q (.ref p) H')
theorem row_true {n : Int} {ns : List Int} (h : (ns.length : Int) = n) : dRow n (.tuple (ns.map PyData.int)) = true := by
  show (decide (((ns.map PyData.int).length : Int) = n) && (ns.map PyData.int).all dInt) = true
  rw [List.length_map, decide_eq_true h, Bool.true_and, List.all_eq_true]
  intro d hd
  obtain ⟨i, _, rfl⟩ := List.mem_map.mp hd
  rfl
theorem pts_true {n : Int} {rows : List (List Int)} (h : ∀ r ∈ rows, (r.length : Int) = n) (h0 : 0 < rows.length) : (dPoints n (.tuple (dRows rows)) && dSome (.tuple (dRows rows))) = true := by
  rw [Bool.and_eq_true]
  refine ⟨?_, ?_⟩
  · show (dRows rows).all (dRow n) = true
    rw [List.all_eq_true]
    intro d hd
    obtain ⟨r, hr, rfl⟩ := List.mem_map.mp hd
    exact row_true (h r hr)
  · show decide (0 < (dRows rows).length) = true
    unfold dRows
    rw [List.length_map]
    exact decide_eq_true h0
theorem sd_ints {ns : List Int} {d : PyData} (h : Sd d) (e : d = .tuple (ns.map PyData.int)) : ∀ x ∈ ns, Sm x := fun x hx => by
  rw [e] at h
  exact h x (List.mem_map.mpr ⟨x, hx, rfl⟩)
section
variable {P : Program} {w : World} {K : PySem.W.Frag} {mg : Str → Option Value} {base : Heap}
set_option pp.maxSteps 3000
abbrev sToldThereL : Stmt := topS 55
theorem scToldThereL : FnScope ["which", "space", "one", "other", "moment", "e"] ["which", "space", "one", "other", "moment"] (defScope sToldThereL) := ⟨rfl, rfl, rfl, by decide +kernel, rfl, by decide +kernel, by decide +kernel⟩
theorem okToldThereL {f : Addr} {fd : FuncData} (F : Fun K "_law_told_there" "_law_told_there" sToldThereL f fd) (T : Tx mg) {CN SH ME : Addr} (C : Nk P w K mg base CN SH ME) (DNoteM : Dm P w K mg base "_law_note" 2 ["e"] (spNote CN)) (DPlaceOf : Dn P w K mg base (L2N.CX P w) "place_of" 4 ["space", "numbers", "bottom"] (spPlaceOf CN)) (DPointPlace : Dn P w K mg base (L2N.CX P w) "point_place" 4 ["space", "point"] (spPointPlace CN)) (DBetween : Dn P w K mg base (L2N.CX P w) "between" 4 ["space", "place", "other", "moment"] (spBetween CN)) (DMeanPlace : Dn P w K mg base (L2N.CX P w) "mean_place" 5 ["space", "points"] (spMean CN))  : FnOk P w K mg base CX0 6 f fd ["which", "space", "one", "other", "moment"] spToldT := by
  refine F.ok scToldThereL (fun vs H Q E h => ?_) (fun cdv A outer s H vs Q E hr h => ?_)
  · obtain ⟨i, n, r, s, u, v, m, d1, d2, d3, rfl, _⟩ := h
    rfl
  · obtain ⟨i, n, r, s, u, v, m, d1, d2, d3, rfl, i0, i5, Ss, r1, r2, r3, kn, k1, k2⟩ := h
    refine ⟨_, (pss_cons (ps_trys (Wout := fun _ _ _ _ => False) rfl rfl scToldThereL.nd takes0N
    (fun W pn xe tk _ => (pss_one (ps_if (pt_cmpR op_eq (pv 0) pe_int (nomark _))
      (pss_one (ps_expr (pe_dnS DPlaceOf (hr.mono (by omega)) tk (pa_cons (pv 1) (pa_cons (pv 2) (pa_cons (pv 3) pa_nil))))))
      (pss_one (ps_if (pt_cmpR op_eq (pv 0) pe_int (nomark _))
        (pss_one (ps_expr (pe_dnS DPointPlace (hr.mono (by omega)) tk (pa_cons (pv 1) (pa_cons (pv 2) pa_nil)))))
        (pss_one (ps_if (pt_cmpR op_eq (pv 0) pe_int (nomark _))
          (pss_one (ps_expr (pe_dnS DBetween (hr.mono (by omega)) tk (pa_cons (pv 1) (pa_cons (pv 2) (pa_cons (pv 3) (pa_cons (pv 4) pa_nil)))))))
          (pss_one (ps_expr (pe_dnS DMeanPlace (hr.mono (by omega)) tk (pa_cons (pv 1) (pa_cons (pv 2) pa_nil))))))))))))
    (ClOk.as (i := 5) (ts := (fun a cls d => tsAll cls d fun oe pn => _)) (tst_name ⟨rfl, by decide, .inl C.L.g⟩) rfl rfl (fun a oe cls d pn hz hf => pss_all (pn := pn) hz hf (pss_one (ps_ret (pe_dm DNoteM (roomH_mk (hr.mono (by omega)) _) (mood_suite hz hf) (pa_cons (pv 5) pa_nil)))))
    (ClOk.only (ts := (fun a cls d => tsAll cls d fun oe pn => _)) (tst_name ⟨rfl, by decide, .inl C.gM⟩) (fun a oe cls d pn hz hf => pss_all (pn := pn) hz hf (pss_one (ps_ret (pe_tup (pa_cons pe_str pa_nil))))) ClOk.nil)))
    (pss_one (ps_ret (pe_tup (pa_cons pe_str pa_nil))))), ?_⟩
    have st0 : L2.start ["which", "space", "one", "other", "moment", "e"] [V.int i, V.ref s, u, v, m] = [some (V.int i), some (V.ref s), some (u), some (v), some (m), none] := rfl
    rw [st0]
    rcases (by omega : i = 0 ∨ i = 1 ∨ i = 2 ∨ i = 3) with rfl | rfl | rfl | rfl
    · walk_at "rds"
      refine ⟨s, n, r, u, v, d1, d2, rfl, Ss, r1, r2, fun e1 => ?_, fun e1 e2 => ?_, fun ns b e1 e2 ln hb => ?_⟩
      ·
        intro dd H9 hd s9
        refine ⟨_, C.xN, fun _ a9 na => ?_, fun n => (by cases n)⟩
        intro oe pn hz hf
        refine Rd.ret ?_
        walk_at "rds"
        refine ⟨a9, "numbers", -1, rfl, .inr ⟨dd, .inr ⟨oe, List.mem_cons_self, ⟨hz.1, hz.2.1⟩, hf⟩, .inl hd⟩, fun p9 H10 e10 s10 => ?_⟩
        exact k1 _ p9 H10 (by simp [rTT, e1]) e10 (s9.trans s10)
      ·
        intro dd H9 hd s9
        refine ⟨_, C.xN, fun _ a9 na => ?_, fun n => (by cases n)⟩
        intro oe pn hz hf
        refine Rd.ret ?_
        walk_at "rds"
        refine ⟨a9, "bottom", -1, rfl, .inr ⟨dd, .inr ⟨oe, List.mem_cons_self, ⟨hz.1, hz.2.1⟩, hf⟩, .inl hd⟩, fun p9 H10 e10 s10 => ?_⟩
        exact k1 _ p9 H10 (by simp [rTT, e1, e2]) e10 (s9.trans s10)
      · have := row_true ln
        exact absurd (kn (by simp [rTT, e1, e2, this, dPos, hb])).1 (by decide)
    · walk_at "rds"
      refine ⟨s, n, r, u, d1, rfl, Ss, r1, fun e1 => ?_, fun ns e1 ln => ?_⟩
      ·
        intro dd H9 hd s9
        refine ⟨_, C.xN, fun _ a9 na => ?_, fun n => (by cases n)⟩
        intro oe pn hz hf
        refine Rd.ret ?_
        walk_at "rds"
        refine ⟨a9, "point", -1, rfl, .inr ⟨dd, .inr ⟨oe, List.mem_cons_self, ⟨hz.1, hz.2.1⟩, hf⟩, .inl hd⟩, fun p9 H10 e10 s10 => ?_⟩
        exact k1 _ p9 H10 (by simp [rTT, e1]) e10 (s9.trans s10)
      · have := row_true ln
        exact absurd (kn (by simp [rTT, e1, this])).1 (by decide)
    · walk_at "rds"
      refine ⟨s, n, r, u, v, m, d1, d2, d3, rfl, Ss, r1, r2, r3, fun e1 => ?_, fun e1 e2 => ?_, fun e1 e2 e3 => ?_, fun ps os p o t b e1 e2 e3 lp lo p1 o1 b1 l1 l2 l3 => ?_⟩
      ·
        intro dd H9 hd s9
        refine ⟨_, C.xN, fun _ a9 na => ?_, fun n => (by cases n)⟩
        intro oe pn hz hf
        refine Rd.ret ?_
        walk_at "rds"
        refine ⟨a9, "place", -1, rfl, .inr ⟨dd, .inr ⟨oe, List.mem_cons_self, ⟨hz.1, hz.2.1⟩, hf⟩, .inl hd⟩, fun p9 H10 e10 s10 => ?_⟩
        exact k1 _ p9 H10 (by simp [rTT, e1]) e10 (s9.trans s10)
      ·
        intro dd H9 hd s9
        refine ⟨_, C.xN, fun _ a9 na => ?_, fun n => (by cases n)⟩
        intro oe pn hz hf
        refine Rd.ret ?_
        walk_at "rds"
        refine ⟨a9, "other", -1, rfl, .inr ⟨dd, .inr ⟨oe, List.mem_cons_self, ⟨hz.1, hz.2.1⟩, hf⟩, .inl hd⟩, fun p9 H10 e10 s10 => ?_⟩
        exact k1 _ p9 H10 (by simp [rTT, e1, e2]) e10 (s9.trans s10)
      ·
        intro dd H9 hd s9
        refine ⟨_, C.xN, fun _ a9 na => ?_, fun n => (by cases n)⟩
        intro oe pn hz hf
        refine Rd.ret ?_
        walk_at "rds"
        refine ⟨a9, "moment", -1, rfl, .inr ⟨dd, .inr ⟨oe, List.mem_cons_self, ⟨hz.1, hz.2.1⟩, hf⟩, .inl hd⟩, fun p9 H10 e10 s10 => ?_⟩
        exact k1 _ p9 H10 (by simp [rTT, e1, e2, e3]) e10 (s9.trans s10)
      · have hn : rTT 2 n d1 d2 d3 = none := by simp [rTT, l1, l2, l3]
        obtain ⟨_, z1, z2, z3⟩ := kn hn
        refine ⟨sd_ints z1 e1, sd_ints z2 e2, (sdp z3 e3).1, (sdp z3 e3).2, fun q H8 hq s8 => ?_⟩
        walk_at "rds"
        refine' k2 _ _ hn ?hp ?hs
        case hp => walk_at "heap"
        case hs => walk_at "same"
    · walk_at "rds"
      refine ⟨s, n, r, u, d1, rfl, Ss, r1, fun e1 => ?_, fun rows e1 ln l0 => ?_⟩
      ·
        intro dd H9 hd s9
        refine ⟨_, C.xN, fun _ a9 na => ?_, fun n => (by cases n)⟩
        intro oe pn hz hf
        refine Rd.ret ?_
        walk_at "rds"
        refine ⟨a9, "points", -1, rfl, .inr ⟨dd, .inr ⟨oe, List.mem_cons_self, ⟨hz.1, hz.2.1⟩, hf⟩, .inl hd⟩, fun p9 H10 e10 s10 => ?_⟩
        exact k1 _ p9 H10 (by simp only [rTT, e1]; rfl) e10 (s9.trans s10)
      · have := pts_true ln l0
        rw [← e1] at this
        exact absurd (kn (by simp only [rTT, this]; rfl)).1 (by decide)
end
end K15
end SecQ10
section SecQ11
set_option Elab.async false
set_option linter.all false
set_option maxRecDepth 100000
set_option maxHeartbeats 4000000
set_option pp.deepTerms false
local macro_rules | `(tactic| walk_at "tq") => `(tactic| first | assumption | (refine' Dt.Tq.to ?s0 ?h0; (case h0 => assumption); (case s0 => walk_at "same")))
local macro_rules | `(tactic| walk_at "same") => `(tactic| first | exact L2.Same.refl _ | assumption | (refine' L2.Same.trans ?s1 ?s2; (case s2 => assumption); (case s1 => walk_at "same")))
local macro_rules | `(tactic| walk_at "sam") => `(tactic| first | exact Dt.Sam.refl | assumption | exact Dt.Sam.of (by assumption) | (refine' Dt.Sam.trans ?s1 ?s2; (case s2 => first | assumption | exact Dt.Sam.of (by assumption)); (case s1 => walk_at "sam")))
local macro_rules | `(tactic| walk_at "tape") => `(tactic| first | assumption | (refine' Dt.Tape.mono ?h0 ?s0; (case h0 => assumption); (case s0 => walk_at "same")))
local macro_rules | `(tactic| walk_at "nt") => `(tactic| first | exact Dt.nt_tup | exact Dt.nt_ints | assumption | (intro a0 b0 c0 l0 z0; cases z0) | (intro a0 b0 c0 l0 z0; simp at z0))
local macro_rules | `(tactic| walk_at "heap") => `(tactic| first | assumption | exact L2.upd_same | (refine' Rd.at_to ?s0 ?h0; (case h0 => assumption); (case s0 => walk_at "same")) | (refine' Dt.at_sam ?n0 ?s0 ?h0; (case h0 => assumption); (case n0 => walk_at "nt"); (case s0 => walk_at "sam")))
local macro_rules | `(tactic| walk_at "rp") => `(tactic| first | exact Dt.Rp.int _ | exact Dt.Rp.bl _ | exact Dt.Rp.str _ | exact Dt.Rp.non | assumption | (refine' Dt.Rp.sm ?s0 ?h0; (case h0 => assumption); (case s0 => walk_at "sam")) | (refine' Dt.Rp.tup ?h1 ?h2 ?h3; (case h1 => walk_at "heap"); (case h2 => walk_at "rps"); (case h3 => first | assumption | (show _ ≤ 1000; decide) | (show _ ≤ 1000; simp) | (show _ ≤ 1000; omega))) | (refine' Dt.Rp.lst ?h1 ?h2 ?h3 ?h4; (case h1 => walk_at "heap"); (case h2 => walk_at "rps"); (case h3 => first | assumption | (show _ ≤ 1000; decide) | (show _ ≤ 1000; simp) | (show _ ≤ 1000; omega)); (case h4 => walk_at "nt")))
local macro_rules | `(tactic| walk_at "rps") => `(tactic| first | exact Dt.RpAll.nil | assumption | (refine' Dt.RpAll.cons ?h1 ?h2; (case h1 => walk_at "rp"); (case h2 => walk_at "rps")) | (refine' Dt.RpAll.sm ?s0 ?h0; (case h0 => assumption); (case s0 => walk_at "sam")))
local macro_rules | `(tactic| walk_at "rd") => `(tactic| first
  | with_reducible refine Rd.seq ?_ | with_reducible refine Rd.asg ?_ | with_reducible refine Rd.nm ?_ | with_reducible refine Rd.sub ?_ | with_reducible refine Rd.ret ?_ | with_reducible refine Rd.retN ?_
  | with_reducible refine Rd.drop ?_ | with_reducible refine Rd.ifs ?_ | with_reducible refine Rd.next ?_ | with_reducible refine Rd.cst ?_ | with_reducible refine Rd.op ?_ | with_reducible refine Rd.un ?_
  | with_reducible refine Rd.test ?_ | with_reducible refine Rd.tb' ?_ | with_reducible refine Rd.exb ?_ | with_reducible refine Rd.exi ?_ | with_reducible refine Rd.and2 ?_ | with_reducible refine Rd.or2 ?_ | with_reducible refine Rd.not1 ?_
  | with_reducible refine Rd.andV ?_ | with_reducible refine Rd.orV ?_ | with_reducible refine Rd.notV ?_ | with_reducible refine Rd.nil ?_ | with_reducible refine Rd.cons ?_ | with_reducible refine Rd.cb ?_
  | with_reducible refine Rd.i0 ?_ | with_reducible refine Rd.u1 ?_ | with_reducible refine Rd.call ?_ | with_reducible refine Rd.tup ?_ | with_reducible refine Rd.lst ?_ | with_reducible refine Rd.sl ?_ | with_reducible refine Rd.no ?_ | with_reducible refine Rd.part ?_ | with_reducible refine Rd.at_ ?_ | with_reducible refine Rd.yes ?_ | with_reducible refine Rd.fors ?_ | with_reducible refine Rd.m1 ?_ | with_reducible refine Rd.exs ?_ | with_reducible refine Rd.lc ?_ | with_reducible refine Rd.rng ?_
  | with_reducible refine Rd.mkv ?_ | with_reducible refine Rd.mko ?_ | with_reducible refine Rd.callB ?_ | with_reducible refine Rd.callS ?_ | with_reducible refine Rd.bm ?_ | with_reducible refine Rd.itl ?_ | with_reducible refine Rd.itt ?_
  | ((with_reducible refine' And.intro ?hl ?_); (case hl => ((with_reducible show List.length _ ≤ PySem.sizeLine); (show _ ≤ PySem.sizeLine); rw [PySem.sizeLine_eq]; simp)))
  | (intro p0 n0; generalize hK0 : L2.upd _ p0 _ = K0; obtain ⟨e0, t0⟩ := Dt.newK hK0 n0)
  | ((with_reducible refine' Rd.lenKL ?he ?_); (case he => walk_at "heap")) | ((with_reducible refine' Rd.lenKT ?he ?_); (case he => walk_at "heap"))
  | ((with_reducible refine' Rd.var ?hv ?_); (case hv => exact rfl))
  | ((with_reducible refine' Rd.ifT ?hv ?_); (case hv => first | exact rfl | assumption)) | ((with_reducible refine' Rd.ifF ?hv ?_); (case hv => first | exact rfl | assumption))
  | ((with_reducible refine' Rd.eq ?hv ?_); (case hv => exact rfl))
  | ((with_reducible refine' Rd.ne ?hv ?_); (case hv => exact rfl))
  | ((with_reducible refine' Dt.isi_int ?hr ?_); (case hr => walk_at "rp")) | ((with_reducible refine' Dt.isi_bool ?hr ?_); (case hr => walk_at "rp")) | ((with_reducible refine' Dt.isi_tuple ?hr ?_); (case hr => walk_at "rp")) | ((with_reducible refine' Dt.isi_str ?hr ?_); (case hr => walk_at "rp")) | ((with_reducible refine' Dt.isi_list ?hr ?_); (case hr => walk_at "rp"))
  | with_reducible refine ⟨rfl, ?_⟩ | with_reducible refine Or.inl ⟨_, rfl, ?_⟩ | with_reducible refine Or.inr ⟨_, rfl, ?_⟩ | with_reducible refine ⟨_, rfl, ?_⟩
  | ((with_reducible refine' Rd.ex2 ⟨rfl, ?hl, ?_⟩); (case hl => first | exact Or.inl ⟨_, L2.SqL.of (by walk_at "heap"), rfl⟩ | exact Or.inr ⟨_, L2.SqT.of (by walk_at "heap"), rfl⟩))
  | ((with_reducible refine' Rd.i1 ?hv ?_); (case hv => first | exact ⟨by decide, by decide, by decide⟩ | exact Or.inr ⟨by decide, by decide⟩ | exact Or.inl ⟨by decide, by decide⟩ | exact ⟨by decide, by decide⟩ | decide | assumption | (show _ ≠ _; omega) | (refine ⟨?_, ?_⟩ <;> omega) | (refine Or.inl ⟨?_, ?_⟩ <;> omega)))
  | ((with_reducible refine' Rd.ixL ?he ?hx ?_); (case he => walk_at "heap"); (case hx => rfl))
  | ((with_reducible refine' Rd.ixT ?he ?hx ?_); (case he => walk_at "heap"); (case hx => rfl))
  | ((with_reducible refine' Rd.setL ?he ?hx ?_); (case he => first | assumption | exact L2.upd_same); (case hx => rfl)))
local macro_rules | `(tactic| walk_at "rd") => `(tactic| first | with_reducible refine Rd.isT ?_ | with_reducible refine Rd.isnT ?_)
local macro_rules | `(tactic| walk_at "rd") => `(tactic| first | ((with_reducible refine' Rd.gtup ?he ?hl ?_); (case he => walk_at "heap"); (case hl => exact rfl)) | with_reducible refine Rd.brk ?_ | with_reducible refine Rd.callR ?_ | ((with_reducible refine' ⟨_, _, rfl, Or.inl ⟨L2.SqL.of ?hp, ?_⟩⟩); (case hp => walk_at "heap")) | ((with_reducible refine' ⟨_, _, rfl, Or.inl (L2.SqL.of ?hp), ?_⟩); (case hp => walk_at "heap")) | ((with_reducible refine' Rd.catL ?hp ?hq ?hl ?_); (case hp => walk_at "heap"); (case hq => walk_at "heap"); (case hl => (simp only [List.length_map, List.length_append, List.length_cons, List.length_nil]; omega)); (intro r0 J0 e0 t0 n0)) | with_reducible refine Rd.bits ?_ | with_reducible refine Rd.max2 ?_ | with_reducible refine Rd.gcons ?_ | with_reducible refine Rd.gnil ?_)
local macro_rules | `(tactic| walk_at "rds") => `(tactic| repeat (first | walk_at "rd" | assumption))
namespace K15
open PySem PySem.Spec PyProof.Rows L2 L2H Err Dt
theorem gN_swap (ns : List Int) (b : Int) : gN (ns ++ [b]) = gN (b :: ns) := by
  apply Nat.dvd_antisymm
  · exact dvd_gN fun n hn => gN_dvd (by rcases List.mem_cons.mp hn with h | h <;> simp [h])
  · exact dvd_gN fun n hn => gN_dvd (by rcases List.mem_append.mp hn with h | h <;> simp_all)
theorem low_le {ns : List Int} {b m : Int} (hb : b ∈ ns) (h0 : b ≠ 0) (hm : m ∈ ns) : (m / gcdL ns).natAbs ≤ m.natAbs := by
  have e := low_mul hm
  have g0 : 0 < gN ns := gN_pos hb h0
  have : (m / gcdL ns).natAbs * gN ns = m.natAbs := by
    have e2 : (m / gcdL ns * gcdL ns).natAbs = m.natAbs := by rw [e]
    rw [Int.natAbs_mul, gcdL_eq, Int.natAbs_natCast] at e2
    exact e2
  rw [← this]
  exact Nat.le_mul_of_pos_right _ g0
theorem ix3 {K : PySem.W.Frag} {H : Hp} {p : Addr} {k a b c : Int} {Q : VK} (e : H p = some (.lst [.int a, .int b, .int c])) (h0 : 0 ≤ k) (h1 : k < 3) (q : ∀ m, (m = a ∨ m = b ∨ m = c) → Q (.int m) H) : rIxL K (.ref p) (.int k) H Q := by
  rcases (by omega : k = 0 ∨ k = 1 ∨ k = 2) with rfl | rfl | rfl
  · exact ⟨p, _, 0, .int a, rfl, rfl, SqL.of e, rfl, q a (.inl rfl)⟩
  · exact ⟨p, _, 1, .int b, rfl, rfl, SqL.of e, rfl, q b (.inr (.inl rfl))⟩
  · exact ⟨p, _, 2, .int c, rfl, rfl, SqL.of e, rfl, q c (.inr (.inr rfl))⟩
/-- within a million -/
def In6 (m : Int) : Prop := -960000 ≤ m ∧ m ≤ 960000
theorem sm6 {m : Int} (h : In6 m) : Sm m := Nat.lt_of_le_of_lt (show m.natAbs ≤ 960000 by unfold In6 at h; omega) (by decide +kernel)
structure PlOk (n : Int) (tops : List Int) (b : Int) (xs : List Int) (y : Int) : Prop where
  ln : (tops.length : Int) = n
  bt : ∀ m ∈ tops, In6 m
  b1 : 1 ≤ b
  b2 : b ≤ 960000
  lx : xs.length = tops.length
  y1 : 1 ≤ y
  g : gN (xs ++ [y]) = 1
  sx : ∀ m ∈ xs ++ [y], In6 m
theorem plok {n : Int} {tops : List Int} {b : Int} (ln : (tops.length : Int) = n) (bt : ∀ m ∈ tops, In6 m) (b1 : 1 ≤ b) (b2 : b ≤ 960000) : PlOk n tops b (tops.map fun x => x.fdiv ((gN (b :: tops) : Nat) : Int)) (b.fdiv ((gN (b :: tops) : Nat) : Int)) := by
  have hb : b ∈ tops ++ [b] := by simp
  have h0 : b ≠ 0 := by omega
  have ge : gcdL (tops ++ [b]) = ((gN (b :: tops) : Nat) : Int) := by rw [gcdL_eq, gN_swap]
  have gp : 0 < gN (b :: tops) := by rw [← gN_swap]; exact gN_pos hb h0
  have fe : ∀ m : Int, m.fdiv ((gN (b :: tops) : Nat) : Int) = m / gcdL (tops ++ [b]) := fun m => by
    rw [ge]
    exact Int.fdiv_eq_ediv_of_nonneg _ (by omega)
  have le : (tops.map fun x => x.fdiv ((gN (b :: tops) : Nat) : Int)) ++ [b.fdiv ((gN (b :: tops) : Nat) : Int)] = lowL (tops ++ [b]) := by
    show _ = (tops ++ [b]).map (fun n => n / gcdL (tops ++ [b]))
    rw [List.map_append]
    simp only [fe, List.map_cons, List.map_nil]
  refine ⟨ln, bt, b1, b2, by rw [List.length_map], ?_, by rw [le]; exact gN_low hb h0, ?_⟩
  · rw [fe]
    have e := low_mul hb
    have z : 0 < gcdL (tops ++ [b]) := by rw [ge]; omega
    rcases Int.lt_or_le 0 (b / gcdL (tops ++ [b])) with q | q
    · omega
    · have := Int.mul_le_mul_of_nonneg_right q (Int.le_of_lt z)
      omega
  · rw [le]
    intro m hm
    obtain ⟨k, hk, rfl⟩ := List.mem_map.mp hm
    have l1 := low_le hb h0 hk
    have : In6 k := by
      rcases List.mem_append.mp hk with h | h
      · exact bt k h
      · rw [List.mem_singleton.mp h]; unfold In6; omega
    unfold In6 at *
    omega
def spPlaceL : Sp := fun vs H Q _ => ∃ (t l : Addr) (n : Int), vs = [.ref t, .int n] ∧ 2 ≤ n ∧ n ≤ 3 ∧ Tq t l H ∧ ∀ (p q q2 : Addr) (tops : List Int) (b : Int) (xs : List Int) (y : Int) (H' : Hp), H' p = some (.tup [.ref q, .int b, .ref q2]) → H' q = some (.lst (tops.map V.int)) → H' q2 = some (.tup ((xs ++ [y]).map V.int)) → PlOk n tops b xs y → Tq t l H' → Sam H H' → Q (.ref p) H'
section
variable {P : Program} {w : World} {K : PySem.W.Frag} {mg : Str → Option Value} {base : Heap}
set_option pp.maxSteps 3000
abbrev sPlaceL : Stmt := topS 50
theorem scPlaceL : FnScope ["tape", "dims", "by", "tops", "i", "bottom", "shared", "x"] ["tape", "dims"] (defScope sPlaceL) := ⟨rfl, rfl, rfl, by decide +kernel, rfl, by decide +kernel, by decide +kernel⟩
theorem okPlaceL {f : Addr} {fd : FuncData} (F : Fun K "_law_place" "_law_place" sPlaceL f fd) (T : Tx mg) (DDrawL : Dn P w K mg base CX0 "_law_draw" 1 ["tape", "many"] spDw) (DCoordinateL : Dn P w K mg base CX0 "_law_coordinate" 2 ["tape"] spCoord) (DGcdL : Dn P w K mg base CX0 "_law_gcd" 1 ["one", "other"] spGcd)  : FnOk P w K mg base CX0 3 f fd ["tape", "dims"] spPlaceL := by
  refine F.ok scPlaceL (fun vs H Q E h => ?_) (fun cdv A outer s H vs Q E hr h => ?_)
  · obtain ⟨t, l, n, rfl, _⟩ := h
    rfl
  · obtain ⟨t, l, n, rfl, n2, n3, Tt, kk⟩ := h
    refine ⟨_, (pss_cons (ps_set (i := 2) scPlaceL.nd rfl (Or.inr rfl) (pe_op op_add pe_int (pe_dn DDrawL (hr.mono (by omega)) (pa_cons (pv 0) (pa_cons pe_int pa_nil)))))
    (pss_cons (ps_setLc (i := 3) (own := [("i", 4)]) (g := gName 4) (by rfl) scPlaceL.nd rfl rfl (sw_true rfl rfl rfl (by decide +kernel)) (pi_range1 rfl T.n_range (pa_cons (pv 1) pa_nil)) (blkOk_by (own := [("i", 4)]) (N := ["tape", "dims", "by", "tops", "i", "bottom", "shared", "x"]) (sc := defScope sPlaceL) (by decide +kernel)) (fun _ _ _ _ _ => pg_name (i := 4) scPlaceL.nd rfl (Or.inl rfl)) (fun _ _ _ _ _ => pts_nil) (fun _ _ _ _ _ => (pe_op op_mulW (pe_dn DCoordinateL (hr.mono (by omega)) (pa_cons (pv 0) pa_nil)) (pv 2))))
    (pss_cons (ps_set (i := 5) scPlaceL.nd rfl (Or.inl rfl) (pe_op op_mulW (pv 2) (pe_op op_add pe_int (pe_dn DDrawL (hr.mono (by omega)) (pa_cons (pv 0) (pa_cons (pe_ix ix_list (pe_lst (pa_cons pe_int (pa_cons pe_int (pa_cons pe_int pa_nil)))) (pe_dn DDrawL (hr.mono (by omega)) (pa_cons (pv 0) (pa_cons pe_int pa_nil))) (fun _ _ => rfl)) pa_nil))))))
    (pss_cons (ps_set (i := 6) scPlaceL.nd rfl (Or.inr rfl) (pv 5))
    (pss_cons (ps_for PassesOwn.never rfl (pi_list (pv 3)) (pg_name (i := 7) scPlaceL.nd rfl (Or.inl rfl))
    (pss_one (ps_set (i := 6) scPlaceL.nd rfl (Or.inr rfl) (pe_dn DGcdL (hr.mono (by omega)) (pa_cons (pv 6) (pa_cons (pv 7) pa_nil))))))
    (pss_one (ps_ret (pe_tup (pa_cons (pv 3) (pa_cons (pv 5) (pa_cons (pe_callTy call_tuple_of (by rfl) T.n_tuple (by decide +kernel) (pa_cons (pe_op op_cat (pe_lc (own := [("x", 7)]) (g := gName 7) (by rfl) scPlaceL.nd (pi_list (pv 3)) (blkOk_by (own := [("x", 7)]) (N := ["tape", "dims", "by", "tops", "i", "bottom", "shared", "x"]) (sc := defScope sPlaceL) (by decide +kernel)) (fun _ _ _ _ _ => pg_name (i := 7) scPlaceL.nd rfl (Or.inl rfl)) (fun _ _ _ _ _ => pts_nil) (fun _ _ _ _ _ => (pe_op op_fdivN (pv 7) (pv 6)))) (pe_lst (pa_cons (pe_op op_fdivN (pv 5) (pv 6)) pa_nil))) pa_nil)) pa_nil))))))))))), ?_⟩
    have st0 : L2.start ["tape", "dims", "by", "tops", "i", "bottom", "shared", "x"] [V.ref t, V.int n] = [some (V.ref t), some (V.int n), none, none, none, none, none, none] := rfl
    rw [st0]
    walk_at "rds"
    refine ⟨t, l, 12, rfl, Tt, by decide, by decide, fun v1 H1 a1 b1 T1 s1 => ?_⟩
    walk_at "rds"
    refine ⟨by omega, by omega, fun d hd => ?_⟩
    have nd := T1.ne hd
    have mx : ∀ c : Int, -80000 ≤ c → c ≤ 80000 → In6 (c * (1 + v1)) := fun c h1 h2 => by
      unfold In6
      rcases (by omega : v1 = 0 ∨ v1 = 1 ∨ v1 = 2 ∨ v1 = 3 ∨ v1 = 4 ∨ v1 = 5 ∨ v1 = 6 ∨ v1 = 7 ∨ v1 = 8 ∨ v1 = 9 ∨ v1 = 10 ∨ v1 = 11) with rfl | rfl | rfl | rfl | rfl | rfl | rfl | rfl | rfl | rfl | rfl | rfl <;> omega
    have i1 : Sm (1 + v1) := sm6 (by unfold In6; omega)
    refine lc_range (lo := 0) (n := n.toNat) (fun i H4 => ∃ ms : List Int, ms.length = i ∧ (∀ m ∈ ms, In6 m) ∧ H4 d = some (.lst (ms.map V.int)) ∧ Tq t l H4 ∧ Sam H1 H4) ⟨[], rfl, (fun m hm => by cases hm), upd_same, T1.to (same_put hd (Same.refl _)), Sam.of (same_put hd (Same.refl _))⟩ ?_ ?_
    · rintro i H4 hi ⟨ms, lm, bm, e4, T4, s4⟩
      refine ⟨rfl, ?_⟩
      walk_at "rds"
      refine ⟨t, l, rfl, T4, fun c H5 a5 b5 T5 s5 => ?_⟩
      have w5 : CMulW c (1 + v1) := sm_mul (sm6 (by unfold In6; omega)) i1
      walk_at "rds"
      refine ⟨_, s5 _ _ nt_ints e4, ?_, ms ++ [c * (1 + v1)], by rw [List.length_append, lm]; rfl, fun m hm => ?_, by rw [upd_same, List.map_append]; rfl, T5.put nd, sam_put hd (s4.trans s5)⟩
      · rw [List.length_map, lm, sizeLine_eq]
        omega
      · rcases List.mem_append.mp hm with h | h
        · exact bm m h
        · rw [List.mem_singleton.mp h]
          exact mx c a5 b5
    rintro H4 ⟨ms, lm, bm, e4, T4, s4⟩
    walk_at "rds"
    refine ⟨t, l, 3, rfl, by walk_at "tq", by decide, by decide, fun v2 H6 a6 b6 T6 s6 => ?_⟩
    refine' ix3 ?he a6 b6 fun m hm => ?_
    case he => walk_at "heap"
    walk_at "rds"
    refine ⟨t, l, m, rfl, T6, by omega, by omega, fun v3 H7 a7 b7 T7 s7 => ?_⟩
    have e7 : H7 d = some (.lst (ms.map V.int)) := by walk_at "heap"
    have s07 : Sam H H7 := by walk_at "sam"
    have hb : 1 ≤ (1 + v1) * (1 + v3) ∧ (1 + v1) * (1 + v3) ≤ 960000 := by
      rcases (by omega : v1 = 0 ∨ v1 = 1 ∨ v1 = 2 ∨ v1 = 3 ∨ v1 = 4 ∨ v1 = 5 ∨ v1 = 6 ∨ v1 = 7 ∨ v1 = 8 ∨ v1 = 9 ∨ v1 = 10 ∨ v1 = 11) with rfl | rfl | rfl | rfl | rfl | rfl | rfl | rfl | rfl | rfl | rfl | rfl <;> omega
    have w7 : CMulW (1 + v1) (1 + v3) := sm_mul i1 (sm6 (by unfold In6; omega))
    walk_at "rds"
    generalize hB : (1 + v1) * (1 + v3) = B at *
    have pk := plok (n := n) (tops := ms) (b := B) (by omega) bm hb.1 hb.2
    have hg0 : ((gN (B :: ms.take 0) : Nat) : Int) = B := by
      show ((Nat.gcd 0 B.natAbs : Nat) : Int) = B
      rw [Nat.gcd_zero_left]
      omega
    have gle : ∀ i, gN (B :: ms.take i) ≤ 960000 := fun i => by
      have := gN_le (ns := B :: ms.take i) (n := B) (by simp) (by omega)
      omega
    have gpos : 0 < gN (B :: ms) := gN_pos (n := B) (by simp) (by omega)
    refine ⟨⟨_, SqL.of e7⟩, for_list (K := K) (a := d) (xs := ms.map V.int) (fun i σ' H' => H' = H7 ∧ ∃ u, σ' = [some (.ref t), some (.int n), some (.int (1 + v1)), some (.ref d), none, some (.int B), some (.int ((gN (B :: ms.take i) : Nat) : Int)), u]) ⟨rfl, none, by rw [hg0]; rfl⟩ (fun i σ' H' _ ⟨z, _⟩ => by rw [z]; exact SqL.of e7) ?_ ?_⟩
    · rintro i x σ' H' hx2 ⟨rfl, u, rfl⟩
      obtain ⟨k, hk, rfl⟩ := int_at hx2
      have ek : gN (B :: ms.take (i + 1)) = Nat.gcd (gN (B :: ms.take i)) k.natAbs := gN_take (ns := B :: ms) (i := i + 1) (by simpa using hk)
      walk_at "rds"
      refine ⟨_, k, rfl, ?_, ?_, ?_⟩
      · rw [Int.natAbs_natCast]
        exact Nat.lt_of_le_of_lt (gle i) (by decide +kernel)
      · have : In6 k := bm k (List.mem_of_getElem? hk)
        exact Nat.lt_of_le_of_lt (show k.natAbs ≤ 960000 by unfold In6 at this; omega) (by decide +kernel)
      · rw [Int.natAbs_natCast, ← ek]
        walk_at "rds"
        first | exact ⟨rfl, _, rfl⟩ | exact ⟨_, rfl⟩
    · rintro σ' H' ⟨rfl, u, rfl⟩
      rw [List.length_map, List.take_length]
      have gl2 : gN (B :: ms) ≤ 960000 := by have := gle ms.length; rwa [List.take_length] at this
      have cg : ∀ i : Int, CDivN i ((gN (B :: ms) : Nat) : Int) := fun i => ⟨by omega, by omega⟩
      have cgB := cg B
      generalize hG : ((gN (B :: ms) : Nat) : Int) = G at *
      walk_at "rds"
      refine ⟨⟨_, SqL.of (by walk_at "heap")⟩, fun d8 n8 => ?_⟩
      refine' lc_intsM (fun x => x.fdiv G) n8 ?he8 ?hl8 ?st8 ?_
      case he8 => walk_at "heap"
      case hl8 => omega
      case st8 =>
        intro m H' R hm s' r
        have cgm := cg m
        refine ⟨rfl, ?_⟩
        walk_at "rds"
      intro J8 e8 t8
      walk_at "rds"
      refine' kk _ d _ ms B (ms.map fun x => x.fdiv G) (B.fdiv G) _ ?h1 ?h2 ?h3 pk ?h4 ?h5
      case h1 => walk_at "heap"
      case h2 => walk_at "heap"
      case h3 =>
        rw [List.map_append]
        walk_at "heap"
      case h4 => walk_at "tq"
      case h5 => walk_at "sam"
end
end K15
end SecQ11
section SecQ12
set_option Elab.async false
set_option linter.all false
set_option maxRecDepth 100000
set_option maxHeartbeats 4000000
set_option pp.deepTerms false
local macro_rules | `(tactic| walk_at "tq") => `(tactic| first | assumption | (refine' Dt.Tq.to ?s0 ?h0; (case h0 => assumption); (case s0 => walk_at "same")))
local macro_rules | `(tactic| walk_at "same") => `(tactic| first | exact L2.Same.refl _ | assumption | (refine' L2.Same.trans ?s1 ?s2; (case s2 => assumption); (case s1 => walk_at "same")))
local macro_rules | `(tactic| walk_at "sam") => `(tactic| first | exact Dt.Sam.refl | assumption | exact Dt.Sam.of (by assumption) | (refine' Dt.Sam.trans ?s1 ?s2; (case s2 => first | assumption | exact Dt.Sam.of (by assumption)); (case s1 => walk_at "sam")))
local macro_rules | `(tactic| walk_at "tape") => `(tactic| first | assumption | (refine' Dt.Tape.mono ?h0 ?s0; (case h0 => assumption); (case s0 => walk_at "same")))
local macro_rules | `(tactic| walk_at "nt") => `(tactic| first | exact Dt.nt_tup | exact Dt.nt_ints | assumption | (intro a0 b0 c0 l0 z0; cases z0) | (intro a0 b0 c0 l0 z0; simp at z0))
local macro_rules | `(tactic| walk_at "heap") => `(tactic| first | assumption | exact L2.upd_same | (refine' Rd.at_to ?s0 ?h0; (case h0 => assumption); (case s0 => walk_at "same")) | (refine' Dt.at_sam ?n0 ?s0 ?h0; (case h0 => assumption); (case n0 => walk_at "nt"); (case s0 => walk_at "sam")))
local macro_rules | `(tactic| walk_at "rp") => `(tactic| first | exact Dt.Rp.int _ | exact Dt.Rp.bl _ | exact Dt.Rp.str _ | exact Dt.Rp.non | assumption | (refine' Dt.Rp.sm ?s0 ?h0; (case h0 => assumption); (case s0 => walk_at "sam")) | (refine' Dt.Rp.tup ?h1 ?h2 ?h3; (case h1 => walk_at "heap"); (case h2 => walk_at "rps"); (case h3 => first | assumption | (show _ ≤ 1000; decide) | (show _ ≤ 1000; simp) | (show _ ≤ 1000; omega))) | (refine' Dt.Rp.lst ?h1 ?h2 ?h3 ?h4; (case h1 => walk_at "heap"); (case h2 => walk_at "rps"); (case h3 => first | assumption | (show _ ≤ 1000; decide) | (show _ ≤ 1000; simp) | (show _ ≤ 1000; omega)); (case h4 => walk_at "nt")))
local macro_rules | `(tactic| walk_at "rps") => `(tactic| first | exact Dt.RpAll.nil | assumption | (refine' Dt.RpAll.cons ?h1 ?h2; (case h1 => walk_at "rp"); (case h2 => walk_at "rps")) | (refine' Dt.RpAll.sm ?s0 ?h0; (case h0 => assumption); (case s0 => walk_at "sam")))
local macro_rules | `(tactic| walk_at "rd") => `(tactic| first
  | with_reducible refine Rd.seq ?_ | with_reducible refine Rd.asg ?_ | with_reducible refine Rd.nm ?_ | with_reducible refine Rd.sub ?_ | with_reducible refine Rd.ret ?_ | with_reducible refine Rd.retN ?_
  | with_reducible refine Rd.drop ?_ | with_reducible refine Rd.ifs ?_ | with_reducible refine Rd.next ?_ | with_reducible refine Rd.cst ?_ | with_reducible refine Rd.op ?_ | with_reducible refine Rd.un ?_
  | with_reducible refine Rd.test ?_ | with_reducible refine Rd.tb' ?_ | with_reducible refine Rd.exb ?_ | with_reducible refine Rd.exi ?_ | with_reducible refine Rd.and2 ?_ | with_reducible refine Rd.or2 ?_ | with_reducible refine Rd.not1 ?_
  | with_reducible refine Rd.andV ?_ | with_reducible refine Rd.orV ?_ | with_reducible refine Rd.notV ?_ | with_reducible refine Rd.nil ?_ | with_reducible refine Rd.cons ?_ | with_reducible refine Rd.cb ?_
  | with_reducible refine Rd.i0 ?_ | with_reducible refine Rd.u1 ?_ | with_reducible refine Rd.call ?_ | with_reducible refine Rd.tup ?_ | with_reducible refine Rd.lst ?_ | with_reducible refine Rd.sl ?_ | with_reducible refine Rd.no ?_ | with_reducible refine Rd.part ?_ | with_reducible refine Rd.at_ ?_ | with_reducible refine Rd.yes ?_ | with_reducible refine Rd.fors ?_ | with_reducible refine Rd.m1 ?_ | with_reducible refine Rd.exs ?_ | with_reducible refine Rd.lc ?_ | with_reducible refine Rd.rng ?_
  | with_reducible refine Rd.mkv ?_ | with_reducible refine Rd.mko ?_ | with_reducible refine Rd.callB ?_ | with_reducible refine Rd.callS ?_ | with_reducible refine Rd.bm ?_ | with_reducible refine Rd.itl ?_ | with_reducible refine Rd.itt ?_
  | ((with_reducible refine' And.intro ?hl ?_); (case hl => ((with_reducible show List.length _ ≤ PySem.sizeLine); (show _ ≤ PySem.sizeLine); rw [PySem.sizeLine_eq]; simp)))
  | (intro p0 n0; generalize hK0 : L2.upd _ p0 _ = K0; obtain ⟨e0, t0⟩ := Dt.newK hK0 n0)
  | ((with_reducible refine' Rd.lenKL ?he ?_); (case he => walk_at "heap")) | ((with_reducible refine' Rd.lenKT ?he ?_); (case he => walk_at "heap"))
  | ((with_reducible refine' Rd.var ?hv ?_); (case hv => exact rfl))
  | ((with_reducible refine' Rd.ifT ?hv ?_); (case hv => first | exact rfl | assumption)) | ((with_reducible refine' Rd.ifF ?hv ?_); (case hv => first | exact rfl | assumption))
  | ((with_reducible refine' Rd.eq ?hv ?_); (case hv => exact rfl))
  | ((with_reducible refine' Rd.ne ?hv ?_); (case hv => exact rfl))
  | ((with_reducible refine' Dt.isi_int ?hr ?_); (case hr => walk_at "rp")) | ((with_reducible refine' Dt.isi_bool ?hr ?_); (case hr => walk_at "rp")) | ((with_reducible refine' Dt.isi_tuple ?hr ?_); (case hr => walk_at "rp")) | ((with_reducible refine' Dt.isi_str ?hr ?_); (case hr => walk_at "rp")) | ((with_reducible refine' Dt.isi_list ?hr ?_); (case hr => walk_at "rp"))
  | with_reducible refine ⟨rfl, ?_⟩ | with_reducible refine Or.inl ⟨_, rfl, ?_⟩ | with_reducible refine Or.inr ⟨_, rfl, ?_⟩ | with_reducible refine ⟨_, rfl, ?_⟩
  | ((with_reducible refine' Rd.ex2 ⟨rfl, ?hl, ?_⟩); (case hl => first | exact Or.inl ⟨_, L2.SqL.of (by walk_at "heap"), rfl⟩ | exact Or.inr ⟨_, L2.SqT.of (by walk_at "heap"), rfl⟩))
  | ((with_reducible refine' Rd.i1 ?hv ?_); (case hv => first | exact ⟨by decide, by decide, by decide⟩ | exact Or.inr ⟨by decide, by decide⟩ | exact Or.inl ⟨by decide, by decide⟩ | exact ⟨by decide, by decide⟩ | decide | assumption | (show _ ≠ _; omega) | (refine ⟨?_, ?_⟩ <;> omega) | (refine Or.inl ⟨?_, ?_⟩ <;> omega)))
  | ((with_reducible refine' Rd.ixL ?he ?hx ?_); (case he => walk_at "heap"); (case hx => rfl))
  | ((with_reducible refine' Rd.ixT ?he ?hx ?_); (case he => walk_at "heap"); (case hx => rfl))
  | ((with_reducible refine' Rd.setL ?he ?hx ?_); (case he => first | assumption | exact L2.upd_same); (case hx => rfl)))
local macro_rules | `(tactic| walk_at "rd") => `(tactic| first | with_reducible refine Rd.isT ?_ | with_reducible refine Rd.isnT ?_)
local macro_rules | `(tactic| walk_at "rd") => `(tactic| first | ((with_reducible refine' Rd.gtup ?he ?hl ?_); (case he => walk_at "heap"); (case hl => exact rfl)) | with_reducible refine Rd.brk ?_ | with_reducible refine Rd.callR ?_ | ((with_reducible refine' ⟨_, _, rfl, Or.inl ⟨L2.SqL.of ?hp, ?_⟩⟩); (case hp => walk_at "heap")) | ((with_reducible refine' ⟨_, _, rfl, Or.inl (L2.SqL.of ?hp), ?_⟩); (case hp => walk_at "heap")) | ((with_reducible refine' Rd.catL ?hp ?hq ?hl ?_); (case hp => walk_at "heap"); (case hq => walk_at "heap"); (case hl => (simp only [List.length_map, List.length_append, List.length_cons, List.length_nil]; omega)); (intro r0 J0 e0 t0 n0)) | with_reducible refine Rd.bits ?_ | with_reducible refine Rd.max2 ?_ | with_reducible refine Rd.gcons ?_ | with_reducible refine Rd.gnil ?_)
local macro_rules | `(tactic| walk_at "rds") => `(tactic| repeat (first | walk_at "rd" | assumption))
namespace K15
open PySem PySem.Spec PyProof.Rows L2 L2H Err Dt
theorem told_some {i : Int} {u v : V} {d1 d2 : PyData} {z : Str} {H : Hp} {Q : VK} {E : XK} (hr : rTold i d1 d2 = some z) (i0 : 0 ≤ i) (i5 : i ≤ 5) (s1 : Sd d1) (s2 : Sd d2) (r1 : Rp H u d1) (r2 : Rp H v d2) (k : ∀ (p : Addr) (H' : Hp), H' p = some (.tup [.str "refused", .str z, .int (-1)]) → Same H H' → Q (.ref p) H') : spTold [.int i, u, v] H Q E :=
  ⟨i, u, v, d1, d2, rfl, i0, i5, r1, r2, s1, s2, fun z' p H' h e t => (by rw [hr] at h; cases h; exact k p H' e t), fun p H' h _ _ => (by rw [hr] at h; cases h)⟩
theorem told_none {i : Int} {u v : V} {d1 d2 : PyData} {H : Hp} {Q : VK} {E : XK} (hr : rTold i d1 d2 = none) (i0 : 0 ≤ i) (i5 : i ≤ 5) (s1 : Sd d1) (s2 : Sd d2) (r1 : Rp H u d1) (r2 : Rp H v d2) (k : ∀ (p : Addr) (H' : Hp), H' p = some (.tup [.str "let"]) → Same H H' → Q (.ref p) H') : spTold [.int i, u, v] H Q E :=
  ⟨i, u, v, d1, d2, rfl, i0, i5, r1, r2, s1, s2, fun z' p H' h _ _ => (by rw [hr] at h; cases h), fun p H' _ e t => k p H' e t⟩
theorem told_ne {K : PySem.W.Frag} {H : Hp} {p q : Addr} {z : Str} {Q : VK} (hz : SeqAt.shaped (.tuple [.str "refused", .str z, .int (-1)]) = true) (hp : H p = some (.tup [.str "refused", .str z, .int (-1)])) (hq : H q = some (.tup [.str "refused", .str z, .int (-1)])) (k : Q (.bl false) H) : rNeD K (.ref p) (.ref q) H Q := by
  refine ⟨_, _, .tup (SqT.of hp) (.cons (.str _) (.cons (.str _) (.cons (.int _) .nil))), .tup (SqT.of hq) (.cons (.str _) (.cons (.str _) (.cons (.int _) .nil))), hz, hz, ?_⟩
  rw [SeqAt.eqv_refl _ (SeqAt.canLay_of_shaped hz)]
  exact k
theorem let_ne {K : PySem.W.Frag} {H : Hp} {p q : Addr} {Q : VK} (hp : H p = some (.tup [.str "let"])) (hq : H q = some (.tup [.str "let"])) (k : Q (.bl false) H) : rNeD K (.ref p) (.ref q) H Q := by
  have hz : SeqAt.shaped (.tuple [.str "let"]) = true := by decide +kernel
  refine ⟨_, _, .tup (SqT.of hp) (.cons (.str _) .nil), .tup (SqT.of hq) (.cons (.str _) .nil), hz, hz, ?_⟩
  rw [SeqAt.eqv_refl _ (SeqAt.canLay_of_shaped hz)]
  exact k
theorem let_eq {K : PySem.W.Frag} {H : Hp} {p q : Addr} {Q : VK} (hp : H p = some (.tup [.str "let"])) (hq : H q = some (.tup [.str "let"])) (k : Q (.bl true) H) : rEqD K (.ref p) (.ref q) H Q := by
  have hz : SeqAt.shaped (.tuple [.str "let"]) = true := by decide +kernel
  refine ⟨_, _, .tup (SqT.of hp) (.cons (.str _) .nil), .tup (SqT.of hq) (.cons (.str _) .nil), hz, hz, ?_⟩
  rw [SeqAt.eqv_refl _ (SeqAt.canLay_of_shaped hz)]
  exact k
theorem rt_one {i : Int} {d1 d2 : PyData} (h : i ≠ 0) (h1 : dLow 2 d1 = false) : rTold i d1 d2 = some "one" := by
  unfold rTold
  rw [if_neg h, h1]
  rfl
theorem rt_other {i : Int} {d1 d2 : PyData} (h : i ≠ 0) (h1 : dLow 2 d1 = true) (h2 : dLow 2 d2 = false) : rTold i d1 d2 = some "other" := by
  unfold rTold
  rw [if_neg h, h1, h2]
  rfl
theorem rt_let {i : Int} {d1 d2 : PyData} (h : i ≠ 0) (h1 : dLow 2 d1 = true) (h2 : dLow 2 d2 = true) (h3 : dZ d2 = false) : rTold i d1 d2 = none := by
  unfold rTold
  rw [if_neg h, h1, h2, h3]
  simp
theorem rt_top {d1 d2 : PyData} (h : dInt d1 = false) : rTold 0 d1 d2 = some "top" := by
  unfold rTold
  rw [h]
  rfl
theorem rt_bottom {d1 d2 : PyData} (h : dInt d1 = true) (h2 : dNz d2 = false) : rTold 0 d1 d2 = some "bottom" := by
  unfold rTold
  rw [h, h2]
  rfl
/-- a value with its data, of which M holds -/
structure Da (M : PyData → Bool) (H : Hp) (v : V) : Prop where
  ex : ∃ d, Rp H v d ∧ Sd d ∧ M d = true
theorem Da.to {M : PyData → Bool} {H H' : Hp} {v : V} (s : Sam H H') (h : Da M H v) : Da M H' v := by
  obtain ⟨d, r, b, m⟩ := h.ex
  exact ⟨d, r.sm s, b, m⟩
theorem da {M : PyData → Bool} {H : Hp} {v : V} (d : PyData) (r : Rp H v d) (b : Sd d) (m : M d = true) : Da M H v := ⟨d, r, b, m⟩
theorem da_nil {M : PyData → Bool} {H : Hp} : ∀ v ∈ ([] : List V), Da M H v := fun _ h => by cases h
theorem da_cons {M : PyData → Bool} {H : Hp} {v : V} {vs : List V} (h : Da M H v) (t : ∀ u ∈ vs, Da M H u) : ∀ u ∈ v :: vs, Da M H u := fun u hu => by
  rcases List.mem_cons.mp hu with rfl | hu
  · exact h
  · exact t u hu
theorem ix_da {M : PyData → Bool} {K : PySem.W.Frag} {H : Hp} {p : Addr} {k : Int} {xs : List V} {Q : VK} (e : H p = some (.lst xs)) (h : ∀ v ∈ xs, Da M H v) (h0 : 0 ≤ k) (h1 : k < (xs.length : Int)) (q : ∀ v, Da M H v → Q v H) : rIxL K (.ref p) (.int k) H Q := by
  have hk : k.toNat < xs.length := by omega
  have e2 := atI_nat (List.getElem?_eq_getElem hk)
  rw [show ((k.toNat : Nat) : Int) = k by omega] at e2
  exact ⟨p, xs, k, _, rfl, rfl, SqL.of e, e2, q _ (h _ (List.getElem_mem hk))⟩
def nLow : PyData → Bool := fun d => !dLow 2 d
theorem nlow_q {a b : Int} (h : ¬ (1 ≤ b ∧ Nat.gcd a.natAbs b.natAbs = 1)) : nLow (.tuple [.int a, .int b]) = true := by
  unfold nLow
  cases e : dLow 2 (.tuple [.int a, .int b]) with
  | false => rfl
  | true =>
    obtain ⟨a', b', e2, h1, h2⟩ := quot_of e
    cases e2
    exact absurd ⟨h1, h2⟩ h
theorem nlow1 {b : Int} (h0 : 2 ≤ b) : nLow (.tuple [.int b, .int (2 * b)]) = true := nlow_q fun ⟨_, h⟩ => by
  have : b.natAbs ∣ Nat.gcd b.natAbs (2 * b).natAbs := Nat.dvd_gcd (Nat.dvd_refl _) (by rw [Int.natAbs_mul]; exact Nat.dvd_mul_left _ _)
  rw [h] at this
  have := Nat.le_of_dvd (by decide) this
  omega
theorem nlow2 {b : Int} (h0 : 2 ≤ b) : nLow (.tuple [.int 0, .int b]) = true := nlow_q fun ⟨_, h⟩ => by
  have e : Nat.gcd (0 : Int).natAbs b.natAbs = b.natAbs := Nat.gcd_zero_left _
  rw [e] at h
  omega
theorem nlow3 {a b : Int} (h0 : b ≤ 0) : nLow (.tuple [.int a, .int b]) = true := nlow_q fun ⟨h, _⟩ => by omega
def gLow : PyData → Bool := fun d => dLow 2 d
theorem glow1 {b : Int} (h0 : 2 ≤ b) : gLow (.tuple [.int b, .int (b + 1)]) = true := low_of (by omega) (by
  have d1 := Nat.gcd_dvd_left b.natAbs (b + 1).natAbs
  have d2 := Nat.gcd_dvd_right b.natAbs (b + 1).natAbs
  have e : (b + 1).natAbs = b.natAbs + 1 := by omega
  rw [e] at d1 d2 ⊢
  have := (Nat.dvd_add_right d1).mp d2
  exact Nat.dvd_one.mp this)
def spRefused : Sp := fun vs H Q _ => ∃ t l : Addr, vs = [.ref t] ∧ Tq t l H ∧ ∀ H', Tq t l H' → Sam H H' → Q (.bl true) H'
theorem sd_small {i : Int} (h : In6 i) : Sd (.int i) := sm6 h
def Sdl (ds : List PyData) : Prop := ∀ i, PyData.int i ∈ ds → Sm i
theorem sdl_nil : Sdl [] := fun _ h => by cases h
theorem sdl_i {i : Int} {ds : List PyData} (h : In6 i) (t : Sdl ds) : Sdl (.int i :: ds) := fun j hj => by
  rcases List.mem_cons.mp hj with e | hj
  · cases e; exact sm6 h
  · exact t j hj
theorem sdl_o {d : PyData} {ds : List PyData} (h : dInt d = false) (t : Sdl ds) : Sdl (d :: ds) := fun j hj => by
  rcases List.mem_cons.mp hj with e | hj
  · rw [← e] at h; cases h
  · exact t j hj
end K15
end SecQ12
section SecQ13
set_option Elab.async false
set_option linter.all false
set_option maxRecDepth 100000
set_option maxHeartbeats 4000000
set_option pp.deepTerms false
local macro_rules | `(tactic| walk_at "tq") => `(tactic| first | assumption | (refine' Dt.Tq.to ?s0 ?h0; (case h0 => assumption); (case s0 => walk_at "same")))
local macro_rules | `(tactic| walk_at "same") => `(tactic| first | exact L2.Same.refl _ | assumption | (refine' L2.Same.trans ?s1 ?s2; (case s2 => assumption); (case s1 => walk_at "same")))
local macro_rules | `(tactic| walk_at "sam") => `(tactic| first | exact Dt.Sam.refl | assumption | exact Dt.Sam.of (by assumption) | (refine' Dt.Sam.trans ?s1 ?s2; (case s2 => first | assumption | exact Dt.Sam.of (by assumption)); (case s1 => walk_at "sam")))
local macro_rules | `(tactic| walk_at "tape") => `(tactic| first | assumption | (refine' Dt.Tape.mono ?h0 ?s0; (case h0 => assumption); (case s0 => walk_at "same")))
local macro_rules | `(tactic| walk_at "nt") => `(tactic| first | exact Dt.nt_tup | exact Dt.nt_ints | assumption | (intro a0 b0 c0 l0 z0; cases z0) | (intro a0 b0 c0 l0 z0; simp at z0))
local macro_rules | `(tactic| walk_at "heap") => `(tactic| first | assumption | exact L2.upd_same | (refine' Rd.at_to ?s0 ?h0; (case h0 => assumption); (case s0 => walk_at "same")) | (refine' Dt.at_sam ?n0 ?s0 ?h0; (case h0 => assumption); (case n0 => walk_at "nt"); (case s0 => walk_at "sam")))
local macro_rules | `(tactic| walk_at "rp") => `(tactic| first | exact Dt.Rp.int _ | exact Dt.Rp.bl _ | exact Dt.Rp.str _ | exact Dt.Rp.non | assumption | (refine' Dt.Rp.sm ?s0 ?h0; (case h0 => assumption); (case s0 => walk_at "sam")) | (refine' Dt.Rp.tup ?h1 ?h2 ?h3; (case h1 => walk_at "heap"); (case h2 => walk_at "rps"); (case h3 => first | assumption | (show _ ≤ 1000; decide) | (show _ ≤ 1000; simp) | (show _ ≤ 1000; omega))) | (refine' Dt.Rp.lst ?h1 ?h2 ?h3 ?h4; (case h1 => walk_at "heap"); (case h2 => walk_at "rps"); (case h3 => first | assumption | (show _ ≤ 1000; decide) | (show _ ≤ 1000; simp) | (show _ ≤ 1000; omega)); (case h4 => walk_at "nt")))
local macro_rules | `(tactic| walk_at "rps") => `(tactic| first | exact Dt.RpAll.nil | assumption | (refine' Dt.RpAll.cons ?h1 ?h2; (case h1 => walk_at "rp"); (case h2 => walk_at "rps")) | (refine' Dt.RpAll.sm ?s0 ?h0; (case h0 => assumption); (case s0 => walk_at "sam")))
local macro_rules | `(tactic| walk_at "rd") => `(tactic| first
  | with_reducible refine Rd.seq ?_ | with_reducible refine Rd.asg ?_ | with_reducible refine Rd.nm ?_ | with_reducible refine Rd.sub ?_ | with_reducible refine Rd.ret ?_ | with_reducible refine Rd.retN ?_
  | with_reducible refine Rd.drop ?_ | with_reducible refine Rd.ifs ?_ | with_reducible refine Rd.next ?_ | with_reducible refine Rd.cst ?_ | with_reducible refine Rd.op ?_ | with_reducible refine Rd.un ?_
  | with_reducible refine Rd.test ?_ | with_reducible refine Rd.tb' ?_ | with_reducible refine Rd.exb ?_ | with_reducible refine Rd.exi ?_ | with_reducible refine Rd.and2 ?_ | with_reducible refine Rd.or2 ?_ | with_reducible refine Rd.not1 ?_
  | with_reducible refine Rd.andV ?_ | with_reducible refine Rd.orV ?_ | with_reducible refine Rd.notV ?_ | with_reducible refine Rd.nil ?_ | with_reducible refine Rd.cons ?_ | with_reducible refine Rd.cb ?_
  | with_reducible refine Rd.i0 ?_ | with_reducible refine Rd.u1 ?_ | with_reducible refine Rd.call ?_ | with_reducible refine Rd.tup ?_ | with_reducible refine Rd.lst ?_ | with_reducible refine Rd.sl ?_ | with_reducible refine Rd.no ?_ | with_reducible refine Rd.part ?_ | with_reducible refine Rd.at_ ?_ | with_reducible refine Rd.yes ?_ | with_reducible refine Rd.fors ?_ | with_reducible refine Rd.m1 ?_ | with_reducible refine Rd.exs ?_ | with_reducible refine Rd.lc ?_ | with_reducible refine Rd.rng ?_
  | with_reducible refine Rd.mkv ?_ | with_reducible refine Rd.mko ?_ | with_reducible refine Rd.callB ?_ | with_reducible refine Rd.callS ?_ | with_reducible refine Rd.bm ?_ | with_reducible refine Rd.itl ?_ | with_reducible refine Rd.itt ?_
  | ((with_reducible refine' And.intro ?hl ?_); (case hl => ((with_reducible show List.length _ ≤ PySem.sizeLine); (show _ ≤ PySem.sizeLine); rw [PySem.sizeLine_eq]; simp)))
  | (intro p0 n0; generalize hK0 : L2.upd _ p0 _ = K0; obtain ⟨e0, t0⟩ := Dt.newK hK0 n0)
  | ((with_reducible refine' Rd.lenKL ?he ?_); (case he => walk_at "heap")) | ((with_reducible refine' Rd.lenKT ?he ?_); (case he => walk_at "heap"))
  | ((with_reducible refine' Rd.var ?hv ?_); (case hv => exact rfl))
  | ((with_reducible refine' Rd.ifT ?hv ?_); (case hv => first | exact rfl | assumption)) | ((with_reducible refine' Rd.ifF ?hv ?_); (case hv => first | exact rfl | assumption))
  | ((with_reducible refine' Rd.eq ?hv ?_); (case hv => exact rfl))
  | ((with_reducible refine' Rd.ne ?hv ?_); (case hv => exact rfl))
  | ((with_reducible refine' Dt.isi_int ?hr ?_); (case hr => walk_at "rp")) | ((with_reducible refine' Dt.isi_bool ?hr ?_); (case hr => walk_at "rp")) | ((with_reducible refine' Dt.isi_tuple ?hr ?_); (case hr => walk_at "rp")) | ((with_reducible refine' Dt.isi_str ?hr ?_); (case hr => walk_at "rp")) | ((with_reducible refine' Dt.isi_list ?hr ?_); (case hr => walk_at "rp"))
  | with_reducible refine ⟨rfl, ?_⟩ | with_reducible refine Or.inl ⟨_, rfl, ?_⟩ | with_reducible refine Or.inr ⟨_, rfl, ?_⟩ | with_reducible refine ⟨_, rfl, ?_⟩
  | ((with_reducible refine' Rd.ex2 ⟨rfl, ?hl, ?_⟩); (case hl => first | exact Or.inl ⟨_, L2.SqL.of (by walk_at "heap"), rfl⟩ | exact Or.inr ⟨_, L2.SqT.of (by walk_at "heap"), rfl⟩))
  | ((with_reducible refine' Rd.i1 ?hv ?_); (case hv => first | exact ⟨by decide, by decide, by decide⟩ | exact Or.inr ⟨by decide, by decide⟩ | exact Or.inl ⟨by decide, by decide⟩ | exact ⟨by decide, by decide⟩ | decide | assumption | (show _ ≠ _; omega) | (refine ⟨?_, ?_⟩ <;> omega) | (refine Or.inl ⟨?_, ?_⟩ <;> omega)))
  | ((with_reducible refine' Rd.ixL ?he ?hx ?_); (case he => walk_at "heap"); (case hx => rfl))
  | ((with_reducible refine' Rd.ixT ?he ?hx ?_); (case he => walk_at "heap"); (case hx => rfl))
  | ((with_reducible refine' Rd.setL ?he ?hx ?_); (case he => first | assumption | exact L2.upd_same); (case hx => rfl)))
local macro_rules | `(tactic| walk_at "rd") => `(tactic| first | with_reducible refine Rd.isT ?_ | with_reducible refine Rd.isnT ?_)
local macro_rules | `(tactic| walk_at "rd") => `(tactic| first | ((with_reducible refine' Rd.gtup ?he ?hl ?_); (case he => walk_at "heap"); (case hl => exact rfl)) | with_reducible refine Rd.brk ?_ | with_reducible refine Rd.callR ?_ | ((with_reducible refine' ⟨_, _, rfl, Or.inl ⟨L2.SqL.of ?hp, ?_⟩⟩); (case hp => walk_at "heap")) | ((with_reducible refine' ⟨_, _, rfl, Or.inl (L2.SqL.of ?hp), ?_⟩); (case hp => walk_at "heap")) | ((with_reducible refine' Rd.catL ?hp ?hq ?hl ?_); (case hp => walk_at "heap"); (case hq => walk_at "heap"); (case hl => (simp only [List.length_map, List.length_append, List.length_cons, List.length_nil]; omega)); (intro r0 J0 e0 t0 n0)) | with_reducible refine Rd.bits ?_ | with_reducible refine Rd.max2 ?_ | with_reducible refine Rd.gcons ?_ | with_reducible refine Rd.gnil ?_)
local macro_rules | `(tactic| walk_at "rds") => `(tactic| repeat (first | walk_at "rd" | assumption))
namespace K15
open PySem PySem.Spec PyProof.Rows L2 L2H Err Dt
def nInt : PyData → Bool := fun d => !dInt d
def nNz : PyData → Bool := fun d => !dNz d
theorem da_appd {M : PyData → Bool} {H : Hp} {L N : List V} (h1 : ∀ v ∈ L, Da M H v) (h2 : ∀ v ∈ N, Da M H v) : ∀ v ∈ L ++ N, Da M H v := fun v hv => by
  rcases List.mem_append.mp hv with h | h
  · exact h1 v h
  · exact h2 v h
theorem da_all {M : PyData → Bool} {H H' : Hp} {L : List V} (s : Sam H H') (h : ∀ v ∈ L, Da M H v) : ∀ v ∈ L, Da M H' v := fun v hv => (h v hv).to s
def R1 (t l : Addr) (c : Int) (H0 : Hp) : L2.St → Hp → Prop := fun σ' H' => ∃ (p : Addr) (L : List V), σ' = [some (.ref t), some (.int c), some (.ref p), none, none, none, none] ∧ H' p = some (.lst L) ∧ L.length = 20 ∧ (∀ v ∈ L, Da nLow H' v) ∧ Tq t l H' ∧ Sam H0 H'
theorem r1_mk {t l p : Addr} {c : Int} {H0 H' : Hp} {L : List V} {σ' : L2.St} (e : σ' = [some (.ref t), some (.int c), some (.ref p), none, none, none, none]) (h1 : H' p = some (.lst L)) (h2 : L.length = 20) (h3 : ∀ v ∈ L, Da nLow H' v) (T : Tq t l H') (s : Sam H0 H') : R1 t l c H0 σ' H' := ⟨p, L, e, h1, h2, h3, T, s⟩
def R2 (t l : Addr) (c : Int) (H0 : Hp) : L2.St → Hp → Prop := fun σ' H' => ∃ (b0 : Option V) (v1 v2 v3 : V), σ' = [some (.ref t), some (.int c), b0, some v1, some v2, some v3, none] ∧ Da nLow H' v1 ∧ Da nLow H' v2 ∧ Da gLow H' v3 ∧ Tq t l H' ∧ Sam H0 H'
theorem r2_mk {t l : Addr} {c : Int} {H0 H' : Hp} {b0 : Option V} {v1 v2 v3 : V} {σ' : L2.St} (e : σ' = [some (.ref t), some (.int c), b0, some v1, some v2, some v3, none]) (h1 : Da nLow H' v1) (h2 : Da nLow H' v2) (h3 : Da gLow H' v3) (T : Tq t l H') (s : Sam H0 H') : R2 t l c H0 σ' H' := ⟨b0, v1, v2, v3, e, h1, h2, h3, T, s⟩
def R3 (t l : Addr) (c : Int) (H0 : Hp) : L2.St → Hp → Prop := fun σ' H' => ∃ o2 o3 o4 o5 o6, σ' = [some (.ref t), some (.int c), o2, o3, o4, o5, o6] ∧ Tq t l H' ∧ Sam H0 H'
def R4 (t l : Addr) (c : Int) (H0 : Hp) : L2.St → Hp → Prop := fun σ' H' => ∃ (o2 : Option V) (v1 v2 : V) (o5 o6 : Option V), σ' = [some (.ref t), some (.int c), o2, some v1, some v2, o5, o6] ∧ Da nInt H' v1 ∧ Da nNz H' v2 ∧ Tq t l H' ∧ Sam H0 H'
theorem r4_mk {t l : Addr} {c : Int} {H0 H' : Hp} {o2 o5 o6 : Option V} {v1 v2 : V} {σ' : L2.St} (e : σ' = [some (.ref t), some (.int c), o2, some v1, some v2, o5, o6]) (h1 : Da nInt H' v1) (h2 : Da nNz H' v2) (T : Tq t l H') (s : Sam H0 H') : R4 t l c H0 σ' H' := ⟨o2, v1, v2, o5, o6, e, h1, h2, T, s⟩
local macro_rules | `(tactic| walk_at "sd") => `(tactic| first | exact True.intro | exact sd_small (by unfold In6; omega) | exact sdl_nil | (refine sdl_o rfl ?_; walk_at "sd") | (refine' sdl_i ?a0 ?b0; (case a0 => (unfold In6; omega)); (case b0 => walk_at "sd")))
local macro_rules | `(tactic| walk_at "dm") => `(tactic| first | rfl | exact nlow1 (by omega) | exact nlow2 (by omega) | exact nlow3 (by omega) | exact glow1 (by omega) | exact low_of (by omega) (by simp) | exact low_of (by omega) (Nat.gcd_one_left _) | exact low_of (by omega) (Nat.gcd_one_right _))
local macro_rules | `(tactic| walk_at "da") => `(tactic| first | assumption | (refine' Da.to ?s0 ?h0; (case h0 => assumption); (case s0 => walk_at "sam")) | (refine' da _ ?r0 ?s0 ?m0; (case r0 => walk_at "rp"); (case s0 => walk_at "sd"); (case m0 => walk_at "dm")))
local macro_rules | `(tactic| walk_at "das") => `(tactic| first | exact da_nil | (refine' da_cons ?h0 ?t0; (case h0 => walk_at "da"); (case t0 => walk_at "das")))
section
variable {P : Program} {w : World} {K : PySem.W.Frag} {mg : Str → Option Value} {base : Heap}
set_option pp.maxSteps 3000
abbrev sRefusedL : Stmt := topS 56
theorem scRefusedL : FnScope ["tape", "by", "bads", "bad", "worse", "good", "which"] ["tape"] (defScope sRefusedL) := ⟨rfl, rfl, rfl, by decide +kernel, rfl, by decide +kernel, by decide +kernel⟩
theorem okRefusedL {f : Addr} {fd : FuncData} (F : Fun K "_law_refused" "_law_refused" sRefusedL f fd) (T : Tx mg) (DDrawL : Dn P w K mg base CX0 "_law_draw" 1 ["tape", "many"] spDw) (DToldL : Dn P w K mg base CX0 "_law_told" 6 ["which", "one", "other"] spTold)  : FnOk P w K mg base CX0 7 f fd ["tape"] spRefused := by
  refine F.ok scRefusedL (fun vs H Q E h => ?_) (fun cdv A outer s H vs Q E hr h => ?_)
  · obtain ⟨t, l, rfl, _⟩ := h
    rfl
  · obtain ⟨t, l, rfl, Tt, kk⟩ := h
    refine ⟨_, (pss_cons (ps_set (i := 1) scRefusedL.nd rfl (Or.inl rfl) (pe_op op_add pe_int (pe_dn DDrawL (hr.mono (by omega)) (pa_cons (pv 0) (pa_cons pe_int pa_nil)))))
    (pss_cons (ps_set (i := 2) scRefusedL.nd rfl (Or.inl rfl) (pe_lst (pa_cons (pe_tup (pa_cons (pv 1) (pa_cons (pe_op op_mulW pe_int (pv 1)) pa_nil))) (pa_cons (pe_tup (pa_cons pe_int (pa_cons (pv 1) pa_nil))) (pa_cons (pe_tup (pa_cons (pv 1) (pa_cons pe_int pa_nil))) (pa_cons (pe_tup (pa_cons pe_int (pa_cons (pe_un un_neg (pv 1)) pa_nil))) (pa_cons (pe_lst (pa_cons pe_int (pa_cons (pv 1) pa_nil))) (pa_cons (pe_tup (pa_cons (pv 1) pa_nil)) (pa_cons (pe_tup (pa_cons pe_int (pa_cons (pv 1) (pa_cons pe_int pa_nil)))) (pa_cons (pe_tup (pa_cons pe_bl (pa_cons (pv 1) pa_nil))) (pa_cons (pe_tup (pa_cons (pv 1) (pa_cons pe_bl pa_nil))) (pa_cons pe_non pa_nil))))))))))))
    (C8.pss_cut (ps_set (i := 2) scRefusedL.nd rfl (Or.inl rfl) (pe_op op_cat (pv 2) (pe_lst (pa_cons pe_str (pa_cons (pv 1) (pa_cons pe_bl (pa_cons (pe_tup (pa_cons pe_int (pa_cons (pe_un un_neg pe_int) pa_nil))) (pa_cons (pe_tup (pa_cons pe_int (pa_cons pe_int pa_nil))) (pa_cons (pe_tup (pa_cons (pe_un un_neg (pv 1)) (pa_cons (pe_un un_neg pe_int) pa_nil))) (pa_cons (pe_tup (pa_cons (pe_tup (pa_cons pe_int (pa_cons pe_int pa_nil))) (pa_cons pe_int pa_nil))) (pa_cons (pe_tup (pa_cons pe_non (pa_cons pe_int pa_nil))) (pa_cons (pe_tup (pa_cons pe_int (pa_cons pe_str pa_nil))) (pa_cons (pe_tup pa_nil) pa_nil)))))))))))))
    (pss_cons (ps_set (i := 3) scRefusedL.nd rfl (Or.inl rfl) (pe_ix ix_list (pv 2) (pe_dn DDrawL (hr.mono (by omega)) (pa_cons (pv 0) (pa_cons pe_int pa_nil))) (fun _ _ => rfl)))
    (pss_cons (ps_set (i := 4) scRefusedL.nd rfl (Or.inl rfl) (pe_ix ix_list (pv 2) (pe_dn DDrawL (hr.mono (by omega)) (pa_cons (pv 0) (pa_cons pe_int pa_nil))) (fun _ _ => rfl)))
    (C8.pss_cut (ps_set (i := 5) scRefusedL.nd rfl (Or.inl rfl) (pe_ix ix_list (pe_lst (pa_cons (pe_tup (pa_cons pe_int (pa_cons pe_int pa_nil))) (pa_cons (pe_tup (pa_cons pe_int (pa_cons (pv 1) pa_nil))) (pa_cons (pe_tup (pa_cons (pe_un un_neg (pv 1)) (pa_cons pe_int pa_nil))) (pa_cons (pe_tup (pa_cons (pv 1) (pa_cons (pe_op op_add (pv 1) pe_int) pa_nil))) pa_nil))))) (pe_dn DDrawL (hr.mono (by omega)) (pa_cons (pv 0) (pa_cons pe_int pa_nil))) (fun _ _ => rfl)))
    (C8.pss_cut (ps_for PassesOwn.never rfl (pi_range2 rfl T.n_range (pa_cons pe_int (pa_cons pe_int pa_nil))) (pg_name (i := 6) scRefusedL.nd rfl (Or.inl rfl))
    (pss_cons (ps_if (pt_cmpR (op_neD (huR hr)) (pe_dn DToldL (hr.mono (by omega)) (pa_cons (pv 6) (pa_cons (pv 3) (pa_cons (pv 5) pa_nil)))) (pe_tup (pa_cons pe_str (pa_cons pe_str (pa_cons (pe_un un_neg pe_int) pa_nil)))) (nomark _))
      (pss_one (ps_ret pe_bl))
      pss_nil)
      (pss_cons (ps_if (pt_cmpR (op_neD (huR hr)) (pe_dn DToldL (hr.mono (by omega)) (pa_cons (pv 6) (pa_cons (pv 3) (pa_cons (pv 4) pa_nil)))) (pe_tup (pa_cons pe_str (pa_cons pe_str (pa_cons (pe_un un_neg pe_int) pa_nil)))) (nomark _))
      (pss_one (ps_ret pe_bl))
      pss_nil)
      (pss_cons (ps_if (pt_cmpR (op_neD (huR hr)) (pe_dn DToldL (hr.mono (by omega)) (pa_cons (pv 6) (pa_cons (pv 5) (pa_cons (pv 4) pa_nil)))) (pe_tup (pa_cons pe_str (pa_cons pe_str (pa_cons (pe_un un_neg pe_int) pa_nil)))) (nomark _))
      (pss_one (ps_ret pe_bl))
      pss_nil)
      (pss_one (ps_if (pt_cmpR (op_neD (huR hr)) (pe_dn DToldL (hr.mono (by omega)) (pa_cons (pv 6) (pa_cons (pv 5) (pa_cons (pe_tup (pa_cons (pv 1) (pa_cons pe_int pa_nil))) pa_nil)))) (pe_tup (pa_cons pe_str pa_nil)) (nomark _))
      (pss_one (ps_ret pe_bl))
      pss_nil))))))
    (pss_cons (ps_set (i := 2) scRefusedL.nd rfl (Or.inl rfl) (pe_lst (pa_cons pe_bl (pa_cons pe_non (pa_cons pe_str (pa_cons (pe_tup (pa_cons (pv 1) (pa_cons pe_int pa_nil))) (pa_cons (pe_lst (pa_cons (pv 1) pa_nil)) (pa_cons pe_bl pa_nil))))))))
    (pss_cons (ps_set (i := 3) scRefusedL.nd rfl (Or.inl rfl) (pe_ix ix_list (pv 2) (pe_dn DDrawL (hr.mono (by omega)) (pa_cons (pv 0) (pa_cons pe_int pa_nil))) (fun _ _ => rfl)))
    (C8.pss_cut (ps_set (i := 4) scRefusedL.nd rfl (Or.inl rfl) (pe_ix ix_list (pe_op op_cat (pv 2) (pe_lst (pa_cons pe_int pa_nil))) (pe_dn DDrawL (hr.mono (by omega)) (pa_cons (pv 0) (pa_cons pe_int pa_nil))) (fun _ _ => rfl)))
    (pss_cons (ps_if (PW.pt (pw_or (pt_cmpR (op_neD (huR hr)) (pe_dn DToldL (hr.mono (by omega)) (pa_cons pe_int (pa_cons (pv 3) (pa_cons (pv 1) pa_nil)))) (pe_tup (pa_cons pe_str (pa_cons pe_str (pa_cons (pe_un un_neg pe_int) pa_nil)))) (nomark _)) (pw_or1 (pt_cmpR (op_neD (huR hr)) (pe_dn DToldL (hr.mono (by omega)) (pa_cons pe_int (pa_cons (pv 3) (pa_cons (pv 4) pa_nil)))) (pe_tup (pa_cons pe_str (pa_cons pe_str (pa_cons (pe_un un_neg pe_int) pa_nil)))) (nomark _)))))
    (pss_one (ps_ret pe_bl))
    pss_nil)
    (pss_cons (ps_if (pt_cmpR (op_neD (huR hr)) (pe_dn DToldL (hr.mono (by omega)) (pa_cons pe_int (pa_cons (pv 1) (pa_cons (pv 4) pa_nil)))) (pe_tup (pa_cons pe_str (pa_cons pe_str (pa_cons (pe_un un_neg pe_int) pa_nil)))) (nomark _))
    (pss_one (ps_ret pe_bl))
    pss_nil)
    (pss_one (ps_ret (pe_and (pe_cmpR (op_eqD (huR hr)) (pe_dn DToldL (hr.mono (by omega)) (pa_cons pe_int (pa_cons pe_int (pa_cons (pe_un un_neg (pv 1)) pa_nil)))) (pe_tup (pa_cons pe_str pa_nil)) (nomark _)) (pe_one (pe_cmpR (op_eqD (huR hr)) (pe_dn DToldL (hr.mono (by omega)) (pa_cons pe_int (pa_cons (pv 1) (pa_cons pe_int pa_nil)))) (pe_tup (pa_cons pe_str (pa_cons pe_str (pa_cons (pe_un un_neg pe_int) pa_nil)))) (nomark _)))))))))))))))))), ?_⟩
    have st0 : L2.start ["tape", "by", "bads", "bad", "worse", "good", "which"] [V.ref t] = [some (V.ref t), none, none, none, none, none, none] := rfl
    rw [st0]
    walk_at "rds"
    refine ⟨t, l, 30, rfl, Tt, by decide, by decide, fun v1 H1 a1 b1 T1 s1 => ?_⟩
    obtain ⟨c, hc⟩ : ∃ c, 2 + v1 = c := ⟨_, rfl⟩
    have c2 : 2 ≤ c := by omega
    have c3 : c ≤ 31 := by omega
    have wc : CMulW 2 c := sm_mul (sm6 (by unfold In6; omega)) (sm6 (by unfold In6; omega))
    walk_at "rds"
    rw [hc]
    walk_at "rds"
    refine cut_at (R1 t l c H) ?_ ?_
    · walk_at "rds"
      refine' r1_mk ?e1 ?e2 ?e3 ?e4 ?e5 ?e6
      case e1 => exact rfl
      case e2 => walk_at "heap"
      case e3 => exact rfl
      case e4 => exact da_appd (by walk_at "das") (by walk_at "das")
      case e5 => walk_at "tq"
      case e6 => walk_at "sam"
    rintro _ H2 ⟨p, L, rfl, eL, lL, hL, T, s⟩
    have ntL : NotTape (.lst L) := fun _ _ _ _ z => by cases z; simp at lL
    walk_at "rds"
    refine ⟨t, l, 20, rfl, T, by decide, by decide, fun k1 H3 a3 b3 T3 s3 => ?_⟩
    refine ix_da (s3 _ _ ntL eL) (da_all s3 hL) a3 (by omega) fun bv hb => ?_
    walk_at "rds"
    refine ⟨t, l, 20, rfl, T3, by decide, by decide, fun k2 H4 a4 b4 T4 s4 => ?_⟩
    refine ix_da (s4 _ _ ntL (s3 _ _ ntL eL)) (da_all (s3.trans s4) hL) a4 (by omega) fun wv hw => ?_
    walk_at "rds"
    refine cut_at (R2 t l c H) ?_ ?_
    · walk_at "rds"
      refine ⟨t, l, 4, rfl, by walk_at "tq", by decide, by decide, fun k3 H5 a5 b5 T5 s5 => ?_⟩
      refine' ix_da (M := gLow) ?he ?hd a5 ?hl fun gv hg => ?_
      case he => walk_at "heap"
      case hl => exact b5
      case hd => walk_at "das"
      walk_at "rds"
      refine' r2_mk ?f1 ?f2 ?f3 ?f4 ?f5 ?f6
      case f1 => exact rfl
      case f2 => walk_at "da"
      case f3 => walk_at "da"
      case f4 => walk_at "da"
      case f5 => walk_at "tq"
      case f6 => walk_at "sam"
    clear hb hw T3 T4 s3 s4 T s hL eL
    rintro _ H5 ⟨b0, bv, wv, gv, rfl, hb, hw, hg, T, s⟩
    obtain ⟨db, rb, sb, mb⟩ := hb.ex
    obtain ⟨dw, rw', sw, mw⟩ := hw.ex
    obtain ⟨dg, rg, sg, mg'⟩ := hg.ex
    have lb : dLow 2 db = false := by unfold nLow at mb; simpa using mb
    have lw : dLow 2 dw = false := by unfold nLow at mw; simpa using mw
    have lg : dLow 2 dg = true := mg'
    have l1 : dLow 2 (.tuple [.int c, .int 1]) = true := low_of (by omega) (Nat.gcd_one_right _)
    have z1 : dZ (.tuple [.int c, .int 1]) = false := decide_eq_false (by omega)
    have s1' : Sd (.tuple [.int c, .int 1]) := by walk_at "sd"
    walk_at "rds"
    refine cut_at (R3 t l c H) ?_ ?_
    · walk_at "rds"
      refine ⟨1, 6, rfl, ⟨by decide, by decide, by decide, by decide⟩, ?_⟩
      refine for_range (lo := 1) (n := 5) (fun i σ' H' => Same H5 H' ∧ ∃ u, σ' = [some (.ref t), some (.int c), b0, some bv, some wv, some gv, u]) ⟨Same.refl _, _, rfl⟩ ?_ ?_
      · rintro i σ' H6 hi ⟨t6, u, rfl⟩
        have rb6 := rb.to t6
        have rw6 := rw'.to t6
        have rg6 := rg.to t6
        walk_at "rds"
        refine' told_some (z := "one") (rt_one (by omega) lb) (by omega) (by omega) (sb) (sg) ?ra1 ?rb1 fun pt1 Ht1 et1 tt1 => ?_
        case ra1 => walk_at "rp"
        case rb1 => walk_at "rp"
        walk_at "rds"
        refine' told_ne (z := "one") (by decide +kernel) ?hp1 ?hq1 ?_
        case hp1 => walk_at "heap"
        case hq1 => walk_at "heap"
        walk_at "rds"
        refine' told_some (z := "one") (rt_one (by omega) lb) (by omega) (by omega) (sb) (sw) ?ra2 ?rb2 fun pt2 Ht2 et2 tt2 => ?_
        case ra2 => walk_at "rp"
        case rb2 => walk_at "rp"
        walk_at "rds"
        refine' told_ne (z := "one") (by decide +kernel) ?hp2 ?hq2 ?_
        case hp2 => walk_at "heap"
        case hq2 => walk_at "heap"
        walk_at "rds"
        refine' told_some (z := "other") (rt_other (by omega) lg lw) (by omega) (by omega) (sg) (sw) ?ra3 ?rb3 fun pt3 Ht3 et3 tt3 => ?_
        case ra3 => walk_at "rp"
        case rb3 => walk_at "rp"
        walk_at "rds"
        refine' told_ne (z := "other") (by decide +kernel) ?hp3 ?hq3 ?_
        case hp3 => walk_at "heap"
        case hq3 => walk_at "heap"
        walk_at "rds"
        refine' told_none (rt_let (by omega) lg l1 z1) (by omega) (by omega) (sg) (s1') ?ra4 ?rb4 fun pt4 Ht4 et4 tt4 => ?_
        case ra4 => walk_at "rp"
        case rb4 => walk_at "rp"
        walk_at "rds"
        refine' let_ne ?hp4 ?hq4 ?_
        case hp4 => walk_at "heap"
        case hq4 => walk_at "heap"
        walk_at "rds"
        refine ⟨?_, _, rfl⟩
        walk_at "same"
      · rintro σ' H6 ⟨t6, u, rfl⟩
        exact ⟨_, _, _, _, _, rfl, T.to t6, s.trans (Sam.of t6)⟩
    clear rb rw' rg hb hw hg T s
    rintro _ H6 ⟨o2, o3, o4, o5, o6, rfl, T, s⟩
    walk_at "rds"
    refine ⟨t, l, 6, rfl, by walk_at "tq", by decide, by decide, fun k4 H7 a7 b7 T7 s7 => ?_⟩
    refine' ix_da (M := nInt) ?he1 ?hd1 a7 ?hl1 fun bv hb => ?_
    case he1 => walk_at "heap"
    case hl1 => exact b7
    case hd1 => walk_at "das"
    walk_at "rds"
    refine cut_at (R4 t l c H) ?_ ?_
    · walk_at "rds"
      refine ⟨t, l, 7, rfl, by walk_at "tq", by decide, by decide, fun k5 H8 a8 b8 T8 s8 => ?_⟩
      refine' ix_da (M := nNz) ?he2 ?hd2 a8 ?hl2 fun wv hw => ?_
      case he2 => walk_at "heap"
      case hl2 => exact b8
      case hd2 => walk_at "das"
      walk_at "rds"
      refine' r4_mk ?g1 ?g2 ?g3 ?g5 ?g6
      case g1 => exact rfl
      case g2 => walk_at "da"
      case g3 => walk_at "da"
      case g5 => walk_at "tq"
      case g6 => walk_at "sam"
    clear hb T7 s7 T s
    rintro _ H9 ⟨o2, bv, wv, o5, o6, rfl, hb, hw, T, s⟩
    obtain ⟨db, rb, sb, mb⟩ := hb.ex
    obtain ⟨dw, rw', sw, mw⟩ := hw.ex
    have lb : dInt db = false := by unfold nInt at mb; simpa using mb
    have lw : dNz dw = false := by unfold nNz at mw; simpa using mw
    have sc : Sd (.int c) := sd_small (by unfold In6; omega)
    have sn : Sd (.int (-c)) := sd_small (by unfold In6; omega)
    have s0 : Sd (.int 0) := sd_small (by unfold In6; omega)
    have hz : rTold 0 (.int 0) (.int (-c)) = none := by simp [rTold, dInt, dNz]; omega
    clear hb hw
    walk_at "rds"
    refine' told_some (z := "top") (rt_top lb) (by omega) (by omega) (sb) (sc) ?ra11 ?rb11 fun pt11 Ht11 et11 tt11 => ?_
    case ra11 => walk_at "rp"
    case rb11 => walk_at "rp"
    walk_at "rds"
    refine' told_ne (z := "top") (by decide +kernel) ?hp11 ?hq11 ?_
    case hp11 => walk_at "heap"
    case hq11 => walk_at "heap"
    walk_at "rds"
    refine' told_some (z := "top") (rt_top lb) (by omega) (by omega) (sb) (sw) ?ra12 ?rb12 fun pt12 Ht12 et12 tt12 => ?_
    case ra12 => walk_at "rp"
    case rb12 => walk_at "rp"
    walk_at "rds"
    refine' told_ne (z := "top") (by decide +kernel) ?hp12 ?hq12 ?_
    case hp12 => walk_at "heap"
    case hq12 => walk_at "heap"
    walk_at "rds"
    refine' told_some (z := "bottom") (rt_bottom (d1 := .int c) rfl lw) (by omega) (by omega) (sc) (sw) ?ra13 ?rb13 fun pt13 Ht13 et13 tt13 => ?_
    case ra13 => walk_at "rp"
    case rb13 => walk_at "rp"
    walk_at "rds"
    refine' told_ne (z := "bottom") (by decide +kernel) ?hp13 ?hq13 ?_
    case hp13 => walk_at "heap"
    case hq13 => walk_at "heap"
    walk_at "rds"
    refine' told_none (hz) (by omega) (by omega) (s0) (sn) ?ra14 ?rb14 fun pt14 Ht14 et14 tt14 => ?_
    case ra14 => walk_at "rp"
    case rb14 => walk_at "rp"
    walk_at "rds"
    refine' let_eq ?hp14 ?hq14 ?_
    case hp14 => walk_at "heap"
    case hq14 => walk_at "heap"
    walk_at "rds"
    refine' told_some (z := "bottom") (rt_bottom (d1 := .int c) (d2 := .int 0) rfl rfl) (by omega) (by omega) (sc) (s0) ?ra15 ?rb15 fun pt15 Ht15 et15 tt15 => ?_
    case ra15 => walk_at "rp"
    case rb15 => walk_at "rp"
    walk_at "rds"
    refine' told_eq (z := "bottom") (by decide +kernel) ?hp15 ?hq15 ?_
    case hp15 => walk_at "heap"
    case hq15 => walk_at "heap"
    walk_at "rds"
    refine' kk _ ?m1 ?m2
    case m1 => walk_at "tq"
    case m2 => walk_at "sam"
end
end K15
end SecQ13
section SecQ14
set_option Elab.async false
set_option linter.all false
set_option maxRecDepth 100000
set_option maxHeartbeats 4000000
set_option pp.deepTerms false
local macro_rules | `(tactic| walk_at "tq") => `(tactic| first | assumption | (refine' Dt.Tq.to ?s0 ?h0; (case h0 => assumption); (case s0 => walk_at "same")))
local macro_rules | `(tactic| walk_at "same") => `(tactic| first | exact L2.Same.refl _ | assumption | (refine' L2.Same.trans ?s1 ?s2; (case s2 => assumption); (case s1 => walk_at "same")))
local macro_rules | `(tactic| walk_at "sam") => `(tactic| first | exact Dt.Sam.refl | assumption | exact Dt.Sam.of (by assumption) | (refine' Dt.Sam.trans ?s1 ?s2; (case s2 => first | assumption | exact Dt.Sam.of (by assumption)); (case s1 => walk_at "sam")))
local macro_rules | `(tactic| walk_at "tape") => `(tactic| first | assumption | (refine' Dt.Tape.mono ?h0 ?s0; (case h0 => assumption); (case s0 => walk_at "same")))
local macro_rules | `(tactic| walk_at "nt") => `(tactic| first | exact Dt.nt_tup | exact Dt.nt_ints | assumption | (intro a0 b0 c0 l0 z0; cases z0) | (intro a0 b0 c0 l0 z0; simp at z0))
local macro_rules | `(tactic| walk_at "heap") => `(tactic| first | assumption | exact L2.upd_same | (refine' Rd.at_to ?s0 ?h0; (case h0 => assumption); (case s0 => walk_at "same")) | (refine' Dt.at_sam ?n0 ?s0 ?h0; (case h0 => assumption); (case n0 => walk_at "nt"); (case s0 => walk_at "sam")))
local macro_rules | `(tactic| walk_at "rp") => `(tactic| first | exact Dt.Rp.int _ | exact Dt.Rp.bl _ | exact Dt.Rp.str _ | exact Dt.Rp.non | assumption | (refine' Dt.Rp.sm ?s0 ?h0; (case h0 => assumption); (case s0 => walk_at "sam")) | (refine' Dt.Rp.tup ?h1 ?h2 ?h3; (case h1 => walk_at "heap"); (case h2 => walk_at "rps"); (case h3 => first | assumption | (show _ ≤ 1000; decide) | (show _ ≤ 1000; simp) | (show _ ≤ 1000; omega))) | (refine' Dt.Rp.lst ?h1 ?h2 ?h3 ?h4; (case h1 => walk_at "heap"); (case h2 => walk_at "rps"); (case h3 => first | assumption | (show _ ≤ 1000; decide) | (show _ ≤ 1000; simp) | (show _ ≤ 1000; omega)); (case h4 => walk_at "nt")))
local macro_rules | `(tactic| walk_at "rps") => `(tactic| first | exact Dt.RpAll.nil | assumption | (refine' Dt.RpAll.cons ?h1 ?h2; (case h1 => walk_at "rp"); (case h2 => walk_at "rps")) | (refine' Dt.RpAll.sm ?s0 ?h0; (case h0 => assumption); (case s0 => walk_at "sam")))
local macro_rules | `(tactic| walk_at "rd") => `(tactic| first
  | with_reducible refine Rd.seq ?_ | with_reducible refine Rd.asg ?_ | with_reducible refine Rd.nm ?_ | with_reducible refine Rd.sub ?_ | with_reducible refine Rd.ret ?_ | with_reducible refine Rd.retN ?_
  | with_reducible refine Rd.drop ?_ | with_reducible refine Rd.ifs ?_ | with_reducible refine Rd.next ?_ | with_reducible refine Rd.cst ?_ | with_reducible refine Rd.op ?_ | with_reducible refine Rd.un ?_
  | with_reducible refine Rd.test ?_ | with_reducible refine Rd.tb' ?_ | with_reducible refine Rd.exb ?_ | with_reducible refine Rd.exi ?_ | with_reducible refine Rd.and2 ?_ | with_reducible refine Rd.or2 ?_ | with_reducible refine Rd.not1 ?_
  | with_reducible refine Rd.andV ?_ | with_reducible refine Rd.orV ?_ | with_reducible refine Rd.notV ?_ | with_reducible refine Rd.nil ?_ | with_reducible refine Rd.cons ?_ | with_reducible refine Rd.cb ?_
  | with_reducible refine Rd.i0 ?_ | with_reducible refine Rd.u1 ?_ | with_reducible refine Rd.call ?_ | with_reducible refine Rd.tup ?_ | with_reducible refine Rd.lst ?_ | with_reducible refine Rd.sl ?_ | with_reducible refine Rd.no ?_ | with_reducible refine Rd.part ?_ | with_reducible refine Rd.at_ ?_ | with_reducible refine Rd.yes ?_ | with_reducible refine Rd.fors ?_ | with_reducible refine Rd.m1 ?_ | with_reducible refine Rd.exs ?_ | with_reducible refine Rd.lc ?_ | with_reducible refine Rd.rng ?_
  | with_reducible refine Rd.mkv ?_ | with_reducible refine Rd.mko ?_ | with_reducible refine Rd.callB ?_ | with_reducible refine Rd.callS ?_ | with_reducible refine Rd.bm ?_ | with_reducible refine Rd.itl ?_ | with_reducible refine Rd.itt ?_
  | ((with_reducible refine' And.intro ?hl ?_); (case hl => ((with_reducible show List.length _ ≤ PySem.sizeLine); (show _ ≤ PySem.sizeLine); rw [PySem.sizeLine_eq]; simp)))
  | (intro p0 n0; generalize hK0 : L2.upd _ p0 _ = K0; obtain ⟨e0, t0⟩ := Dt.newK hK0 n0)
  | ((with_reducible refine' Rd.lenKL ?he ?_); (case he => walk_at "heap")) | ((with_reducible refine' Rd.lenKT ?he ?_); (case he => walk_at "heap"))
  | ((with_reducible refine' Rd.var ?hv ?_); (case hv => exact rfl))
  | ((with_reducible refine' Rd.ifT ?hv ?_); (case hv => first | exact rfl | assumption)) | ((with_reducible refine' Rd.ifF ?hv ?_); (case hv => first | exact rfl | assumption))
  | ((with_reducible refine' Rd.eq ?hv ?_); (case hv => exact rfl))
  | ((with_reducible refine' Rd.ne ?hv ?_); (case hv => exact rfl))
  | ((with_reducible refine' Dt.isi_int ?hr ?_); (case hr => walk_at "rp")) | ((with_reducible refine' Dt.isi_bool ?hr ?_); (case hr => walk_at "rp")) | ((with_reducible refine' Dt.isi_tuple ?hr ?_); (case hr => walk_at "rp")) | ((with_reducible refine' Dt.isi_str ?hr ?_); (case hr => walk_at "rp")) | ((with_reducible refine' Dt.isi_list ?hr ?_); (case hr => walk_at "rp"))
  | with_reducible refine ⟨rfl, ?_⟩ | with_reducible refine Or.inl ⟨_, rfl, ?_⟩ | with_reducible refine Or.inr ⟨_, rfl, ?_⟩ | with_reducible refine ⟨_, rfl, ?_⟩
  | ((with_reducible refine' Rd.ex2 ⟨rfl, ?hl, ?_⟩); (case hl => first | exact Or.inl ⟨_, L2.SqL.of (by walk_at "heap"), rfl⟩ | exact Or.inr ⟨_, L2.SqT.of (by walk_at "heap"), rfl⟩))
  | ((with_reducible refine' Rd.i1 ?hv ?_); (case hv => first | exact ⟨by decide, by decide, by decide⟩ | exact Or.inr ⟨by decide, by decide⟩ | exact Or.inl ⟨by decide, by decide⟩ | exact ⟨by decide, by decide⟩ | decide | assumption | (show _ ≠ _; omega) | (refine ⟨?_, ?_⟩ <;> omega) | (refine Or.inl ⟨?_, ?_⟩ <;> omega)))
  | ((with_reducible refine' Rd.ixL ?he ?hx ?_); (case he => walk_at "heap"); (case hx => rfl))
  | ((with_reducible refine' Rd.ixT ?he ?hx ?_); (case he => walk_at "heap"); (case hx => rfl))
  | ((with_reducible refine' Rd.setL ?he ?hx ?_); (case he => first | assumption | exact L2.upd_same); (case hx => rfl)))
local macro_rules | `(tactic| walk_at "rd") => `(tactic| first | with_reducible refine Rd.isT ?_ | with_reducible refine Rd.isnT ?_)
local macro_rules | `(tactic| walk_at "rd") => `(tactic| first | ((with_reducible refine' Rd.gtup ?he ?hl ?_); (case he => walk_at "heap"); (case hl => exact rfl)) | with_reducible refine Rd.brk ?_ | with_reducible refine Rd.callR ?_ | ((with_reducible refine' ⟨_, _, rfl, Or.inl ⟨L2.SqL.of ?hp, ?_⟩⟩); (case hp => walk_at "heap")) | ((with_reducible refine' ⟨_, _, rfl, Or.inl (L2.SqL.of ?hp), ?_⟩); (case hp => walk_at "heap")) | ((with_reducible refine' Rd.catL ?hp ?hq ?hl ?_); (case hp => walk_at "heap"); (case hq => walk_at "heap"); (case hl => (simp only [List.length_map, List.length_append, List.length_cons, List.length_nil]; omega)); (intro r0 J0 e0 t0 n0)) | with_reducible refine Rd.bits ?_ | with_reducible refine Rd.max2 ?_ | with_reducible refine Rd.gcons ?_ | with_reducible refine Rd.gnil ?_)
local macro_rules | `(tactic| walk_at "rds") => `(tactic| repeat (first | walk_at "rd" | assumption))
namespace K15
open PySem PySem.Spec PyProof.Rows L2 L2H Err Dt
theorem cut_lo {ms : List Int} {a : Int} (h0 : 0 ≤ a) (h1 : a < (ms.length : Int)) : cutV (ms.map V.int) none (some a) = (ms.take a.toNat).map V.int := by
  have e : HT.sIx ms.length ms.length (some a) = a.toNat := by
    show (if a < 0 then _ else min a.toNat ms.length) = _
    rw [if_neg (by omega)]
    omega
  unfold cutV
  rw [List.length_map, HT.sIx_none, e, Nat.sub_zero, List.drop_zero, List.map_take]
theorem cut_hi {ms : List Int} {a : Int} (h0 : 0 ≤ a) (h1 : a < (ms.length : Int)) : cutV (ms.map V.int) (some (a + 1)) none = (ms.drop (a.toNat + 1)).map V.int := by
  have e : HT.sIx ms.length 0 (some (a + 1)) = a.toNat + 1 := by
    show (if a + 1 < 0 then _ else min (a + 1).toNat ms.length) = _
    rw [if_neg (by omega)]
    omega
  unfold cutV
  rw [List.length_map, HT.sIx_none, e, List.take_of_length_le (by rw [List.length_drop, List.length_map]; omega), List.map_drop]
/-- a value with its data, of which M holds; no sizes -/
def Db (M : PyData → Bool) (H : Hp) (v : V) : Prop := ∃ d, Rp H v d ∧ M d = true
theorem Db.to {M : PyData → Bool} {H H' : Hp} {v : V} (s : Sam H H') (h : Db M H v) : Db M H' v := by
  obtain ⟨d, r, m⟩ := h
  exact ⟨d, r.sm s, m⟩
theorem db {M : PyData → Bool} {H : Hp} {v : V} (d : PyData) (r : Rp H v d) (m : M d = true) : Db M H v := ⟨d, r, m⟩
theorem db_nil {M : PyData → Bool} {H : Hp} : ∀ v ∈ ([] : List V), Db M H v := fun _ h => by cases h
theorem db_cons {M : PyData → Bool} {H : Hp} {v : V} {vs : List V} (h : Db M H v) (t : ∀ u ∈ vs, Db M H u) : ∀ u ∈ v :: vs, Db M H u := fun u hu => by
  rcases List.mem_cons.mp hu with rfl | hu
  · exact h
  · exact t u hu
theorem db_appd {M : PyData → Bool} {H : Hp} {L N : List V} (h1 : ∀ v ∈ L, Db M H v) (h2 : ∀ v ∈ N, Db M H v) : ∀ v ∈ L ++ N, Db M H v := fun v hv => by
  rcases List.mem_append.mp hv with h | h
  · exact h1 v h
  · exact h2 v h
theorem db_all {M : PyData → Bool} {H H' : Hp} {L : List V} (s : Sam H H') (h : ∀ v ∈ L, Db M H v) : ∀ v ∈ L, Db M H' v := fun v hv => (h v hv).to s
theorem ix_db {M : PyData → Bool} {K : PySem.W.Frag} {H : Hp} {p : Addr} {k : Int} {xs : List V} {Q : VK} (e : H p = some (.lst xs)) (h : ∀ v ∈ xs, Db M H v) (h0 : 0 ≤ k) (h1 : k < (xs.length : Int)) (q : ∀ v, Db M H v → Q v H) : rIxL K (.ref p) (.int k) H Q := by
  have hk : k.toNat < xs.length := by omega
  have e2 := atI_nat (List.getElem?_eq_getElem hk)
  rw [show ((k.toNat : Nat) : Int) = k by omega] at e2
  exact ⟨p, xs, k, _, rfl, rfl, SqL.of e, e2, q _ (h _ (List.getElem_mem hk))⟩
/-- no row of n -/
def nRow (n : Int) : PyData → Bool := fun d => !dRow n d
theorem nrow_len {n : Int} {ds : List PyData} (h : (ds.length : Int) ≠ n) : nRow n (.tuple ds) = true := by
  show (!(decide ((ds.length : Int) = n) && ds.all dInt)) = true
  rw [decide_eq_false h]
  rfl
theorem nrow_mem {n : Int} {ds : List PyData} {d : PyData} (h : d ∈ ds) (hd : dInt d = false) : nRow n (.tuple ds) = true := by
  have : ds.all dInt = false := by
    rw [List.all_eq_false]
    exact ⟨d, h, by rw [hd]; simp⟩
  show (!(decide ((ds.length : Int) = n) && ds.all dInt)) = true
  rw [this, Bool.and_false]
  rfl
def spSpoilt : Sp := fun vs H Q _ => ∃ (t l p : Addr) (ms : List Int), vs = [.ref t, .ref p] ∧ H p = some (.lst (ms.map V.int)) ∧ 2 ≤ ms.length ∧ ms.length ≤ 4 ∧ Tq t l H ∧ ∀ (v : V) (H' : Hp), Db (nRow ms.length) H' v → Tq t l H' → Sam H H' → Q v H'
def S1 (t l p : Addr) (a : Int) (ms : List Int) (H0 : Hp) : L2.St → Hp → Prop := fun σ' H' => ∃ v, σ' = [some (.ref t), some (.ref p), some (.int a), some v, none] ∧ Db (nRow ms.length) H' v ∧ H' p = some (.lst (ms.map V.int)) ∧ Tq t l H' ∧ Sam H0 H'
theorem s1_mk {t l p : Addr} {a : Int} {ms : List Int} {H0 H' : Hp} {v : V} {σ' : L2.St} (e : σ' = [some (.ref t), some (.ref p), some (.int a), some v, none]) (h1 : Db (nRow ms.length) H' v) (h2 : H' p = some (.lst (ms.map V.int))) (T : Tq t l H') (s : Sam H0 H') : S1 t l p a ms H0 σ' H' := ⟨v, e, h1, h2, T, s⟩
def S2 (t l p : Addr) (a : Int) (ms : List Int) (w : V) (n : Nat) (H0 : Hp) : L2.St → Hp → Prop := fun σ' H' => ∃ (q : Addr) (L : List V), σ' = [some (.ref t), some (.ref p), some (.int a), some w, some (.ref q)] ∧ H' q = some (.lst L) ∧ L.length = n ∧ (∀ v ∈ L, Db (nRow ms.length) H' v) ∧ H' p = some (.lst (ms.map V.int)) ∧ Tq t l H' ∧ Sam H0 H'
theorem s2_mk {t l p q : Addr} {a : Int} {ms : List Int} {w : V} {n : Nat} {H0 H' : Hp} {L : List V} {σ' : L2.St} (e : σ' = [some (.ref t), some (.ref p), some (.int a), some w, some (.ref q)]) (h0 : H' q = some (.lst L)) (hn : L.length = n) (h1 : ∀ v ∈ L, Db (nRow ms.length) H' v) (h2 : H' p = some (.lst (ms.map V.int))) (T : Tq t l H') (s : Sam H0 H') : S2 t l p a ms w n H0 σ' H' := ⟨q, L, e, h0, hn, h1, h2, T, s⟩
theorem rp_tupA {H : Hp} {p : Addr} {as bs : List Int} (e : H p = some (.tup (as.map V.int ++ bs.map V.int))) (l : as.length + bs.length ≤ 1000) : Rp H (.ref p) (.tuple (as.map PyData.int ++ bs.map PyData.int)) := .tup e ((rp_ints as).app (rp_ints bs)) (by rw [List.length_append, List.length_map, List.length_map]; exact l)
theorem rp_tupB {H : Hp} {p : Addr} {as bs : List Int} {v : V} {d : PyData} (r : Rp H v d) (e : H p = some (.tup (as.map V.int ++ [v] ++ bs.map V.int))) (l : as.length + bs.length ≤ 900) : Rp H (.ref p) (.tuple (as.map PyData.int ++ [d] ++ bs.map PyData.int)) := .tup e (((rp_ints as).app (.cons r .nil)).app (rp_ints bs)) (by rw [List.length_append, List.length_append, List.length_map, List.length_map]; show as.length + 1 + bs.length ≤ 1000; omega)
local macro_rules | `(tactic| walk_at "sd") => `(tactic| first | exact True.intro | exact sd_small (by unfold In6; omega) | exact sdl_nil | (refine sdl_o rfl ?_; walk_at "sd") | (refine' sdl_i ?a0 ?b0; (case a0 => (unfold In6; omega)); (case b0 => walk_at "sd")))
local macro_rules | `(tactic| walk_at "dm") => `(tactic| first | rfl | exact nlow1 (by omega) | exact nlow2 (by omega) | exact nlow3 (by omega) | exact glow1 (by omega) | exact low_of (by omega) (by simp) | exact low_of (by omega) (Nat.gcd_one_left _) | exact low_of (by omega) (Nat.gcd_one_right _))
local macro_rules | `(tactic| walk_at "da") => `(tactic| first | assumption | (refine' Da.to ?s0 ?h0; (case h0 => assumption); (case s0 => walk_at "sam")) | (refine' da _ ?r0 ?s0 ?m0; (case r0 => walk_at "rp"); (case s0 => walk_at "sd"); (case m0 => walk_at "dm")))
local macro_rules | `(tactic| walk_at "das") => `(tactic| first | exact da_nil | (refine' da_cons ?h0 ?t0; (case h0 => walk_at "da"); (case t0 => walk_at "das")))
end K15
end SecQ14
section SecQ15
set_option Elab.async false
set_option linter.all false
set_option maxRecDepth 100000
set_option maxHeartbeats 4000000
set_option pp.deepTerms false
local macro_rules | `(tactic| walk_at "tq") => `(tactic| first | assumption | (refine' Dt.Tq.to ?s0 ?h0; (case h0 => assumption); (case s0 => walk_at "same")))
local macro_rules | `(tactic| walk_at "same") => `(tactic| first | exact L2.Same.refl _ | assumption | (refine' L2.Same.trans ?s1 ?s2; (case s2 => assumption); (case s1 => walk_at "same")))
local macro_rules | `(tactic| walk_at "sam") => `(tactic| first | exact Dt.Sam.refl | assumption | exact Dt.Sam.of (by assumption) | (refine' Dt.Sam.trans ?s1 ?s2; (case s2 => first | assumption | exact Dt.Sam.of (by assumption)); (case s1 => walk_at "sam")))
local macro_rules | `(tactic| walk_at "tape") => `(tactic| first | assumption | (refine' Dt.Tape.mono ?h0 ?s0; (case h0 => assumption); (case s0 => walk_at "same")))
local macro_rules | `(tactic| walk_at "nt") => `(tactic| first | exact Dt.nt_tup | exact Dt.nt_ints | assumption | (intro a0 b0 c0 l0 z0; cases z0) | (intro a0 b0 c0 l0 z0; simp at z0))
local macro_rules | `(tactic| walk_at "heap") => `(tactic| first | assumption | exact L2.upd_same | (refine' Rd.at_to ?s0 ?h0; (case h0 => assumption); (case s0 => walk_at "same")) | (refine' Dt.at_sam ?n0 ?s0 ?h0; (case h0 => assumption); (case n0 => walk_at "nt"); (case s0 => walk_at "sam")))
local macro_rules | `(tactic| walk_at "rp") => `(tactic| first | exact Dt.Rp.int _ | exact Dt.Rp.bl _ | exact Dt.Rp.str _ | exact Dt.Rp.non | assumption | (refine' Dt.Rp.sm ?s0 ?h0; (case h0 => assumption); (case s0 => walk_at "sam")) | (refine' Dt.Rp.tup ?h1 ?h2 ?h3; (case h1 => walk_at "heap"); (case h2 => walk_at "rps"); (case h3 => first | assumption | (show _ ≤ 1000; decide) | (show _ ≤ 1000; simp) | (show _ ≤ 1000; omega))) | (refine' Dt.Rp.lst ?h1 ?h2 ?h3 ?h4; (case h1 => walk_at "heap"); (case h2 => walk_at "rps"); (case h3 => first | assumption | (show _ ≤ 1000; decide) | (show _ ≤ 1000; simp) | (show _ ≤ 1000; omega)); (case h4 => walk_at "nt")))
local macro_rules | `(tactic| walk_at "rps") => `(tactic| first | exact Dt.RpAll.nil | assumption | (refine' Dt.RpAll.cons ?h1 ?h2; (case h1 => walk_at "rp"); (case h2 => walk_at "rps")) | (refine' Dt.RpAll.sm ?s0 ?h0; (case h0 => assumption); (case s0 => walk_at "sam")))
local macro_rules | `(tactic| walk_at "rd") => `(tactic| first
  | with_reducible refine Rd.seq ?_ | with_reducible refine Rd.asg ?_ | with_reducible refine Rd.nm ?_ | with_reducible refine Rd.sub ?_ | with_reducible refine Rd.ret ?_ | with_reducible refine Rd.retN ?_
  | with_reducible refine Rd.drop ?_ | with_reducible refine Rd.ifs ?_ | with_reducible refine Rd.next ?_ | with_reducible refine Rd.cst ?_ | with_reducible refine Rd.op ?_ | with_reducible refine Rd.un ?_
  | with_reducible refine Rd.test ?_ | with_reducible refine Rd.tb' ?_ | with_reducible refine Rd.exb ?_ | with_reducible refine Rd.exi ?_ | with_reducible refine Rd.and2 ?_ | with_reducible refine Rd.or2 ?_ | with_reducible refine Rd.not1 ?_
  | with_reducible refine Rd.andV ?_ | with_reducible refine Rd.orV ?_ | with_reducible refine Rd.notV ?_ | with_reducible refine Rd.nil ?_ | with_reducible refine Rd.cons ?_ | with_reducible refine Rd.cb ?_
  | with_reducible refine Rd.i0 ?_ | with_reducible refine Rd.u1 ?_ | with_reducible refine Rd.call ?_ | with_reducible refine Rd.tup ?_ | with_reducible refine Rd.lst ?_ | with_reducible refine Rd.sl ?_ | with_reducible refine Rd.no ?_ | with_reducible refine Rd.part ?_ | with_reducible refine Rd.at_ ?_ | with_reducible refine Rd.yes ?_ | with_reducible refine Rd.fors ?_ | with_reducible refine Rd.m1 ?_ | with_reducible refine Rd.exs ?_ | with_reducible refine Rd.lc ?_ | with_reducible refine Rd.rng ?_
  | with_reducible refine Rd.mkv ?_ | with_reducible refine Rd.mko ?_ | with_reducible refine Rd.callB ?_ | with_reducible refine Rd.callS ?_ | with_reducible refine Rd.bm ?_ | with_reducible refine Rd.itl ?_ | with_reducible refine Rd.itt ?_
  | ((with_reducible refine' And.intro ?hl ?_); (case hl => ((with_reducible show List.length _ ≤ PySem.sizeLine); (show _ ≤ PySem.sizeLine); rw [PySem.sizeLine_eq]; simp)))
  | (intro p0 n0; generalize hK0 : L2.upd _ p0 _ = K0; obtain ⟨e0, t0⟩ := Dt.newK hK0 n0)
  | ((with_reducible refine' Rd.lenKL ?he ?_); (case he => walk_at "heap")) | ((with_reducible refine' Rd.lenKT ?he ?_); (case he => walk_at "heap"))
  | ((with_reducible refine' Rd.var ?hv ?_); (case hv => exact rfl))
  | ((with_reducible refine' Rd.ifT ?hv ?_); (case hv => first | exact rfl | assumption)) | ((with_reducible refine' Rd.ifF ?hv ?_); (case hv => first | exact rfl | assumption))
  | ((with_reducible refine' Rd.eq ?hv ?_); (case hv => exact rfl))
  | ((with_reducible refine' Rd.ne ?hv ?_); (case hv => exact rfl))
  | ((with_reducible refine' Dt.isi_int ?hr ?_); (case hr => walk_at "rp")) | ((with_reducible refine' Dt.isi_bool ?hr ?_); (case hr => walk_at "rp")) | ((with_reducible refine' Dt.isi_tuple ?hr ?_); (case hr => walk_at "rp")) | ((with_reducible refine' Dt.isi_str ?hr ?_); (case hr => walk_at "rp")) | ((with_reducible refine' Dt.isi_list ?hr ?_); (case hr => walk_at "rp"))
  | with_reducible refine ⟨rfl, ?_⟩ | with_reducible refine Or.inl ⟨_, rfl, ?_⟩ | with_reducible refine Or.inr ⟨_, rfl, ?_⟩ | with_reducible refine ⟨_, rfl, ?_⟩
  | ((with_reducible refine' Rd.ex2 ⟨rfl, ?hl, ?_⟩); (case hl => first | exact Or.inl ⟨_, L2.SqL.of (by walk_at "heap"), rfl⟩ | exact Or.inr ⟨_, L2.SqT.of (by walk_at "heap"), rfl⟩))
  | ((with_reducible refine' Rd.i1 ?hv ?_); (case hv => first | exact ⟨by decide, by decide, by decide⟩ | exact Or.inr ⟨by decide, by decide⟩ | exact Or.inl ⟨by decide, by decide⟩ | exact ⟨by decide, by decide⟩ | decide | assumption | (show _ ≠ _; omega) | (refine ⟨?_, ?_⟩ <;> omega) | (refine Or.inl ⟨?_, ?_⟩ <;> omega)))
  | ((with_reducible refine' Rd.ixL ?he ?hx ?_); (case he => walk_at "heap"); (case hx => rfl))
  | ((with_reducible refine' Rd.ixT ?he ?hx ?_); (case he => walk_at "heap"); (case hx => rfl))
  | ((with_reducible refine' Rd.setL ?he ?hx ?_); (case he => first | assumption | exact L2.upd_same); (case hx => rfl)))
local macro_rules | `(tactic| walk_at "rd") => `(tactic| first | with_reducible refine Rd.isT ?_ | with_reducible refine Rd.isnT ?_)
local macro_rules | `(tactic| walk_at "rd") => `(tactic| first | ((with_reducible refine' Rd.gtup ?he ?hl ?_); (case he => walk_at "heap"); (case hl => exact rfl)) | with_reducible refine Rd.brk ?_ | with_reducible refine Rd.callR ?_ | ((with_reducible refine' ⟨_, _, rfl, Or.inl ⟨L2.SqL.of ?hp, ?_⟩⟩); (case hp => walk_at "heap")) | ((with_reducible refine' ⟨_, _, rfl, Or.inl (L2.SqL.of ?hp), ?_⟩); (case hp => walk_at "heap")) | ((with_reducible refine' Rd.catL ?hp ?hq ?hl ?_); (case hp => walk_at "heap"); (case hq => walk_at "heap"); (case hl => (simp only [List.length_map, List.length_append, List.length_cons, List.length_nil]; omega)); (intro r0 J0 e0 t0 n0)) | with_reducible refine Rd.bits ?_ | with_reducible refine Rd.max2 ?_ | with_reducible refine Rd.gcons ?_ | with_reducible refine Rd.gnil ?_)
local macro_rules | `(tactic| walk_at "rds") => `(tactic| repeat (first | walk_at "rd" | assumption))
namespace K15
open PySem PySem.Spec PyProof.Rows L2 L2H Err Dt
theorem slL_lo {K : PySem.W.Frag} {H : Hp} {p : Addr} {ms : List Int} {a : Int} {Q : VK} (e : H p = some (.lst (ms.map V.int))) (h0 : 0 ≤ a) (h1 : a < (ms.length : Int)) (q : ∀ p', H p' = none → Q (.ref p') (upd H p' (.lst ((ms.take a.toNat).map V.int)))) : rSlL K (.ref p) none (some a) H Q :=
  ⟨p, _, rfl, SqL.of e, fun p' n => by rw [cut_lo h0 h1]; exact q p' n⟩
theorem slL_hi {K : PySem.W.Frag} {H : Hp} {p : Addr} {ms : List Int} {a : Int} {Q : VK} (e : H p = some (.lst (ms.map V.int))) (h0 : 0 ≤ a) (h1 : a < (ms.length : Int)) (q : ∀ p', H p' = none → Q (.ref p') (upd H p' (.lst ((ms.drop (a.toNat + 1)).map V.int)))) : rSlL K (.ref p) (some (a + 1)) none H Q :=
  ⟨p, _, rfl, SqL.of e, fun p' n => by rw [cut_hi h0 h1]; exact q p' n⟩
local macro_rules | `(tactic| walk_at "nr") => `(tactic| first | rfl | exact nrow_len (by simp; omega) | (refine nrow_len ?_; (simp only [List.length_append, List.length_map, List.length_cons, List.length_nil, List.length_take, List.length_drop]; omega)) | (refine' nrow_mem (d := .bool true) ?hm rfl; (case hm => exact List.mem_append_left _ (List.mem_append_right _ (List.mem_singleton.mpr rfl)))) | (refine' nrow_mem (d := .none) ?hm rfl; (case hm => exact List.mem_append_left _ (List.mem_append_right _ (List.mem_singleton.mpr rfl)))))
local macro_rules | `(tactic| walk_at "db") => `(tactic| first | assumption | (refine' Db.to ?s0 ?h0; (case h0 => assumption); (case s0 => walk_at "sam")) | (refine' db _ (.lst ?e1 (rp_ints _) ?e2 nt_ints) ?m1; (case e1 => walk_at "heap"); (case e2 => (rw [List.length_map]; omega)); (case m1 => rfl)) | (refine' db _ (rp_tupA ?e1 ?l1) ?m1; (case e1 => walk_at "heap"); (case l1 => (simp only [List.length_take, List.length_drop]; omega)); (case m1 => walk_at "nr")) | (refine' db _ (rp_tupB (.bl true) ?e1 ?l1) ?m1; (case e1 => walk_at "heap"); (case l1 => (simp only [List.length_take, List.length_drop]; omega)); (case m1 => walk_at "nr")) | (refine' db _ (rp_tupB .non ?e1 ?l1) ?m1; (case e1 => walk_at "heap"); (case l1 => (simp only [List.length_take, List.length_drop]; omega)); (case m1 => walk_at "nr")) | (refine' db _ (Rp.tup ?e1 ((rp_ints _).app (.cons (.int _) .nil)) ?l1) ?m1; (case e1 => walk_at "heap"); (case l1 => (simp only [List.length_append, List.length_map, List.length_cons, List.length_nil]; omega)); (case m1 => walk_at "nr")) | (refine' db _ (Rp.tup ?e1 (.cons (rp_row ?e2 ?l2) .nil) ?l1) ?m1; (case e1 => walk_at "heap"); (case e2 => walk_at "heap"); (case l2 => omega); (case l1 => (show 1 ≤ 1000; decide)); (case m1 => walk_at "nr")) | (refine' db _ (Rp.tup ?e1 (.cons (rp_q ?e2) (.cons (rp_q ?e3) .nil)) ?l1) ?m1; (case e1 => walk_at "heap"); (case e2 => walk_at "heap"); (case e3 => walk_at "heap"); (case l1 => (show 2 ≤ 1000; decide)); (case m1 => exact nrow_mem (List.mem_cons_self ..) rfl)) | (refine' db _ ?r0 ?m0; (case r0 => walk_at "rp"); (case m0 => walk_at "nr")))
local macro_rules | `(tactic| walk_at "dbs") => `(tactic| first | exact db_nil | (refine' db_cons ?h0 ?t0; (case h0 => walk_at "db"); (case t0 => walk_at "dbs")))
local macro_rules | `(tactic| walk_at "rd") => `(tactic| first | ((with_reducible refine' slL_lo ?e0 ?h0 ?h1 ?_); (case e0 => walk_at "heap"); (case h0 => assumption); (case h1 => assumption)) | ((with_reducible refine' slL_hi ?e0 ?h0 ?h1 ?_); (case e0 => walk_at "heap"); (case h0 => assumption); (case h1 => assumption)) | ((with_reducible refine' Rd.catL ?hp ?hq ?hl ?_); (case hp => walk_at "heap"); (case hq => walk_at "heap"); (case hl => (simp only [List.length_map, List.length_append, List.length_cons, List.length_nil, List.length_take, List.length_drop]; omega)); (intro r0 J0 e0 t0 n0)))
section
variable {P : Program} {w : World} {K : PySem.W.Frag} {mg : Str → Option Value} {base : Heap}
set_option pp.maxSteps 3000
abbrev sSpoiltL : Stmt := topS 57
theorem scSpoiltL : FnScope ["tape", "row", "at", "strange", "things"] ["tape", "row"] (defScope sSpoiltL) := ⟨rfl, rfl, rfl, by decide +kernel, rfl, by decide +kernel, by decide +kernel⟩
theorem okSpoiltL {f : Addr} {fd : FuncData} (F : Fun K "_law_spoilt" "_law_spoilt" sSpoiltL f fd) (T : Tx mg) (DDrawL : Dn P w K mg base CX0 "_law_draw" 1 ["tape", "many"] spDw)  : FnOk P w K mg base CX0 2 f fd ["tape", "row"] spSpoilt := by
  refine F.ok scSpoiltL (fun vs H Q E h => ?_) (fun cdv A outer s H vs Q E hr h => ?_)
  · obtain ⟨t, l, p, ms, rfl, _⟩ := h
    rfl
  · obtain ⟨t, l, p, ms, rfl, ep, m2, m4, Tt, kk⟩ := h
    refine ⟨_, (pss_cons (ps_set (i := 2) scSpoiltL.nd rfl (Or.inl rfl) (pe_dn DDrawL (hr.mono (by omega)) (pa_cons (pv 0) (pa_cons (pe_callB call_len (by rfl) T.n_len (by decide +kernel) (pa_cons (pv 1) pa_nil)) pa_nil))))
    (C8.pss_cut (ps_set (i := 3) scSpoiltL.nd rfl (Or.inl rfl) (pe_ix ix_list (pe_lst (pa_cons pe_non (pa_cons pe_str (pa_cons pe_int (pa_cons pe_bl (pa_cons (pe_tup pa_nil) (pa_cons (pe_tup (pa_cons (pe_callTy call_tuple_of (by rfl) T.n_tuple (by decide +kernel) (pa_cons (pv 1) pa_nil)) pa_nil)) (pa_cons (pe_tup (pa_cons (pe_tup (pa_cons pe_int (pa_cons pe_int pa_nil))) (pa_cons (pe_tup (pa_cons pe_int (pa_cons pe_int pa_nil))) pa_nil))) pa_nil)))))))) (pe_dn DDrawL (hr.mono (by omega)) (pa_cons (pv 0) (pa_cons pe_int pa_nil))) (fun _ _ => rfl)))
    (C8.pss_cut (ps_set (i := 4) scSpoiltL.nd rfl (Or.inl rfl) (pe_lst (pa_cons (pe_callTy call_list_of (by rfl) T.n_list (by decide +kernel) (pa_cons (pv 1) pa_nil)) (pa_cons (pe_callTy call_tuple_of (by rfl) T.n_tuple (by decide +kernel) (pa_cons (pe_op op_cat (pe_slice sl_list (pv 1) po_none (po_some (pv 2))) (pe_slice sl_list (pv 1) (po_some (pe_op op_add (pv 2) pe_int)) po_none)) pa_nil)) (pa_cons (pe_callTy call_tuple_of (by rfl) T.n_tuple (by decide +kernel) (pa_cons (pe_op op_cat (pv 1) (pe_lst (pa_cons pe_int pa_nil))) pa_nil)) (pa_cons (pv 3) (pa_cons (pv 3) pa_nil)))))))
    (C8.pss_cut (ps_set (i := 4) scSpoiltL.nd rfl (Or.inl rfl) (pe_op op_cat (pv 4) (pe_lst (pa_cons (pe_callTy call_tuple_of (by rfl) T.n_tuple (by decide +kernel) (pa_cons (pe_op op_cat (pe_op op_cat (pe_slice sl_list (pv 1) po_none (po_some (pv 2))) (pe_lst (pa_cons pe_bl pa_nil))) (pe_slice sl_list (pv 1) (po_some (pe_op op_add (pv 2) pe_int)) po_none)) pa_nil)) (pa_cons (pe_callTy call_tuple_of (by rfl) T.n_tuple (by decide +kernel) (pa_cons (pe_op op_cat (pe_op op_cat (pe_slice sl_list (pv 1) po_none (po_some (pv 2))) (pe_lst (pa_cons pe_non pa_nil))) (pe_slice sl_list (pv 1) (po_some (pe_op op_add (pv 2) pe_int)) po_none)) pa_nil)) pa_nil)))))
    (pss_one (ps_ret (pe_ix ix_list (pv 4) (pe_dn DDrawL (hr.mono (by omega)) (pa_cons (pv 0) (pa_cons pe_int pa_nil))) (fun _ _ => rfl)))))))), ?_⟩
    have st0 : L2.start ["tape", "row", "at", "strange", "things"] [V.ref t, V.ref p] = [some (V.ref t), some (V.ref p), none, none, none] := rfl
    rw [st0]
    walk_at "rds"
    rw [List.length_map]
    refine ⟨t, l, _, rfl, Tt, by omega, by omega, fun a H1 a1 b1 T1 s1 => ?_⟩
    have ep1 : H1 p = _ := s1 _ _ nt_ints ep
    walk_at "rds"
    refine cut_at (S1 t l p a ms H) ?_ ?_
    · walk_at "rds"
      refine ⟨t, l, 7, rfl, by walk_at "tq", by decide, by decide, fun k1 H3 a3 b3 T3 s3 => ?_⟩
      refine' ix_db (M := nRow ms.length) ?he ?hd a3 ?hl fun v hv => ?_
      case he => walk_at "heap"
      case hl => exact b3
      case hd => walk_at "dbs"
      walk_at "rds"
      refine' s1_mk ?f1 ?f2 ?f3 ?f4 ?f5
      case f1 => exact rfl
      case f2 => exact hv
      case f3 => walk_at "heap"
      case f4 => walk_at "tq"
      case f5 => walk_at "sam"
    clear s1 ep1 T1 Tt ep
    rintro _ H1 ⟨w9, rfl, hw, ep, T, s⟩
    walk_at "rds"
    refine cut_at (S2 t l p a ms w9 5 H) ?_ ?_
    · walk_at "rds"
      refine' s2_mk ?g0 ?g1 ?g2 ?g3 ?g4 ?g5 ?g6
      case g0 => exact rfl
      case g1 => walk_at "heap"
      case g2 => exact rfl
      case g3 => walk_at "dbs"
      case g4 => walk_at "heap"
      case g5 => walk_at "tq"
      case g6 => walk_at "sam"
    clear hw ep T s
    rintro _ H1 ⟨q, L, rfl, eL, lL, hL, ep, T, s⟩
    walk_at "rds"
    refine cut_at (S2 t l p a ms w9 7 H) ?_ ?_
    · walk_at "rds"
      refine' s2_mk ?u0 ?u1 ?u2 ?u3 ?u4 ?u5 ?u6
      case u0 => exact rfl
      case u1 => walk_at "heap"
      case u2 => (simp only [List.length_append, List.length_cons, List.length_nil]; omega)
      case u3 => exact db_appd (db_all (by walk_at "sam") hL) (by walk_at "dbs")
      case u4 => walk_at "heap"
      case u5 => walk_at "tq"
      case u6 => walk_at "sam"
    clear eL lL hL ep T s
    rintro _ H1 ⟨q, L, rfl, eL, lL, hL, ep, T, s⟩
    walk_at "rds"
    refine ⟨t, l, 7, rfl, T, by decide, by decide, fun k2 H5 a5 b5 T5 s5 => ?_⟩
    refine ix_db (s5 _ _ (fun _ _ _ _ z => by cases z; simp at lL) eL) (db_all s5 hL) a5 (by omega) fun v hv => ?_
    exact kk _ _ hv T5 (s.trans s5)
end
end K15
end SecQ15
section SecQ16
set_option Elab.async false
set_option linter.all false
set_option maxRecDepth 100000
set_option maxHeartbeats 4000000
set_option pp.deepTerms false
local macro_rules | `(tactic| walk_at "tq") => `(tactic| first | assumption | (refine' Dt.Tq.to ?s0 ?h0; (case h0 => assumption); (case s0 => walk_at "same")))
local macro_rules | `(tactic| walk_at "same") => `(tactic| first | exact L2.Same.refl _ | assumption | (refine' L2.Same.trans ?s1 ?s2; (case s2 => assumption); (case s1 => walk_at "same")))
local macro_rules | `(tactic| walk_at "sam") => `(tactic| first | exact Dt.Sam.refl | assumption | exact Dt.Sam.of (by assumption) | (refine' Dt.Sam.trans ?s1 ?s2; (case s2 => first | assumption | exact Dt.Sam.of (by assumption)); (case s1 => walk_at "sam")))
local macro_rules | `(tactic| walk_at "tape") => `(tactic| first | assumption | (refine' Dt.Tape.mono ?h0 ?s0; (case h0 => assumption); (case s0 => walk_at "same")))
local macro_rules | `(tactic| walk_at "nt") => `(tactic| first | exact Dt.nt_tup | exact Dt.nt_ints | assumption | (intro a0 b0 c0 l0 z0; cases z0) | (intro a0 b0 c0 l0 z0; simp at z0))
local macro_rules | `(tactic| walk_at "heap") => `(tactic| first | assumption | exact L2.upd_same | (refine' Rd.at_to ?s0 ?h0; (case h0 => assumption); (case s0 => walk_at "same")) | (refine' Dt.at_sam ?n0 ?s0 ?h0; (case h0 => assumption); (case n0 => walk_at "nt"); (case s0 => walk_at "sam")))
local macro_rules | `(tactic| walk_at "rp") => `(tactic| first | exact Dt.Rp.int _ | exact Dt.Rp.bl _ | exact Dt.Rp.str _ | exact Dt.Rp.non | assumption | (refine' Dt.Rp.sm ?s0 ?h0; (case h0 => assumption); (case s0 => walk_at "sam")) | (refine' Dt.Rp.tup ?h1 ?h2 ?h3; (case h1 => walk_at "heap"); (case h2 => walk_at "rps"); (case h3 => first | assumption | (show _ ≤ 1000; decide) | (show _ ≤ 1000; simp) | (show _ ≤ 1000; omega))) | (refine' Dt.Rp.lst ?h1 ?h2 ?h3 ?h4; (case h1 => walk_at "heap"); (case h2 => walk_at "rps"); (case h3 => first | assumption | (show _ ≤ 1000; decide) | (show _ ≤ 1000; simp) | (show _ ≤ 1000; omega)); (case h4 => walk_at "nt")))
local macro_rules | `(tactic| walk_at "rps") => `(tactic| first | exact Dt.RpAll.nil | assumption | (refine' Dt.RpAll.cons ?h1 ?h2; (case h1 => walk_at "rp"); (case h2 => walk_at "rps")) | (refine' Dt.RpAll.sm ?s0 ?h0; (case h0 => assumption); (case s0 => walk_at "sam")))
local macro_rules | `(tactic| walk_at "rd") => `(tactic| first
  | with_reducible refine Rd.seq ?_ | with_reducible refine Rd.asg ?_ | with_reducible refine Rd.nm ?_ | with_reducible refine Rd.sub ?_ | with_reducible refine Rd.ret ?_ | with_reducible refine Rd.retN ?_
  | with_reducible refine Rd.drop ?_ | with_reducible refine Rd.ifs ?_ | with_reducible refine Rd.next ?_ | with_reducible refine Rd.cst ?_ | with_reducible refine Rd.op ?_ | with_reducible refine Rd.un ?_
  | with_reducible refine Rd.test ?_ | with_reducible refine Rd.tb' ?_ | with_reducible refine Rd.exb ?_ | with_reducible refine Rd.exi ?_ | with_reducible refine Rd.and2 ?_ | with_reducible refine Rd.or2 ?_ | with_reducible refine Rd.not1 ?_
  | with_reducible refine Rd.andV ?_ | with_reducible refine Rd.orV ?_ | with_reducible refine Rd.notV ?_ | with_reducible refine Rd.nil ?_ | with_reducible refine Rd.cons ?_ | with_reducible refine Rd.cb ?_
  | with_reducible refine Rd.i0 ?_ | with_reducible refine Rd.u1 ?_ | with_reducible refine Rd.call ?_ | with_reducible refine Rd.tup ?_ | with_reducible refine Rd.lst ?_ | with_reducible refine Rd.sl ?_ | with_reducible refine Rd.no ?_ | with_reducible refine Rd.part ?_ | with_reducible refine Rd.at_ ?_ | with_reducible refine Rd.yes ?_ | with_reducible refine Rd.fors ?_ | with_reducible refine Rd.m1 ?_ | with_reducible refine Rd.exs ?_ | with_reducible refine Rd.lc ?_ | with_reducible refine Rd.rng ?_
  | with_reducible refine Rd.mkv ?_ | with_reducible refine Rd.mko ?_ | with_reducible refine Rd.callB ?_ | with_reducible refine Rd.callS ?_ | with_reducible refine Rd.bm ?_ | with_reducible refine Rd.itl ?_ | with_reducible refine Rd.itt ?_
  | ((with_reducible refine' And.intro ?hl ?_); (case hl => ((with_reducible show List.length _ ≤ PySem.sizeLine); (show _ ≤ PySem.sizeLine); rw [PySem.sizeLine_eq]; simp)))
  | (intro p0 n0; generalize hK0 : L2.upd _ p0 _ = K0; obtain ⟨e0, t0⟩ := Dt.newK hK0 n0)
  | ((with_reducible refine' Rd.lenKL ?he ?_); (case he => walk_at "heap")) | ((with_reducible refine' Rd.lenKT ?he ?_); (case he => walk_at "heap"))
  | ((with_reducible refine' Rd.var ?hv ?_); (case hv => exact rfl))
  | ((with_reducible refine' Rd.ifT ?hv ?_); (case hv => first | exact rfl | assumption)) | ((with_reducible refine' Rd.ifF ?hv ?_); (case hv => first | exact rfl | assumption))
  | ((with_reducible refine' Rd.eq ?hv ?_); (case hv => exact rfl))
  | ((with_reducible refine' Rd.ne ?hv ?_); (case hv => exact rfl))
  | ((with_reducible refine' Dt.isi_int ?hr ?_); (case hr => walk_at "rp")) | ((with_reducible refine' Dt.isi_bool ?hr ?_); (case hr => walk_at "rp")) | ((with_reducible refine' Dt.isi_tuple ?hr ?_); (case hr => walk_at "rp")) | ((with_reducible refine' Dt.isi_str ?hr ?_); (case hr => walk_at "rp")) | ((with_reducible refine' Dt.isi_list ?hr ?_); (case hr => walk_at "rp"))
  | with_reducible refine ⟨rfl, ?_⟩ | with_reducible refine Or.inl ⟨_, rfl, ?_⟩ | with_reducible refine Or.inr ⟨_, rfl, ?_⟩ | with_reducible refine ⟨_, rfl, ?_⟩
  | ((with_reducible refine' Rd.ex2 ⟨rfl, ?hl, ?_⟩); (case hl => first | exact Or.inl ⟨_, L2.SqL.of (by walk_at "heap"), rfl⟩ | exact Or.inr ⟨_, L2.SqT.of (by walk_at "heap"), rfl⟩))
  | ((with_reducible refine' Rd.i1 ?hv ?_); (case hv => first | exact ⟨by decide, by decide, by decide⟩ | exact Or.inr ⟨by decide, by decide⟩ | exact Or.inl ⟨by decide, by decide⟩ | exact ⟨by decide, by decide⟩ | decide | assumption | (show _ ≠ _; omega) | (refine ⟨?_, ?_⟩ <;> omega) | (refine Or.inl ⟨?_, ?_⟩ <;> omega)))
  | ((with_reducible refine' Rd.ixL ?he ?hx ?_); (case he => walk_at "heap"); (case hx => rfl))
  | ((with_reducible refine' Rd.ixT ?he ?hx ?_); (case he => walk_at "heap"); (case hx => rfl))
  | ((with_reducible refine' Rd.setL ?he ?hx ?_); (case he => first | assumption | exact L2.upd_same); (case hx => rfl)))
local macro_rules | `(tactic| walk_at "rd") => `(tactic| first | with_reducible refine Rd.isT ?_ | with_reducible refine Rd.isnT ?_)
local macro_rules | `(tactic| walk_at "rd") => `(tactic| first | ((with_reducible refine' Rd.gtup ?he ?hl ?_); (case he => walk_at "heap"); (case hl => exact rfl)) | with_reducible refine Rd.brk ?_ | with_reducible refine Rd.callR ?_ | ((with_reducible refine' ⟨_, _, rfl, Or.inl ⟨L2.SqL.of ?hp, ?_⟩⟩); (case hp => walk_at "heap")) | ((with_reducible refine' ⟨_, _, rfl, Or.inl (L2.SqL.of ?hp), ?_⟩); (case hp => walk_at "heap")) | ((with_reducible refine' Rd.catL ?hp ?hq ?hl ?_); (case hp => walk_at "heap"); (case hq => walk_at "heap"); (case hl => (simp only [List.length_map, List.length_append, List.length_cons, List.length_nil]; omega)); (intro r0 J0 e0 t0 n0)) | with_reducible refine Rd.bits ?_ | with_reducible refine Rd.max2 ?_ | with_reducible refine Rd.gcons ?_ | with_reducible refine Rd.gnil ?_)
local macro_rules | `(tactic| walk_at "rds") => `(tactic| repeat (first | walk_at "rd" | assumption))
namespace K15
open PySem PySem.Spec PyProof.Rows L2 L2H Err Dt
theorem tt_some {i n r : Int} {s : Addr} {u v m : V} {d1 d2 d3 : PyData} {z : Str} {H : Hp} {Q : VK} {E : XK} (hr : rTT i n d1 d2 d3 = some z) (i0 : 0 ≤ i) (i3 : i ≤ 3) (S : Space H s n r) (r1 : Rp H u d1) (r2 : Rp H v d2) (r3 : Rp H m d3) (k : ∀ (p : Addr) (H' : Hp), H' p = some (.tup [.str "refused", .str z, .int (-1)]) → Same H H' → Q (.ref p) H') : spToldT [.int i, .ref s, u, v, m] H Q E :=
  ⟨i, n, r, s, u, v, m, d1, d2, d3, rfl, i0, i3, S, r1, r2, r3, fun h => (by rw [hr] at h; cases h), fun z' p H' h e t => (by rw [hr] at h; cases h; exact k p H' e t), fun p H' h _ _ => (by rw [hr] at h; cases h)⟩
theorem tt_none {n r : Int} {s : Addr} {u v m : V} {d1 d2 d3 : PyData} {H : Hp} {Q : VK} {E : XK} (hr : rTT 2 n d1 d2 d3 = none) (S : Space H s n r) (s1 : Sd d1) (s2 : Sd d2) (s3 : Sd d3) (r1 : Rp H u d1) (r2 : Rp H v d2) (r3 : Rp H m d3) (k : ∀ (p : Addr) (H' : Hp), H' p = some (.tup [.str "let"]) → Same H H' → Q (.ref p) H') : spToldT [.int 2, .ref s, u, v, m] H Q E :=
  ⟨2, n, r, s, u, v, m, d1, d2, d3, rfl, by decide, by decide, S, r1, r2, r3, fun _ => ⟨rfl, s1, s2, s3⟩, fun z' p H' h _ _ => (by rw [hr] at h; cases h), fun p H' _ e t => k p H' e t⟩
def nPos : PyData → Bool := fun d => !dPos d
def nLo (n : Int) : PyData → Bool := fun d => !dLow n d
def nPts (n : Int) : PyData → Bool := fun d => !(dPoints n d && dSome d)
theorem nlo_row {n : Int} {d : PyData} (h : nRow n d = true) : nLo n d = true := by
  unfold nLo dLow
  unfold nRow at h
  have : dRow n d = false := by simpa using h
  rw [this]
  rfl
theorem tt_point {n : Int} {d1 d2 d3 : PyData} (h : nRow n d1 = true) : rTT 1 n d1 d2 d3 = some "point" := by
  have : dRow n d1 = false := by unfold nRow at h; simpa using h
  simp [rTT, this]
theorem tt_numbers {n : Int} {d1 d2 d3 : PyData} (h : nRow n d1 = true) : rTT 0 n d1 d2 d3 = some "numbers" := by
  have : dRow n d1 = false := by unfold nRow at h; simpa using h
  simp [rTT, this]
theorem tt_bottom {n : Int} {d1 d2 d3 : PyData} (h1 : dRow n d1 = true) (h : nPos d2 = true) : rTT 0 n d1 d2 d3 = some "bottom" := by
  have : dPos d2 = false := by unfold nPos at h; simpa using h
  simp [rTT, this, h1]
theorem tt_place {n : Int} {d1 d2 d3 : PyData} (h : nLo (n + 1) d1 = true) : rTT 2 n d1 d2 d3 = some "place" := by
  have : dLow (n + 1) d1 = false := by unfold nLo at h; simpa using h
  simp [rTT, this]
theorem tt_other {n : Int} {d1 d2 d3 : PyData} (h1 : dLow (n + 1) d1 = true) (h : nLo (n + 1) d2 = true) : rTT 2 n d1 d2 d3 = some "other" := by
  have : dLow (n + 1) d2 = false := by unfold nLo at h; simpa using h
  simp [rTT, this, h1]
theorem tt_moment {n : Int} {d1 d2 d3 : PyData} (h1 : dLow (n + 1) d1 = true) (h2 : dLow (n + 1) d2 = true) (h : nLow d3 = true) : rTT 2 n d1 d2 d3 = some "moment" := by
  have : dLow 2 d3 = false := by unfold nLow at h; simpa using h
  simp [rTT, this, h1, h2]
theorem tt_let {n : Int} {d1 d2 d3 : PyData} (h1 : dLow (n + 1) d1 = true) (h2 : dLow (n + 1) d2 = true) (h3 : dLow 2 d3 = true) : rTT 2 n d1 d2 d3 = none := by simp [rTT, h1, h2, h3]
theorem tt_points {n : Int} {d1 d2 d3 : PyData} (h : nPts n d1 = true) : rTT 3 n d1 d2 d3 = some "points" := by
  have : (dPoints n d1 && dSome d1) = false := by
    cases e : (dPoints n d1 && dSome d1) with
    | false => rfl
    | true =>
      unfold nPts at h
      rw [e] at h
      cases h
  simp only [rTT, this]
  rfl
theorem npts_mem {n : Int} {ds : List PyData} {d : PyData} (h : d ∈ ds) (hd : nRow n d = true) : nPts n (.tuple ds) = true := by
  have e : dRow n d = false := by unfold nRow at hd; simpa using hd
  have : ds.all (dRow n) = false := by
    rw [List.all_eq_false]
    exact ⟨d, h, by rw [e]; simp⟩
  show (!(ds.all (dRow n) && _)) = true
  rw [this]
  rfl
/-- a place's row and 1: in lowest terms -/
theorem home_low {n : Int} {ms : List Int} (h : (ms.length : Int) = n) : dLow (n + 1) (.tuple ((ms ++ [1]).map PyData.int)) = true := by
  have z : gcdL (ms ++ [1]) = 1 := by
    rw [gcdL_eq, gN_app]
    show ((Nat.gcd (gN ms) 1 : Nat) : Int) = 1
    rw [Nat.gcd_one_right]
    rfl
  have e : lowB (intsOf ((ms ++ [1]).map PyData.int)) = true := by
    rw [intsOf_map]
    unfold lowB
    rw [z]
    simp
  show (dRow (n + 1) (.tuple ((ms ++ [1]).map PyData.int)) && lowB (intsOf ((ms ++ [1]).map PyData.int))) = true
  rw [e, Bool.and_true]
  exact row_true (by rw [List.length_append]; show ((ms.length + 1 : Nat) : Int) = n + 1; omega)
/-- a last one below 1 -/
theorem nlo_last {n b : Int} {ms : List Int} (h : b ≤ 0) : nLo n (.tuple ((ms ++ [b]).map PyData.int)) = true := by
  have e : lowB (intsOf ((ms ++ [b]).map PyData.int)) = false := by
    rw [intsOf_map]
    unfold lowB
    have : decide (1 ≤ (ms ++ [b]).getLastD 0) = false := decide_eq_false (by simp; omega)
    rw [this]
    rfl
  show (!(dRow n (.tuple ((ms ++ [b]).map PyData.int)) && lowB (intsOf ((ms ++ [b]).map PyData.int)))) = true
  rw [e, Bool.and_false]
  rfl
/-- all of them even -/
theorem nlo_even {n : Int} {ms : List Int} (h : ∀ m ∈ ms, 2 ∣ m.natAbs) : nLo n (.tuple (ms.map PyData.int)) = true := by
  have e : lowB (intsOf (ms.map PyData.int)) = false := by
    rw [intsOf_map]
    unfold lowB
    have d2 : 2 ∣ gN ms := dvd_gN h
    have : decide (gcdL ms = 1) = false := decide_eq_false (by rw [gcdL_eq]; omega)
    rw [this, Bool.and_false]
  show (!(dRow n (.tuple (ms.map PyData.int)) && lowB (intsOf (ms.map PyData.int)))) = true
  rw [e, Bool.and_false]
  rfl
end K15
end SecQ16
section SecQ17
set_option Elab.async false
set_option linter.all false
set_option maxRecDepth 100000
set_option maxHeartbeats 4000000
set_option pp.deepTerms false
local macro_rules | `(tactic| walk_at "tq") => `(tactic| first | assumption | (refine' Dt.Tq.to ?s0 ?h0; (case h0 => assumption); (case s0 => walk_at "same")))
local macro_rules | `(tactic| walk_at "same") => `(tactic| first | exact L2.Same.refl _ | assumption | (refine' L2.Same.trans ?s1 ?s2; (case s2 => assumption); (case s1 => walk_at "same")))
local macro_rules | `(tactic| walk_at "sam") => `(tactic| first | exact Dt.Sam.refl | assumption | exact Dt.Sam.of (by assumption) | (refine' Dt.Sam.trans ?s1 ?s2; (case s2 => first | assumption | exact Dt.Sam.of (by assumption)); (case s1 => walk_at "sam")))
local macro_rules | `(tactic| walk_at "tape") => `(tactic| first | assumption | (refine' Dt.Tape.mono ?h0 ?s0; (case h0 => assumption); (case s0 => walk_at "same")))
local macro_rules | `(tactic| walk_at "nt") => `(tactic| first | exact Dt.nt_tup | exact Dt.nt_ints | assumption | (intro a0 b0 c0 l0 z0; cases z0) | (intro a0 b0 c0 l0 z0; simp at z0))
local macro_rules | `(tactic| walk_at "heap") => `(tactic| first | assumption | exact L2.upd_same | (refine' Rd.at_to ?s0 ?h0; (case h0 => assumption); (case s0 => walk_at "same")) | (refine' Dt.at_sam ?n0 ?s0 ?h0; (case h0 => assumption); (case n0 => walk_at "nt"); (case s0 => walk_at "sam")))
local macro_rules | `(tactic| walk_at "rp") => `(tactic| first | exact Dt.Rp.int _ | exact Dt.Rp.bl _ | exact Dt.Rp.str _ | exact Dt.Rp.non | assumption | (refine' Dt.Rp.sm ?s0 ?h0; (case h0 => assumption); (case s0 => walk_at "sam")) | (refine' Dt.Rp.tup ?h1 ?h2 ?h3; (case h1 => walk_at "heap"); (case h2 => walk_at "rps"); (case h3 => first | assumption | (show _ ≤ 1000; decide) | (show _ ≤ 1000; simp) | (show _ ≤ 1000; omega))) | (refine' Dt.Rp.lst ?h1 ?h2 ?h3 ?h4; (case h1 => walk_at "heap"); (case h2 => walk_at "rps"); (case h3 => first | assumption | (show _ ≤ 1000; decide) | (show _ ≤ 1000; simp) | (show _ ≤ 1000; omega)); (case h4 => walk_at "nt")))
local macro_rules | `(tactic| walk_at "rps") => `(tactic| first | exact Dt.RpAll.nil | assumption | (refine' Dt.RpAll.cons ?h1 ?h2; (case h1 => walk_at "rp"); (case h2 => walk_at "rps")) | (refine' Dt.RpAll.sm ?s0 ?h0; (case h0 => assumption); (case s0 => walk_at "sam")))
local macro_rules | `(tactic| walk_at "rd") => `(tactic| first
  | with_reducible refine Rd.seq ?_ | with_reducible refine Rd.asg ?_ | with_reducible refine Rd.nm ?_ | with_reducible refine Rd.sub ?_ | with_reducible refine Rd.ret ?_ | with_reducible refine Rd.retN ?_
  | with_reducible refine Rd.drop ?_ | with_reducible refine Rd.ifs ?_ | with_reducible refine Rd.next ?_ | with_reducible refine Rd.cst ?_ | with_reducible refine Rd.op ?_ | with_reducible refine Rd.un ?_
  | with_reducible refine Rd.test ?_ | with_reducible refine Rd.tb' ?_ | with_reducible refine Rd.exb ?_ | with_reducible refine Rd.exi ?_ | with_reducible refine Rd.and2 ?_ | with_reducible refine Rd.or2 ?_ | with_reducible refine Rd.not1 ?_
  | with_reducible refine Rd.andV ?_ | with_reducible refine Rd.orV ?_ | with_reducible refine Rd.notV ?_ | with_reducible refine Rd.nil ?_ | with_reducible refine Rd.cons ?_ | with_reducible refine Rd.cb ?_
  | with_reducible refine Rd.i0 ?_ | with_reducible refine Rd.u1 ?_ | with_reducible refine Rd.call ?_ | with_reducible refine Rd.tup ?_ | with_reducible refine Rd.lst ?_ | with_reducible refine Rd.sl ?_ | with_reducible refine Rd.no ?_ | with_reducible refine Rd.part ?_ | with_reducible refine Rd.at_ ?_ | with_reducible refine Rd.yes ?_ | with_reducible refine Rd.fors ?_ | with_reducible refine Rd.m1 ?_ | with_reducible refine Rd.exs ?_ | with_reducible refine Rd.lc ?_ | with_reducible refine Rd.rng ?_
  | with_reducible refine Rd.mkv ?_ | with_reducible refine Rd.mko ?_ | with_reducible refine Rd.callB ?_ | with_reducible refine Rd.callS ?_ | with_reducible refine Rd.bm ?_ | with_reducible refine Rd.itl ?_ | with_reducible refine Rd.itt ?_
  | ((with_reducible refine' And.intro ?hl ?_); (case hl => ((with_reducible show List.length _ ≤ PySem.sizeLine); (show _ ≤ PySem.sizeLine); rw [PySem.sizeLine_eq]; simp)))
  | (intro p0 n0; generalize hK0 : L2.upd _ p0 _ = K0; obtain ⟨e0, t0⟩ := Dt.newK hK0 n0)
  | ((with_reducible refine' Rd.lenKL ?he ?_); (case he => walk_at "heap")) | ((with_reducible refine' Rd.lenKT ?he ?_); (case he => walk_at "heap"))
  | ((with_reducible refine' Rd.var ?hv ?_); (case hv => exact rfl))
  | ((with_reducible refine' Rd.ifT ?hv ?_); (case hv => first | exact rfl | assumption)) | ((with_reducible refine' Rd.ifF ?hv ?_); (case hv => first | exact rfl | assumption))
  | ((with_reducible refine' Rd.eq ?hv ?_); (case hv => exact rfl))
  | ((with_reducible refine' Rd.ne ?hv ?_); (case hv => exact rfl))
  | ((with_reducible refine' Dt.isi_int ?hr ?_); (case hr => walk_at "rp")) | ((with_reducible refine' Dt.isi_bool ?hr ?_); (case hr => walk_at "rp")) | ((with_reducible refine' Dt.isi_tuple ?hr ?_); (case hr => walk_at "rp")) | ((with_reducible refine' Dt.isi_str ?hr ?_); (case hr => walk_at "rp")) | ((with_reducible refine' Dt.isi_list ?hr ?_); (case hr => walk_at "rp"))
  | with_reducible refine ⟨rfl, ?_⟩ | with_reducible refine Or.inl ⟨_, rfl, ?_⟩ | with_reducible refine Or.inr ⟨_, rfl, ?_⟩ | with_reducible refine ⟨_, rfl, ?_⟩
  | ((with_reducible refine' Rd.ex2 ⟨rfl, ?hl, ?_⟩); (case hl => first | exact Or.inl ⟨_, L2.SqL.of (by walk_at "heap"), rfl⟩ | exact Or.inr ⟨_, L2.SqT.of (by walk_at "heap"), rfl⟩))
  | ((with_reducible refine' Rd.i1 ?hv ?_); (case hv => first | exact ⟨by decide, by decide, by decide⟩ | exact Or.inr ⟨by decide, by decide⟩ | exact Or.inl ⟨by decide, by decide⟩ | exact ⟨by decide, by decide⟩ | decide | assumption | (show _ ≠ _; omega) | (refine ⟨?_, ?_⟩ <;> omega) | (refine Or.inl ⟨?_, ?_⟩ <;> omega)))
  | ((with_reducible refine' Rd.ixL ?he ?hx ?_); (case he => walk_at "heap"); (case hx => rfl))
  | ((with_reducible refine' Rd.ixT ?he ?hx ?_); (case he => walk_at "heap"); (case hx => rfl))
  | ((with_reducible refine' Rd.setL ?he ?hx ?_); (case he => first | assumption | exact L2.upd_same); (case hx => rfl)))
local macro_rules | `(tactic| walk_at "rd") => `(tactic| first | with_reducible refine Rd.isT ?_ | with_reducible refine Rd.isnT ?_)
local macro_rules | `(tactic| walk_at "rd") => `(tactic| first | ((with_reducible refine' Rd.gtup ?he ?hl ?_); (case he => walk_at "heap"); (case hl => exact rfl)) | with_reducible refine Rd.brk ?_ | with_reducible refine Rd.callR ?_ | ((with_reducible refine' ⟨_, _, rfl, Or.inl ⟨L2.SqL.of ?hp, ?_⟩⟩); (case hp => walk_at "heap")) | ((with_reducible refine' ⟨_, _, rfl, Or.inl (L2.SqL.of ?hp), ?_⟩); (case hp => walk_at "heap")) | ((with_reducible refine' Rd.catL ?hp ?hq ?hl ?_); (case hp => walk_at "heap"); (case hq => walk_at "heap"); (case hl => (simp only [List.length_map, List.length_append, List.length_cons, List.length_nil]; omega)); (intro r0 J0 e0 t0 n0)) | with_reducible refine Rd.bits ?_ | with_reducible refine Rd.max2 ?_ | with_reducible refine Rd.gcons ?_ | with_reducible refine Rd.gnil ?_)
local macro_rules | `(tactic| walk_at "rds") => `(tactic| repeat (first | walk_at "rd" | assumption))
namespace K15
open PySem PySem.Spec PyProof.Rows L2 L2H Err Dt
theorem ix3w {K : PySem.W.Frag} {H : Hp} {p : Addr} {k : Int} {a b c : V} {Q : VK} (e : H p = some (.lst [a, b, c])) (h0 : 0 ≤ k) (h1 : k < 3) (q0 : Q a H) (q1 : Q b H) (q2 : Q c H) : rIxL K (.ref p) (.int k) H Q := by
  rcases (by omega : k = 0 ∨ k = 1 ∨ k = 2) with rfl | rfl | rfl
  · exact ⟨p, _, 0, a, rfl, rfl, SqL.of e, rfl, q0⟩
  · exact ⟨p, _, 1, b, rfl, rfl, SqL.of e, rfl, q1⟩
  · exact ⟨p, _, 2, c, rfl, rfl, SqL.of e, rfl, q2⟩
theorem sd_row {ms : List Int} (h : ∀ m ∈ ms, In6 m) : Sd (.tuple (ms.map PyData.int)) := fun i hi => by
  obtain ⟨m, hm, e⟩ := List.mem_map.mp hi
  cases e
  exact sm6 (h _ hm)
theorem npts_ints {n : Int} {ms : List Int} (h : 0 < ms.length) : nPts n (.tuple (ms.map PyData.int)) = true := by
  cases ms with
  | nil => cases h
  | cons a as => exact npts_mem (d := .int a) (List.mem_cons_self ..) rfl
structure Kr (t l s rw go ho : Addr) (n r : Int) (ms : List Int) (bv : V) (H0 H : Hp) : Prop where
  es : H s = some (.tup [.int n, .int r])
  er : H rw = some (.lst (ms.map V.int))
  eg : H go = some (.tup (ms.map V.int))
  eh : H ho = some (.tup ((ms ++ [1]).map V.int))
  db : Db (nRow n) H bv
  T : Tq t l H
  s : Sam H0 H
theorem Kr.to {t l s rw go ho : Addr} {n r : Int} {ms : List Int} {bv : V} {H0 H H' : Hp} (k : Kr t l s rw go ho n r ms bv H0 H) (T : Tq t l H') (m : Sam H H') : Kr t l s rw go ho n r ms bv H0 H' :=
  ⟨m _ _ nt_tup k.es, m _ _ nt_ints k.er, m _ _ nt_tup k.eg, m _ _ nt_tup k.eh, k.db.to m, T, k.s.trans m⟩
def spRefusedT : Sp := fun vs H Q _ => ∃ (t l s : Addr) (n r : Int), vs = [.ref t, .ref s] ∧ Space H s n r ∧ Tq t l H ∧ ∀ H', Tq t l H' → Sam H H' → Q (.bl true) H'
def U1 (t l s rw : Addr) (n r : Int) (ms : List Int) (H0 : Hp) : L2.St → Hp → Prop := fun σ' H' => ∃ (go ho : Addr) (bv : V), σ' = [some (.ref t), some (.ref s), some (.ref rw), none, some (.ref go), some (.ref ho), some bv, none, none, none, none, none, none, none] ∧ Kr t l s rw go ho n r ms bv H0 H'
theorem u1_mk {t l s rw go ho : Addr} {n r : Int} {ms : List Int} {bv : V} {H0 H' : Hp} {σ' : L2.St} (e : σ' = [some (.ref t), some (.ref s), some (.ref rw), none, some (.ref go), some (.ref ho), some bv, none, none, none, none, none, none, none]) (es : H' s = some (.tup [.int n, .int r])) (er : H' rw = some (.lst (ms.map V.int)))
    (eg : H' go = some (.tup (ms.map V.int))) (eh : H' ho = some (.tup (ms.map V.int ++ [.int 1]))) (db : Db (nRow n) H' bv) (T : Tq t l H') (m : Sam H0 H') : U1 t l s rw n r ms H0 σ' H' := ⟨go, ho, bv, e, es, er, eg, (by rw [List.map_append]; exact eh), db, T, m⟩
def U2 (t l s rw go ho : Addr) (n r : Int) (ms : List Int) (bv : V) (H0 : Hp) : L2.St → Hp → Prop := fun σ' H' => ∃ wv, σ' = [some (.ref t), some (.ref s), some (.ref rw), none, some (.ref go), some (.ref ho), some bv, some wv, none, none, none, none, none, none] ∧ Db nPos H' wv ∧ Kr t l s rw go ho n r ms bv H0 H'
def U3 (t l s rw go ho : Addr) (n r : Int) (ms : List Int) (bv : V) (H0 : Hp) : L2.St → Hp → Prop := fun σ' H' => ∃ (o7 : Option V) (nv : V) (o9 o10 : Option V), σ' = [some (.ref t), some (.ref s), some (.ref rw), none, some (.ref go), some (.ref ho), some bv, o7, some nv, o9, o10, none, none, none] ∧ Db (nLo (n + 1)) H' nv ∧ Kr t l s rw go ho n r ms bv H0 H'
def U4 (t l s rw go ho : Addr) (n r : Int) (ms : List Int) (bv nv : V) (H0 : Hp) : L2.St → Hp → Prop := fun σ' H' => ∃ (o7 : Option V) (o9 o10 : Option V) (ev : V), σ' = [some (.ref t), some (.ref s), some (.ref rw), none, some (.ref go), some (.ref ho), some bv, o7, some nv, o9, o10, none, some ev, none] ∧ Db (nLo (n + 1)) H' nv ∧ Db nLow H' ev ∧ Kr t l s rw go ho n r ms bv H0 H'
local macro_rules | `(tactic| walk_at "sd") => `(tactic| first | exact True.intro | exact sd_small (by unfold In6; omega) | exact sdl_nil | (refine sdl_o rfl ?_; walk_at "sd") | (refine' sdl_i ?a0 ?b0; (case a0 => (unfold In6; omega)); (case b0 => walk_at "sd")))
local macro_rules | `(tactic| walk_at "dm") => `(tactic| first | rfl | exact nlow1 (by omega) | exact nlow2 (by omega) | exact nlow3 (by omega) | exact glow1 (by omega) | exact low_of (by omega) (by simp) | exact low_of (by omega) (Nat.gcd_one_left _) | exact low_of (by omega) (Nat.gcd_one_right _))
local macro_rules | `(tactic| walk_at "da") => `(tactic| first | assumption | (refine' Da.to ?s0 ?h0; (case h0 => assumption); (case s0 => walk_at "sam")) | (refine' da _ ?r0 ?s0 ?m0; (case r0 => walk_at "rp"); (case s0 => walk_at "sd"); (case m0 => walk_at "dm")))
local macro_rules | `(tactic| walk_at "das") => `(tactic| first | exact da_nil | (refine' da_cons ?h0 ?t0; (case h0 => walk_at "da"); (case t0 => walk_at "das")))
local macro_rules | `(tactic| walk_at "nr") => `(tactic| first | rfl | exact nlow_q (by decide) | exact nrow_len (by simp; omega) | (refine nrow_len ?_; (simp only [List.length_append, List.length_map, List.length_cons, List.length_nil, List.length_take, List.length_drop]; omega)) | (refine' nrow_mem (d := .bool true) ?hm rfl; (case hm => exact List.mem_append_left _ (List.mem_append_right _ (List.mem_singleton.mpr rfl)))) | (refine' nrow_mem (d := .none) ?hm rfl; (case hm => exact List.mem_append_left _ (List.mem_append_right _ (List.mem_singleton.mpr rfl)))))
local macro_rules | `(tactic| walk_at "db") => `(tactic| first | assumption | (refine' Db.to ?s0 ?h0; (case h0 => assumption); (case s0 => walk_at "sam")) | (refine' db _ (.lst ?e1 (rp_ints _) ?e2 nt_ints) ?m1; (case e1 => walk_at "heap"); (case e2 => (rw [List.length_map]; omega)); (case m1 => rfl)) | (refine' db _ (rp_tupA ?e1 ?l1) ?m1; (case e1 => walk_at "heap"); (case l1 => (simp only [List.length_take, List.length_drop]; omega)); (case m1 => walk_at "nr")) | (refine' db _ (rp_tupB (.bl true) ?e1 ?l1) ?m1; (case e1 => walk_at "heap"); (case l1 => (simp only [List.length_take, List.length_drop]; omega)); (case m1 => walk_at "nr")) | (refine' db _ (rp_tupB .non ?e1 ?l1) ?m1; (case e1 => walk_at "heap"); (case l1 => (simp only [List.length_take, List.length_drop]; omega)); (case m1 => walk_at "nr")) | (refine' db _ (Rp.tup ?e1 ((rp_ints _).app (.cons (.int _) .nil)) ?l1) ?m1; (case e1 => walk_at "heap"); (case l1 => (simp only [List.length_append, List.length_map, List.length_cons, List.length_nil]; omega)); (case m1 => walk_at "nr")) | (refine' db _ (Rp.tup ?e1 (.cons (rp_row ?e2 ?l2) .nil) ?l1) ?m1; (case e1 => walk_at "heap"); (case e2 => walk_at "heap"); (case l2 => omega); (case l1 => (show 1 ≤ 1000; decide)); (case m1 => walk_at "nr")) | (refine' db _ (Rp.tup ?e1 (.cons (rp_q ?e2) (.cons (rp_q ?e3) .nil)) ?l1) ?m1; (case e1 => walk_at "heap"); (case e2 => walk_at "heap"); (case e3 => walk_at "heap"); (case l1 => (show 2 ≤ 1000; decide)); (case m1 => exact nrow_mem (List.mem_cons_self ..) rfl)) | (refine' db _ ?r0 ?m0; (case r0 => walk_at "rp"); (case m0 => walk_at "nr")))
local macro_rules | `(tactic| walk_at "dbs") => `(tactic| first | exact db_nil | (refine' db_cons ?h0 ?t0; (case h0 => walk_at "db"); (case t0 => walk_at "dbs")))
local macro_rules | `(tactic| walk_at "rd") => `(tactic| first | ((with_reducible refine' slL_lo ?e0 ?h0 ?h1 ?_); (case e0 => walk_at "heap"); (case h0 => assumption); (case h1 => assumption)) | ((with_reducible refine' slL_hi ?e0 ?h0 ?h1 ?_); (case e0 => walk_at "heap"); (case h0 => assumption); (case h1 => assumption)) | ((with_reducible refine' Rd.catL ?hp ?hq ?hl ?_); (case hp => walk_at "heap"); (case hq => walk_at "heap"); (case hl => (simp only [List.length_map, List.length_append, List.length_cons, List.length_nil, List.length_take, List.length_drop]; omega)); (intro r0 J0 e0 t0 n0)))
section
variable {P : Program} {w : World} {K : PySem.W.Frag} {mg : Str → Option Value} {base : Heap}
set_option pp.maxSteps 3000
abbrev sRefusedThereL : Stmt := topS 58
theorem scRefusedThereL : FnScope ["tape", "space", "row", "i", "good", "home", "bad", "worse", "nowhere", "ends", "by", "x", "never", "lists"] ["tape", "space"] (defScope sRefusedThereL) := ⟨rfl, rfl, rfl, by decide +kernel, rfl, by decide +kernel, by decide +kernel⟩
theorem okRefusedThereL {f : Addr} {fd : FuncData} (F : Fun K "_law_refused_there" "_law_refused_there" sRefusedThereL f fd) (T : Tx mg) (DDrawL : Dn P w K mg base CX0 "_law_draw" 1 ["tape", "many"] spDw) (DToldThereL : Dn P w K mg base CX0 "_law_told_there" 6 ["which", "space", "one", "other", "moment"] spToldT) (DSpoiltL : Dn P w K mg base CX0 "_law_spoilt" 2 ["tape", "row"] spSpoilt)  : FnOk P w K mg base CX0 7 f fd ["tape", "space"] spRefusedT := by
  refine F.ok scRefusedThereL (fun vs H Q E h => ?_) (fun cdv A outer s H vs Q E hr h => ?_)
  · obtain ⟨t, l, s, n, r, rfl, _⟩ := h
    rfl
  · obtain ⟨t, l, s, n, r, rfl, Ss, Tt, kk⟩ := h
    refine ⟨_, (pss_cons (ps_setLc (i := 2) (own := [("i", 3)]) (g := gName 3) (by rfl) scRefusedThereL.nd rfl rfl (sw_true rfl rfl rfl (by decide +kernel)) (pi_range1 rfl T.n_range (pa_cons (pe_ix ix_tup (pv 1) pe_int (fun _ _ => rfl)) pa_nil)) (blkOk_by (own := [("i", 3)]) (N := ["tape", "space", "row", "i", "good", "home", "bad", "worse", "nowhere", "ends", "by", "x", "never", "lists"]) (sc := defScope sRefusedThereL) (by decide +kernel)) (fun _ _ _ _ _ => pg_name (i := 3) scRefusedThereL.nd rfl (Or.inl rfl)) (fun _ _ _ _ _ => pts_nil) (fun _ _ _ _ _ => (pe_op op_sub (pe_dn DDrawL (hr.mono (by omega)) (pa_cons (pv 0) (pa_cons pe_int pa_nil))) pe_int)))
    (pss_cons (ps_set (i := 4) scRefusedThereL.nd rfl (Or.inl rfl) (pe_callTy call_tuple_of (by rfl) T.n_tuple (by decide +kernel) (pa_cons (pv 2) pa_nil)))
    (pss_cons (ps_set (i := 5) scRefusedThereL.nd rfl (Or.inl rfl) (pe_callTy call_tuple_of (by rfl) T.n_tuple (by decide +kernel) (pa_cons (pe_op op_cat (pv 2) (pe_lst (pa_cons pe_int pa_nil))) pa_nil)))
    (C8.pss_cut (ps_set (i := 6) scRefusedThereL.nd rfl (Or.inl rfl) (pe_dn DSpoiltL (hr.mono (by omega)) (pa_cons (pv 0) (pa_cons (pv 2) pa_nil))))
    (pss_cons (ps_if (pt_cmpR (op_neD (huR hr)) (pe_dn DToldThereL (hr.mono (by omega)) (pa_cons pe_int (pa_cons (pv 1) (pa_cons (pv 6) (pa_cons pe_non (pa_cons pe_non pa_nil)))))) (pe_tup (pa_cons pe_str (pa_cons pe_str (pa_cons (pe_un un_neg pe_int) pa_nil)))) (nomark _))
    (pss_one (ps_ret pe_bl))
    pss_nil)
    (C8.pss_cut (ps_set (i := 7) scRefusedThereL.nd rfl (Or.inl rfl) (pe_ix ix_list (pe_lst (pa_cons pe_int (pa_cons (pe_un un_neg pe_int) (pa_cons pe_bl (pa_cons pe_non (pa_cons pe_str (pa_cons (pe_tup (pa_cons pe_int pa_nil)) (pa_cons (pe_un un_neg pe_int) pa_nil)))))))) (pe_dn DDrawL (hr.mono (by omega)) (pa_cons (pv 0) (pa_cons pe_int pa_nil))) (fun _ _ => rfl)))
    (pss_cons (ps_if (pt_cmpR (op_neD (huR hr)) (pe_dn DToldThereL (hr.mono (by omega)) (pa_cons pe_int (pa_cons (pv 1) (pa_cons (pv 6) (pa_cons (pv 7) (pa_cons pe_non pa_nil)))))) (pe_tup (pa_cons pe_str (pa_cons pe_str (pa_cons (pe_un un_neg pe_int) pa_nil)))) (nomark _))
    (pss_one (ps_ret pe_bl))
    pss_nil)
    (pss_cons (ps_if (pt_cmpR (op_neD (huR hr)) (pe_dn DToldThereL (hr.mono (by omega)) (pa_cons pe_int (pa_cons (pv 1) (pa_cons (pv 4) (pa_cons (pv 7) (pa_cons pe_non pa_nil)))))) (pe_tup (pa_cons pe_str (pa_cons pe_str (pa_cons (pe_un un_neg pe_int) pa_nil)))) (nomark _))
    (pss_one (ps_ret pe_bl))
    pss_nil)
    (pss_cons (ps_set (i := 8) scRefusedThereL.nd rfl (Or.inl rfl) (pe_dn DSpoiltL (hr.mono (by omega)) (pa_cons (pv 0) (pa_cons (pe_op op_cat (pv 2) (pe_lst (pa_cons pe_int pa_nil))) pa_nil))))
    (pss_cons (ps_set (i := 9) scRefusedThereL.nd rfl (Or.inl rfl) (pe_lst (pa_cons pe_int (pa_cons (pe_un un_neg pe_int) (pa_cons pe_bl pa_nil)))))
    (C8.pss_cut (ps_if (pt_cmpR op_eq (pe_dn DDrawL (hr.mono (by omega)) (pa_cons (pv 0) (pa_cons pe_int pa_nil))) pe_int (nomark _))
    (pss_one (ps_set (i := 8) scRefusedThereL.nd rfl (Or.inl rfl) (pe_callTy call_tuple_of (by rfl) T.n_tuple (by decide +kernel) (pa_cons (pe_op op_cat (pv 2) (pe_lst (pa_cons (pe_ix ix_list (pv 9) (pe_dn DDrawL (hr.mono (by omega)) (pa_cons (pv 0) (pa_cons pe_int pa_nil))) (fun _ _ => rfl)) pa_nil))) pa_nil))))
    pss_nil)
    (C8.pss_cut (ps_if (pt_cmpR op_eq (pe_dn DDrawL (hr.mono (by omega)) (pa_cons (pv 0) (pa_cons pe_int pa_nil))) pe_int (nomark _))
    (pss_cons (ps_set (i := 10) scRefusedThereL.nd rfl (Or.inr rfl) (pe_op op_mulW pe_int (pe_dn DDrawL (hr.mono (by omega)) (pa_cons (pv 0) (pa_cons pe_int pa_nil)))))
      (pss_one (ps_set (i := 8) scRefusedThereL.nd rfl (Or.inl rfl) (pe_callTy call_tuple_of (by rfl) T.n_tuple (by decide +kernel) (pa_cons (pe_op op_cat (pe_lc (own := [("x", 11)]) (g := gName 11) (by rfl) scRefusedThereL.nd (pi_list (pv 2)) (blkOk_by (own := [("x", 11)]) (N := ["tape", "space", "row", "i", "good", "home", "bad", "worse", "nowhere", "ends", "by", "x", "never", "lists"]) (sc := defScope sRefusedThereL) (by decide +kernel)) (fun _ _ _ _ _ => pg_name (i := 11) scRefusedThereL.nd rfl (Or.inl rfl)) (fun _ _ _ _ _ => pts_nil) (fun _ _ _ _ _ => (pe_op op_mulW (pv 10) (pv 11)))) (pe_lst (pa_cons pe_int pa_nil))) pa_nil)))))
    pss_nil)
    (C8.pss_cut (ps_set (i := 12) scRefusedThereL.nd rfl (Or.inl rfl) (pe_ix ix_list (pe_lst (pa_cons (pe_tup (pa_cons pe_int (pa_cons pe_int pa_nil))) (pa_cons (pe_tup (pa_cons pe_int (pa_cons pe_int pa_nil))) (pa_cons pe_non (pa_cons (pe_lst (pa_cons pe_int (pa_cons pe_int pa_nil))) (pa_cons (pe_tup (pa_cons pe_int (pa_cons pe_bl pa_nil))) (pa_cons pe_int (pa_cons (pe_tup (pa_cons pe_int (pa_cons pe_int pa_nil))) pa_nil)))))))) (pe_dn DDrawL (hr.mono (by omega)) (pa_cons (pv 0) (pa_cons pe_int pa_nil))) (fun _ _ => rfl)))
    (pss_cons (ps_if (pt_cmpR (op_neD (huR hr)) (pe_dn DToldThereL (hr.mono (by omega)) (pa_cons pe_int (pa_cons (pv 1) (pa_cons (pv 8) (pa_cons (pv 8) (pa_cons (pv 12) pa_nil)))))) (pe_tup (pa_cons pe_str (pa_cons pe_str (pa_cons (pe_un un_neg pe_int) pa_nil)))) (nomark _))
    (pss_one (ps_ret pe_bl))
    pss_nil)
    (pss_cons (ps_if (pt_cmpR (op_neD (huR hr)) (pe_dn DToldThereL (hr.mono (by omega)) (pa_cons pe_int (pa_cons (pv 1) (pa_cons (pv 5) (pa_cons (pv 8) (pa_cons (pv 12) pa_nil)))))) (pe_tup (pa_cons pe_str (pa_cons pe_str (pa_cons (pe_un un_neg pe_int) pa_nil)))) (nomark _))
    (pss_one (ps_ret pe_bl))
    pss_nil)
    (pss_cons (ps_if (pt_cmpR (op_neD (huR hr)) (pe_dn DToldThereL (hr.mono (by omega)) (pa_cons pe_int (pa_cons (pv 1) (pa_cons (pv 5) (pa_cons (pv 5) (pa_cons (pv 12) pa_nil)))))) (pe_tup (pa_cons pe_str (pa_cons pe_str (pa_cons (pe_un un_neg pe_int) pa_nil)))) (nomark _))
    (pss_one (ps_ret pe_bl))
    pss_nil)
    (pss_cons (ps_set (i := 13) scRefusedThereL.nd rfl (Or.inl rfl) (pe_lst (pa_cons (pe_tup pa_nil) (pa_cons (pe_lst (pa_cons (pv 4) pa_nil)) (pa_cons (pe_tup (pa_cons (pv 4) (pa_cons (pv 6) pa_nil))) (pa_cons (pe_tup (pa_cons (pv 6) (pa_cons (pv 4) pa_nil))) (pa_cons (pv 4) (pa_cons pe_non (pa_cons (pe_tup (pa_cons (pe_callTy call_list_of (by rfl) T.n_list (by decide +kernel) (pa_cons (pv 2) pa_nil)) pa_nil)) (pa_cons pe_str pa_nil))))))))))
    (pss_cons (ps_if (pt_cmpR (op_neD (huR hr)) (pe_dn DToldThereL (hr.mono (by omega)) (pa_cons pe_int (pa_cons (pv 1) (pa_cons (pe_ix ix_list (pv 13) (pe_dn DDrawL (hr.mono (by omega)) (pa_cons (pv 0) (pa_cons pe_int pa_nil))) (fun _ _ => rfl)) (pa_cons pe_non (pa_cons pe_non pa_nil)))))) (pe_tup (pa_cons pe_str (pa_cons pe_str (pa_cons (pe_un un_neg pe_int) pa_nil)))) (nomark _))
    (pss_one (ps_ret pe_bl))
    pss_nil)
    (pss_one (ps_ret (pe_cmpR (op_eqD (huR hr)) (pe_dn DToldThereL (hr.mono (by omega)) (pa_cons pe_int (pa_cons (pv 1) (pa_cons (pv 5) (pa_cons (pv 5) (pa_cons (pe_tup (pa_cons (pe_un un_neg pe_int) (pa_cons pe_int pa_nil))) pa_nil)))))) (pe_tup (pa_cons pe_str pa_nil)) (nomark _)))))))))))))))))))))), ?_⟩
    have st0 : L2.start ["tape", "space", "row", "i", "good", "home", "bad", "worse", "nowhere", "ends", "by", "x", "never", "lists"] [V.ref t, V.ref s] = [some (V.ref t), some (V.ref s), none, none, none, none, none, none, none, none, none, none, none, none] := rfl
    rw [st0]
    have es0 := Ss.1
    have n2 := Ss.2.1
    have n3 := Ss.2.2
    walk_at "rds"
    refine ⟨by omega, by omega, fun d hd => ?_⟩
    have nd := Tt.ne hd
    refine lc_range (lo := 0) (n := n.toNat) (fun i H4 => ∃ ms : List Int, ms.length = i ∧ (∀ m ∈ ms, In6 m) ∧ H4 d = some (.lst (ms.map V.int)) ∧ Tq t l H4 ∧ Sam H H4) ⟨[], rfl, (fun m hm => by cases hm), upd_same, Tt.to (same_put hd (Same.refl _)), Sam.of (same_put hd (Same.refl _))⟩ ?_ ?_
    · rintro i H4 hi ⟨ms, lm, bm, e4, T4, s4⟩
      refine ⟨rfl, ?_⟩
      walk_at "rds"
      refine ⟨t, l, 41, rfl, T4, by decide, by decide, fun c H5 a5 b5 T5 s5 => ?_⟩
      walk_at "rds"
      refine ⟨_, s5 _ _ nt_ints e4, ?_, ms ++ [c - 20], by rw [List.length_append, lm]; rfl, fun m hm => ?_, by rw [upd_same, List.map_append]; rfl, T5.put nd, sam_put hd (s4.trans s5)⟩
      · rw [List.length_map, lm, sizeLine_eq]
        omega
      · rcases List.mem_append.mp hm with h | h
        · exact bm m h
        · rw [List.mem_singleton.mp h]
          unfold In6
          omega
    rintro H4 ⟨ms, lm, bm, e4, T4, s4⟩
    have lms : (ms.length : Int) = n := by omega
    have es4 : H4 s = _ := s4 _ _ nt_tup es0
    walk_at "rds"
    refine cut_at (U1 t l s d n r ms H) ?_ ?_
    · walk_at "rds"
      refine' ⟨t, l, d, ms, rfl, ?za, by omega, by omega, ?zb, fun bv H5 hb T5 s5 => ?_⟩
      case za => walk_at "heap"
      case zb => walk_at "tq"
      rw [lms] at hb
      refine' u1_mk ?y1 ?y2 ?y3 ?y4 ?y5 hb T5 ?y6
      case y1 => exact rfl
      case y2 => walk_at "heap"
      case y3 => walk_at "heap"
      case y4 => walk_at "heap"
      case y5 => walk_at "heap"
      case y6 => walk_at "sam"
    clear e4 T4 s4 es4
    rintro _ H5 ⟨go, ho, bv, rfl, K5⟩
    have hS : ∀ {H'}, Kr t l s d go ho n r ms bv H H' → Space H' s n r := fun k => ⟨k.es, n2, n3⟩
    obtain ⟨dbv, rb, lb⟩ := K5.db
    have T := K5.T
    walk_at "rds"
    refine tt_some (z := "point") (tt_point lb) (by decide) (by decide) (hS K5) rb .non .non fun pt21 Ht21 et21 tt21 => ?_
    walk_at "rds"
    refine' told_ne (z := "point") (by decide +kernel) ?hp21 ?hq21 ?_
    case hp21 => walk_at "heap"
    case hq21 => walk_at "heap"
    walk_at "rds"
    refine cut_at (U2 t l s d go ho n r ms bv H) ?_ ?_
    · walk_at "rds"
      refine ⟨t, l, 7, rfl, by walk_at "tq", by decide, by decide, fun k1 H6 a6 b6 T6 s6 => ?_⟩
      refine' ix_db (M := nPos) ?he ?hd a6 ?hl fun wv hw => ?_
      case he => walk_at "heap"
      case hl => exact b6
      case hd => walk_at "dbs"
      walk_at "rds"
      exact ⟨wv, rfl, hw, K5.to T6 (by walk_at "sam")⟩
    clear K5 rb T
    rintro _ H6 ⟨wv, rfl, hw, K6⟩
    obtain ⟨dbv, rb, lb⟩ := K6.db
    obtain ⟨dwv, rw', lw⟩ := hw
    have T := K6.T
    have rg : Rp H6 (.ref go) _ := rp_row K6.eg (by omega)
    have er6 := K6.er
    walk_at "rds"
    refine tt_some (z := "numbers") (tt_numbers lb) (by decide) (by decide) (hS (K6.to (by walk_at "tq") (by walk_at "sam"))) (by walk_at "rp") (by walk_at "rp") (by walk_at "rp") fun pt22 Ht22 et22 tt22 => ?_
    walk_at "rds"
    refine' told_ne (z := "numbers") (by decide +kernel) ?hp22 ?hq22 ?_
    case hp22 => walk_at "heap"
    case hq22 => walk_at "heap"
    walk_at "rds"
    refine tt_some (z := "bottom") (tt_bottom (row_true lms) lw) (by decide) (by decide) (hS (K6.to (by walk_at "tq") (by walk_at "sam"))) (by walk_at "rp") (by walk_at "rp") (by walk_at "rp") fun pt23 Ht23 et23 tt23 => ?_
    walk_at "rds"
    refine' told_ne (z := "bottom") (by decide +kernel) ?hp23 ?hq23 ?_
    case hp23 => walk_at "heap"
    case hq23 => walk_at "heap"
    walk_at "rds"
    refine' ⟨t, l, _, ms ++ [1], rfl, ?xa, by simp; omega, by simp; omega, ?xb, fun nv H7 hn T7 s7 => ?_⟩
    case xa => (rw [List.map_append]; walk_at "heap")
    case xb => walk_at "tq"
    have hn1 : Db (nLo (n + 1)) H7 nv := by
      obtain ⟨dn, rn, mn⟩ := hn
      refine ⟨dn, rn, nlo_row ?_⟩
      rw [List.length_append] at mn
      rw [← lms]
      exact mn
    have K7 := K6.to T7 (by walk_at "sam")
    clear K6 rb rw' rg er6
    walk_at "rds"
    refine cut_at (U3 t l s d go ho n r ms bv H) ?_ ?_
    · walk_at "rds"
      refine ⟨t, l, 3, rfl, by walk_at "tq", by decide, by decide, fun k2 H8 a8 b8 T8 s8 => ?_⟩
      walk_at "rds"
      refine Rd.ifB (fun h => ?_) fun h => ?_
      · walk_at "rds"
        refine ⟨t, l, 3, rfl, by walk_at "tq", by decide, by decide, fun k3 H9 a9 b9 T9 s9 => ?_⟩
        have K9 := K7.to T9 (by walk_at "sam")
        have er9 := K9.er
        refine' ix3w ?he4 a9 b9 ?q0 ?q1 ?q2
        case he4 => walk_at "heap"
        case q0 =>
          walk_at "rds"
          refine ⟨_, _, _, _, rfl, db (.tuple ((ms ++ [0]).map PyData.int)) (rp_row (by rw [List.map_append]; walk_at "heap") (by simp; omega)) (nlo_last (by decide)), K7.to (by walk_at "tq") (by walk_at "sam")⟩
        case q1 =>
          walk_at "rds"
          refine ⟨_, _, _, _, rfl, db (.tuple ((ms ++ [-1]).map PyData.int)) (rp_row (by rw [List.map_append]; walk_at "heap") (by simp; omega)) (nlo_last (by decide)), K7.to (by walk_at "tq") (by walk_at "sam")⟩
        case q2 =>
          walk_at "rds"
          refine ⟨_, _, _, _, rfl, db (.tuple (ms.map PyData.int ++ [.bool true])) (.tup (by walk_at "heap") ((rp_ints ms).app (.cons (.bl true) .nil)) (by simp; omega)) (nlo_row (nrow_mem (d := .bool true) (by simp) rfl)), K7.to (by walk_at "tq") (by walk_at "sam")⟩
      · walk_at "rds"
        exact ⟨_, nv, _, _, rfl, hn1.to (by walk_at "sam"), K7.to T8 (by walk_at "sam")⟩
    clear K7 hn hn1 T7 s7 T
    rintro _ H7 ⟨o7, nv, o9, o10, rfl, hn1, K7⟩
    have T := K7.T
    walk_at "rds"
    refine cut_at (U3 t l s d go ho n r ms bv H) ?_ ?_
    · walk_at "rds"
      refine ⟨t, l, 5, rfl, T, by decide, by decide, fun k2 H8 a8 b8 T8 s8 => ?_⟩
      walk_at "rds"
      refine Rd.ifB (fun h => ?_) fun h => ?_
      · walk_at "rds"
        refine ⟨t, l, 2, rfl, T8, by decide, by decide, fun k3 H9 a9 b9 T9 s9 => ?_⟩
        have K9 := K7.to T9 (by walk_at "sam")
        have er9 := K9.er
        have w2 : CMulW 2 k3 := sm_mul (sm6 (by unfold In6; omega)) (sm6 (by unfold In6; omega))
        walk_at "rds"
        refine ⟨⟨_, SqL.of (by walk_at "heap")⟩, fun d8 n8 => ?_⟩
        refine' lc_intsM (fun x => 2 * k3 * x) n8 ?he8 ?hl8 ?st8 ?_
        case he8 => walk_at "heap"
        case hl8 => omega
        case st8 =>
          intro m H' R hm s' r
          have cgm : CMulW (2 * k3) m := sm_mul (sm6 (by unfold In6; omega)) (sm6 (bm m hm))
          refine ⟨rfl, ?_⟩
          walk_at "rds"
        intro J8 e8 t8
        walk_at "rds"
        refine ⟨_, _, _, _, rfl, db (.tuple ((ms.map (fun x => 2 * k3 * x) ++ [2]).map PyData.int)) (rp_row (by rw [List.map_append]; walk_at "heap") (by simp; omega)) (nlo_even fun m hm => ?_), K7.to (by walk_at "tq") (by walk_at "sam")⟩
        rcases List.mem_append.mp hm with h | h
        · obtain ⟨k, _, rfl⟩ := List.mem_map.mp h
          rw [Int.mul_assoc, Int.natAbs_mul]
          exact Nat.dvd_mul_right _ _
        · rw [List.mem_singleton.mp h]
          decide
      · walk_at "rds"
        exact ⟨_, nv, _, _, rfl, hn1.to s8, K7.to T8 s8⟩
    clear K7 hn1 T
    rintro _ H7 ⟨o7, nv, o9, o10, rfl, hn1, K7⟩
    have T := K7.T
    walk_at "rds"
    refine cut_at (U4 t l s d go ho n r ms bv nv H) ?_ ?_
    · walk_at "rds"
      refine ⟨t, l, 7, rfl, by walk_at "tq", by decide, by decide, fun k1 H8 a8 b8 T8 s8 => ?_⟩
      refine' ix_db (M := nLow) ?he5 ?hd5 a8 ?hl5 fun ev he => ?_
      case he5 => walk_at "heap"
      case hl5 => exact b8
      case hd5 => walk_at "dbs"
      walk_at "rds"
      exact ⟨_, _, _, ev, rfl, hn1.to (by walk_at "sam"), he, K7.to T8 (by walk_at "sam")⟩
    clear K7 hn1 T
    rintro _ H8 ⟨o7, o9, o10, ev, rfl, hn1, he, K8⟩
    obtain ⟨dn, rn, ln⟩ := hn1
    obtain ⟨de, re, le⟩ := he
    have T := K8.T
    have rh : Rp H8 (.ref ho) _ := rp_row K8.eh (by simp; omega)
    have hl := home_low lms
    have er8 := K8.er
    have eg8 := K8.eg
    walk_at "rds"
    refine tt_some (z := "place") (tt_place ln) (by decide) (by decide) (hS (K8.to (by walk_at "tq") (by walk_at "sam"))) (by walk_at "rp") (by walk_at "rp") (by walk_at "rp") fun pt31 Ht31 et31 tt31 => ?_
    walk_at "rds"
    refine' told_ne (z := "place") (by decide +kernel) ?hp31 ?hq31 ?_
    case hp31 => walk_at "heap"
    case hq31 => walk_at "heap"
    walk_at "rds"
    refine tt_some (z := "other") (tt_other hl ln) (by decide) (by decide) (hS (K8.to (by walk_at "tq") (by walk_at "sam"))) (by walk_at "rp") (by walk_at "rp") (by walk_at "rp") fun pt32 Ht32 et32 tt32 => ?_
    walk_at "rds"
    refine' told_ne (z := "other") (by decide +kernel) ?hp32 ?hq32 ?_
    case hp32 => walk_at "heap"
    case hq32 => walk_at "heap"
    walk_at "rds"
    refine tt_some (z := "moment") (tt_moment hl hl le) (by decide) (by decide) (hS (K8.to (by walk_at "tq") (by walk_at "sam"))) (by walk_at "rp") (by walk_at "rp") (by walk_at "rp") fun pt33 Ht33 et33 tt33 => ?_
    walk_at "rds"
    refine' told_ne (z := "moment") (by decide +kernel) ?hp33 ?hq33 ?_
    case hp33 => walk_at "heap"
    case hq33 => walk_at "heap"
    walk_at "rds"
    refine ⟨t, l, 8, rfl, by walk_at "tq", by decide, by decide, fun k1 H9 a9 b9 T9 s9 => ?_⟩
    obtain ⟨dbv, rb, lb⟩ := K8.db
    have rg : Rp H8 (.ref go) (.tuple (ms.map PyData.int)) := rp_row K8.eg (by omega)
    have K9 := K8.to T9 (by walk_at "sam")
    refine' ix_db (M := nPts n) ?he6 ?hd6 a9 ?hl6 fun v hv => ?_
    case he6 => walk_at "heap"
    case hl6 => exact b9
    case hd6 =>
      refine db_cons (db (.tuple []) (.tup (by walk_at "heap") .nil (by decide)) rfl) ?_
      refine db_cons (db (.list [.tuple (ms.map PyData.int)]) (.lst (by walk_at "heap") (.cons (by walk_at "rp") .nil) (by show 1 ≤ 1000; decide) (by walk_at "nt")) rfl) ?_
      refine db_cons (db (.tuple [.tuple (ms.map PyData.int), dbv]) (.tup (by walk_at "heap") (.cons (by walk_at "rp") (.cons (by walk_at "rp") .nil)) (by show 2 ≤ 1000; decide)) (npts_mem (by simp) lb)) ?_
      refine db_cons (db (.tuple [dbv, .tuple (ms.map PyData.int)]) (.tup (by walk_at "heap") (.cons (by walk_at "rp") (.cons (by walk_at "rp") .nil)) (by show 2 ≤ 1000; decide)) (npts_mem (by simp) lb)) ?_
      refine db_cons (db (.tuple (ms.map PyData.int)) (by walk_at "rp") (npts_ints (by omega))) ?_
      refine db_cons (db .none .non rfl) ?_
      refine db_cons (db (.tuple [.list (ms.map PyData.int)]) (.tup (by walk_at "heap") (.cons (.lst (by walk_at "heap") (rp_ints ms) (by rw [List.length_map]; omega) nt_ints) .nil) (by show 1 ≤ 1000; decide)) (npts_mem (d := .list (ms.map PyData.int)) (by simp) rfl)) ?_
      exact db_cons (db (.str _) (.str _) rfl) db_nil
    obtain ⟨dv, rv, lv⟩ := hv
    have rh9 : Rp H9 (.ref ho) (.tuple ((ms ++ [1]).map PyData.int)) := rp_row K9.eh (by simp; omega)
    have sh : Sd (.tuple ((ms ++ [1]).map PyData.int)) := sd_row fun m hm => by
      rcases List.mem_append.mp hm with h | h
      · exact bm m h
      · rw [List.mem_singleton.mp h]; unfold In6; decide
    have hq : dLow 2 (.tuple [.int (-1), .int 2]) = true := low_of (by decide) (by decide)
    have sq : Sd (.tuple [.int (-1), .int 2]) := by walk_at "sd"
    have es9 := K9.es
    walk_at "rds"
    refine tt_some (z := "points") (tt_points lv) (by decide) (by decide) (hS (K9.to (by walk_at "tq") (by walk_at "sam"))) rv .non .non fun pt34 Ht34 et34 tt34 => ?_
    walk_at "rds"
    refine' told_ne (z := "points") (by decide +kernel) ?hp34 ?hq34 ?_
    case hp34 => walk_at "heap"
    case hq34 => walk_at "heap"
    walk_at "rds"
    refine' tt_none (tt_let hl hl hq) (hS (K9.to (by walk_at "tq") (by walk_at "sam"))) sh sh sq ?rx ?ry ?rz fun pt Ht et tt => ?_
    case rx => walk_at "rp"
    case ry => walk_at "rp"
    case rz => (refine rp_q ?_; walk_at "heap")
    walk_at "rds"
    refine' let_eq ?hx ?hy ?_
    case hx => walk_at "heap"
    case hy => walk_at "heap"
    walk_at "rds"
    exact kk _ (by walk_at "tq") (by have := K9.s; walk_at "sam")
end
end K15
end SecQ17
section SecQ18
set_option Elab.async false
set_option linter.all false
set_option maxRecDepth 100000
set_option maxHeartbeats 4000000
set_option pp.deepTerms false
local macro_rules | `(tactic| walk_at "tq") => `(tactic| first | assumption | (refine' Dt.Tq.to ?s0 ?h0; (case h0 => assumption); (case s0 => walk_at "same")))
local macro_rules | `(tactic| walk_at "same") => `(tactic| first | exact L2.Same.refl _ | assumption | (refine' L2.Same.trans ?s1 ?s2; (case s2 => assumption); (case s1 => walk_at "same")))
local macro_rules | `(tactic| walk_at "sam") => `(tactic| first | exact Dt.Sam.refl | assumption | exact Dt.Sam.of (by assumption) | (refine' Dt.Sam.trans ?s1 ?s2; (case s2 => first | assumption | exact Dt.Sam.of (by assumption)); (case s1 => walk_at "sam")))
local macro_rules | `(tactic| walk_at "tape") => `(tactic| first | assumption | (refine' Dt.Tape.mono ?h0 ?s0; (case h0 => assumption); (case s0 => walk_at "same")))
local macro_rules | `(tactic| walk_at "nt") => `(tactic| first | exact Dt.nt_tup | exact Dt.nt_ints | assumption | (intro a0 b0 c0 l0 z0; cases z0) | (intro a0 b0 c0 l0 z0; simp at z0))
local macro_rules | `(tactic| walk_at "heap") => `(tactic| first | assumption | exact L2.upd_same | (refine' Rd.at_to ?s0 ?h0; (case h0 => assumption); (case s0 => walk_at "same")) | (refine' Dt.at_sam ?n0 ?s0 ?h0; (case h0 => assumption); (case n0 => walk_at "nt"); (case s0 => walk_at "sam")))
local macro_rules | `(tactic| walk_at "rp") => `(tactic| first | exact Dt.Rp.int _ | exact Dt.Rp.bl _ | exact Dt.Rp.str _ | exact Dt.Rp.non | assumption | (refine' Dt.Rp.sm ?s0 ?h0; (case h0 => assumption); (case s0 => walk_at "sam")) | (refine' Dt.Rp.tup ?h1 ?h2 ?h3; (case h1 => walk_at "heap"); (case h2 => walk_at "rps"); (case h3 => first | assumption | (show _ ≤ 1000; decide) | (show _ ≤ 1000; simp) | (show _ ≤ 1000; omega))) | (refine' Dt.Rp.lst ?h1 ?h2 ?h3 ?h4; (case h1 => walk_at "heap"); (case h2 => walk_at "rps"); (case h3 => first | assumption | (show _ ≤ 1000; decide) | (show _ ≤ 1000; simp) | (show _ ≤ 1000; omega)); (case h4 => walk_at "nt")))
local macro_rules | `(tactic| walk_at "rps") => `(tactic| first | exact Dt.RpAll.nil | assumption | (refine' Dt.RpAll.cons ?h1 ?h2; (case h1 => walk_at "rp"); (case h2 => walk_at "rps")) | (refine' Dt.RpAll.sm ?s0 ?h0; (case h0 => assumption); (case s0 => walk_at "sam")))
local macro_rules | `(tactic| walk_at "rd") => `(tactic| first
  | with_reducible refine Rd.seq ?_ | with_reducible refine Rd.asg ?_ | with_reducible refine Rd.nm ?_ | with_reducible refine Rd.sub ?_ | with_reducible refine Rd.ret ?_ | with_reducible refine Rd.retN ?_
  | with_reducible refine Rd.drop ?_ | with_reducible refine Rd.ifs ?_ | with_reducible refine Rd.next ?_ | with_reducible refine Rd.cst ?_ | with_reducible refine Rd.op ?_ | with_reducible refine Rd.un ?_
  | with_reducible refine Rd.test ?_ | with_reducible refine Rd.tb' ?_ | with_reducible refine Rd.exb ?_ | with_reducible refine Rd.exi ?_ | with_reducible refine Rd.and2 ?_ | with_reducible refine Rd.or2 ?_ | with_reducible refine Rd.not1 ?_
  | with_reducible refine Rd.andV ?_ | with_reducible refine Rd.orV ?_ | with_reducible refine Rd.notV ?_ | with_reducible refine Rd.nil ?_ | with_reducible refine Rd.cons ?_ | with_reducible refine Rd.cb ?_
  | with_reducible refine Rd.i0 ?_ | with_reducible refine Rd.u1 ?_ | with_reducible refine Rd.call ?_ | with_reducible refine Rd.tup ?_ | with_reducible refine Rd.lst ?_ | with_reducible refine Rd.sl ?_ | with_reducible refine Rd.no ?_ | with_reducible refine Rd.part ?_ | with_reducible refine Rd.at_ ?_ | with_reducible refine Rd.yes ?_ | with_reducible refine Rd.fors ?_ | with_reducible refine Rd.m1 ?_ | with_reducible refine Rd.exs ?_ | with_reducible refine Rd.lc ?_ | with_reducible refine Rd.rng ?_
  | with_reducible refine Rd.mkv ?_ | with_reducible refine Rd.mko ?_ | with_reducible refine Rd.callB ?_ | with_reducible refine Rd.callS ?_ | with_reducible refine Rd.bm ?_ | with_reducible refine Rd.itl ?_ | with_reducible refine Rd.itt ?_
  | ((with_reducible refine' And.intro ?hl ?_); (case hl => ((with_reducible show List.length _ ≤ PySem.sizeLine); (show _ ≤ PySem.sizeLine); rw [PySem.sizeLine_eq]; simp)))
  | (intro p0 n0; generalize hK0 : L2.upd _ p0 _ = K0; obtain ⟨e0, t0⟩ := Dt.newK hK0 n0)
  | ((with_reducible refine' Rd.lenKL ?he ?_); (case he => walk_at "heap")) | ((with_reducible refine' Rd.lenKT ?he ?_); (case he => walk_at "heap"))
  | ((with_reducible refine' Rd.var ?hv ?_); (case hv => exact rfl))
  | ((with_reducible refine' Rd.ifT ?hv ?_); (case hv => first | exact rfl | assumption)) | ((with_reducible refine' Rd.ifF ?hv ?_); (case hv => first | exact rfl | assumption))
  | ((with_reducible refine' Rd.eq ?hv ?_); (case hv => exact rfl))
  | ((with_reducible refine' Rd.ne ?hv ?_); (case hv => exact rfl))
  | ((with_reducible refine' Dt.isi_int ?hr ?_); (case hr => walk_at "rp")) | ((with_reducible refine' Dt.isi_bool ?hr ?_); (case hr => walk_at "rp")) | ((with_reducible refine' Dt.isi_tuple ?hr ?_); (case hr => walk_at "rp")) | ((with_reducible refine' Dt.isi_str ?hr ?_); (case hr => walk_at "rp")) | ((with_reducible refine' Dt.isi_list ?hr ?_); (case hr => walk_at "rp"))
  | with_reducible refine ⟨rfl, ?_⟩ | with_reducible refine Or.inl ⟨_, rfl, ?_⟩ | with_reducible refine Or.inr ⟨_, rfl, ?_⟩ | with_reducible refine ⟨_, rfl, ?_⟩
  | ((with_reducible refine' Rd.ex2 ⟨rfl, ?hl, ?_⟩); (case hl => first | exact Or.inl ⟨_, L2.SqL.of (by walk_at "heap"), rfl⟩ | exact Or.inr ⟨_, L2.SqT.of (by walk_at "heap"), rfl⟩))
  | ((with_reducible refine' Rd.i1 ?hv ?_); (case hv => first | exact ⟨by decide, by decide, by decide⟩ | exact Or.inr ⟨by decide, by decide⟩ | exact Or.inl ⟨by decide, by decide⟩ | exact ⟨by decide, by decide⟩ | decide | assumption | (show _ ≠ _; omega) | (refine ⟨?_, ?_⟩ <;> omega) | (refine Or.inl ⟨?_, ?_⟩ <;> omega)))
  | ((with_reducible refine' Rd.ixL ?he ?hx ?_); (case he => walk_at "heap"); (case hx => rfl))
  | ((with_reducible refine' Rd.ixT ?he ?hx ?_); (case he => walk_at "heap"); (case hx => rfl))
  | ((with_reducible refine' Rd.setL ?he ?hx ?_); (case he => first | assumption | exact L2.upd_same); (case hx => rfl)))
local macro_rules | `(tactic| walk_at "rd") => `(tactic| first | with_reducible refine Rd.isT ?_ | with_reducible refine Rd.isnT ?_)
local macro_rules | `(tactic| walk_at "rd") => `(tactic| first | ((with_reducible refine' Rd.gtup ?he ?hl ?_); (case he => walk_at "heap"); (case hl => exact rfl)) | with_reducible refine Rd.brk ?_ | with_reducible refine Rd.callR ?_ | ((with_reducible refine' ⟨_, _, rfl, Or.inl ⟨L2.SqL.of ?hp, ?_⟩⟩); (case hp => walk_at "heap")) | ((with_reducible refine' ⟨_, _, rfl, Or.inl (L2.SqL.of ?hp), ?_⟩); (case hp => walk_at "heap")) | ((with_reducible refine' Rd.catL ?hp ?hq ?hl ?_); (case hp => walk_at "heap"); (case hq => walk_at "heap"); (case hl => (simp only [List.length_map, List.length_append, List.length_cons, List.length_nil]; omega)); (intro r0 J0 e0 t0 n0)) | with_reducible refine Rd.bits ?_ | with_reducible refine Rd.max2 ?_ | with_reducible refine Rd.gcons ?_ | with_reducible refine Rd.gnil ?_)
local macro_rules | `(tactic| walk_at "rds") => `(tactic| repeat (first | walk_at "rd" | assumption))
namespace K15
open PySem PySem.Spec PyProof.Rows L2 L2H Err Dt
/-- a small quotient -/
structure Qs (x y : Int) : Prop where
  pos : 1 ≤ y
  low : Nat.gcd x.natAbs y.natAbs = 1
  bx : x.natAbs ≤ 60
  bY : y.natAbs ≤ 60
inductive PrA (H : Hp) : List V → List (Int × Int) → Prop
  | nil : PrA H [] []
  | cons {p : Addr} {x y : Int} {vs : List V} {ns : List (Int × Int)} (e : H p = some (.tup [.int x, .int y])) (q : Qs x y) (r : PrA H vs ns) : PrA H (.ref p :: vs) ((x, y) :: ns)
theorem PrA.mono {H H' : Hp} (s : ∀ (p : Addr) (x y : Int), H p = some (.tup [.int x, .int y]) → H' p = some (.tup [.int x, .int y])) {vs : List V} {ns : List (Int × Int)} (h : PrA H vs ns) : PrA H' vs ns := by
  induction h with
  | nil => exact .nil
  | cons e q r ih => exact .cons (s _ _ _ e) q ih
theorem PrA.sam {H H' : Hp} (s : Sam H H') {vs : List V} {ns : List (Int × Int)} (h : PrA H vs ns) : PrA H' vs ns := h.mono fun p x y e => s _ _ nt_tup e
theorem PrA.put {H : Hp} {d : Addr} {us : List V} {o : HO} (hd : H d = some (.lst us)) {vs : List V} {ns : List (Int × Int)} (h : PrA H vs ns) : PrA (upd H d o) vs ns := h.mono fun p x y e => by
  have : p ≠ d := fun z => by rw [z, hd] at e; cases e
  rw [upd_ne this]
  exact e
theorem PrA.app {H : Hp} {p : Addr} {x y : Int} {vs : List V} {ns : List (Int × Int)} (h : PrA H vs ns) (e : H p = some (.tup [.int x, .int y])) (q : Qs x y) : PrA H (vs ++ [.ref p]) (ns ++ [(x, y)]) := by
  induction h with
  | nil => exact .cons e q .nil
  | cons e0 q0 r ih => exact .cons e0 q0 ih
theorem PrA.at {H : Hp} {vs : List V} {ns : List (Int × Int)} (h : PrA H vs ns) : ∀ {i : Nat} {v : V}, vs[i]? = some v → ∃ (p : Addr) (x y : Int), v = .ref p ∧ ns[i]? = some (x, y) ∧ H p = some (.tup [.int x, .int y]) ∧ Qs x y := by
  induction h with
  | nil => intro i v e; simp at e
  | cons e0 q0 r ih =>
    intro i v e
    cases i with
    | zero => simp at e; exact ⟨_, _, _, e.symm, by simp, e0, q0⟩
    | succ i => simp at e; simpa using ih e
theorem PrA.len {H : Hp} {vs : List V} {ns : List (Int × Int)} (h : PrA H vs ns) : vs.length = ns.length := by
  induction h with
  | nil => rfl
  | cons e q r ih => simp [ih]
theorem PrA.nt {H : Hp} {vs : List V} {ns : List (Int × Int)} (h : PrA H vs ns) : NotTape (.lst vs) := fun a b c l z => by
  cases h with
  | nil => cases z
  | cons e q r => cases z
/-- the sum, unreduced; the tops multiplied -/
def tbL (ns : List (Int × Int)) : Int × Int := ns.foldl (fun a n => (a.1 * n.2 + n.1 * a.2, a.2 * n.2)) (0, 1)
def prL (ns : List (Int × Int)) : Int := ns.foldl (fun a n => a * n.1) 1
theorem tb_take {ns : List (Int × Int)} {i : Nat} {x y : Int} (h : ns[i]? = some (x, y)) : tbL (ns.take (i + 1)) = ((tbL (ns.take i)).1 * y + x * (tbL (ns.take i)).2, (tbL (ns.take i)).2 * y) := by
  unfold tbL
  rw [List.take_succ, h, List.foldl_append]
  rfl
theorem pr_take {ns : List (Int × Int)} {i : Nat} {x y : Int} (h : ns[i]? = some (x, y)) : prL (ns.take (i + 1)) = prL (ns.take i) * x := by
  unfold prL
  rw [List.take_succ, h, List.foldl_append]
  rfl
/-- within 120 ^ k -/
def Bn (k : Nat) (v : Int) : Prop := v.natAbs ≤ 120 ^ k
theorem Bn.mul {k : Nat} {a x : Int} (h : Bn k a) (hx : x.natAbs ≤ 60) : Bn (k + 1) (a * x) := by
  unfold Bn at *
  rw [Int.natAbs_mul, Nat.pow_succ]
  exact Nat.mul_le_mul h (by omega)
theorem Bn.rmul {k : Nat} {a x : Int} (h : Bn k a) (hx : x.natAbs ≤ 60) : Bn (k + 1) (x * a) := by rw [Int.mul_comm]; exact h.mul hx
theorem bn_half {k : Nat} {a x : Int} (h : Bn k a) (hx : x.natAbs ≤ 60) : (a * x).natAbs ≤ 60 * 120 ^ k := by
  rw [Int.natAbs_mul, Nat.mul_comm]
  exact Nat.mul_le_mul hx h
theorem Bn.add {k : Nat} {a b x y : Int} (ha : Bn k a) (hb : Bn k b) (hx : x.natAbs ≤ 60) (hy : y.natAbs ≤ 60) : Bn (k + 1) (a * y + x * b) := by
  have h1 := bn_half ha hy
  have h2 := bn_half hb hx
  rw [Int.mul_comm] at h2
  unfold Bn
  rw [Nat.pow_succ]
  omega
theorem Bn.sub {k : Nat} {a b x y : Int} (ha : Bn k a) (hb : Bn k b) (hx : x.natAbs ≤ 60) (hy : y.natAbs ≤ 60) : Bn (k + 1) (a * y - x * b) := by
  have h1 := bn_half ha hy
  have h2 := bn_half hb hx
  rw [Int.mul_comm] at h2
  unfold Bn
  rw [Nat.pow_succ]
  omega
theorem Bn.sm {k : Nat} {v : Int} (h : Bn k v) (hk : k ≤ 14) : v.natAbs < 2 ^ 300 := by
  refine Nat.lt_of_le_of_lt (Nat.le_trans h (Nat.pow_le_pow_right (by decide) hk)) (by decide +kernel)
theorem sm3 {v : Int} (h : v.natAbs < 2 ^ 300) : Sm v := Nat.lt_trans h (Nat.pow_lt_pow_right (by decide) (by decide))
theorem Bn.S {k : Nat} {v : Int} (h : Bn k v) (hk : k ≤ 14) : Sm v := sm3 (h.sm hk)
theorem Bn.le {k m : Nat} {v : Int} (h : Bn k v) (hk : k ≤ m) : Bn m v := Nat.le_trans h (Nat.pow_le_pow_right (by decide) hk)
theorem sm60 {v : Int} (h : v.natAbs ≤ 60) : Sm v := Nat.lt_of_le_of_lt h (by decide +kernel)
/-- v / w is a / b, in lowest terms -/
structure Qv (k : Nat) (v w a b : Int) : Prop where
  mul : v * b = a * w
  pos : 1 ≤ w
  low : Nat.gcd v.natAbs w.natAbs = 1
  bv : Bn k v
  bw : Bn k w
theorem qv_plus {k : Nat} {a1 a2 T B x y v w : Int} (q : Qv k a1 a2 T B) (n : Qs x y) (f : QF v w (a1 * y + x * a2) (a2 * y)) : Qv (k + 1) v w (T * y + x * B) (B * y) := by
  refine ⟨?_, f.pos, f.low, Nat.le_trans f.le1 (q.bv.add q.bw n.bx n.bY), Nat.le_trans f.le2 (q.bw.mul n.bY)⟩
  have h := q.mul
  have g := f.mul
  have p := q.pos
  apply Int.eq_of_mul_eq_mul_right (show a2 ≠ 0 by omega)
  clear f n q
  grind
theorem qv_minus {k : Nat} {a1 a2 T B x y v w : Int} (q : Qv k a1 a2 T B) (n : Qs x y) (f : QF v w (a1 * y - x * a2) (a2 * y)) : Qv (k + 1) v w (T * y - x * B) (B * y) := by
  refine ⟨?_, f.pos, f.low, Nat.le_trans f.le1 (q.bv.sub q.bw n.bx n.bY), Nat.le_trans f.le2 (q.bw.mul n.bY)⟩
  have h := q.mul
  have g := f.mul
  have p := q.pos
  apply Int.eq_of_mul_eq_mul_right (show a2 ≠ 0 by omega)
  clear f n q
  grind
theorem qv_times {k : Nat} {a1 a2 T B x y v w : Int} (q : Qv k a1 a2 T B) (n : Qs x y) (f : QF v w (a1 * x) (a2 * y)) : Qv (k + 1) v w (T * x) (B * y) := by
  refine ⟨?_, f.pos, f.low, Nat.le_trans f.le1 (q.bv.mul n.bx), Nat.le_trans f.le2 (q.bw.mul n.bY)⟩
  have h := q.mul
  have g := f.mul
  have p := q.pos
  apply Int.eq_of_mul_eq_mul_right (show a2 ≠ 0 by omega)
  clear f n q
  grind
theorem qv_over {k : Nat} {a1 a2 T B x y v w : Int} (q : Qv k a1 a2 T B) (n : Qs x y) (f : QF v w (a1 * y) (a2 * x)) : Qv (k + 1) v w (T * y) (B * x) := by
  refine ⟨?_, f.pos, f.low, Nat.le_trans f.le1 (q.bv.mul n.bY), Nat.le_trans f.le2 (q.bw.mul n.bx)⟩
  have h := q.mul
  have g := f.mul
  have p := q.pos
  apply Int.eq_of_mul_eq_mul_right (show a2 ≠ 0 by omega)
  clear f n q
  grind
theorem rev_step {T B T0 B0 x y : Int} (h : T * (B0 * y) = (T0 * y + x * B0) * B) : (T * y - x * B) * B0 = T0 * (B * y) := by grind
theorem bin_ofB {CN : Addr} {ok : Int → Bool} {tf bf : Int → Int → Int → Int → Int} {H : Hp} {p1 p2 : Addr} {x y z u : Int} {Q : VK} {E : XK} (h1 : H p1 = some (.tup [.int x, .int y])) (h2 : H p2 = some (.tup [.int z, .int u])) (q1 : dLow 2 (.tuple [.int x, .int y]) = true) (q2 : Qs z u) (sx : Sm x) (sy : Sm y) (hok : ok z = true)
    (k : ∀ (p : Addr) (H' : Hp) (v w : Int), H' p = some (.tup [.int v, .int w]) → QF v w (tf x y z u) (bf x y z u) → Same H H' → Q (.ref p) H') : spBin CN ok tf bf [.ref p1, .ref p2] H Q E := by
  refine ⟨_, _, _, _, rfl, rp_q h1, rp_q h2, fun e => ?_, fun _ e => ?_, fun a b c d e1 e2 _ _ => ?_⟩
  · rw [q1] at e; cases e
  · rw [low_of q2.pos q2.low] at e; cases e
  · cases e1
    cases e2
    exact ⟨fun e => (by rw [hok] at e; cases e), fun _ => ⟨sx, sy, sm60 q2.bx, sm60 q2.bY, k⟩⟩
theorem st_ofB {n : Nat} {H : Hp} {p : Addr} {v w a b : Int} {Q : VK} {E : XK} (e : H p = some (.tup [.int v, .int w])) (q : Qv n v w a b) (hn : n ≤ 14) (ha : Bn n a) (hb : Bn n b)
    (k : ∀ H', Same H H' → Q (.bl true) H') : spStands [.ref p, .int a, .int b] H Q E :=
  ⟨p, v, w, a, b, rfl, e, q.mul, q.pos, q.low, bd9 (q.bv.sm hn), bd9 (q.bw.sm hn), bd9 (ha.sm hn), bd9 (hb.sm hn), k⟩
theorem Qv.dl {k : Nat} {v w a b : Int} (q : Qv k v w a b) : dLow 2 (.tuple [.int v, .int w]) = true := low_of q.pos q.low
theorem qv_one : Qv 0 1 1 1 1 := ⟨by decide, by decide, by decide, by unfold Bn; decide, by unfold Bn; decide⟩
theorem qv_nought : Qv 0 0 1 0 1 := ⟨by decide, by decide, by decide, by unfold Bn; decide, by unfold Bn; decide⟩
/-- the row as it grows -/
def Ro0 (t l d : Addr) (H0 : Hp) : Nat → L2.St → Hp → Prop := fun i σ' H' => ∃ (u : Option V) (vs : List V) (ns : List (Int × Int)), σ' = [some (.ref t), some (.ref d), u, none, none, none, none, none, none, none, none] ∧ H' d = some (.lst vs) ∧ vs.length = i ∧ PrA H' vs ns ∧ Tq t l H' ∧ Sam H0 H'
/-- sums and products -/
structure Su1 (d pa pm : Addr) (vs : List V) (ns : List (Int × Int)) (i : Nat) (T B R : Int) (H : Hp) : Prop where
  ed : H d = some (.lst vs)
  pr : PrA H vs ns
  et : tbL (ns.take i) = (T, B)
  ep : prL (ns.take i) = R
  qa : ∃ a1 a2, H pa = some (.tup [.int a1, .int a2]) ∧ Qv i a1 a2 T B
  qm : ∃ a1 a2, H pm = some (.tup [.int a1, .int a2]) ∧ Qv i a1 a2 R B
  bT : Bn i T
  bB : Bn i B
  bR : Bn i R
  pB : 1 ≤ B
  nz : R ≠ 0 → ∀ n ∈ ns.take i, n.1 ≠ 0
def Ro1 (t l d : Addr) (vs : List V) (ns : List (Int × Int)) (H1 : Hp) : Nat → L2.St → Hp → Prop := fun i σ' H' => ∃ (u u2 : Option V) (pa pm : Addr) (T B R : Int), σ' = [some (.ref t), some (.ref d), u, some (.ref pa), some (.ref pm), some (.int T), some (.int B), some (.int R), u2, none, none] ∧ Su1 d pa pm vs ns i T B R H' ∧ Same H1 H'
/-- taken off again -/
structure Su2 (d pa pm : Addr) (vs : List V) (ns : List (Int × Int)) (n j : Nat) (T B R L : Int) (H : Hp) : Prop where
  ed : H d = some (.lst vs)
  pr : PrA H vs ns
  rel : T * (tbL (ns.take (n - j))).2 = (tbL (ns.take (n - j))).1 * B
  qa : ∃ a1 a2, H pa = some (.tup [.int a1, .int a2]) ∧ Qv (n + j) a1 a2 T B
  qm : ∃ a1 a2, H pm = some (.tup [.int a1, .int a2]) ∧ Qv n a1 a2 R L
  bT : Bn (n + j) T
  bB : Bn (n + j) B
  bR : Bn n R
  bL : Bn n L
  pL : 1 ≤ L
  nz : R ≠ 0 → ∀ n ∈ ns, n.1 ≠ 0
  pB : 1 ≤ B
def Ro2 (t l d pm : Addr) (vs : List V) (ns : List (Int × Int)) (R L : Int) (H1 : Hp) : Nat → L2.St → Hp → Prop := fun j σ' H' => ∃ (u u2 : Option V) (pa : Addr) (T B : Int), σ' = [some (.ref t), some (.ref d), u, some (.ref pa), some (.ref pm), some (.int T), some (.int B), some (.int R), u2, some (.int L), none] ∧ Su2 d pa pm vs ns vs.length j T B R L H' ∧ Same H1 H'
/-- divided again -/
structure Su3 (d pa pm : Addr) (vs : List V) (ns : List (Int × Int)) (n j : Nat) (R L U : Int) (H : Hp) : Prop where
  ed : H d = some (.lst vs)
  pr : PrA H vs ns
  qa : ∃ a1 a2, H pa = some (.tup [.int a1, .int a2]) ∧ Qv (n + n) a1 a2 0 1
  qm : ∃ a1 a2, H pm = some (.tup [.int a1, .int a2]) ∧ (R ≠ 0 → Qv (n + j) a1 a2 R (L * U))
  bR : Bn (n + j) R
  bL : Bn n L
  bU : Bn j U
  nz : R ≠ 0 → ∀ n ∈ ns, n.1 ≠ 0
def Ro3 (t l d pa : Addr) (vs : List V) (ns : List (Int × Int)) (L : Int) (H1 : Hp) : Nat → L2.St → Hp → Prop := fun j σ' H' => ∃ (u u2 u5 u6 : Option V) (pm : Addr) (R U : Int), σ' = [some (.ref t), some (.ref d), u, some (.ref pa), some (.ref pm), u5, u6, some (.int R), u2, some (.int L), some (.int U)] ∧ Su3 d pa pm vs ns vs.length j R L U H' ∧ Same H1 H'
theorem Bn.lu {n j : Nat} {L U : Int} (a : Bn n L) (b : Bn j U) : Bn (n + j) (L * U) := by
  unfold Bn at *
  rw [Int.natAbs_mul, Nat.pow_add]
  exact Nat.mul_le_mul a b
theorem pos_mul {a b : Int} (ha : 1 ≤ a) (hb : 1 ≤ b) : 1 ≤ a * b := by
  have := Int.mul_pos (show 0 < a by omega) (show 0 < b by omega)
  omega
def spRow : Sp := fun vs H Q _ => ∃ t l : Addr, vs = [.ref t] ∧ Tq t l H ∧ ∀ H', Tq t l H' → Sam H H' → Q (.bl true) H'
section
variable {P : Program} {w : World} {K : PySem.W.Frag} {mg : Str → Option Value} {base : Heap}
set_option pp.maxSteps 3000
abbrev sRowL : Stmt := topS 49
theorem scRowL : FnScope ["tape", "row", "turn", "added", "made", "top", "bottom", "product", "x", "below", "under"] ["tape"] (defScope sRowL) := ⟨rfl, rfl, rfl, by decide +kernel, rfl, by decide +kernel, by decide +kernel⟩
theorem okRowL {f : Addr} {fd : FuncData} (F : Fun K "_law_row" "_law_row" sRowL f fd) (T : Tx mg) {CN : Addr} (DDrawL : Dn P w K mg base CX0 "_law_draw" 1 ["tape", "many"] spDw) (DLowestL : Dn P w K mg base CX0 "_law_lowest" 2 ["top", "bottom"] spLowest) (DStandsL : Dn P w K mg base CX0 "_law_stands" 3 ["got", "top", "bottom"] spStands) (DPlus : Dn P w K mg base (L2N.CX P w) "plus" 5 ["one", "other"] (spBin CN (fun _ => true) (fun a b c d => a * d + c * b) (fun a b c d => b * d))) (DMinus : Dn P w K mg base (L2N.CX P w) "minus" 5 ["one", "other"] (spBin CN (fun _ => true) (fun a b c d => a * d - c * b) (fun a b c d => b * d))) (DTimes : Dn P w K mg base (L2N.CX P w) "times" 5 ["one", "other"] (spBin CN (fun _ => true) (fun a b c d => a * c) (fun a b c d => b * d))) (DOver : Dn P w K mg base (L2N.CX P w) "over" 5 ["one", "other"] (spBin CN (fun c => !decide (c = 0)) (fun a b c d => a * d) (fun a b c d => b * c)))  : FnOk P w K mg base CX0 7 f fd ["tape"] spRow := by
  refine F.ok scRowL (fun vs H Q E h => ?_) (fun cdv A outer s H vs Q E hr h => ?_)
  · obtain ⟨t, l, rfl, _⟩ := h
    rfl
  · obtain ⟨t, l, rfl, Tt, kk⟩ := h
    refine ⟨_, (pss_cons (ps_set (i := 1) scRowL.nd rfl (Or.inl rfl) (pe_lst pa_nil))
    (C8.pss_cut (ps_for PassesOwn.never rfl (pi_range1 rfl T.n_range (pa_cons (pe_dn DDrawL (hr.mono (by omega)) (pa_cons (pv 0) (pa_cons pe_int pa_nil))) pa_nil)) (pg_name (i := 2) scRowL.nd rfl (Or.inl rfl))
    (pss_one (ps_expr (pe_bm PySem.F.plainAttrs_list PySem.F.slot_list_append PySem.F.type_list_append mt_append (pv 1) (pa_cons (pe_dn DLowestL (hr.mono (by omega)) (pa_cons (pe_op op_sub (pe_dn DDrawL (hr.mono (by omega)) (pa_cons (pv 0) (pa_cons pe_int pa_nil))) pe_int) (pa_cons (pe_op op_add pe_int (pe_dn DDrawL (hr.mono (by omega)) (pa_cons (pv 0) (pa_cons pe_int pa_nil)))) pa_nil))) pa_nil)))))
    (pss_cons (ps_set (i := 3) scRowL.nd rfl (Or.inl rfl) (pe_tup (pa_cons pe_int (pa_cons pe_int pa_nil))))
    (pss_cons (ps_set (i := 4) scRowL.nd rfl (Or.inl rfl) (pe_tup (pa_cons pe_int (pa_cons pe_int pa_nil))))
    (pss_cons (ps_set (i := 5) scRowL.nd rfl (Or.inl rfl) pe_int)
    (pss_cons (ps_set (i := 6) scRowL.nd rfl (Or.inl rfl) pe_int)
    (pss_cons (ps_set (i := 7) scRowL.nd rfl (Or.inl rfl) pe_int)
    (C8.pss_cut (ps_for PassesOwn.never rfl (pi_list (pv 1)) (pg_name (i := 8) scRowL.nd rfl (Or.inl rfl))
    (pss_cons (ps_set (i := 3) scRowL.nd rfl (Or.inl rfl) (pe_dn0 DPlus (hr.mono (by omega)) (pa_cons (pv 3) (pa_cons (pv 8) pa_nil))))
      (pss_cons (ps_set (i := 4) scRowL.nd rfl (Or.inl rfl) (pe_dn0 DTimes (hr.mono (by omega)) (pa_cons (pv 4) (pa_cons (pv 8) pa_nil))))
      (pss_cons (ps_set (i := 5) scRowL.nd rfl (Or.inl rfl) (pe_op op_add (pe_op op_mulW (pv 5) (pe_ix ix_tup (pv 8) pe_int (fun _ _ => rfl))) (pe_op op_mulW (pe_ix ix_tup (pv 8) pe_int (fun _ _ => rfl)) (pv 6))))
      (pss_cons (ps_set (i := 6) scRowL.nd rfl (Or.inl rfl) (pe_op op_mulW (pv 6) (pe_ix ix_tup (pv 8) pe_int (fun _ _ => rfl))))
      (pss_cons (ps_set (i := 7) scRowL.nd rfl (Or.inl rfl) (pe_op op_mulW (pv 7) (pe_ix ix_tup (pv 8) pe_int (fun _ _ => rfl))))
      (pss_one (ps_if (PW.pt (pw_or (pt_not (pt_val (pe_dn DStandsL (hr.mono (by omega)) (pa_cons (pv 3) (pa_cons (pv 5) (pa_cons (pv 6) pa_nil)))))) (pw_or1 (pt_not (pt_val (pe_dn DStandsL (hr.mono (by omega)) (pa_cons (pv 4) (pa_cons (pv 7) (pa_cons (pv 6) pa_nil)))))))))
      (pss_one (ps_ret pe_bl))
      pss_nil))))))))
    (pss_cons (ps_set (i := 9) scRowL.nd rfl (Or.inl rfl) (pv 6))
    (C8.pss_cut (ps_for PassesOwn.never rfl (RT.pi_revA rfl T.n_reversed (pv 1)) (pg_name (i := 8) scRowL.nd rfl (Or.inl rfl))
    (pss_cons (ps_set (i := 3) scRowL.nd rfl (Or.inl rfl) (pe_dn0 DMinus (hr.mono (by omega)) (pa_cons (pv 3) (pa_cons (pv 8) pa_nil))))
      (pss_cons (ps_set (i := 5) scRowL.nd rfl (Or.inl rfl) (pe_op op_sub (pe_op op_mulW (pv 5) (pe_ix ix_tup (pv 8) pe_int (fun _ _ => rfl))) (pe_op op_mulW (pe_ix ix_tup (pv 8) pe_int (fun _ _ => rfl)) (pv 6))))
      (pss_cons (ps_set (i := 6) scRowL.nd rfl (Or.inl rfl) (pe_op op_mulW (pv 6) (pe_ix ix_tup (pv 8) pe_int (fun _ _ => rfl))))
      (pss_one (ps_if (pt_not (pt_val (pe_dn DStandsL (hr.mono (by omega)) (pa_cons (pv 3) (pa_cons (pv 5) (pa_cons (pv 6) pa_nil))))))
      (pss_one (ps_ret pe_bl))
      pss_nil))))))
    (pss_cons (ps_set (i := 10) scRowL.nd rfl (Or.inl rfl) pe_int)
    (C8.pss_cut (ps_for PassesOwn.never rfl (pi_list (pv 1)) (pg_name (i := 8) scRowL.nd rfl (Or.inl rfl))
    (pss_one (ps_if (pt_cmpR op_ne (pv 7) pe_int (nomark _))
      (pss_cons (ps_set (i := 4) scRowL.nd rfl (Or.inl rfl) (pe_dn0 DOver (hr.mono (by omega)) (pa_cons (pv 4) (pa_cons (pv 8) pa_nil))))
        (pss_cons (ps_set (i := 10) scRowL.nd rfl (Or.inl rfl) (pe_op op_mulW (pv 10) (pe_ix ix_tup (pv 8) pe_int (fun _ _ => rfl))))
        (pss_cons (ps_set (i := 7) scRowL.nd rfl (Or.inl rfl) (pe_op op_mulW (pv 7) (pe_ix ix_tup (pv 8) pe_int (fun _ _ => rfl))))
        (pss_one (ps_if (pt_not (pt_val (pe_dn DStandsL (hr.mono (by omega)) (pa_cons (pv 4) (pa_cons (pv 7) (pa_cons (pe_op op_mulW (pv 9) (pv 10)) pa_nil))))))
        (pss_one (ps_ret pe_bl))
        pss_nil)))))
      pss_nil)))
    (pss_one (ps_ret (pe_dn DStandsL (hr.mono (by omega)) (pa_cons (pv 3) (pa_cons pe_int (pa_cons pe_int pa_nil)))))))))))))))))), ?_⟩
    have st0 : L2.start ["tape", "row", "turn", "added", "made", "top", "bottom", "product", "x", "below", "under"] [V.ref t] = [some (V.ref t), none, none, none, none, none, none, none, none, none, none] := rfl
    rw [st0]
    walk_at "rds"
    rename_i d hd J hJ ed sd0
    have nd := Tt.ne hd
    have Td : Tq t l J := Tt.to sd0
    have sd : Sam H J := Sam.of sd0
    clear hJ sd0
    refine cut_at (fun σ' H' => ∃ n, n ≤ 6 ∧ Ro0 t l d H n σ' H') ?_ ?_
    · walk_at "rds"
      refine ⟨t, l, 7, rfl, Td, by decide, by decide, fun v1 H1 a1 b1 T1 s1 => ?_⟩
      have ed1 : H1 d = some (.lst []) := s1 _ _ (nt_ints (ns := [])) ed
      walk_at "rds"
      refine ⟨by omega, by omega, ?_⟩
      refine for_range (lo := 0) (n := v1.toNat) (Ro0 t l d H) ⟨_, [], [], rfl, ed1, rfl, .nil, T1, sd.trans s1⟩ ?_ ?_
      · rintro i σ' H2 hi ⟨u, vs, ns, rfl, e2, l2, p2, T2, s2⟩
        have nv := p2.nt
        walk_at "rds"
        refine ⟨.inl ⟨rfl, _, SqL.of e2⟩, ?_⟩
        walk_at "rds"
        refine ⟨t, l, 100, rfl, T2, by decide, by decide, fun v3 H3 a3 b3 T3 s3 => ?_⟩
        walk_at "rds"
        refine ⟨t, l, 60, rfl, T3, by decide, by decide, fun v4 H4 a4 b4 T4 s4 => ?_⟩
        walk_at "rds"
        refine ⟨_, _, rfl, bd8 (bd3 (by omega) (by omega)), bd8 (bd3 (by omega) (by omega)), by omega, fun p5 H5 x y e5 q5 t5 => ?_⟩
        have eL : H5 d = some (.lst vs) := t5 _ _ (s4 _ _ nv (s3 _ _ nv e2))
        have p5' : PrA H5 vs ns := ((p2.sam s3).sam s4).sam (Sam.of t5)
        have qs : Qs x y := ⟨q5.pos, q5.low, by have := q5.le1; omega, by have := q5.le2; omega⟩
        walk_at "rds"
        refine Rd.app eL (by rw [sizeLine_eq]; omega) ?_
        walk_at "rds"
        exact ⟨_, vs ++ [.ref p5], ns ++ [(x, y)], rfl, upd_same, by rw [List.length_append, l2]; rfl, (p5'.app e5 qs).put eL, (T4.to t5).put nd, sam_put hd (((s2.trans s3).trans s4).trans (Sam.of t5))⟩
      · rintro σ' H2 hR
        walk_at "rds"
        exact ⟨_, by omega, hR⟩
    clear ed Td sd
    rintro _ H1 ⟨n, hn, u0, vs, ns, rfl, ed1, lv, p1, T1, s1⟩
    subst lv
    have ln := p1.len
    walk_at "rds"
    rename_i pa na J1 g1 ea1 t1 pm nm J2 g2 em2 t2
    have ed2 : J2 d = some (.lst vs) := t2 _ _ (t1 _ _ ed1)
    have p2 : PrA J2 vs ns := (p1.sam (Sam.of t1)).sam (Sam.of t2)
    have ea2 := t2 _ _ ea1
    have T2 := (T1.to t1).to t2
    have s2 : Sam H J2 := (s1.trans (Sam.of t1)).trans (Sam.of t2)
    clear g1 g2 ed1 p1 ea1 T1 s1 t1 t2 na nm
    refine cut_at (fun σ' H' => Ro1 t l d vs ns J2 vs.length σ' H') ?_ ?_
    · walk_at "rds"
      refine ⟨⟨_, SqL.of ed2⟩, for_list (K := K) (a := d) (xs := vs) (Ro1 t l d vs ns J2) ⟨_, _, _, _, _, _, _, rfl, ⟨ed2, p2, rfl, rfl, ⟨_, _, ea2, qv_nought⟩, ⟨_, _, em2, qv_one⟩, by unfold Bn; decide, by unfold Bn; decide, by unfold Bn; decide, by decide, fun _ n hn => by simp at hn⟩, Same.refl _⟩ (fun i σ' H' _ ⟨_, _, _, _, _, _, _, _, S, _⟩ => SqL.of S.ed) ?_ (fun σ' H' h => h)⟩
      rintro i v σ' H3 hv ⟨u, u2, pa, pm, T, B, R, rfl, S, s3⟩
      obtain ⟨p, x, y, rfl, hx, ep, qs⟩ := S.pr.at hv
      obtain ⟨a1, a2, ea, qa⟩ := S.qa
      obtain ⟨m1, m2, em, qm⟩ := S.qm
      have hi : i < 6 := by
        have := (List.getElem?_eq_some_iff.mp hv).1
        omega
      have wT : CMulW T y := sm_mul (S.bT.S (by omega)) (sm60 qs.bY)
      have wB : CMulW x B := sm_mul (sm60 qs.bx) (S.bB.S (by omega))
      have wC : CMulW B y := sm_mul (S.bB.S (by omega)) (sm60 qs.bY)
      have wR : CMulW R x := sm_mul (S.bR.S (by omega)) (sm60 qs.bx)
      walk_at "rds"
      refine bin_ofB ea ep qa.dl qs (qa.bv.S (by omega)) (qa.bw.S (by omega)) (by rfl) fun pn H4 v4 w4 e4 f4 t4 => ?_
      have ep := t4 _ _ ep
      have em := t4 _ _ em
      walk_at "rds"
      refine bin_ofB em ep qm.dl qs (qm.bv.S (by omega)) (qm.bw.S (by omega)) (by rfl) fun pk H5 v5 w5 e5 f5 t5 => ?_
      have ep := t5 _ _ ep
      have e4 := t5 _ _ e4
      have q4 := qv_plus qa qs f4
      have q5 := qv_times qm qs f5
      have b1 := S.bT.add S.bB qs.bx qs.bY
      have b2 := S.bB.mul qs.bY
      have b3 := S.bR.mul qs.bx
      walk_at "rds"
      refine st_ofB e4 q4 (by omega) b1 b2 fun H6 t6 => ?_
      have e4 := t6 _ _ e4
      have e5 := t6 _ _ e5
      walk_at "rds"
      refine st_ofB e5 q5 (by omega) b3 b2 fun H7 t7 => ?_
      have sH : Same H3 H7 := ((t4.trans t5).trans t6).trans t7
      walk_at "rds"
      refine ⟨_, _, _, _, _, _, _, rfl, ⟨sH _ _ S.ed, S.pr.sam (Sam.of sH), by rw [tb_take hx, S.et], by rw [pr_take hx, S.ep], ⟨_, _, t7 _ _ e4, q4⟩, ⟨_, _, t7 _ _ e5, q5⟩, b1, b2, b3, ?_, ?_⟩, s3.trans sH⟩
      · exact pos_mul S.pB qs.pos
      · intro hne n hn
        rw [List.take_succ, hx] at hn
        rcases List.mem_append.mp hn with h | h
        · exact S.nz (fun z => hne (by rw [z, Int.zero_mul])) n h
        · have : n = (x, y) := by simpa using h
          rw [this]
          exact fun z => hne (by rw [show x = 0 from z, Int.mul_zero])
    clear ed2 p2 ea2 em2
    rintro _ H2 ⟨u, u2, pa, pm, T, B, R, rfl, S, s3⟩
    have T3 := T2.to s3
    have s4 : Sam H H2 := s2.trans (Sam.of s3)
    have et := S.et
    have nz := S.nz
    rw [ln, List.take_length] at et nz
    walk_at "rds"
    refine cut_at (fun σ' H' => Ro2 t l d pm vs ns R B H2 vs.length σ' H') ?_ ?_
    · walk_at "rds"
      refine ⟨_, rfl, d, vs, rfl, .inl ⟨SqL.of S.ed, RT.for_Itv (Ro2 t l d pm vs ns R B H2) ⟨_, _, _, _, _, rfl, ⟨S.ed, S.pr, ?_, S.qa, S.qm, S.bT, S.bB, S.bR, S.bB, S.pB, nz, S.pB⟩, Same.refl _⟩ (fun i σ' H' ⟨_, _, _, _, _, _, S', _⟩ => SqL.of S'.ed) ?_ (fun σ' H' h => h)⟩⟩
      · rw [Nat.sub_zero, ln, List.take_length, et]
      rintro j v σ' H3 hj hv ⟨u, u2, pa, T', B', rfl, S', s5⟩
      obtain ⟨p, x, y, rfl, hx, ep, qs⟩ := S'.pr.at hv
      obtain ⟨a1, a2, ea, qa⟩ := S'.qa
      have wT : CMulW T' y := sm_mul (S'.bT.S (by omega)) (sm60 qs.bY)
      have wB : CMulW x B' := sm_mul (sm60 qs.bx) (S'.bB.S (by omega))
      have wC : CMulW B' y := sm_mul (S'.bB.S (by omega)) (sm60 qs.bY)
      walk_at "rds"
      refine bin_ofB ea ep qa.dl qs (qa.bv.S (by omega)) (qa.bw.S (by omega)) (by rfl) fun pn H4 v4 w4 e4 f4 t4 => ?_
      have ep := t4 _ _ ep
      have q4 := qv_minus qa qs f4
      have b1 := S'.bT.sub S'.bB qs.bx qs.bY
      have b2 := S'.bB.mul qs.bY
      walk_at "rds"
      refine st_ofB e4 q4 (by omega) b1 b2 fun H5 t5 => ?_
      have sH : Same H3 H5 := t4.trans t5
      obtain ⟨m1, m2, em, qm⟩ := S'.qm
      have re := S'.rel
      rw [show vs.length - j = vs.length - 1 - j + 1 by omega, tb_take hx] at re
      walk_at "rds"
      exact ⟨_, _, _, _, _, rfl, ⟨sH _ _ S'.ed, S'.pr.sam (Sam.of sH), by rw [show vs.length - (j + 1) = vs.length - 1 - j by omega]; exact rev_step re, ⟨_, _, t5 _ _ e4, q4⟩, ⟨_, _, sH _ _ em, qm⟩, b1, b2, S'.bR, S'.bL, S'.pL, S'.nz, pos_mul S'.pB qs.pos⟩, s5.trans sH⟩
    clear et nz S
    rintro _ H3 ⟨u, u2, pa, T', B', rfl, S, s5⟩
    have T4 := T3.to s5
    have s6 : Sam H H3 := s4.trans (Sam.of s5)
    obtain ⟨a1, a2, ea, qa⟩ := S.qa
    obtain ⟨m1, m2, em, qm⟩ := S.qm
    have z1 : T' = 0 := by
      have := S.rel
      rw [Nat.sub_self, List.take_zero] at this
      have e : tbL [] = (0, 1) := rfl
      rw [e] at this
      simpa using this
    have qz : Qv (vs.length + vs.length) a1 a2 0 1 := by
      refine ⟨?_, qa.pos, qa.low, qa.bv, qa.bw⟩
      have h := qa.mul
      rw [z1, Int.zero_mul] at h
      rcases Int.mul_eq_zero.mp h with h | h
      · rw [h]; simp
      · have := S.pB
        omega
    walk_at "rds"
    refine cut_at (fun σ' H' => Ro3 t l d pa vs ns B H3 vs.length σ' H') ?_ ?_
    · walk_at "rds"
      refine ⟨⟨_, SqL.of S.ed⟩, for_list (K := K) (a := d) (xs := vs) (Ro3 t l d pa vs ns B H3) ⟨_, _, _, _, _, _, _, rfl, ⟨S.ed, S.pr, ⟨_, _, ea, qz⟩, ⟨_, _, em, fun _ => by rw [Int.mul_one]; exact qm⟩, S.bR, S.bL, by unfold Bn; decide, S.nz⟩, Same.refl _⟩ (fun i σ' H' _ ⟨_, _, _, _, _, _, _, _, S', _⟩ => SqL.of S'.ed) ?_ (fun σ' H' h => h)⟩
      rintro i v σ' H4 hv ⟨u, u2, u5, u6, pm, R', U, rfl, S', s7⟩
      obtain ⟨p, x, y, rfl, hx, ep, qs⟩ := S'.pr.at hv
      obtain ⟨k1, k2, ek, qk⟩ := S'.qm
      obtain ⟨j1, j2, ej, qj⟩ := S'.qa
      have hi := (List.getElem?_eq_some_iff.mp hv).1
      have wU : CMulW U x := sm_mul (S'.bU.S (by omega)) (sm60 qs.bx)
      have wR : CMulW R' y := sm_mul (S'.bR.S (by omega)) (sm60 qs.bY)
      have b1 := S'.bU.mul qs.bx
      have wL : CMulW B (U * x) := sm_mul (S'.bL.S (by omega)) (b1.S (by omega))
      have b2 := S'.bR.mul qs.bY
      have b3 : Bn (vs.length + (i + 1)) (B * (U * x)) := S'.bL.lu b1
      walk_at "rds"
      refine Rd.ifB (fun h => ?_) fun h => ?_
      · have hR : R' ≠ 0 := fun z => by rw [z] at h; simp at h
        have hx0 : x ≠ 0 := S'.nz hR (x, y) (List.mem_of_getElem? hx)
        have qk := qk hR
        walk_at "rds"
        refine bin_ofB ek ep qk.dl qs (qk.bv.S (by omega)) (qk.bw.S (by omega)) (by simpa using hx0) fun pn H5 v5 w5 e5 f5 t5 => ?_
        have ep := t5 _ _ ep
        have q5 := qv_over qk qs f5
        rw [Int.mul_assoc] at q5
        walk_at "rds"
        refine st_ofB e5 q5 (by omega) b2 b3 fun H6 t6 => ?_
        have sH : Same H4 H6 := t5.trans t6
        walk_at "rds"
        exact ⟨_, _, _, _, _, _, _, rfl, ⟨sH _ _ S'.ed, S'.pr.sam (Sam.of sH), ⟨_, _, sH _ _ ej, qj⟩, ⟨_, _, t6 _ _ e5, fun _ => q5⟩, b2, S'.bL, b1, fun z => S'.nz hR⟩, s7.trans sH⟩
      · walk_at "rds"
        have hR : R' = 0 := by
          simpa using h
        exact ⟨_, _, _, _, _, _, _, rfl, ⟨S'.ed, S'.pr, S'.qa, ⟨_, _, ek, fun z => absurd hR z⟩, S'.bR.le (by omega), S'.bL, S'.bU.le (by omega), S'.nz⟩, s7⟩
    clear ea em qa qm qz
    rintro _ H4 ⟨u, u2, u5, u6, pm, R', U, rfl, S', s7⟩
    obtain ⟨a1, a2, ea, qa⟩ := S'.qa
    walk_at "rds"
    refine st_ofB ea qa (by omega) (by unfold Bn; simp) (by unfold Bn; exact Nat.pos_of_ne_zero (by simp)) fun H5 t5 => ?_
    walk_at "rds"
    exact kk _ ((T4.to s7).to t5) ((s6.trans (Sam.of s7)).trans (Sam.of t5))
end
end K15
end SecQ18
section SecQ19
set_option Elab.async false
set_option linter.all false
set_option maxRecDepth 100000
set_option maxHeartbeats 4000000
set_option pp.deepTerms false
local macro_rules | `(tactic| walk_at "tq") => `(tactic| first | assumption | (refine' Dt.Tq.to ?s0 ?h0; (case h0 => assumption); (case s0 => walk_at "same")))
local macro_rules | `(tactic| walk_at "same") => `(tactic| first | exact L2.Same.refl _ | assumption | (refine' L2.Same.trans ?s1 ?s2; (case s2 => assumption); (case s1 => walk_at "same")))
local macro_rules | `(tactic| walk_at "sam") => `(tactic| first | exact Dt.Sam.refl | assumption | exact Dt.Sam.of (by assumption) | (refine' Dt.Sam.trans ?s1 ?s2; (case s2 => first | assumption | exact Dt.Sam.of (by assumption)); (case s1 => walk_at "sam")))
local macro_rules | `(tactic| walk_at "tape") => `(tactic| first | assumption | (refine' Dt.Tape.mono ?h0 ?s0; (case h0 => assumption); (case s0 => walk_at "same")))
local macro_rules | `(tactic| walk_at "nt") => `(tactic| first | exact Dt.nt_tup | exact Dt.nt_ints | assumption | (intro a0 b0 c0 l0 z0; cases z0) | (intro a0 b0 c0 l0 z0; simp at z0))
local macro_rules | `(tactic| walk_at "heap") => `(tactic| first | assumption | exact L2.upd_same | (refine' Rd.at_to ?s0 ?h0; (case h0 => assumption); (case s0 => walk_at "same")) | (refine' Dt.at_sam ?n0 ?s0 ?h0; (case h0 => assumption); (case n0 => walk_at "nt"); (case s0 => walk_at "sam")))
local macro_rules | `(tactic| walk_at "rp") => `(tactic| first | exact Dt.Rp.int _ | exact Dt.Rp.bl _ | exact Dt.Rp.str _ | exact Dt.Rp.non | assumption | (refine' Dt.Rp.sm ?s0 ?h0; (case h0 => assumption); (case s0 => walk_at "sam")) | (refine' Dt.Rp.tup ?h1 ?h2 ?h3; (case h1 => walk_at "heap"); (case h2 => walk_at "rps"); (case h3 => first | assumption | (show _ ≤ 1000; decide) | (show _ ≤ 1000; simp) | (show _ ≤ 1000; omega))) | (refine' Dt.Rp.lst ?h1 ?h2 ?h3 ?h4; (case h1 => walk_at "heap"); (case h2 => walk_at "rps"); (case h3 => first | assumption | (show _ ≤ 1000; decide) | (show _ ≤ 1000; simp) | (show _ ≤ 1000; omega)); (case h4 => walk_at "nt")))
local macro_rules | `(tactic| walk_at "rps") => `(tactic| first | exact Dt.RpAll.nil | assumption | (refine' Dt.RpAll.cons ?h1 ?h2; (case h1 => walk_at "rp"); (case h2 => walk_at "rps")) | (refine' Dt.RpAll.sm ?s0 ?h0; (case h0 => assumption); (case s0 => walk_at "sam")))
local macro_rules | `(tactic| walk_at "rd") => `(tactic| first
  | with_reducible refine Rd.seq ?_ | with_reducible refine Rd.asg ?_ | with_reducible refine Rd.nm ?_ | with_reducible refine Rd.sub ?_ | with_reducible refine Rd.ret ?_ | with_reducible refine Rd.retN ?_
  | with_reducible refine Rd.drop ?_ | with_reducible refine Rd.ifs ?_ | with_reducible refine Rd.next ?_ | with_reducible refine Rd.cst ?_ | with_reducible refine Rd.op ?_ | with_reducible refine Rd.un ?_
  | with_reducible refine Rd.test ?_ | with_reducible refine Rd.tb' ?_ | with_reducible refine Rd.exb ?_ | with_reducible refine Rd.exi ?_ | with_reducible refine Rd.and2 ?_ | with_reducible refine Rd.or2 ?_ | with_reducible refine Rd.not1 ?_
  | with_reducible refine Rd.andV ?_ | with_reducible refine Rd.orV ?_ | with_reducible refine Rd.notV ?_ | with_reducible refine Rd.nil ?_ | with_reducible refine Rd.cons ?_ | with_reducible refine Rd.cb ?_
  | with_reducible refine Rd.i0 ?_ | with_reducible refine Rd.u1 ?_ | with_reducible refine Rd.call ?_ | with_reducible refine Rd.tup ?_ | with_reducible refine Rd.lst ?_ | with_reducible refine Rd.sl ?_ | with_reducible refine Rd.no ?_ | with_reducible refine Rd.part ?_ | with_reducible refine Rd.at_ ?_ | with_reducible refine Rd.yes ?_ | with_reducible refine Rd.fors ?_ | with_reducible refine Rd.m1 ?_ | with_reducible refine Rd.exs ?_ | with_reducible refine Rd.lc ?_ | with_reducible refine Rd.rng ?_
  | with_reducible refine Rd.mkv ?_ | with_reducible refine Rd.mko ?_ | with_reducible refine Rd.callB ?_ | with_reducible refine Rd.callS ?_ | with_reducible refine Rd.bm ?_ | with_reducible refine Rd.itl ?_ | with_reducible refine Rd.itt ?_
  | ((with_reducible refine' And.intro ?hl ?_); (case hl => ((with_reducible show List.length _ ≤ PySem.sizeLine); (show _ ≤ PySem.sizeLine); rw [PySem.sizeLine_eq]; simp)))
  | (intro p0 n0; generalize hK0 : L2.upd _ p0 _ = K0; obtain ⟨e0, t0⟩ := Dt.newK hK0 n0)
  | ((with_reducible refine' Rd.lenKL ?he ?_); (case he => walk_at "heap")) | ((with_reducible refine' Rd.lenKT ?he ?_); (case he => walk_at "heap"))
  | ((with_reducible refine' Rd.var ?hv ?_); (case hv => exact rfl))
  | ((with_reducible refine' Rd.ifT ?hv ?_); (case hv => first | exact rfl | assumption)) | ((with_reducible refine' Rd.ifF ?hv ?_); (case hv => first | exact rfl | assumption))
  | ((with_reducible refine' Rd.eq ?hv ?_); (case hv => exact rfl))
  | ((with_reducible refine' Rd.ne ?hv ?_); (case hv => exact rfl))
  | ((with_reducible refine' Dt.isi_int ?hr ?_); (case hr => walk_at "rp")) | ((with_reducible refine' Dt.isi_bool ?hr ?_); (case hr => walk_at "rp")) | ((with_reducible refine' Dt.isi_tuple ?hr ?_); (case hr => walk_at "rp")) | ((with_reducible refine' Dt.isi_str ?hr ?_); (case hr => walk_at "rp")) | ((with_reducible refine' Dt.isi_list ?hr ?_); (case hr => walk_at "rp"))
  | with_reducible refine ⟨rfl, ?_⟩ | with_reducible refine Or.inl ⟨_, rfl, ?_⟩ | with_reducible refine Or.inr ⟨_, rfl, ?_⟩ | with_reducible refine ⟨_, rfl, ?_⟩
  | ((with_reducible refine' Rd.ex2 ⟨rfl, ?hl, ?_⟩); (case hl => first | exact Or.inl ⟨_, L2.SqL.of (by walk_at "heap"), rfl⟩ | exact Or.inr ⟨_, L2.SqT.of (by walk_at "heap"), rfl⟩))
  | ((with_reducible refine' Rd.i1 ?hv ?_); (case hv => first | exact ⟨by decide, by decide, by decide⟩ | exact Or.inr ⟨by decide, by decide⟩ | exact Or.inl ⟨by decide, by decide⟩ | exact ⟨by decide, by decide⟩ | decide | assumption | (show _ ≠ _; omega) | (refine ⟨?_, ?_⟩ <;> omega) | (refine Or.inl ⟨?_, ?_⟩ <;> omega)))
  | ((with_reducible refine' Rd.ixL ?he ?hx ?_); (case he => walk_at "heap"); (case hx => rfl))
  | ((with_reducible refine' Rd.ixT ?he ?hx ?_); (case he => walk_at "heap"); (case hx => rfl))
  | ((with_reducible refine' Rd.setL ?he ?hx ?_); (case he => first | assumption | exact L2.upd_same); (case hx => rfl)))
local macro_rules | `(tactic| walk_at "rd") => `(tactic| first | with_reducible refine Rd.isT ?_ | with_reducible refine Rd.isnT ?_)
local macro_rules | `(tactic| walk_at "rd") => `(tactic| first | ((with_reducible refine' Rd.gtup ?he ?hl ?_); (case he => walk_at "heap"); (case hl => exact rfl)) | with_reducible refine Rd.brk ?_ | with_reducible refine Rd.callR ?_ | ((with_reducible refine' ⟨_, _, rfl, Or.inl ⟨L2.SqL.of ?hp, ?_⟩⟩); (case hp => walk_at "heap")) | ((with_reducible refine' ⟨_, _, rfl, Or.inl (L2.SqL.of ?hp), ?_⟩); (case hp => walk_at "heap")) | ((with_reducible refine' Rd.catL ?hp ?hq ?hl ?_); (case hp => walk_at "heap"); (case hq => walk_at "heap"); (case hl => (simp only [List.length_map, List.length_append, List.length_cons, List.length_nil]; omega)); (intro r0 J0 e0 t0 n0)) | with_reducible refine Rd.bits ?_ | with_reducible refine Rd.max2 ?_ | with_reducible refine Rd.gcons ?_ | with_reducible refine Rd.gnil ?_)
local macro_rules | `(tactic| walk_at "rds") => `(tactic| repeat (first | walk_at "rd" | assumption))
namespace K15
open PySem PySem.Spec PyProof.Rows L2 L2H Err Dt
theorem tup_inj {a b : List Int} (h : PyData.tuple (a.map PyData.int) = .tuple (b.map PyData.int)) : a = b := by
  injection h with h
  have := congrArg intsOf h
  rwa [intsOf_map, intsOf_map] at this
structure Pla (H : Hp) (p q q2 : Addr) (n : Int) (tops : List Int) (b : Int) (xs : List Int) (y : Int) : Prop where
  ep : H p = some (.tup [.ref q, .int b, .ref q2])
  eq : H q = some (.lst (tops.map V.int))
  er : H q2 = some (.tup ((xs ++ [y]).map V.int))
  ok : PlOk n tops b xs y
theorem Pla.sm {H H' : Hp} {p q q2 : Addr} {n : Int} {tops : List Int} {b : Int} {xs : List Int} {y : Int} (s : Sam H H') (h : Pla H p q q2 n tops b xs y) : Pla H' p q q2 n tops b xs y :=
  ⟨s _ _ nt_tup h.ep, s _ _ nt_ints h.eq, s _ _ nt_tup h.er, h.ok⟩
/-- what is told in lowest terms lies where the unreduced numbers lie -/
theorem lies_of {H : Hp} {p q : Addr} {ns tops : List Int} {c b : Int} {Q : VK} {E : XK} (ep : H p = some (.tup ((lowL (ns ++ [c])).map V.int))) (eq : H q = some (.lst (tops.map V.int))) (hl : ns.length = tops.length) (h9 : ns.length ≤ 900) (hc : 1 ≤ c)
    (he : ∀ i, i < ns.length → ns.getD i 0 * b = tops.getD i 0 * c) (h1 : ∀ x ∈ ns ++ [c], x.natAbs < 2 ^ 9000) (h2 : ∀ x ∈ tops, x.natAbs < 2 ^ 9000) (h3 : b.natAbs < 2 ^ 9000) (k : ∀ H', Same H H' → Q (.bl true) H') : spLies [.ref p, .ref q, .int b] H Q E := by
  have hm : c ∈ ns ++ [c] := by simp
  have h0 : c ≠ 0 := by omega
  have el : lowL (ns ++ [c]) = ns.map (fun n => n / gcdL (ns ++ [c])) ++ [c / gcdL (ns ++ [c])] := by unfold lowL; rw [List.map_append]; rfl
  have gl := gN_low hm h0
  have e2 := low_mul hm
  have gp : 0 < gcdL (ns ++ [c]) := by rw [gcdL_eq]; have := gN_pos hm h0; omega
  rw [el] at gl ep
  refine ⟨p, q, _, _, tops, b, rfl, ep, eq, by rw [List.length_map, hl], by rw [List.length_map]; exact h9, ?_, gl, fun i hi => ?_, fun x hx => ?_, h2, h3, k⟩
  · have : 0 < c / gcdL (ns ++ [c]) * gcdL (ns ++ [c]) := by rw [e2]; omega
    have := Int.pos_of_mul_pos_left this gp
    omega
  · rw [List.length_map] at hi
    have hn : ns[i] ∈ ns ++ [c] := List.mem_append_left _ (List.getElem_mem hi)
    have e1 := low_mul hn
    have e3 := he i hi
    have e4 : (ns.map (fun n => n / gcdL (ns ++ [c]))).getD i 0 = ns[i] / gcdL (ns ++ [c]) := by
      rw [List.getD_eq_getElem?_getD, List.getElem?_map, List.getElem?_eq_getElem hi]
      rfl
    have e5 : ns.getD i 0 = ns[i] := by
      rw [List.getD_eq_getElem?_getD, List.getElem?_eq_getElem hi]
      rfl
    rw [e4]
    rw [e5] at e3
    apply Int.eq_of_mul_eq_mul_right (show gcdL (ns ++ [c]) ≠ 0 by omega)
    generalize gcdL (ns ++ [c]) = G at *
    generalize ns[i] / G = A at *
    generalize c / G = C at *
    clear gl ep el hm hn
    grind
  · rw [← el] at hx
    unfold lowL at hx
    obtain ⟨m, hm2, rfl⟩ := List.mem_map.mp hx
    exact Nat.lt_of_le_of_lt (low_le hm h0 hm2) (h1 m hm2)
theorem low_place {n : Int} {xs : List Int} {y : Int} (h : (xs.length : Int) = n) (hy : 1 ≤ y) (hg : gN (xs ++ [y]) = 1) : dLow (n + 1) (.tuple ((xs ++ [y]).map PyData.int)) = true := by
  have z : gcdL (xs ++ [y]) = 1 := by
    rw [gcdL_eq, hg]
    rfl
  have e : lowB (intsOf ((xs ++ [y]).map PyData.int)) = true := by
    rw [intsOf_map]
    unfold lowB
    rw [show (xs ++ [y]).getLastD 0 = y by simp, decide_eq_true hy, decide_eq_true z]
    rfl
  show (dRow (n + 1) (.tuple ((xs ++ [y]).map PyData.int)) && _) = true
  rw [row_true (by rw [List.length_append, ← h]; rfl), Bool.true_and]
  exact e
theorem in6_9 {m : Int} (h : In6 m) : m.natAbs < 2 ^ 9000 := bd9 (Nat.lt_of_le_of_lt (show m.natAbs ≤ 960000 by unfold In6 at h; omega) (by decide +kernel))
/-- shorter than k bits -/
def Lt2 (k : Nat) (v : Int) : Prop := v.natAbs < 2 ^ k
theorem Lt2.mul {a b : Nat} {x y : Int} (hx : Lt2 a x) (hy : Lt2 b y) : Lt2 (a + b) (x * y) := by
  unfold Lt2 at *
  rw [Int.natAbs_mul, Nat.pow_add]
  exact Nat.mul_lt_mul'' hx hy
theorem Lt2.add {a : Nat} {x y : Int} (hx : Lt2 a x) (hy : Lt2 a y) : Lt2 (a + 1) (x + y) := by
  unfold Lt2 at *
  rw [Nat.pow_succ]
  omega
theorem Lt2.sub {a : Nat} {x y : Int} (hx : Lt2 a x) (hy : Lt2 a y) : Lt2 (a + 1) (x - y) := by
  unfold Lt2 at *
  rw [Nat.pow_succ]
  omega
theorem Lt2.le {a b : Nat} {x : Int} (hx : Lt2 a x) (h : a ≤ b) : Lt2 b x := Nat.lt_of_lt_of_le hx (Nat.pow_le_pow_right (by decide) h)
theorem Lt2.S {a : Nat} {x : Int} (hx : Lt2 a x) (h : a ≤ 2000) : Sm x := hx.le h
theorem Lt2.N {a : Nat} {x : Int} (hx : Lt2 a x) (h : a ≤ 9000) : x.natAbs < 2 ^ 9000 := hx.le h
theorem In6.l {m : Int} (h : In6 m) : Lt2 20 m := by
  unfold In6 at h
  unfold Lt2
  have : 2 ^ 20 = 1048576 := by decide
  omega
/-- the numbers on the way -/
def wayL (ps os : List Int) (p o t b : Int) : List Int := (List.range ps.length).map fun i => ps.getD i 0 * o * b + t * (os.getD i 0 * p - ps.getD i 0 * o)
theorem lies_nth {f : Nat → Int} {n i : Nat} (h : i < n) : ((List.range n).map f).getD i 0 = f i := by
  rw [List.getD_eq_getElem?_getD, List.getElem?_map, List.getElem?_range h]
  rfl
structure Mq (x y : Int) : Prop where
  pos : 1 ≤ y
  low : Nat.gcd x.natAbs y.natAbs = 1
  bx : Lt2 64 x
  bY : Lt2 64 y
theorem ix5q {K : PySem.W.Frag} {H : Hp} {p p0 p1 p2 p3 p4 : Addr} {k a b c d : Int} {Q : VK} (e : H p = some (.lst [.ref p0, .ref p1, .ref p2, .ref p3, .ref p4])) (h0 : 0 ≤ k) (h1 : k < 5) (e0 : H p0 = some (.tup [.int 0, .int 1])) (e1 : H p1 = some (.tup [.int 1, .int 1])) (e2 : H p2 = some (.tup [.int 1, .int 2]))
    (e3 : H p3 = some (.tup [.int a, .int b])) (e4 : H p4 = some (.tup [.int c, .int d])) (ba : Lt2 64 a) (bb : Lt2 64 b) (b0 : b ≠ 0) (bc : Lt2 64 c) (bd : Lt2 64 d) (d0 : d ≠ 0) (q : ∀ r x y, H r = some (.tup [.int x, .int y]) → y ≠ 0 → Lt2 64 x → Lt2 64 y → Q (.ref r) H) : rIxL K (.ref p) (.int k) H Q := by
  rcases (by omega : k = 0 ∨ k = 1 ∨ k = 2 ∨ k = 3 ∨ k = 4) with rfl | rfl | rfl | rfl | rfl
  · exact ⟨p, _, 0, _, rfl, rfl, SqL.of e, rfl, q _ _ _ e0 (by decide) (by unfold Lt2; decide) (by unfold Lt2; decide)⟩
  · exact ⟨p, _, 1, _, rfl, rfl, SqL.of e, rfl, q _ _ _ e1 (by decide) (by unfold Lt2; decide) (by unfold Lt2; decide)⟩
  · exact ⟨p, _, 2, _, rfl, rfl, SqL.of e, rfl, q _ _ _ e2 (by decide) (by unfold Lt2; decide) (by unfold Lt2; decide)⟩
  · exact ⟨p, _, 3, _, rfl, rfl, SqL.of e, rfl, q _ _ _ e3 b0 ba bb⟩
  · exact ⟨p, _, 4, _, rfl, rfl, SqL.of e, rfl, q _ _ _ e4 d0 bc bd⟩
/-- rows of numbers at addresses -/
inductive RwA (H : Hp) (n : Int) : List V → List (List Int) → Prop
  | nil : RwA H n [] []
  | cons {p : Addr} {r : List Int} {vs : List V} {rs : List (List Int)} (e : H p = some (.tup (r.map V.int))) (l : (r.length : Int) = n) (b : ∀ m ∈ r, In6 m) (t : RwA H n vs rs) : RwA H n (.ref p :: vs) (r :: rs)
theorem RwA.mono {H H' : Hp} {n : Int} (s : ∀ (p : Addr) (us : List V), H p = some (.tup us) → H' p = some (.tup us)) {vs : List V} {rs : List (List Int)} (h : RwA H n vs rs) : RwA H' n vs rs := by
  induction h with
  | nil => exact .nil
  | cons e l b t ih => exact .cons (s _ _ e) l b ih
theorem RwA.sam {H H' : Hp} {n : Int} (s : Sam H H') {vs : List V} {rs : List (List Int)} (h : RwA H n vs rs) : RwA H' n vs rs := h.mono fun p us e => s _ _ nt_tup e
theorem RwA.put {H : Hp} {n : Int} {d : Addr} {us : List V} {o : HO} (hd : H d = some (.lst us)) {vs : List V} {rs : List (List Int)} (h : RwA H n vs rs) : RwA (upd H d o) n vs rs := h.mono fun p us e => by
  have : p ≠ d := fun z => by rw [z, hd] at e; cases e
  rw [upd_ne this]
  exact e
theorem RwA.app {H : Hp} {n : Int} {p : Addr} {r : List Int} {vs : List V} {rs : List (List Int)} (h : RwA H n vs rs) (e : H p = some (.tup (r.map V.int))) (l : (r.length : Int) = n) (b : ∀ m ∈ r, In6 m) : RwA H n (vs ++ [.ref p]) (rs ++ [r]) := by
  induction h with
  | nil => exact .cons e l b .nil
  | cons e0 l0 b0 t ih => exact .cons e0 l0 b0 ih
theorem RwA.at {H : Hp} {n : Int} {vs : List V} {rs : List (List Int)} (h : RwA H n vs rs) : ∀ {i : Nat} {v : V}, vs[i]? = some v → ∃ (p : Addr) (r : List Int), v = .ref p ∧ rs[i]? = some r ∧ H p = some (.tup (r.map V.int)) ∧ (r.length : Int) = n ∧ ∀ m ∈ r, In6 m := by
  induction h with
  | nil => intro i v e; simp at e
  | cons e0 l0 b0 t ih =>
    intro i v e
    cases i with
    | zero => simp at e; exact ⟨_, _, e.symm, by simp, e0, l0, b0⟩
    | succ i => simp at e; simpa using ih e
theorem RwA.len {H : Hp} {n : Int} {vs : List V} {rs : List (List Int)} (h : RwA H n vs rs) : vs.length = rs.length := by
  induction h with
  | nil => rfl
  | cons e l b t ih => simp [ih]
theorem RwA.nt {H : Hp} {n : Int} {vs : List V} {rs : List (List Int)} (h : RwA H n vs rs) : NotTape (.lst vs) := fun a b c l z => by
  cases h with
  | nil => cases z
  | cons e q r => cases z
theorem RwA.rp {H : Hp} {n : Int} (hn : n ≤ 900) {vs : List V} {rs : List (List Int)} (h : RwA H n vs rs) : RpAll H vs (dRows rs) := by
  induction h with
  | nil => exact .nil
  | cons e l b t ih => exact .cons (rp_row e (by omega)) ih
theorem RwA.lens {H : Hp} {n : Int} {vs : List V} {rs : List (List Int)} (h : RwA H n vs rs) : ∀ r ∈ rs, (r.length : Int) = n ∧ ∀ m ∈ r, In6 m := by
  induction h with
  | nil => intro r hr; cases hr
  | cons e l b t ih =>
    intro r hr
    rcases List.mem_cons.mp hr with rfl | h
    · exact ⟨l, b⟩
    · exact ih r h
theorem sum_lt {i : Nat} : ∀ {rs : List (List Int)}, (∀ r ∈ rs, ∀ m ∈ r, In6 m) → (sumAt rs i).natAbs ≤ 960000 * rs.length
  | [], _ => by unfold sumAt; simp
  | r :: rs, h => by
    have ih := sum_lt (i := i) (rs := rs) fun r' hr => h r' (List.mem_cons_of_mem _ hr)
    have : (r.getD i 0).natAbs ≤ 960000 := by
      rw [List.getD_eq_getElem?_getD]
      cases e : r[i]? with
      | none => simp
      | some m =>
        have := h r (List.mem_cons_self ..) m (List.mem_of_getElem? e)
        unfold In6 at this
        simp
        omega
    have e2 : sumAt (r :: rs) i = r.getD i 0 + sumAt rs i := by unfold sumAt; simp
    rw [e2, List.length_cons]
    omega
theorem dr_inj {a b : List (List Int)} (h : PyData.tuple (dRows a) = .tuple (dRows b)) : a = b := by
  injection h with h
  unfold dRows at h
  have f : ∀ {a b : List (List Int)}, a.map (fun r => PyData.tuple (r.map PyData.int)) = b.map (fun r => PyData.tuple (r.map PyData.int)) → a = b := by
    intro a
    induction a with
    | nil => intro b h; cases b with
      | nil => rfl
      | cons x xs => cases h
    | cons r rs ih => intro b h; cases b with
      | nil => cases h
      | cons x xs =>
        simp only [List.map_cons, List.cons.injEq] at h
        rw [tup_inj h.1, ih h.2]
  exact f h
def spPlaces : Sp := fun vs H Q _ => ∃ (t l s : Addr) (n r : Int), vs = [.ref t, .ref s] ∧ Space H s n r ∧ Tq t l H ∧ ∀ H', Tq t l H' → Sam H H' → Q (.bl true) H'
structure Kp (t l s : Addr) (n r : Int) (H0 H : Hp) (h1 h2 h3 : Addr) (t1 : List Int) (b1 : Int) (x1 : List Int) (y1 : Int) (g1 g2 g3 : Addr) (t2 : List Int) (b2 : Int) (x2 : List Int) (y2 : Int) : Prop where
  es : H s = some (.tup [.int n, .int r])
  a : Pla H h1 h2 h3 n t1 b1 x1 y1
  b : Pla H g1 g2 g3 n t2 b2 x2 y2
  T : Tq t l H
  s : Sam H0 H
theorem Kp.sm {t l s : Addr} {n r : Int} {H0 H H' : Hp} {h1 h2 h3 : Addr} {t1 : List Int} {b1 : Int} {x1 : List Int} {y1 : Int} {g1 g2 g3 : Addr} {t2 : List Int} {b2 : Int} {x2 : List Int} {y2 : Int} (k : Kp t l s n r H0 H h1 h2 h3 t1 b1 x1 y1 g1 g2 g3 t2 b2 x2 y2) (T : Tq t l H') (m : Sam H H') : Kp t l s n r H0 H' h1 h2 h3 t1 b1 x1 y1 g1 g2 g3 t2 b2 x2 y2 :=
  ⟨m _ _ nt_tup k.es, k.a.sm m, k.b.sm m, T, k.s.trans m⟩
def Mpts (t s l d2 h1 g1 h3 g3 rp pm d : Addr) (n bo : Int) (Hc : Hp) (i : Nat) : L2.St → Hp → Prop := fun σ' H' => ∃ u1 u2 u3 u4 vs rs, σ' = [some (.ref t), some (.ref s), some (.int n), some (.ref h1), some (.ref g1), some (.ref h3), some (.ref g3), some (.ref rp), some (.ref pm), some (.int bo), some (.ref d), u1, u2, some (.ref d2), u3, none, u4] ∧
  H' d2 = some (.lst vs) ∧ RwA H' n vs rs ∧ vs.length ≤ 2 * i ∧ (0 < i → 0 < vs.length) ∧ Tq t l H' ∧ Sam Hc H'
theorem RwA.first {H : Hp} {n : Int} {vs : List V} {rs : List (List Int)} (h : RwA H n vs rs) (k : 0 < vs.length) : ∃ (p : Addr) (r : List Int), atI vs 0 = some (.ref p) ∧ H p = some (.tup (r.map V.int)) ∧ (r.length : Int) = n ∧ ∀ m ∈ r, In6 m := by
  cases h with
  | nil => cases k
  | cons e l b t => exact ⟨_, _, atI_nat (j := 0) (by simp), e, l, b⟩
theorem bd9' {i : Nat} (h : i < 2 ^ 300) : i < 2 ^ 9000 := Nat.lt_of_lt_of_le h (Nat.pow_le_pow_right (by decide) (by decide))
theorem at_last {a : List Int} {b n : Int} (h : a.length = n.toNat) (h0 : 2 ≤ n) : atI ((a ++ [b]).map V.int) n = some (.int b) := by
  have : n = ((a.length : Nat) : Int) := by omega
  rw [this]
  apply atI_nat
  rw [List.getElem?_map, List.getElem?_append_right (Nat.le_refl _), Nat.sub_self]
  rfl
def topF (x1 x2 : List Int) (y1 y2 ma mb : Int) (i : Nat) : Int := x1.getD i 0 * y2 * mb + ma * (x2.getD i 0 * y1 - x1.getD i 0 * y2)
def Mtop (t s l d h1 g1 h3 g3 rp pm : Addr) (n : Int) (x1 x2 : List Int) (y1 y2 ma mb bo : Int) (Hc : Hp) (i : Nat) : L2.St → Hp → Prop := fun σ' H' => ∃ u1 u2, σ' = [some (.ref t), some (.ref s), some (.int n), some (.ref h1), some (.ref g1), some (.ref h3), some (.ref g3), some (.ref rp), some (.ref pm), some (.int bo), some (.ref d), u1, u2, none, none, none, none] ∧
  H' d = some (.lst (((List.range i).map (topF x1 x2 y1 y2 ma mb)).map V.int)) ∧ Tq t l H' ∧ Sam Hc H'
section
variable {P : Program} {w : World} {K : PySem.W.Frag} {mg : Str → Option Value} {base : Heap}
set_option pp.maxSteps 3000
abbrev sPlacesL : Stmt := topS 52
theorem scPlacesL : FnScope ["tape", "space", "dims", "here", "there", "p", "o", "raw", "moment", "bottom", "tops", "i", "step", "points", "turn", "sums", "x"] ["tape", "space"] (defScope sPlacesL) := ⟨rfl, rfl, rfl, by decide +kernel, rfl, by decide +kernel, by decide +kernel⟩
theorem okPlacesL {f : Addr} {fd : FuncData} (F : Fun K "_law_places" "_law_places" sPlacesL f fd) (T : Tx mg) {CN : Addr} (KDPlaceOf : Dk P w K mg base (L2N.CX P w) "place_of" 4 ["space", "numbers", "bottom"] (spPlaceOf CN)) (KDPointPlace : Dk P w K mg base (L2N.CX P w) "point_place" 4 ["space", "point"] (spPointPlace CN)) (KDBetween : Dk P w K mg base (L2N.CX P w) "between" 4 ["space", "place", "other", "moment"] (spBetween CN)) (KDMeanPlace : Dk P w K mg base (L2N.CX P w) "mean_place" 5 ["space", "points"] (spMean CN)) (DDrawL : Dn P w K mg base CX0 "_law_draw" 1 ["tape", "many"] spDw) (DPlaceL : Dn P w K mg base CX0 "_law_place" 3 ["tape", "dims"] spPlaceL) (DPairL : Dn P w K mg base CX0 "_law_pair" 3 ["tape"] spPairL) (DLowestL : Dn P w K mg base CX0 "_law_lowest" 2 ["top", "bottom"] spLowest) (DLiesL : Dn P w K mg base CX0 "_law_lies" 3 ["got", "tops", "bottom"] spLies) (DCoordinateL : Dn P w K mg base CX0 "_law_coordinate" 2 ["tape"] spCoord)  : FnOk P w K mg base CX0 6 f fd ["tape", "space"] spPlaces := by
  refine F.ok scPlacesL (fun vs H Q E h => ?_) (fun cdv A outer s H vs Q E hr h => ?_)
  · obtain ⟨t, l, s, n, r, rfl, _⟩ := h
    rfl
  · obtain ⟨t, l, s, n, r, rfl, Ss, Tt, kk⟩ := h
    refine ⟨_, (pss_cons (ps_set (i := 2) scPlacesL.nd rfl (Or.inl rfl) (pe_ix ix_tup (pv 1) pe_int (fun _ _ => rfl)))
    (pss_cons (ps_set (i := 3) scPlacesL.nd rfl (Or.inl rfl) (pe_dn DPlaceL (hr.mono (by omega)) (pa_cons (pv 0) (pa_cons (pv 2) pa_nil))))
    (pss_cons (ps_set (i := 4) scPlacesL.nd rfl (Or.inl rfl) (pe_dn DPlaceL (hr.mono (by omega)) (pa_cons (pv 0) (pa_cons (pv 2) pa_nil))))
    (C8.pss_cut (ps_if (pt_cmpR op_eq (pe_dn DDrawL (hr.mono (by omega)) (pa_cons (pv 0) (pa_cons pe_int pa_nil))) pe_int (nomark _))
    (pss_one (ps_set (i := 4) scPlacesL.nd rfl (Or.inl rfl) (pv 3)))
    pss_nil)
    (pss_cons (ps_if (pt_not (pt_val (pe_dn DLiesL (hr.mono (by omega)) (pa_cons (pe_dnKx KDPlaceOf (hr.mono (by omega)) passN0' (pk_cons (pe_ix ix_tup (pv 3) pe_int (fun _ _ => rfl)) (pk_cons (pe_callTy call_tuple_of (by rfl) T.n_tuple (by decide +kernel) (pa_cons (pe_ix ix_tup (pv 3) pe_int (fun _ _ => rfl)) pa_nil)) (pk_cons (pv 1) pk_nil)))) (pa_cons (pe_ix ix_tup (pv 3) pe_int (fun _ _ => rfl)) (pa_cons (pe_ix ix_tup (pv 3) pe_int (fun _ _ => rfl)) pa_nil))))))
    (pss_one (ps_ret pe_bl))
    pss_nil)
    (pss_cons (ps_if (pt_not (pt_val (pe_dn DLiesL (hr.mono (by omega)) (pa_cons (pe_dnKx KDPointPlace (hr.mono (by omega)) passN0' (pk_cons (pe_callTy call_tuple_of (by rfl) T.n_tuple (by decide +kernel) (pa_cons (pe_ix ix_tup (pv 4) pe_int (fun _ _ => rfl)) pa_nil)) (pk_cons (pv 1) pk_nil))) (pa_cons (pe_ix ix_tup (pv 4) pe_int (fun _ _ => rfl)) (pa_cons pe_int pa_nil))))))
    (pss_one (ps_ret pe_bl))
    pss_nil)
    (pss_cons (ps_set (i := 5) scPlacesL.nd rfl (Or.inl rfl) (pe_ix ix_tup (pv 3) pe_int (fun _ _ => rfl)))
    (pss_cons (ps_set (i := 6) scPlacesL.nd rfl (Or.inl rfl) (pe_ix ix_tup (pv 4) pe_int (fun _ _ => rfl)))
    (pss_cons (ps_set (i := 7) scPlacesL.nd rfl (Or.inl rfl) (pe_lst (pa_cons (pe_tup (pa_cons pe_int (pa_cons pe_int pa_nil))) (pa_cons (pe_tup (pa_cons pe_int (pa_cons pe_int pa_nil))) (pa_cons (pe_tup (pa_cons pe_int (pa_cons pe_int pa_nil))) (pa_cons (pe_tup (pa_cons (pe_op op_sub (pe_dn DDrawL (hr.mono (by omega)) (pa_cons (pv 0) (pa_cons pe_int pa_nil))) pe_int) (pa_cons (pe_op op_add pe_int (pe_dn DDrawL (hr.mono (by omega)) (pa_cons (pv 0) (pa_cons pe_int pa_nil)))) pa_nil))) (pa_cons (pe_dn DPairL (hr.mono (by omega)) (pa_cons (pv 0) pa_nil)) pa_nil)))))))
    (C8.pss_cut (ps_set (i := 7) scPlacesL.nd rfl (Or.inl rfl) (pe_ix ix_list (pv 7) (pe_dn DDrawL (hr.mono (by omega)) (pa_cons (pv 0) (pa_cons pe_int pa_nil))) (fun _ _ => rfl)))
    (pss_cons (ps_set (i := 8) scPlacesL.nd rfl (Or.inl rfl) (pe_dn DLowestL (hr.mono (by omega)) (pa_cons (pe_ix ix_tup (pv 7) pe_int (fun _ _ => rfl)) (pa_cons (pe_ix ix_tup (pv 7) pe_int (fun _ _ => rfl)) pa_nil))))
    (pss_cons (ps_set (i := 9) scPlacesL.nd rfl (Or.inl rfl) (pe_op op_mulW (pe_op op_mulW (pe_ix ix_tup (pv 5) (pv 2) (fun _ _ => rfl)) (pe_ix ix_tup (pv 6) (pv 2) (fun _ _ => rfl))) (pe_ix ix_tup (pv 8) pe_int (fun _ _ => rfl))))
    (pss_cons (ps_set (i := 10) scPlacesL.nd rfl (Or.inl rfl) (pe_lst pa_nil))
    (C8.pss_cut (ps_for PassesOwn.never rfl (pi_range1 rfl T.n_range (pa_cons (pv 2) pa_nil)) (pg_name (i := 11) scPlacesL.nd rfl (Or.inl rfl))
    (pss_cons (ps_set (i := 12) scPlacesL.nd rfl (Or.inl rfl) (pe_op op_sub (pe_op op_mulW (pe_ix ix_tup (pv 6) (pv 11) (fun _ _ => rfl)) (pe_ix ix_tup (pv 5) (pv 2) (fun _ _ => rfl))) (pe_op op_mulW (pe_ix ix_tup (pv 5) (pv 11) (fun _ _ => rfl)) (pe_ix ix_tup (pv 6) (pv 2) (fun _ _ => rfl)))))
      (pss_one (ps_expr (pe_bm PySem.F.plainAttrs_list PySem.F.slot_list_append PySem.F.type_list_append mt_append (pv 10) (pa_cons (pe_op op_add (pe_op op_mulW (pe_op op_mulW (pe_ix ix_tup (pv 5) (pv 11) (fun _ _ => rfl)) (pe_ix ix_tup (pv 6) (pv 2) (fun _ _ => rfl))) (pe_ix ix_tup (pv 8) pe_int (fun _ _ => rfl))) (pe_op op_mulW (pe_ix ix_tup (pv 8) pe_int (fun _ _ => rfl)) (pv 12))) pa_nil))))))
    (pss_cons (ps_if (pt_not (pt_val (pe_dn DLiesL (hr.mono (by omega)) (pa_cons (pe_dnKx KDBetween (hr.mono (by omega)) passN0' (pk_cons (pv 8) (pk_cons (pv 6) (pk_cons (pv 5) (pk_cons (pv 1) pk_nil))))) (pa_cons (pv 10) (pa_cons (pv 9) pa_nil))))))
    (pss_one (ps_ret pe_bl))
    pss_nil)
    (pss_cons (ps_set (i := 13) scPlacesL.nd rfl (Or.inr rfl) (pe_lst pa_nil))
    (C8.pss_cut (ps_for PassesOwn.never rfl (pi_range1 rfl T.n_range (pa_cons (pe_op op_add pe_int (pe_dn DDrawL (hr.mono (by omega)) (pa_cons (pv 0) (pa_cons pe_int pa_nil)))) pa_nil)) (pg_name (i := 14) scPlacesL.nd rfl (Or.inl rfl))
    (pss_cons (ps_expr (pe_bm PySem.F.plainAttrs_list PySem.F.slot_list_append PySem.F.type_list_append mt_append (pv 13) (pa_cons (pe_callTy call_tuple_of (by rfl) T.n_tuple (by decide +kernel) (pa_cons (pe_lc (own := [("i", 11)]) (g := gName 11) (by rfl) scPlacesL.nd (pi_range1 rfl T.n_range (pa_cons (pv 2) pa_nil)) (blkOk_by (own := [("i", 11)]) (N := ["tape", "space", "dims", "here", "there", "p", "o", "raw", "moment", "bottom", "tops", "i", "step", "points", "turn", "sums", "x"]) (sc := defScope sPlacesL) (by decide +kernel)) (fun _ _ _ _ _ => pg_name (i := 11) scPlacesL.nd rfl (Or.inl rfl)) (fun _ _ _ _ _ => pts_nil) (fun _ _ _ _ _ => (pe_dn DCoordinateL (hr.mono (by omega)) (pa_cons (pv 0) pa_nil)))) pa_nil)) pa_nil)))
      (pss_one (ps_if (pt_cmpR op_eq (pe_dn DDrawL (hr.mono (by omega)) (pa_cons (pv 0) (pa_cons pe_int pa_nil))) pe_int (nomark _))
      (pss_one (ps_expr (pe_bm PySem.F.plainAttrs_list PySem.F.slot_list_append PySem.F.type_list_append mt_append (pv 13) (pa_cons (pe_ix ix_list (pv 13) pe_int (fun _ _ => rfl)) pa_nil))))
      pss_nil))))
    (pss_cons (ps_setLc (i := 15) (te := tCB (rSum K) (tCons (tLc (iList K (tVar 13)) (gName 16) tYes (tOp (rIxT K) (tVar 16) (tVar 11)) (([(("x" : Str), 16)] : List (Str × Nat)).map (·.2))) tNil)) (own := [("i", 11)]) (g := gName 11) (by rfl) scPlacesL.nd rfl rfl (sw_true rfl rfl rfl (by decide +kernel)) (pi_range1 rfl T.n_range (pa_cons (pv 2) pa_nil)) (blkOk_by (own := [("i", 11)]) (N := ["tape", "space", "dims", "here", "there", "p", "o", "raw", "moment", "bottom", "tops", "i", "step", "points", "turn", "sums", "x"]) (sc := defScope sPlacesL) (by decide +kernel)) (fun _ _ _ _ _ => pg_name (i := 11) scPlacesL.nd rfl (Or.inr rfl)) (fun _ _ _ _ _ => pts_nil) (fun _ _ _ _ _ => (pe_callB (r := rSum K) (cr_sum rfl) (by rfl) T.n_sum (by decide +kernel) (pa_cons (pe_lc (own := [("x", 16)]) (g := gName 16) (by rfl) scPlacesL.nd (pi_list (pv 13)) (blkOk_by (own := [("x", 16)]) (N := ["tape", "space", "dims", "here", "there", "p", "o", "raw", "moment", "bottom", "tops", "i", "step", "points", "turn", "sums", "x"]) (by first | rfl | kernel_rfl)) (fun _ _ _ _ _ => pg_name (i := 16) scPlacesL.nd rfl (Or.inl rfl)) (fun _ _ _ _ _ => pts_nil) (fun _ _ _ _ _ => (pe_ix (r := rIxT K) ix_tup (pv 16) (pv 11) (fun _ _ => rfl)))) pa_nil))))
    (pss_one (ps_ret (pe_dn DLiesL (hr.mono (by omega)) (pa_cons (pe_dnKx KDMeanPlace (hr.mono (by omega)) passN0' (pk_cons (pe_callTy call_tuple_of (by rfl) T.n_tuple (by decide +kernel) (pa_cons (pv 13) pa_nil)) (pk_cons (pv 1) pk_nil))) (pa_cons (pv 15) (pa_cons (pe_callB call_len (by rfl) T.n_len (by decide +kernel) (pa_cons (pv 13) pa_nil)) pa_nil)))))))))))))))))))))))), ?_⟩
    have st0 : L2.start ["tape", "space", "dims", "here", "there", "p", "o", "raw", "moment", "bottom", "tops", "i", "step", "points", "turn", "sums", "x"] [V.ref t, V.ref s] = [some (V.ref t), some (V.ref s), none, none, none, none, none, none, none, none, none, none, none, none, none, none, none] := rfl
    rw [st0]
    have n2 := Ss.2.1
    have n3 := Ss.2.2
    have es0 := Ss.1
    walk_at "rds"
    refine ⟨t, l, n, rfl, n2, n3, Tt, fun h1 h2 h3 t1 b1 x1 y1 H1 ea1 eb1 ec1 ok1 T1 s1 => ?_⟩
    have P1 : Pla H1 h1 h2 h3 n t1 b1 x1 y1 := ⟨ea1, eb1, ec1, ok1⟩
    have es1 := s1 _ _ nt_tup es0
    clear ea1 eb1 ec1
    walk_at "rds"
    refine ⟨t, l, n, rfl, n2, n3, T1, fun g1 g2 g3 t2 b2 x2 y2 H2 ea2 eb2 ec2 ok2 T2 s2 => ?_⟩
    have P2 : Pla H2 g1 g2 g3 n t2 b2 x2 y2 := ⟨ea2, eb2, ec2, ok2⟩
    have K2 : Kp t l s n r H H2 h1 h2 h3 t1 b1 x1 y1 g1 g2 g3 t2 b2 x2 y2 := ⟨s2 _ _ nt_tup es1, P1.sm s2, P2, T2, s1.trans s2⟩
    clear ea2 eb2 ec2 ok1 ok2 P1 P2 T1 T2 s1 s2 es1
    walk_at "rds"
    refine cut_at (fun σ' H' => ∃ g1 g2 g3 t2 b2 x2 y2, σ' = [some (.ref t), some (.ref s), some (.int n), some (.ref h1), some (.ref g1), none, none, none, none, none, none, none, none, none, none, none, none] ∧ Kp t l s n r H H' h1 h2 h3 t1 b1 x1 y1 g1 g2 g3 t2 b2 x2 y2) ?_ ?_
    · walk_at "rds"
      refine ⟨t, l, 6, rfl, K2.T, by decide, by decide, fun v3 H3 a3 b3 T3 s3 => ?_⟩
      have K3 := K2.sm T3 s3
      walk_at "rds"
      refine Rd.ifB (fun h => ?_) fun h => ?_
      · walk_at "rds"
        exact ⟨h1, h2, h3, t1, b1, x1, y1, rfl, K3.es, K3.a, K3.a, K3.T, K3.s⟩
      · walk_at "rds"
        exact ⟨_, _, _, _, _, _, _, rfl, K3⟩
    clear K2
    rintro _ H3 ⟨g1, g2, g3, t2, b2, x2, y2, rfl, K3⟩
    have lt1 := K3.a.ok.ln
    have lt2 := K3.b.ok.ln
    have e1 := K3.a.ep
    have e2 := K3.a.eq
    have bb1 := K3.a.ok.b1
    have bb2 := K3.a.ok.b2
    have bt1 := K3.a.ok.bt
    have bt2 := K3.b.ok.bt
    walk_at "rds"
    rename_i pt n4 H4 g4 e4 u4
    have K4 := K3.sm (K3.T.to u4) (Sam.of u4)
    refine ⟨s, n, r, _, _, .tuple (t1.map PyData.int), .int b1, rfl, ⟨K4.es, n2, n3⟩, rp_row e4 (by omega), .int b1, (fun e => by rw [row_true lt1] at e; cases e), (fun _ e => by rw [show dPos (.int b1) = true from decide_eq_true bb1] at e; cases e), fun ns c z1 z2 lz hz => ?_⟩
    obtain rfl := tup_inj z1
    cases z2
    refine ⟨bd8 (bd3 (by omega) (by omega)), fun p5 H5 e5 u5 => ?_⟩
    have K5 := K4.sm (K4.T.to u5) (Sam.of u5)
    clear K3 K4 e1 e2 u4 g4 n4 e4 u5
    have e1 := K5.a.ep
    have e2 := K5.a.eq
    walk_at "rds"
    refine lies_of e5 e2 rfl (by omega) bb1 (fun i _ => rfl) (fun x hx => ?_) (fun x hx => in6_9 (bt1 x hx)) (in6_9 (by unfold In6; omega)) fun H6 u6 => ?_
    · rcases List.mem_append.mp hx with h | h
      · exact in6_9 (bt1 x h)
      · rw [List.mem_singleton.mp h]; exact in6_9 (by unfold In6; omega)
    have K6 := K5.sm (K5.T.to u6) (Sam.of u6)
    clear K5 e1 e2 e5 u6
    have f1 := K6.b.ep
    have f2 := K6.b.eq
    walk_at "rds"
    rename_i pt7 n7 H7 g7 e7 u7
    have K7 := K6.sm (K6.T.to u7) (Sam.of u7)
    refine ⟨s, n, r, _, .tuple (t2.map PyData.int), rfl, ⟨K7.es, n2, n3⟩, rp_row e7 (by omega), (fun e => by rw [row_true lt2] at e; cases e), fun ns z1 lz p8 H8 e8 u8 => ?_⟩
    obtain rfl := tup_inj z1
    have K8 := K7.sm (K7.T.to u8) (Sam.of u8)
    clear K6 K7 f1 f2 e7 g7 n7 u7 u8
    have f1 := K8.b.ep
    have f2 := K8.b.eq
    walk_at "rds"
    refine ⟨p8, g2, t2, 1, t2, 1, rfl, e8, f2, rfl, by omega, by decide, by rw [gN_app]; exact Nat.gcd_one_right _, (fun i _ => rfl), (fun x hx => ?_), (fun x hx => in6_9 (bt2 x hx)), in6_9 (by unfold In6; decide), fun H9 u9 => ?_⟩
    · rcases List.mem_append.mp hx with h | h
      · exact in6_9 (bt2 x h)
      · rw [List.mem_singleton.mp h]; exact in6_9 (by unfold In6; decide)
    have K9 := K8.sm (K8.T.to u9) (Sam.of u9)
    clear K8 f1 f2 e8 u9
    have e1 := K9.a.ep
    have f1 := K9.b.ep
    have T9 := K9.T
    walk_at "rds"
    rename_i q0 m0 Ja gja ea va q1 m1 Jb gjb eb vb q2 m2 Jc gjc ec vc
    refine ⟨t, l, 13, rfl, by walk_at "tq", by decide, by decide, fun v4 H10 a4 b4 T10 s10 => ?_⟩
    walk_at "rds"
    refine ⟨t, l, 6, rfl, T10, by decide, by decide, fun v5 H11 a5 b5 T11 s11 => ?_⟩
    walk_at "rds"
    rename_i q3 m3 Jd gjd edd vd
    refine ⟨t, l, rfl, by walk_at "tq", fun q4 ca cb H12 e12 cb0 la ua lb ub T12 s12 => ?_⟩
    walk_at "rds"
    rename_i q5 m5 Je gje ee ve
    have K10 : Kp t l s n r H Je h1 h2 h3 t1 b1 x1 y1 g1 g2 g3 t2 b2 x2 y2 := K9.sm (by walk_at "tq") (by walk_at "sam")
    refine cut_at (fun σ' H' => ∃ rp x y, σ' = [some (.ref t), some (.ref s), some (.int n), some (.ref h1), some (.ref g1), some (.ref h3), some (.ref g3), some (.ref rp), none, none, none, none, none, none, none, none, none] ∧ H' rp = some (.tup [.int x, .int y]) ∧ y ≠ 0 ∧ Lt2 64 x ∧ Lt2 64 y ∧ Kp t l s n r H H' h1 h2 h3 t1 b1 x1 y1 g1 g2 g3 t2 b2 x2 y2) ?_ ?_
    · walk_at "rds"
      refine ⟨t, l, 5, rfl, K10.T, by decide, by decide, fun v6 H13 a6 b6 T13 s13 => ?_⟩
      have nn : NotTape (.lst [V.ref q0, V.ref q1, V.ref q2, V.ref q3, V.ref q4]) := fun _ _ _ _ z => by cases z
      refine' ix5q (a := v4 - 4) (b := 1 + v5) (c := ca) (d := cb) ?k1 a6 b6 ?k2 ?k3 ?k4 ?k5 ?k6 ?k7 ?k8 ?k9 ?k10 ?k11 ?k12 fun rp x y er y0 bx bY => ?_
      case k1 => exact s13 _ _ nn ee
      case k2 => walk_at "heap"
      case k3 => walk_at "heap"
      case k4 => walk_at "heap"
      case k5 => walk_at "heap"
      case k6 => walk_at "heap"
      case k7 => (unfold Lt2; have : 2 ^ 64 = 18446744073709551616 := by decide
                  omega)
      case k8 => (unfold Lt2; have : 2 ^ 64 = 18446744073709551616 := by decide
                  omega)
      case k9 => omega
      case k10 => (unfold Lt2; have : 2 ^ 64 = 18446744073709551616 := by decide
                   omega)
      case k11 => (unfold Lt2; have : 2 ^ 64 = 18446744073709551616 := by decide
                   omega)
      case k12 => exact cb0
      walk_at "rds"
      exact ⟨_, _, _, rfl, er, y0, bx, bY, K10.sm T13 s13⟩
    clear K9 K10 e1 f1 T9 gja ea va gjb eb vb gjc ec vc gjd edd vd gje ee ve e12 T10 T11 T12 s10 s11 s12
    rintro _ H10 ⟨rp, x, y, rfl, er, y0, bx, bY, K10⟩
    walk_at "rds"
    refine ⟨_, _, rfl, bx.le (by decide), bY.le (by decide), y0, fun pm H11 ma mb em qm u11 => ?_⟩
    have K11 := K10.sm (K10.T.to u11) (Sam.of u11)
    have m1 := qm.pos
    have mlow := qm.low
    have mx : Lt2 64 ma := Nat.lt_of_le_of_lt qm.le1 bx
    have mY : Lt2 64 mb := Nat.lt_of_le_of_lt qm.le2 bY
    clear K10 er qm bx bY y0 u11
    have e3 := K11.a.er
    have f3 := K11.b.er
    have l1 : x1.length = n.toNat := by have := K11.a.ok.lx; omega
    have l2 : x2.length = n.toNat := by have := K11.b.ok.lx; omega
    have s1 := K11.a.ok.sx
    have s2 := K11.b.ok.sx
    have i1 : Lt2 20 y1 := (s1 y1 (by simp)).l
    have i2 : Lt2 20 y2 := (s2 y2 (by simp)).l
    have wy : CMulW y1 y2 := sm_mul (i1.S (by decide)) (i2.S (by decide))
    have wz : CMulW (y1 * y2) mb := sm_mul ((i1.mul i2).S (by decide)) (mY.S (by decide))
    walk_at "rds"
    refine Rd.ixT e3 (at_last l1 n2) ?_
    walk_at "rds"
    refine Rd.ixT f3 (at_last l2 n2) ?_
    walk_at "rds"
    rename_i d hd Jt gt et vt
    have nd := K11.T.ne hd
    have Tt2 := K11.T.to vt
    have sj : Sam H11 Jt := Sam.of vt
    clear gt vt
    refine cut_at (fun σ' H' => Mtop t s l d h1 g1 h3 g3 rp pm n x1 x2 y1 y2 ma mb (y1 * y2 * mb) H11 n.toNat σ' H') ?_ ?_
    · walk_at "rds"
      refine ⟨by omega, by omega, ?_⟩
      refine for_range (lo := 0) (n := n.toNat) (Mtop t s l d h1 g1 h3 g3 rp pm n x1 x2 y1 y2 ma mb (y1 * y2 * mb) H11) ⟨_, _, rfl, et, Tt2, sj⟩ ?_ (fun σ' H' h => h)
      rintro i σ' H12 hi ⟨u1, u2, rfl, e12, T12, s12⟩
      rw [Int.zero_add]
      have e3 := s12 _ _ nt_tup e3
      have f3 := s12 _ _ nt_tup f3
      have em := s12 _ _ nt_tup em
      have c1 : Lt2 20 (x1.getD i 0) := (s1 _ (getD_mem (by omega))).l
      have c2 : Lt2 20 (x2.getD i 0) := (s2 _ (getD_mem (by omega))).l
      have w1 : CMulW (x2.getD i 0) y1 := sm_mul (c2.S (by decide)) (i1.S (by decide))
      have w2 : CMulW (x1.getD i 0) y2 := sm_mul (c1.S (by decide)) (i2.S (by decide))
      have w3 : CMulW (x1.getD i 0 * y2) mb := sm_mul ((c1.mul i2).S (by decide)) (mY.S (by decide))
      have w4 : CMulW ma (x2.getD i 0 * y1 - x1.getD i 0 * y2) := sm_mul (mx.S (by decide)) (((c2.mul i1).sub (c1.mul i2)).S (by decide))
      walk_at "rds"
      refine Rd.ixT f3 (at_int (by omega)) ?_
      walk_at "rds"
      refine Rd.ixT e3 (at_last l1 n2) ?_
      walk_at "rds"
      refine Rd.ixT e3 (at_int (by omega)) ?_
      walk_at "rds"
      refine Rd.ixT f3 (at_last l2 n2) ?_
      walk_at "rds"
      refine ⟨.inl ⟨rfl, _, SqL.of e12⟩, ?_⟩
      walk_at "rds"
      refine Rd.ixT e3 (at_int (by omega)) ?_
      walk_at "rds"
      refine Rd.ixT f3 (at_last l2 n2) ?_
      walk_at "rds"
      refine Rd.app e12 (by rw [List.length_map, List.length_map, List.length_range, sizeLine_eq]; omega) ?_
      walk_at "rds"
      refine ⟨_, _, rfl, ?_, T12.put nd, sam_put hd s12⟩
      rw [upd_same, List.range_succ, List.map_append, List.map_append]
      rfl
    clear et Tt2 sj
    rintro _ H12 ⟨u1, u2, rfl, e12, T12, s12⟩
    have K12 := K11.sm T12 s12
    have em := s12 _ _ nt_tup em
    have e3 := K12.a.er
    have f3 := K12.b.er
    clear K11 s12
    have g1' := K12.a.ok.g
    have g2' := K12.b.ok.g
    have p1 := K12.a.ok.y1
    have p2 := K12.b.ok.y1
    have lx1 : (x1.length : Int) = n := by omega
    have lx2 : (x2.length : Int) = n := by omega
    have hq : dLow 2 (.tuple [.int ma, .int mb]) = true := low_of m1 mlow
    have hp1 := low_place lx1 p1 g1'
    have hp2 := low_place lx2 p2 g2'
    walk_at "rds"
    refine ⟨s, n, r, _, _, _, _, _, _, rfl, ⟨K12.es, n2, n3⟩, rp_row e3 (by simp; omega), rp_row f3 (by simp; omega), rp_q em, (fun e => by rw [hp1] at e; cases e), (fun _ e => by rw [hp2] at e; cases e), (fun _ _ e => by rw [hq] at e; cases e), fun ps os a b c c' z1 z2 z3 _ _ _ _ _ _ _ _ => ?_⟩
    obtain ⟨rfl, z4⟩ := List.append_inj' (tup_inj z1) rfl
    obtain ⟨rfl, z5⟩ := List.append_inj' (tup_inj z2) rfl
    cases z4
    cases z5
    cases z3
    refine ⟨(fun x hx => (s1 x hx).l.S (by decide)), (fun x hx => (s2 x hx).l.S (by decide)), mx.S (by decide), mY.S (by decide), fun q13 H13 e13 u13 => ?_⟩
    walk_at "rds"
    have cc : 1 ≤ y1 * y2 * mb := pos_mul (pos_mul p1 p2) m1
    have bb : Lt2 104 (y1 * y2 * mb) := (i1.mul i2).mul mY
    refine lies_of e13 (u13 _ _ e12) (by rw [List.length_map, List.length_map, List.length_range, List.length_range]; omega) (by rw [List.length_map, List.length_range]; omega) cc (fun i hi => ?_) (fun x hx => ?_) (fun x hx => ?_) (bb.N (by decide)) fun H14 u14 => ?_
    · rw [List.length_map, List.length_range] at hi
      rw [lies_nth hi, lies_nth (by omega)]
      unfold topF
      grind
    · rcases List.mem_append.mp hx with h | h
      · obtain ⟨i, hi, rfl⟩ := List.mem_map.mp h
        have hi := List.mem_range.mp hi
        have c1 : Lt2 20 (x1.getD i 0) := (s1 _ (getD_mem (by omega))).l
        have c2 : Lt2 20 (x2.getD i 0) := (s2 _ (getD_mem (by omega))).l
        exact ((((i2.mul ((mY.sub mx).le (show 65 ≤ 65 by decide))).mul c1).le (show 20 + 65 + 20 ≤ 105 by decide)).add (((i1.mul mx).mul c2).le (show 20 + 64 + 20 ≤ 105 by decide))).N (by decide)
      · rw [List.mem_singleton.mp h]; exact bb.N (by decide)
    · obtain ⟨i, hi, rfl⟩ := List.mem_map.mp hx
      have hi := List.mem_range.mp hi
      have c1 : Lt2 20 (x1.getD i 0) := (s1 _ (getD_mem (by omega))).l
      have c2 : Lt2 20 (x2.getD i 0) := (s2 _ (getD_mem (by omega))).l
      unfold topF
      exact ((((c1.mul i2).mul mY).le (show 20 + 20 + 64 ≤ 105 by decide)).add ((mx.mul ((c2.mul i1).sub (c1.mul i2))).le (show 64 + (20 + 20 + 1) ≤ 105 by decide))).N (by decide)
    have es14 := u14 _ _ (u13 _ _ K12.es)
    have T14 := (K12.T.to u13).to u14
    have s14 : Sam H H14 := (K12.s.trans (Sam.of u13)).trans (Sam.of u14)
    clear K12 e13 e12 em e3 f3 u13 u14 hp1 hp2 hq T12
    walk_at "rds"
    rename_i d2 hd2 Jp gp ep vp
    have nd2 := T14.ne hd2
    have Tp := T14.to vp
    have sp : Sam H14 Jp := Sam.of vp
    clear gp vp
    refine cut_at (fun σ' H' => ∃ j, 0 < j ∧ j ≤ 9 ∧ Mpts t s l d2 h1 g1 h3 g3 rp pm d n (y1 * y2 * mb) H14 j σ' H') ?_ ?_
    · walk_at "rds"
      refine ⟨t, l, 9, rfl, Tp, by decide, by decide, fun v7 H15 a7 b7 T15 s15 => ?_⟩
      walk_at "rds"
      refine ⟨by omega, by omega, ?_⟩
      refine for_range (lo := 0) (n := (1 + v7).toNat) (Mpts t s l d2 h1 g1 h3 g3 rp pm d n (y1 * y2 * mb) H14) ⟨_, _, _, _, [], [], rfl, s15 _ _ (nt_ints (ns := [])) ep, .nil, Nat.zero_le _, (fun h => absurd h (by decide)), T15, sp.trans s15⟩ ?_ (fun σ' H' h => ⟨_, by omega, by omega, h⟩)
      rintro i σ' H16 hi ⟨u1, u2, u3, u4, vs, rs, rfl, e16, r16, l16, k16, T16, s16⟩
      have lrv := r16.len
      walk_at "rds"
      refine ⟨.inl ⟨rfl, _, SqL.of e16⟩, ?_⟩
      walk_at "rds"
      refine ⟨by omega, by omega, fun d3 hd3 => ?_⟩
      have nd3 := T16.ne hd3
      refine lc_range (lo := 0) (n := n.toNat) (fun i H4 => ∃ ms : List Int, ms.length = i ∧ (∀ m ∈ ms, In6 m) ∧ H4 d3 = some (.lst (ms.map V.int)) ∧ Tq t l H4 ∧ Sam H16 H4) ⟨[], rfl, (fun m hm => by cases hm), upd_same, T16.to (same_put hd3 (Same.refl _)), Sam.of (same_put hd3 (Same.refl _))⟩ ?_ ?_
      · rintro i H4 hi ⟨ms, lm, bm, e4, T4, s4⟩
        refine ⟨rfl, ?_⟩
        walk_at "rds"
        refine ⟨t, l, rfl, T4, fun c H5 a5 b5 T5 s5 => ?_⟩
        walk_at "rds"
        refine ⟨_, s5 _ _ nt_ints e4, ?_, ms ++ [c], by rw [List.length_append, lm]; rfl, fun m hm => ?_, by rw [upd_same, List.map_append]; rfl, T5.put nd3, sam_put hd3 (s4.trans s5)⟩
        · rw [List.length_map, lm, sizeLine_eq]
          omega
        · rcases List.mem_append.mp hm with h | h
          · exact bm m h
          · rw [List.mem_singleton.mp h]
            unfold In6
            omega
      rintro H4 ⟨ms, lm, bm, e4, T4, s4⟩
      walk_at "rds"
      rename_i p6 m6 H6 g6 e6 v6
      have e26 : H6 d2 = some (.lst vs) := v6 _ _ (s4 _ _ r16.nt e16)
      have r6 : RwA H6 n vs rs := (r16.sam s4).sam (Sam.of v6)
      have T6 := T4.to v6
      have s6 : Sam H14 H6 := (s16.trans s4).trans (Sam.of v6)
      refine Rd.app e26 (by rw [sizeLine_eq]; omega) ?_
      have r7 := (r6.app e6 (by omega) bm).put (o := .lst (vs ++ [V.ref p6])) (d := d2) e26
      have e7 : upd H6 d2 (.lst (vs ++ [V.ref p6])) d2 = some (.lst (vs ++ [V.ref p6])) := upd_same
      have T7 : Tq t l (upd H6 d2 (.lst (vs ++ [V.ref p6]))) := T6.put nd2
      have s7 : Sam H14 (upd H6 d2 (.lst (vs ++ [V.ref p6]))) := sam_put hd2 s6
      have l7 : (vs ++ [V.ref p6]).length ≤ 2 * i + 1 := by rw [List.length_append]; show vs.length + 1 ≤ _; omega
      have k7 : 0 < (vs ++ [V.ref p6]).length := by rw [List.length_append]; exact Nat.succ_pos _
      clear r6 e26 T6 s6 r16 e16 T16 s16 e4 T4 s4 e6 v6 g6
      generalize upd H6 d2 (.lst (vs ++ [V.ref p6])) = H7 at *
      generalize vs ++ [V.ref p6] = vs7 at *
      walk_at "rds"
      refine ⟨t, l, 4, rfl, T7, by decide, by decide, fun v8 H8 a8 b8 T8 s8 => ?_⟩
      have e8 := s8 _ _ r7.nt e7
      have r8 := r7.sam s8
      have s08 := s7.trans s8
      walk_at "rds"
      refine Rd.ifB (fun h => ?_) fun h => ?_
      · walk_at "rds"
        refine ⟨.inl ⟨rfl, _, SqL.of e8⟩, ?_⟩
        walk_at "rds"
        obtain ⟨pf, rf, af, ef, lf, bf⟩ := r8.first k7
        refine Rd.ixL e8 af ?_
        walk_at "rds"
        refine Rd.app e8 (by rw [sizeLine_eq]; omega) ?_
        walk_at "rds"
        exact ⟨_, _, _, _, _, _, rfl, upd_same, (r8.app ef lf bf).put e8, by rw [List.length_append]; show vs7.length + 1 ≤ _; omega, fun _ => by rw [List.length_append]; exact Nat.succ_pos _, T8.put nd2, sam_put hd2 s08⟩
      · walk_at "rds"
        exact ⟨_, _, _, _, _, _, rfl, e8, r8, by omega, fun _ => k7, T8, s08⟩
    clear ep Tp sp
    rintro _ H15 ⟨j, j0, j9, u1, u2, u3, u4, vs, rs, rfl, e15, r15, l15, k15, T15, s15⟩
    have k15 := k15 j0
    have lrv := r15.len
    have hall := r15.lens
    have es15 := s15 _ _ nt_tup es14
    walk_at "rds"
    refine ⟨by omega, by omega, fun dd hd => ?_⟩
    refine lc_range (lo := 0) (n := n.toNat) (fun i H3 => H3 dd = some (.lst (((List.range i).map (sumAt rs)).map V.int)) ∧ Same H15 H3) ⟨upd_same, same_put hd (Same.refl _)⟩ ?_ ?_
    · rintro i H3 hi ⟨e3, s3⟩
      refine ⟨rfl, ?_⟩
      have ep3 := s3 _ _ e15
      walk_at "rds"
      refine ⟨⟨_, SqL.of ep3⟩, fun d4 hd4 => lc_list (K := K) (a := d2) (xs := vs) (fun j H4 => H4 d4 = some (.lst (((rs.take j).map fun r => r.getD i 0).map V.int)) ∧ Same H3 H4) ⟨upd_same, same_put hd4 (Same.refl _)⟩ (fun j H4 _ ⟨_, s4⟩ => SqL.of (s4 _ _ ep3)) ?_ ?_⟩
      · rintro j x H4 hx ⟨e4, s4⟩
        refine ⟨rfl, ?_⟩
        obtain ⟨pr, r, rfl, hr2, er, lr2, _⟩ := r15.at hx
        have er4 := s4 _ _ (s3 _ _ er)
        walk_at "rds"
        rw [Int.zero_add]
        refine Rd.ixT er4 (at_row (by omega)) ?_
        refine ⟨_, e4, ?_, ?_, same_put hd4 s4⟩
        · rw [List.length_map, List.length_map, List.length_take, sizeLine_eq]
          omega
        · rw [upd_same, List.take_succ, hr2, List.map_append, List.map_append]
          rfl
      · rintro H4 ⟨e4, s4⟩
        rw [lrv, List.take_length] at e4
        walk_at "rds"
        refine ⟨d4, _, rfl, SqL.of e4, ?_⟩
        have e34 : H4 dd = some (.lst (((List.range i).map (sumAt rs)).map V.int)) := s4 _ _ e3
        refine ⟨_, e34, ?_, ?_, same_put hd (s3.trans s4)⟩
        · rw [List.length_map, List.length_map, List.length_range, sizeLine_eq]
          omega
        · rw [upd_same, List.range_succ, List.map_append, List.map_append]
          rfl
    · rintro H4 ⟨e4, s4⟩
      have e15 := s4 _ _ e15
      have r4 := r15.sam (Sam.of s4)
      have es4 := s4 _ _ es15
      walk_at "rds"
      rename_i p6 m6 H6 g6 e6 v6
      have hd6 : (dPoints n (.tuple (dRows rs)) && dSome (.tuple (dRows rs))) = true := pts_true (fun r hr => (hall r hr).1) (by omega)
      refine ⟨s, n, r, _, .tuple (dRows rs), rfl, ⟨v6 _ _ es4, n2, n3⟩, .tup e6 ((r4.sam (Sam.of v6)).rp (by omega)) (by unfold dRows; rw [List.length_map]; omega), (fun e => by rw [hd6] at e; cases e), fun rows z1 hr0 hr1 q7 H7 e7 u7 => ?_⟩
      obtain rfl := dr_inj z1
      have e47 := u7 _ _ (v6 _ _ e4)
      have e157 := u7 _ _ (v6 _ _ e15)
      walk_at "rds"
      rw [show ((vs.length : Nat) : Int) = ((rs.length : Nat) : Int) by omega]
      have bs : ∀ x ∈ (List.range n.toNat).map (sumAt rs), x.natAbs < 2 ^ 9000 := fun x hx => by
        obtain ⟨i, _, rfl⟩ := List.mem_map.mp hx
        have := sum_lt (i := i) fun r hr => (hall r hr).2
        exact Nat.lt_of_le_of_lt (Nat.le_trans this (show 960000 * rs.length ≤ 960000 * 18 by omega)) (bd9' (by decide +kernel))
      have bl : (((rs.length : Nat) : Int)).natAbs < 2 ^ 9000 := Nat.lt_of_le_of_lt (show (((rs.length : Nat) : Int)).natAbs ≤ 18 by omega) (bd9' (by decide +kernel))
      unfold meanL at e7
      refine lies_of e7 e47 rfl (by rw [List.length_map, List.length_range]; omega) (by omega) (fun i _ => rfl) (fun x hx => ?_) bs bl fun H8 u8 => ?_
      · rcases List.mem_append.mp hx with h | h
        · exact bs x h
        · rw [List.mem_singleton.mp h]; exact bl
      walk_at "rds"
      exact kk _ ((((T15.to s4).to v6).to u7).to u8) (((((s14.trans s15).trans (Sam.of s4)).trans (Sam.of v6)).trans (Sam.of u7)).trans (Sam.of u8))
end
end K15
end SecQ19
section SecQ20
set_option Elab.async false
set_option linter.all false
set_option maxRecDepth 100000
set_option maxHeartbeats 4000000
set_option pp.deepTerms false
local macro_rules | `(tactic| walk_at "tq") => `(tactic| first | assumption | (refine' Dt.Tq.to ?s0 ?h0; (case h0 => assumption); (case s0 => walk_at "same")))
local macro_rules | `(tactic| walk_at "same") => `(tactic| first | exact L2.Same.refl _ | assumption | (refine' L2.Same.trans ?s1 ?s2; (case s2 => assumption); (case s1 => walk_at "same")))
local macro_rules | `(tactic| walk_at "sam") => `(tactic| first | exact Dt.Sam.refl | assumption | exact Dt.Sam.of (by assumption) | (refine' Dt.Sam.trans ?s1 ?s2; (case s2 => first | assumption | exact Dt.Sam.of (by assumption)); (case s1 => walk_at "sam")))
local macro_rules | `(tactic| walk_at "tape") => `(tactic| first | assumption | (refine' Dt.Tape.mono ?h0 ?s0; (case h0 => assumption); (case s0 => walk_at "same")))
local macro_rules | `(tactic| walk_at "nt") => `(tactic| first | exact Dt.nt_tup | exact Dt.nt_ints | assumption | (intro a0 b0 c0 l0 z0; cases z0) | (intro a0 b0 c0 l0 z0; simp at z0))
local macro_rules | `(tactic| walk_at "heap") => `(tactic| first | assumption | exact L2.upd_same | (refine' Rd.at_to ?s0 ?h0; (case h0 => assumption); (case s0 => walk_at "same")) | (refine' Dt.at_sam ?n0 ?s0 ?h0; (case h0 => assumption); (case n0 => walk_at "nt"); (case s0 => walk_at "sam")))
local macro_rules | `(tactic| walk_at "rp") => `(tactic| first | exact Dt.Rp.int _ | exact Dt.Rp.bl _ | exact Dt.Rp.str _ | exact Dt.Rp.non | assumption | (refine' Dt.Rp.sm ?s0 ?h0; (case h0 => assumption); (case s0 => walk_at "sam")) | (refine' Dt.Rp.tup ?h1 ?h2 ?h3; (case h1 => walk_at "heap"); (case h2 => walk_at "rps"); (case h3 => first | assumption | (show _ ≤ 1000; decide) | (show _ ≤ 1000; simp) | (show _ ≤ 1000; omega))) | (refine' Dt.Rp.lst ?h1 ?h2 ?h3 ?h4; (case h1 => walk_at "heap"); (case h2 => walk_at "rps"); (case h3 => first | assumption | (show _ ≤ 1000; decide) | (show _ ≤ 1000; simp) | (show _ ≤ 1000; omega)); (case h4 => walk_at "nt")))
local macro_rules | `(tactic| walk_at "rps") => `(tactic| first | exact Dt.RpAll.nil | assumption | (refine' Dt.RpAll.cons ?h1 ?h2; (case h1 => walk_at "rp"); (case h2 => walk_at "rps")) | (refine' Dt.RpAll.sm ?s0 ?h0; (case h0 => assumption); (case s0 => walk_at "sam")))
local macro_rules | `(tactic| walk_at "rd") => `(tactic| first
  | with_reducible refine Rd.seq ?_ | with_reducible refine Rd.asg ?_ | with_reducible refine Rd.nm ?_ | with_reducible refine Rd.sub ?_ | with_reducible refine Rd.ret ?_ | with_reducible refine Rd.retN ?_
  | with_reducible refine Rd.drop ?_ | with_reducible refine Rd.ifs ?_ | with_reducible refine Rd.next ?_ | with_reducible refine Rd.cst ?_ | with_reducible refine Rd.op ?_ | with_reducible refine Rd.un ?_
  | with_reducible refine Rd.test ?_ | with_reducible refine Rd.tb' ?_ | with_reducible refine Rd.exb ?_ | with_reducible refine Rd.exi ?_ | with_reducible refine Rd.and2 ?_ | with_reducible refine Rd.or2 ?_ | with_reducible refine Rd.not1 ?_
  | with_reducible refine Rd.andV ?_ | with_reducible refine Rd.orV ?_ | with_reducible refine Rd.notV ?_ | with_reducible refine Rd.nil ?_ | with_reducible refine Rd.cons ?_ | with_reducible refine Rd.cb ?_
  | with_reducible refine Rd.i0 ?_ | with_reducible refine Rd.u1 ?_ | with_reducible refine Rd.call ?_ | with_reducible refine Rd.tup ?_ | with_reducible refine Rd.lst ?_ | with_reducible refine Rd.sl ?_ | with_reducible refine Rd.no ?_ | with_reducible refine Rd.part ?_ | with_reducible refine Rd.at_ ?_ | with_reducible refine Rd.yes ?_ | with_reducible refine Rd.fors ?_ | with_reducible refine Rd.m1 ?_ | with_reducible refine Rd.exs ?_ | with_reducible refine Rd.lc ?_ | with_reducible refine Rd.rng ?_
  | with_reducible refine Rd.mkv ?_ | with_reducible refine Rd.mko ?_ | with_reducible refine Rd.callB ?_ | with_reducible refine Rd.callS ?_ | with_reducible refine Rd.bm ?_ | with_reducible refine Rd.itl ?_ | with_reducible refine Rd.itt ?_
  | ((with_reducible refine' And.intro ?hl ?_); (case hl => ((with_reducible show List.length _ ≤ PySem.sizeLine); (show _ ≤ PySem.sizeLine); rw [PySem.sizeLine_eq]; simp)))
  | (intro p0 n0; generalize hK0 : L2.upd _ p0 _ = K0; obtain ⟨e0, t0⟩ := Dt.newK hK0 n0)
  | ((with_reducible refine' Rd.lenKL ?he ?_); (case he => walk_at "heap")) | ((with_reducible refine' Rd.lenKT ?he ?_); (case he => walk_at "heap"))
  | ((with_reducible refine' Rd.var ?hv ?_); (case hv => exact rfl))
  | ((with_reducible refine' Rd.ifT ?hv ?_); (case hv => first | exact rfl | assumption)) | ((with_reducible refine' Rd.ifF ?hv ?_); (case hv => first | exact rfl | assumption))
  | ((with_reducible refine' Rd.eq ?hv ?_); (case hv => exact rfl))
  | ((with_reducible refine' Rd.ne ?hv ?_); (case hv => exact rfl))
  | ((with_reducible refine' Dt.isi_int ?hr ?_); (case hr => walk_at "rp")) | ((with_reducible refine' Dt.isi_bool ?hr ?_); (case hr => walk_at "rp")) | ((with_reducible refine' Dt.isi_tuple ?hr ?_); (case hr => walk_at "rp")) | ((with_reducible refine' Dt.isi_str ?hr ?_); (case hr => walk_at "rp")) | ((with_reducible refine' Dt.isi_list ?hr ?_); (case hr => walk_at "rp"))
  | with_reducible refine ⟨rfl, ?_⟩ | with_reducible refine Or.inl ⟨_, rfl, ?_⟩ | with_reducible refine Or.inr ⟨_, rfl, ?_⟩ | with_reducible refine ⟨_, rfl, ?_⟩
  | ((with_reducible refine' Rd.ex2 ⟨rfl, ?hl, ?_⟩); (case hl => first | exact Or.inl ⟨_, L2.SqL.of (by walk_at "heap"), rfl⟩ | exact Or.inr ⟨_, L2.SqT.of (by walk_at "heap"), rfl⟩))
  | ((with_reducible refine' Rd.i1 ?hv ?_); (case hv => first | exact ⟨by decide, by decide, by decide⟩ | exact Or.inr ⟨by decide, by decide⟩ | exact Or.inl ⟨by decide, by decide⟩ | exact ⟨by decide, by decide⟩ | decide | assumption | (show _ ≠ _; omega) | (refine ⟨?_, ?_⟩ <;> omega) | (refine Or.inl ⟨?_, ?_⟩ <;> omega)))
  | ((with_reducible refine' Rd.ixL ?he ?hx ?_); (case he => walk_at "heap"); (case hx => rfl))
  | ((with_reducible refine' Rd.ixT ?he ?hx ?_); (case he => walk_at "heap"); (case hx => rfl))
  | ((with_reducible refine' Rd.setL ?he ?hx ?_); (case he => first | assumption | exact L2.upd_same); (case hx => rfl)))
local macro_rules | `(tactic| walk_at "rd") => `(tactic| first | with_reducible refine Rd.isT ?_ | with_reducible refine Rd.isnT ?_)
local macro_rules | `(tactic| walk_at "rd") => `(tactic| first | ((with_reducible refine' Rd.gtup ?he ?hl ?_); (case he => walk_at "heap"); (case hl => exact rfl)) | with_reducible refine Rd.brk ?_ | with_reducible refine Rd.callR ?_ | ((with_reducible refine' ⟨_, _, rfl, Or.inl ⟨L2.SqL.of ?hp, ?_⟩⟩); (case hp => walk_at "heap")) | ((with_reducible refine' ⟨_, _, rfl, Or.inl (L2.SqL.of ?hp), ?_⟩); (case hp => walk_at "heap")) | ((with_reducible refine' Rd.catL ?hp ?hq ?hl ?_); (case hp => walk_at "heap"); (case hq => walk_at "heap"); (case hl => (simp only [List.length_map, List.length_append, List.length_cons, List.length_nil]; omega)); (intro r0 J0 e0 t0 n0)) | with_reducible refine Rd.bits ?_ | with_reducible refine Rd.max2 ?_ | with_reducible refine Rd.gcons ?_ | with_reducible refine Rd.gnil ?_)
local macro_rules | `(tactic| walk_at "rds") => `(tactic| repeat (first | walk_at "rd" | assumption))
namespace K15
open PySem PySem.Spec PyProof.Rows L2 L2H Err Dt
def spLaw (K : PySem.W.Frag) : Sp := fun vs H Q _ => ∃ (a : Addr) (ns : List Int), vs = [.ref a] ∧ SqL K H a (ns.map V.int) ∧ ns.length ≤ 63 ∧ ∀ H' : Hp, Q (.bl true) H'
section
variable {P : Program} {w : World} {K : PySem.W.Frag} {mg : Str → Option Value} {base : Heap}
set_option pp.maxSteps 3000
abbrev slaw : Stmt := topS 59
theorem sclaw : FnScope ["script", "tape", "space", "turn"] ["script"] (defScope slaw) := ⟨rfl, rfl, rfl, by decide +kernel, rfl, by decide +kernel, by decide +kernel⟩
theorem oklaw {f : Addr} {fd : FuncData} (F : Fun K "law" "law" slaw f fd) (T : Tx mg) (DDrawL : Dn P w K mg base CX0 "_law_draw" 1 ["tape", "many"] spDw) (DKindsL : Dn P w K mg base CX0 "_law_kinds" 5 ["tape", "space"] spKinds) (DSumsL : Dn P w K mg base CX0 "_law_sums" 7 ["tape"] spSums) (DPlacesL : Dn P w K mg base CX0 "_law_places" 6 ["tape", "space"] spPlaces) (DRowL : Dn P w K mg base CX0 "_law_row" 7 ["tape"] spRow) (DRefusedL : Dn P w K mg base CX0 "_law_refused" 7 ["tape"] spRefused) (DRefusedThereL : Dn P w K mg base CX0 "_law_refused_there" 7 ["tape", "space"] spRefusedT)  : FnOk P w K mg base CX0 8 f fd ["script"] (spLaw K) := by
  refine F.ok sclaw (fun vs H Q E h => ?_) (fun cdv A outer s H vs Q E hr h => ?_)
  · obtain ⟨a, ns, rfl, _⟩ := h
    rfl
  · obtain ⟨a, ns, rfl, hS, hl, kk⟩ := h
    refine ⟨_, (pss_cons (ps_set (i := 1) sclaw.nd rfl (Or.inl rfl) (pe_lst (pa_cons pe_int (pa_cons pe_int (pa_cons pe_int (pa_cons (pe_callTy call_list_of (by rfl) T.n_list (by decide +kernel) (pa_cons (pv 0) pa_nil)) pa_nil))))))
    (pss_cons (ps_set (i := 2) sclaw.nd rfl (Or.inl rfl) (pe_tup (pa_cons (pe_op op_add pe_int (pe_dn DDrawL (hr.mono (by omega)) (pa_cons (pv 1) (pa_cons pe_int pa_nil)))) (pa_cons (pe_dn DDrawL (hr.mono (by omega)) (pa_cons (pv 1) (pa_cons pe_int pa_nil))) pa_nil))))
    (pss_cons (ps_for PassesOwn.never rfl (pi_range1 rfl T.n_range (pa_cons pe_int pa_nil)) (pg_name (i := 3) sclaw.nd rfl (Or.inl rfl))
    (pss_one (ps_if (PW.pt (pw_or (pt_not (pt_val (pe_dn DKindsL (hr.mono (by omega)) (pa_cons (pv 1) (pa_cons (pv 2) pa_nil))))) (pw_or (pt_not (pt_val (pe_dn DSumsL (hr.mono (by omega)) (pa_cons (pv 1) pa_nil)))) (pw_or1 (pt_not (pt_val (pe_dn DPlacesL (hr.mono (by omega)) (pa_cons (pv 1) (pa_cons (pv 2) pa_nil)))))))))
      (pss_one (ps_ret pe_bl))
      pss_nil)))
    (pss_cons (ps_if (pt_not (pt_val (pe_dn DRowL (hr.mono (by omega)) (pa_cons (pv 1) pa_nil))))
    (pss_one (ps_ret pe_bl))
    pss_nil)
    (pss_one (ps_ret (pe_and (pe_dn DRefusedL (hr.mono (by omega)) (pa_cons (pv 1) pa_nil)) (pe_one (pe_dn DRefusedThereL (hr.mono (by omega)) (pa_cons (pv 1) (pa_cons (pv 2) pa_nil))))))))))), ?_⟩
    have st0 : L2.start ["script", "tape", "space", "turn"] [V.ref a] = [some (V.ref a), none, none, none] := rfl
    rw [st0]
    walk_at "rds"
    refine ⟨a, _, rfl, .inl hS, fun l h1 => ?_⟩
    generalize hK1 : upd _ l _ = K1
    obtain ⟨r1, t1⟩ := newK hK1 h1
    walk_at "rds"
    rename_i t m2 K2 g2 r2 t2
    have T2 : Tq t l K2 := ⟨ns, ⟨⟨0, 20011, 0, r2, by decide⟩, t2 _ _ r1⟩, hl⟩
    refine ⟨t, l, 2, rfl, T2, by decide, by decide, fun v3 H3 a3 b3 T3 s3 => ?_⟩
    walk_at "rds"
    refine ⟨t, l, 9, rfl, T3, by decide, by decide, fun v4 H4 a4 b4 T4 s4 => ?_⟩
    walk_at "rds"
    rename_i s m5 H5 g5 es t5
    have T5 : Tq t l H5 := T4.to t5
    clear g5 hK1 r1 t1 g2 r2 t2 T2 T3 s3 T4 s4 t5 m5
    refine ⟨by decide, by decide, ?_⟩
    refine for_range (lo := 0) (n := 3) (fun i σ' H' => ∃ u, σ' = [some (.ref a), some (.ref t), some (.ref s), u] ∧ H' s = some (.tup [.int (2 + v3), .int v4]) ∧ Tq t l H') ⟨_, rfl, es, T5⟩ ?_ ?_
    · rintro i σ' H6 hi ⟨u, rfl, e6, T6⟩
      walk_at "rds"
      refine ⟨t, l, s, 2 + v3, v4, rfl, ⟨e6, by omega, by omega⟩, T6, fun H7 T7 s7 => ?_⟩
      have e7 := s7 _ _ nt_tup e6
      walk_at "rds"
      refine ⟨t, l, rfl, T7, fun H8 T8 s8 => ?_⟩
      have e8 := s8 _ _ nt_tup e7
      walk_at "rds"
      refine ⟨t, l, s, 2 + v3, v4, rfl, ⟨e8, by omega, by omega⟩, T8, fun H9 T9 s9 => ?_⟩
      have e9 := s9 _ _ nt_tup e8
      walk_at "rds"
      exact ⟨e9, T9⟩
    · rintro σ' H6 ⟨u, rfl, e6, T6⟩
      walk_at "rds"
      refine ⟨t, l, rfl, T6, fun H7 T7 s7 => ?_⟩
      have e7 := s7 _ _ nt_tup e6
      walk_at "rds"
      refine ⟨t, l, rfl, T7, fun H8 T8 s8 => ?_⟩
      have e8 := s8 _ _ nt_tup e7
      walk_at "rds"
      refine ⟨t, l, s, 2 + v3, v4, rfl, ⟨e8, by omega, by omega⟩, T8, fun H9 T9 s9 => ?_⟩
      walk_at "rds"
      exact kk _
end
end K15
end SecQ20
section SecQ21
set_option Elab.async false
set_option linter.all false
set_option maxRecDepth 100000
set_option maxHeartbeats 4000000
set_option pp.deepTerms false
namespace K15
open PySem PySem.Spec PyProof.Rows L2 L2H Err Dt
def eqO (a b : Option (Option Value)) : Bool := decide (a = b)
/-- what a class of errors must show -/
def clsB (K : PySem.W.Frag) (C f : Addr) (nm : List Str) : Bool :=
  eqO (PySem.W.findIn K (.ref C) "__setattr__") (some (some (.builtin "object.__setattr__"))) && (decide (PySem.W.subIn K (.ref C) (.type "BaseException") = some true) && (decide (PySem.W.typeIn K (.ref C) = some (.type "type")) && (PySem.W.keepIn K (.ref C) &&
  ((PySem.W.clsIn K C).isSome && (eqO (PySem.W.findIn K (.ref C) "__getattribute__") (some (some (.builtin "BaseException.__getattribute__"))) && (eqO (PySem.W.findIn K (.ref C) "__getattr__") (some none) && (PySem.W.hasDictIn K C &&
  (eqO (PySem.W.findIn K (.ref C) "__class__") (some (some (.builtin "object.__class__"))) && (eqO (PySem.W.specialIn K (.builtin "object.__class__") "__get__") (some (some (.builtin "getset_descriptor.__get__"))) && (decide (PySem.W.takesIn K (.builtin "object.__class__") = some true) &&
  (decide (PySem.W.mroIn K C (.type "object") = some true) && (nm.all (fun x => eqO (PySem.W.findIn K (.ref C) x) (some none)) && (eqO (PySem.W.findIn K (.ref C) "__init__") (some (some (.ref f))) && decide (PySem.W.typeIn K (.ref f) = some (.type "function")))))))))))))))
theorem ba {a b : Bool} (h : (a && b) = true) : a = true ∧ b = true := Bool.and_eq_true_iff.mp h
structure ClsS (K : PySem.W.Frag) (C f : Addr) (nm : List Str) : Prop where
  sa : PySem.W.findIn K (.ref C) "__setattr__" = some (some (.builtin "object.__setattr__"))
  exC : PySem.W.subIn K (.ref C) (.type "BaseException") = some true
  tyC : PySem.W.typeIn K (.ref C) = some (.type "type")
  kC : PySem.W.keepIn K (.ref C) = true
  cl : (PySem.W.clsIn K C).isSome = true
  ga : PySem.W.findIn K (.ref C) "__getattribute__" = some (some (.builtin "BaseException.__getattribute__"))
  gg : PySem.W.findIn K (.ref C) "__getattr__" = some none
  hd : PySem.W.hasDictIn K C = true
  ca : PySem.W.findIn K (.ref C) "__class__" = some (some (.builtin "object.__class__"))
  cn : PySem.W.specialIn K (.builtin "object.__class__") "__get__" = some (some (.builtin "getset_descriptor.__get__"))
  ct : PySem.W.takesIn K (.builtin "object.__class__") = some true
  cm : PySem.W.mroIn K C (.type "object") = some true
  no : ∀ x ∈ nm, PySem.W.findIn K (.ref C) x = some none
  iC : PySem.W.findIn K (.ref C) "__init__" = some (some (.ref f))
  tI : PySem.W.typeIn K (.ref f) = some (.type "function")
theorem clsB_ok {K : PySem.W.Frag} {C f : Addr} {nm : List Str} (h : clsB K C f nm = true) : ClsS K C f nm := by
  obtain ⟨h1, h⟩ := ba h
  obtain ⟨h2, h⟩ := ba h
  obtain ⟨h3, h⟩ := ba h
  obtain ⟨h4, h⟩ := ba h
  obtain ⟨h5, h⟩ := ba h
  obtain ⟨h6, h⟩ := ba h
  obtain ⟨h7, h⟩ := ba h
  obtain ⟨h8, h⟩ := ba h
  obtain ⟨h9, h⟩ := ba h
  obtain ⟨h10, h⟩ := ba h
  obtain ⟨h11, h⟩ := ba h
  obtain ⟨h12, h⟩ := ba h
  obtain ⟨h13, h⟩ := ba h
  obtain ⟨h14, h15⟩ := ba h
  exact ⟨of_decide_eq_true h1, of_decide_eq_true h2, of_decide_eq_true h3, h4, h5, of_decide_eq_true h6, of_decide_eq_true h7, h8, of_decide_eq_true h9, of_decide_eq_true h10, of_decide_eq_true h11, of_decide_eq_true h12, fun x hx => of_decide_eq_true (List.all_eq_true.mp h13 x hx), of_decide_eq_true h14, of_decide_eq_true h15⟩
def csL (l : List Addr) : Nat → Addr := fun i => l.getD i 0
section
variable {P : Program} {w : World} {K : PySem.W.Frag} {mg : Str → Option Value} {base : Heap}
abbrev siNotUsable : Stmt := inClass (topS 4) 0
theorem sciNotUsable : FnScope ["self", "word", "at"] ["self", "word", "at"] (defScope siNotUsable) := ⟨rfl, rfl, rfl, by decide +kernel, rfl, by decide +kernel, by decide +kernel⟩
theorem iniNotUsable {f C : Addr} {fd : FuncData} (F : Fun K "__init__" "NotUsable.__init__" siNotUsable f fd) (T : OexC K C) (h1 : PySem.W.findIn K (.ref C) "word" = some none) (h2 : PySem.W.findIn K (.ref C) "at" = some none) : FnOk P w K mg base CX0 1 f fd ["self", "word", "at"] (spI C ["word", "at"]) := by
  refine F.ok sciNotUsable (fun vs H Q E h => ?_) (fun cdv A outer s H vs Q E hr h => ?_)
  · obtain ⟨a, vals, rfl, hl, _⟩ := h
    show vals.length + 1 = _
    rw [hl]
    rfl
  · obtain ⟨a, vals, rfl, hl, ha, _, kk⟩ := h
    obtain ⟨v1, v2, rfl⟩ : ∃ v1 v2, vals = [v1, v2] := by
      match vals, hl with
      | [x, y], _ => exact ⟨x, y, rfl⟩
    refine ⟨_, pss_cons (ps_ost (pv 0) (pv 1)) (pss_one (ps_ost (pv 0) (pv 2))), ?_⟩
    refine ⟨_, rfl, _, rfl, a, C, rfl, T, h1, .inl ⟨ha, fun d nd ne => ?_⟩⟩
    refine ⟨_, rfl, _, rfl, a, C, rfl, T, h2, .inr ⟨d, _, upd_same, by rw [upd_ne ne, upd_same], by show 1 ≤ 900; decide, ?_⟩⟩
    refine kk (by decide) d _ nd ne (by rw [upd_ne ne.symm, upd_same]) upd_same fun b o nb e => ?_
    rw [upd_ne (ne_of_none e nd), upd_ne nb, upd_ne (ne_of_none e nd)]
    exact e
theorem mk_kl {x : Str} {C fI : Addr} {nm : List Str} {fd : FuncData} (g : mg x = some (.ref C)) (hC : ∃ nm q N bs bm sn sub ab col dd k0 k1 k2 k3 k5, K.lookup C = some (excClassObj nm q C N bs bm true sn sub ab col dd k0 k1 k2 k3 k5 "ValueError.__new__") ∧ PySem.HandSPX.refsVE bm = true)
    (c : ClsS K C fI nm) (F1 : OexC K C → FnOk P w K mg base CX0 1 fI fd (("self" : Str) :: nm) (spI C nm)) (b : Binds K fd (("self" : Str) :: nm) [])
    (bk : ∀ (s : Shared) (u0 : Value) (ws : List Value), K.In s.heap → ws.length = nm.reverse.length → BindsTo s fd ⟨[u0], nm.reverse.zip ws⟩ ((("self" : Str) :: nm).zip (u0 :: ws.reverse))) : Kl P w K mg base x C nm := by
  have oex : OexC K C := ⟨hC, c.sa, c.exC, c.tyC, c.kC⟩
  exact ⟨⟨oex, c.cl, c.ga, c.gg, c.hd, c.ca, c.cn, c.ct, c.cm⟩, g, c.no, fI, fd, c.iC, c.tI, F1 oex, b, bk⟩
end
theorem all_mk {l : PySem.W.OpenLaw} {w : World} {K : PySem.W.Frag} {h : Heap} {mg : Str → Option Value} {fa : Addr} (X : K.In h) (G : h.Ns mainGlobals mg) (hfa : mg "law" = some (.ref fa))
    {CN IN SH ME : Addr} {nm0 q0 : Str} {N0 : Addr} {bs0 bm0 : List Value} {sn0 : List Str} {sub0 : List Value} {ab0 : Bool} {col0 : Option Bool} {dd0 : Option Addr} {u0 v0 x0 y0 z0 : Option Value} {oo0 oa0 : Option Addr} {os0 : Array (Option Value)} {ok0 kV0 dc0 pm0 cd0 ct0 : Value}
    {d0 : Addr} {eo0 ea0 : Option Addr} {es0 : Array (Option Value)} {ek0 eV0 ed0 ep0 ec0 et0 : Value}
    {d1 : Addr} {eo1 ea1 : Option Addr} {es1 : Array (Option Value)} {ek1 eV1 ed1 ep1 ec1 et1 : Value}
    {d2 : Addr} {eo2 ea2 : Option Addr} {es2 : Array (Option Value)} {ek2 eV2 ed2 ep2 ec2 et2 : Value}
    {d3 : Addr} {eo3 ea3 : Option Addr} {es3 : Array (Option Value)} {ek3 eV3 ed3 ep3 ec3 et3 : Value}
    {d4 : Addr} {eo4 ea4 : Option Addr} {es4 : Array (Option Value)} {ek4 eV4 ed4 ep4 ec4 et4 : Value}
    {d5 : Addr} {eo5 ea5 : Option Addr} {es5 : Array (Option Value)} {ek5 eV5 ed5 ep5 ec5 et5 : Value}
    {d6 : Addr} {eo6 ea6 : Option Addr} {es6 : Array (Option Value)} {ek6 eV6 ed6 ep6 ec6 et6 : Value}
    {d7 : Addr} {eo7 ea7 : Option Addr} {es7 : Array (Option Value)} {ek7 eV7 ed7 ep7 ec7 et7 : Value}
    {d8 : Addr} {eo8 ea8 : Option Addr} {es8 : Array (Option Value)} {ek8 eV8 ed8 ep8 ec8 et8 : Value}
    {d9 : Addr} {eo9 ea9 : Option Addr} {es9 : Array (Option Value)} {ek9 eV9 ed9 ep9 ec9 et9 : Value}
    {d10 : Addr} {eo10 ea10 : Option Addr} {es10 : Array (Option Value)} {ek10 eV10 ed10 ep10 ec10 et10 : Value}
    {d11 : Addr} {eo11 ea11 : Option Addr} {es11 : Array (Option Value)} {ek11 eV11 ed11 ep11 ec11 et11 : Value}
    {d12 : Addr} {eo12 ea12 : Option Addr} {es12 : Array (Option Value)} {ek12 eV12 ed12 ep12 ec12 et12 : Value}
    {d13 : Addr} {eo13 ea13 : Option Addr} {es13 : Array (Option Value)} {ek13 eV13 ed13 ep13 ec13 et13 : Value}
    {d14 : Addr} {eo14 ea14 : Option Addr} {es14 : Array (Option Value)} {ek14 eV14 ed14 ep14 ec14 et14 : Value}
    {d15 : Addr} {eo15 ea15 : Option Addr} {es15 : Array (Option Value)} {ek15 eV15 ed15 ep15 ec15 et15 : Value}
    {d16 : Addr} {eo16 ea16 : Option Addr} {es16 : Array (Option Value)} {ek16 eV16 ed16 ep16 ec16 et16 : Value}
    {d17 : Addr} {eo17 ea17 : Option Addr} {es17 : Array (Option Value)} {ek17 eV17 ed17 ep17 ec17 et17 : Value}
    {d18 : Addr} {eo18 ea18 : Option Addr} {es18 : Array (Option Value)} {ek18 eV18 ed18 ep18 ec18 et18 : Value}
    {d19 : Addr} {eo19 ea19 : Option Addr} {es19 : Array (Option Value)} {ek19 eV19 ed19 ep19 ec19 et19 : Value}
    {d20 : Addr} {eo20 ea20 : Option Addr} {es20 : Array (Option Value)} {ek20 eV20 ed20 ep20 ec20 et20 : Value}
    {d21 : Addr} {eo21 ea21 : Option Addr} {es21 : Array (Option Value)} {ek21 eV21 ed21 ep21 ec21 et21 : Value}
    {d22 : Addr} {eo22 ea22 : Option Addr} {es22 : Array (Option Value)} {ek22 eV22 ed22 ep22 ec22 et22 : Value}
    {d23 : Addr} {eo23 ea23 : Option Addr} {es23 : Array (Option Value)} {ek23 eV23 ed23 ep23 ec23 et23 : Value}
    {d24 : Addr} {eo24 ea24 : Option Addr} {es24 : Array (Option Value)} {ek24 eV24 ed24 ep24 ec24 et24 : Value}
    {d25 : Addr} {eo25 ea25 : Option Addr} {es25 : Array (Option Value)} {ek25 eV25 ed25 ep25 ec25 et25 : Value}
    {d26 : Addr} {eo26 ea26 : Option Addr} {es26 : Array (Option Value)} {ek26 eV26 ed26 ep26 ec26 et26 : Value}
    {d27 : Addr} {eo27 ea27 : Option Addr} {es27 : Array (Option Value)} {ek27 eV27 ed27 ep27 ec27 et27 : Value}
    {d28 : Addr} {eo28 ea28 : Option Addr} {es28 : Array (Option Value)} {ek28 eV28 ed28 ep28 ec28 et28 : Value}
    {d29 : Addr} {eo29 ea29 : Option Addr} {es29 : Array (Option Value)} {ek29 eV29 ed29 ep29 ec29 et29 : Value}
    {d30 : Addr} {eo30 ea30 : Option Addr} {es30 : Array (Option Value)} {ek30 eV30 ed30 ep30 ec30 et30 : Value}
    {d31 : Addr} {eo31 ea31 : Option Addr} {es31 : Array (Option Value)} {ek31 eV31 ed31 ep31 ec31 et31 : Value}
    {d32 : Addr} {eo32 ea32 : Option Addr} {es32 : Array (Option Value)} {ek32 eV32 ed32 ep32 ec32 et32 : Value}
    {d33 : Addr} {eo33 ea33 : Option Addr} {es33 : Array (Option Value)} {ek33 eV33 ed33 ep33 ec33 et33 : Value}
    {d34 : Addr} {eo34 ea34 : Option Addr} {es34 : Array (Option Value)} {ek34 eV34 ed34 ep34 ec34 et34 : Value}
    {d35 : Addr} {eo35 ea35 : Option Addr} {es35 : Array (Option Value)} {ek35 eV35 ed35 ep35 ec35 et35 : Value}
    {d36 : Addr} {eo36 ea36 : Option Addr} {es36 : Array (Option Value)} {ek36 eV36 ed36 ep36 ec36 et36 : Value}
    {d37 : Addr} {eo37 ea37 : Option Addr} {es37 : Array (Option Value)} {ek37 eV37 ed37 ep37 ec37 et37 : Value}
    {d38 : Addr} {eo38 ea38 : Option Addr} {es38 : Array (Option Value)} {ek38 eV38 ed38 ep38 ec38 et38 : Value}
    {d39 : Addr} {eo39 ea39 : Option Addr} {es39 : Array (Option Value)} {ek39 eV39 ed39 ep39 ec39 et39 : Value}
    {d40 : Addr} {eo40 ea40 : Option Addr} {es40 : Array (Option Value)} {ek40 eV40 ed40 ep40 ec40 et40 : Value}
    {d41 : Addr} {eo41 ea41 : Option Addr} {es41 : Array (Option Value)} {ek41 eV41 ed41 ep41 ec41 et41 : Value}
    {d42 : Addr} {eo42 ea42 : Option Addr} {es42 : Array (Option Value)} {ek42 eV42 ed42 ep42 ec42 et42 : Value}
    {d43 : Addr} {eo43 ea43 : Option Addr} {es43 : Array (Option Value)} {ek43 eV43 ed43 ep43 ec43 et43 : Value}
    {d44 : Addr} {eo44 ea44 : Option Addr} {es44 : Array (Option Value)} {ek44 eV44 ed44 ep44 ec44 et44 : Value}
    {d45 : Addr} {eo45 ea45 : Option Addr} {es45 : Array (Option Value)} {ek45 eV45 ed45 ep45 ec45 et45 : Value}
    {d46 : Addr} {eo46 ea46 : Option Addr} {es46 : Array (Option Value)} {ek46 eV46 ed46 ep46 ec46 et46 : Value}
    {d47 : Addr} {eo47 ea47 : Option Addr} {es47 : Array (Option Value)} {ek47 eV47 ed47 ep47 ec47 et47 : Value}
    {d48 : Addr} {eo48 ea48 : Option Addr} {es48 : Array (Option Value)} {ek48 eV48 ed48 ep48 ec48 et48 : Value}
    (aC0 : PySem.W.nsIn K mainGlobals "NotUsable" = some (some (.ref CN)))
    (xL0 : K.lookup CN = some (excClassObj nm0 q0 CN N0 bs0 bm0 true sn0 sub0 ab0 col0 dd0 u0 v0 x0 y0 z0 "ValueError.__new__"))
    (bm0_ : PySem.HandSPX.refsVE bm0 = true)
    (iI0 : PySem.W.findIn K (.ref CN) "__init__" = some (some (.ref IN)))
    (lI0 : K.lookup IN = some ⟨ok0, oo0, .func (PySem.W.fnOf "__init__" "NotUsable.__init__" (defArgs siNotUsable) (defBody siNotUsable) (defScope siNotUsable) .none kV0 dc0 pm0 oa0 cd0 ct0), os0⟩)
    (cI0 : PySem.W.codeIn K cd0 "NotUsable.__init__" = true)
    (kI0 : PySem.W.keepIn K (.ref IN) = true)
    (aSH : PySem.W.nsIn K mainGlobals "ShapeError" = some (some (.ref SH)))
    (aME : PySem.W.nsIn K mainGlobals "MeshError" = some (some (.ref ME)))
    (aD0 : PySem.W.nsIn K mainGlobals "demand" = some (some (.ref d0)))
    (lD0 : K.lookup d0 = some ⟨ek0, eo0, .func (PySem.W.fnOf "demand" "demand" (defArgs sDemand) (defBody sDemand) (defScope sDemand) .none eV0 ed0 ep0 ea0 ec0 et0), es0⟩)
    (cD0 : PySem.W.codeIn K ec0 "demand" = true)
    (kD0 : PySem.W.keepIn K (.ref d0) = true)
    (aD1 : PySem.W.nsIn K mainGlobals "common_divisor" = some (some (.ref d1)))
    (lD1 : K.lookup d1 = some ⟨ek1, eo1, .func (PySem.W.fnOf "common_divisor" "common_divisor" (defArgs sCommonDivisor) (defBody sCommonDivisor) (defScope sCommonDivisor) .none eV1 ed1 ep1 ea1 ec1 et1), es1⟩)
    (cD1 : PySem.W.codeIn K ec1 "common_divisor" = true)
    (kD1 : PySem.W.keepIn K (.ref d1) = true)
    (aD2 : PySem.W.nsIn K mainGlobals "lowest_terms" = some (some (.ref d2)))
    (lD2 : K.lookup d2 = some ⟨ek2, eo2, .func (PySem.W.fnOf "lowest_terms" "lowest_terms" (defArgs sLowestTerms) (defBody sLowestTerms) (defScope sLowestTerms) .none eV2 ed2 ep2 ea2 ec2 et2), es2⟩)
    (cD2 : PySem.W.codeIn K ec2 "lowest_terms" = true)
    (kD2 : PySem.W.keepIn K (.ref d2) = true)
    (aD3 : PySem.W.nsIn K mainGlobals "is_integer" = some (some (.ref d3)))
    (lD3 : K.lookup d3 = some ⟨ek3, eo3, .func (PySem.W.fnOf "is_integer" "is_integer" (defArgs sIsInteger) (defBody sIsInteger) (defScope sIsInteger) .none eV3 ed3 ep3 ea3 ec3 et3), es3⟩)
    (cD3 : PySem.W.codeIn K ec3 "is_integer" = true)
    (kD3 : PySem.W.keepIn K (.ref d3) = true)
    (aD4 : PySem.W.nsIn K mainGlobals "is_number" = some (some (.ref d4)))
    (lD4 : K.lookup d4 = some ⟨ek4, eo4, .func (PySem.W.fnOf "is_number" "is_number" (defArgs sIsNumber) (defBody sIsNumber) (defScope sIsNumber) .none eV4 ed4 ep4 ea4 ec4 et4), es4⟩)
    (cD4 : PySem.W.codeIn K ec4 "is_number" = true)
    (kD4 : PySem.W.keepIn K (.ref d4) = true)
    (aD5 : PySem.W.nsIn K mainGlobals "is_row" = some (some (.ref d5)))
    (lD5 : K.lookup d5 = some ⟨ek5, eo5, .func (PySem.W.fnOf "is_row" "is_row" (defArgs sIsRow) (defBody sIsRow) (defScope sIsRow) .none eV5 ed5 ep5 ea5 ec5 et5), es5⟩)
    (cD5 : PySem.W.codeIn K ec5 "is_row" = true)
    (kD5 : PySem.W.keepIn K (.ref d5) = true)
    (aD6 : PySem.W.nsIn K mainGlobals "is_lowest" = some (some (.ref d6)))
    (lD6 : K.lookup d6 = some ⟨ek6, eo6, .func (PySem.W.fnOf "is_lowest" "is_lowest" (defArgs sIsLowest) (defBody sIsLowest) (defScope sIsLowest) .none eV6 ed6 ep6 ea6 ec6 et6), es6⟩)
    (cD6 : PySem.W.codeIn K ec6 "is_lowest" = true)
    (kD6 : PySem.W.keepIn K (.ref d6) = true)
    (aD7 : PySem.W.nsIn K mainGlobals "is_quotient" = some (some (.ref d7)))
    (lD7 : K.lookup d7 = some ⟨ek7, eo7, .func (PySem.W.fnOf "is_quotient" "is_quotient" (defArgs sIsQuotient) (defBody sIsQuotient) (defScope sIsQuotient) .none eV7 ed7 ep7 ea7 ec7 et7), es7⟩)
    (cD7 : PySem.W.codeIn K ec7 "is_quotient" = true)
    (kD7 : PySem.W.keepIn K (.ref d7) = true)
    (aD8 : PySem.W.nsIn K mainGlobals "is_point" = some (some (.ref d8)))
    (lD8 : K.lookup d8 = some ⟨ek8, eo8, .func (PySem.W.fnOf "is_point" "is_point" (defArgs sIsPoint) (defBody sIsPoint) (defScope sIsPoint) .none eV8 ed8 ep8 ea8 ec8 et8), es8⟩)
    (cD8 : PySem.W.codeIn K ec8 "is_point" = true)
    (kD8 : PySem.W.keepIn K (.ref d8) = true)
    (aD9 : PySem.W.nsIn K mainGlobals "is_place" = some (some (.ref d9)))
    (lD9 : K.lookup d9 = some ⟨ek9, eo9, .func (PySem.W.fnOf "is_place" "is_place" (defArgs sIsPlace) (defBody sIsPlace) (defScope sIsPlace) .none eV9 ed9 ep9 ea9 ec9 et9), es9⟩)
    (cD9 : PySem.W.codeIn K ec9 "is_place" = true)
    (kD9 : PySem.W.keepIn K (.ref d9) = true)
    (aD10 : PySem.W.nsIn K mainGlobals "are_points" = some (some (.ref d10)))
    (lD10 : K.lookup d10 = some ⟨ek10, eo10, .func (PySem.W.fnOf "are_points" "are_points" (defArgs sArePoints) (defBody sArePoints) (defScope sArePoints) .none eV10 ed10 ep10 ea10 ec10 et10), es10⟩)
    (cD10 : PySem.W.codeIn K ec10 "are_points" = true)
    (kD10 : PySem.W.keepIn K (.ref d10) = true)
    (aD11 : PySem.W.nsIn K mainGlobals "place_of" = some (some (.ref d11)))
    (lD11 : K.lookup d11 = some ⟨ek11, eo11, .func (PySem.W.fnOf "place_of" "place_of" (defArgs sPlaceOf) (defBody sPlaceOf) (defScope sPlaceOf) .none eV11 ed11 ep11 ea11 ec11 et11), es11⟩)
    (cD11 : PySem.W.codeIn K ec11 "place_of" = true)
    (kD11 : PySem.W.keepIn K (.ref d11) = true)
    (aD12 : PySem.W.nsIn K mainGlobals "point_place" = some (some (.ref d12)))
    (lD12 : K.lookup d12 = some ⟨ek12, eo12, .func (PySem.W.fnOf "point_place" "point_place" (defArgs sPointPlace) (defBody sPointPlace) (defScope sPointPlace) .none eV12 ed12 ep12 ea12 ec12 et12), es12⟩)
    (cD12 : PySem.W.codeIn K ec12 "point_place" = true)
    (kD12 : PySem.W.keepIn K (.ref d12) = true)
    (aD13 : PySem.W.nsIn K mainGlobals "between" = some (some (.ref d13)))
    (lD13 : K.lookup d13 = some ⟨ek13, eo13, .func (PySem.W.fnOf "between" "between" (defArgs sBetween) (defBody sBetween) (defScope sBetween) .none eV13 ed13 ep13 ea13 ec13 et13), es13⟩)
    (cD13 : PySem.W.codeIn K ec13 "between" = true)
    (kD13 : PySem.W.keepIn K (.ref d13) = true)
    (aD14 : PySem.W.nsIn K mainGlobals "mean_place" = some (some (.ref d14)))
    (lD14 : K.lookup d14 = some ⟨ek14, eo14, .func (PySem.W.fnOf "mean_place" "mean_place" (defArgs sMeanPlace) (defBody sMeanPlace) (defScope sMeanPlace) .none eV14 ed14 ep14 ea14 ec14 et14), es14⟩)
    (cD14 : PySem.W.codeIn K ec14 "mean_place" = true)
    (kD14 : PySem.W.keepIn K (.ref d14) = true)
    (aD15 : PySem.W.nsIn K mainGlobals "quotient_of" = some (some (.ref d15)))
    (lD15 : K.lookup d15 = some ⟨ek15, eo15, .func (PySem.W.fnOf "quotient_of" "quotient_of" (defArgs sQuotientOf) (defBody sQuotientOf) (defScope sQuotientOf) .none eV15 ed15 ep15 ea15 ec15 et15), es15⟩)
    (cD15 : PySem.W.codeIn K ec15 "quotient_of" = true)
    (kD15 : PySem.W.keepIn K (.ref d15) = true)
    (aD16 : PySem.W.nsIn K mainGlobals "demand_both" = some (some (.ref d16)))
    (lD16 : K.lookup d16 = some ⟨ek16, eo16, .func (PySem.W.fnOf "demand_both" "demand_both" (defArgs sDemandBoth) (defBody sDemandBoth) (defScope sDemandBoth) .none eV16 ed16 ep16 ea16 ec16 et16), es16⟩)
    (cD16 : PySem.W.codeIn K ec16 "demand_both" = true)
    (kD16 : PySem.W.keepIn K (.ref d16) = true)
    (aD17 : PySem.W.nsIn K mainGlobals "plus" = some (some (.ref d17)))
    (lD17 : K.lookup d17 = some ⟨ek17, eo17, .func (PySem.W.fnOf "plus" "plus" (defArgs sPlus) (defBody sPlus) (defScope sPlus) .none eV17 ed17 ep17 ea17 ec17 et17), es17⟩)
    (cD17 : PySem.W.codeIn K ec17 "plus" = true)
    (kD17 : PySem.W.keepIn K (.ref d17) = true)
    (aD18 : PySem.W.nsIn K mainGlobals "minus" = some (some (.ref d18)))
    (lD18 : K.lookup d18 = some ⟨ek18, eo18, .func (PySem.W.fnOf "minus" "minus" (defArgs sMinus) (defBody sMinus) (defScope sMinus) .none eV18 ed18 ep18 ea18 ec18 et18), es18⟩)
    (cD18 : PySem.W.codeIn K ec18 "minus" = true)
    (kD18 : PySem.W.keepIn K (.ref d18) = true)
    (aD19 : PySem.W.nsIn K mainGlobals "times" = some (some (.ref d19)))
    (lD19 : K.lookup d19 = some ⟨ek19, eo19, .func (PySem.W.fnOf "times" "times" (defArgs sTimes) (defBody sTimes) (defScope sTimes) .none eV19 ed19 ep19 ea19 ec19 et19), es19⟩)
    (cD19 : PySem.W.codeIn K ec19 "times" = true)
    (kD19 : PySem.W.keepIn K (.ref d19) = true)
    (aD20 : PySem.W.nsIn K mainGlobals "over" = some (some (.ref d20)))
    (lD20 : K.lookup d20 = some ⟨ek20, eo20, .func (PySem.W.fnOf "over" "over" (defArgs sOver) (defBody sOver) (defScope sOver) .none eV20 ed20 ep20 ea20 ec20 et20), es20⟩)
    (cD20 : PySem.W.codeIn K ec20 "over" = true)
    (kD20 : PySem.W.keepIn K (.ref d20) = true)
    (aD21 : PySem.W.nsIn K mainGlobals "less" = some (some (.ref d21)))
    (lD21 : K.lookup d21 = some ⟨ek21, eo21, .func (PySem.W.fnOf "less" "less" (defArgs sLess) (defBody sLess) (defScope sLess) .none eV21 ed21 ep21 ea21 ec21 et21), es21⟩)
    (cD21 : PySem.W.codeIn K ec21 "less" = true)
    (kD21 : PySem.W.keepIn K (.ref d21) = true)
    (aD22 : PySem.W.nsIn K mainGlobals "_law_draw" = some (some (.ref d22)))
    (lD22 : K.lookup d22 = some ⟨ek22, eo22, .func (PySem.W.fnOf "_law_draw" "_law_draw" (defArgs sDrawL) (defBody sDrawL) (defScope sDrawL) .none eV22 ed22 ep22 ea22 ec22 et22), es22⟩)
    (cD22 : PySem.W.codeIn K ec22 "_law_draw" = true)
    (kD22 : PySem.W.keepIn K (.ref d22) = true)
    (aD23 : PySem.W.nsIn K mainGlobals "_law_gcd" = some (some (.ref d23)))
    (lD23 : K.lookup d23 = some ⟨ek23, eo23, .func (PySem.W.fnOf "_law_gcd" "_law_gcd" (defArgs sGcdL) (defBody sGcdL) (defScope sGcdL) .none eV23 ed23 ep23 ea23 ec23 et23), es23⟩)
    (cD23 : PySem.W.codeIn K ec23 "_law_gcd" = true)
    (kD23 : PySem.W.keepIn K (.ref d23) = true)
    (aD24 : PySem.W.nsIn K mainGlobals "_law_whole" = some (some (.ref d24)))
    (lD24 : K.lookup d24 = some ⟨ek24, eo24, .func (PySem.W.fnOf "_law_whole" "_law_whole" (defArgs sWholeL) (defBody sWholeL) (defScope sWholeL) .none eV24 ed24 ep24 ea24 ec24 et24), es24⟩)
    (cD24 : PySem.W.codeIn K ec24 "_law_whole" = true)
    (kD24 : PySem.W.keepIn K (.ref d24) = true)
    (aD25 : PySem.W.nsIn K mainGlobals "_law_wholes" = some (some (.ref d25)))
    (lD25 : K.lookup d25 = some ⟨ek25, eo25, .func (PySem.W.fnOf "_law_wholes" "_law_wholes" (defArgs sWholesL) (defBody sWholesL) (defScope sWholesL) .none eV25 ed25 ep25 ea25 ec25 et25), es25⟩)
    (cD25 : PySem.W.codeIn K ec25 "_law_wholes" = true)
    (kD25 : PySem.W.keepIn K (.ref d25) = true)
    (aD26 : PySem.W.nsIn K mainGlobals "_law_lowest" = some (some (.ref d26)))
    (lD26 : K.lookup d26 = some ⟨ek26, eo26, .func (PySem.W.fnOf "_law_lowest" "_law_lowest" (defArgs sLowestL) (defBody sLowestL) (defScope sLowestL) .none eV26 ed26 ep26 ea26 ec26 et26), es26⟩)
    (cD26 : PySem.W.codeIn K ec26 "_law_lowest" = true)
    (kD26 : PySem.W.keepIn K (.ref d26) = true)
    (aD27 : PySem.W.nsIn K mainGlobals "_law_truth" = some (some (.ref d27)))
    (lD27 : K.lookup d27 = some ⟨ek27, eo27, .func (PySem.W.fnOf "_law_truth" "_law_truth" (defArgs sTruthL) (defBody sTruthL) (defScope sTruthL) .none eV27 ed27 ep27 ea27 ec27 et27), es27⟩)
    (cD27 : PySem.W.codeIn K ec27 "_law_truth" = true)
    (kD27 : PySem.W.keepIn K (.ref d27) = true)
    (aD28 : PySem.W.nsIn K mainGlobals "_law_stands" = some (some (.ref d28)))
    (lD28 : K.lookup d28 = some ⟨ek28, eo28, .func (PySem.W.fnOf "_law_stands" "_law_stands" (defArgs sStandsL) (defBody sStandsL) (defScope sStandsL) .none eV28 ed28 ep28 ea28 ec28 et28), es28⟩)
    (cD28 : PySem.W.codeIn K ec28 "_law_stands" = true)
    (kD28 : PySem.W.keepIn K (.ref d28) = true)
    (aD29 : PySem.W.nsIn K mainGlobals "_law_lies" = some (some (.ref d29)))
    (lD29 : K.lookup d29 = some ⟨ek29, eo29, .func (PySem.W.fnOf "_law_lies" "_law_lies" (defArgs sLiesL) (defBody sLiesL) (defScope sLiesL) .none eV29 ed29 ep29 ea29 ec29 et29), es29⟩)
    (cD29 : PySem.W.codeIn K ec29 "_law_lies" = true)
    (kD29 : PySem.W.keepIn K (.ref d29) = true)
    (aD30 : PySem.W.nsIn K mainGlobals "_law_number" = some (some (.ref d30)))
    (lD30 : K.lookup d30 = some ⟨ek30, eo30, .func (PySem.W.fnOf "_law_number" "_law_number" (defArgs sNumberL) (defBody sNumberL) (defScope sNumberL) .none eV30 ed30 ep30 ea30 ec30 et30), es30⟩)
    (cD30 : PySem.W.codeIn K ec30 "_law_number" = true)
    (kD30 : PySem.W.keepIn K (.ref d30) = true)
    (aD31 : PySem.W.nsIn K mainGlobals "_law_pair" = some (some (.ref d31)))
    (lD31 : K.lookup d31 = some ⟨ek31, eo31, .func (PySem.W.fnOf "_law_pair" "_law_pair" (defArgs sPairL) (defBody sPairL) (defScope sPairL) .none eV31 ed31 ep31 ea31 ec31 et31), es31⟩)
    (cD31 : PySem.W.codeIn K ec31 "_law_pair" = true)
    (kD31 : PySem.W.keepIn K (.ref d31) = true)
    (aD32 : PySem.W.nsIn K mainGlobals "_law_thing" = some (some (.ref d32)))
    (lD32 : K.lookup d32 = some ⟨ek32, eo32, .func (PySem.W.fnOf "_law_thing" "_law_thing" (defArgs sThingL) (defBody sThingL) (defScope sThingL) .none eV32 ed32 ep32 ea32 ec32 et32), es32⟩)
    (cD32 : PySem.W.codeIn K ec32 "_law_thing" = true)
    (kD32 : PySem.W.keepIn K (.ref d32) = true)
    (aD33 : PySem.W.nsIn K mainGlobals "_law_known" = some (some (.ref d33)))
    (lD33 : K.lookup d33 = some ⟨ek33, eo33, .func (PySem.W.fnOf "_law_known" "_law_known" (defArgs sKnownL) (defBody sKnownL) (defScope sKnownL) .none eV33 ed33 ep33 ea33 ec33 et33), es33⟩)
    (cD33 : PySem.W.codeIn K ec33 "_law_known" = true)
    (kD33 : PySem.W.keepIn K (.ref d33) = true)
    (aD34 : PySem.W.nsIn K mainGlobals "_law_placed" = some (some (.ref d34)))
    (lD34 : K.lookup d34 = some ⟨ek34, eo34, .func (PySem.W.fnOf "_law_placed" "_law_placed" (defArgs sPlacedL) (defBody sPlacedL) (defScope sPlacedL) .none eV34 ed34 ep34 ea34 ec34 et34), es34⟩)
    (cD34 : PySem.W.codeIn K ec34 "_law_placed" = true)
    (kD34 : PySem.W.keepIn K (.ref d34) = true)
    (aD35 : PySem.W.nsIn K mainGlobals "_law_kinds" = some (some (.ref d35)))
    (lD35 : K.lookup d35 = some ⟨ek35, eo35, .func (PySem.W.fnOf "_law_kinds" "_law_kinds" (defArgs sKindsL) (defBody sKindsL) (defScope sKindsL) .none eV35 ed35 ep35 ea35 ec35 et35), es35⟩)
    (cD35 : PySem.W.codeIn K ec35 "_law_kinds" = true)
    (kD35 : PySem.W.keepIn K (.ref d35) = true)
    (aD36 : PySem.W.nsIn K mainGlobals "_law_two" = some (some (.ref d36)))
    (lD36 : K.lookup d36 = some ⟨ek36, eo36, .func (PySem.W.fnOf "_law_two" "_law_two" (defArgs sTwoL) (defBody sTwoL) (defScope sTwoL) .none eV36 ed36 ep36 ea36 ec36 et36), es36⟩)
    (cD36 : PySem.W.codeIn K ec36 "_law_two" = true)
    (kD36 : PySem.W.keepIn K (.ref d36) = true)
    (aD37 : PySem.W.nsIn K mainGlobals "_law_sums" = some (some (.ref d37)))
    (lD37 : K.lookup d37 = some ⟨ek37, eo37, .func (PySem.W.fnOf "_law_sums" "_law_sums" (defArgs sSumsL) (defBody sSumsL) (defScope sSumsL) .none eV37 ed37 ep37 ea37 ec37 et37), es37⟩)
    (cD37 : PySem.W.codeIn K ec37 "_law_sums" = true)
    (kD37 : PySem.W.keepIn K (.ref d37) = true)
    (aD38 : PySem.W.nsIn K mainGlobals "_law_row" = some (some (.ref d38)))
    (lD38 : K.lookup d38 = some ⟨ek38, eo38, .func (PySem.W.fnOf "_law_row" "_law_row" (defArgs sRowL) (defBody sRowL) (defScope sRowL) .none eV38 ed38 ep38 ea38 ec38 et38), es38⟩)
    (cD38 : PySem.W.codeIn K ec38 "_law_row" = true)
    (kD38 : PySem.W.keepIn K (.ref d38) = true)
    (aD39 : PySem.W.nsIn K mainGlobals "_law_place" = some (some (.ref d39)))
    (lD39 : K.lookup d39 = some ⟨ek39, eo39, .func (PySem.W.fnOf "_law_place" "_law_place" (defArgs sPlaceL) (defBody sPlaceL) (defScope sPlaceL) .none eV39 ed39 ep39 ea39 ec39 et39), es39⟩)
    (cD39 : PySem.W.codeIn K ec39 "_law_place" = true)
    (kD39 : PySem.W.keepIn K (.ref d39) = true)
    (aD40 : PySem.W.nsIn K mainGlobals "_law_coordinate" = some (some (.ref d40)))
    (lD40 : K.lookup d40 = some ⟨ek40, eo40, .func (PySem.W.fnOf "_law_coordinate" "_law_coordinate" (defArgs sCoordinateL) (defBody sCoordinateL) (defScope sCoordinateL) .none eV40 ed40 ep40 ea40 ec40 et40), es40⟩)
    (cD40 : PySem.W.codeIn K ec40 "_law_coordinate" = true)
    (kD40 : PySem.W.keepIn K (.ref d40) = true)
    (aD41 : PySem.W.nsIn K mainGlobals "_law_places" = some (some (.ref d41)))
    (lD41 : K.lookup d41 = some ⟨ek41, eo41, .func (PySem.W.fnOf "_law_places" "_law_places" (defArgs sPlacesL) (defBody sPlacesL) (defScope sPlacesL) .none eV41 ed41 ep41 ea41 ec41 et41), es41⟩)
    (cD41 : PySem.W.codeIn K ec41 "_law_places" = true)
    (kD41 : PySem.W.keepIn K (.ref d41) = true)
    (aD42 : PySem.W.nsIn K mainGlobals "_law_note" = some (some (.ref d42)))
    (lD42 : K.lookup d42 = some ⟨ek42, eo42, .func (PySem.W.fnOf "_law_note" "_law_note" (defArgs sNoteL) (defBody sNoteL) (defScope sNoteL) .none eV42 ed42 ep42 ea42 ec42 et42), es42⟩)
    (cD42 : PySem.W.codeIn K ec42 "_law_note" = true)
    (kD42 : PySem.W.keepIn K (.ref d42) = true)
    (aD43 : PySem.W.nsIn K mainGlobals "_law_told" = some (some (.ref d43)))
    (lD43 : K.lookup d43 = some ⟨ek43, eo43, .func (PySem.W.fnOf "_law_told" "_law_told" (defArgs sToldL) (defBody sToldL) (defScope sToldL) .none eV43 ed43 ep43 ea43 ec43 et43), es43⟩)
    (cD43 : PySem.W.codeIn K ec43 "_law_told" = true)
    (kD43 : PySem.W.keepIn K (.ref d43) = true)
    (aD44 : PySem.W.nsIn K mainGlobals "_law_told_there" = some (some (.ref d44)))
    (lD44 : K.lookup d44 = some ⟨ek44, eo44, .func (PySem.W.fnOf "_law_told_there" "_law_told_there" (defArgs sToldThereL) (defBody sToldThereL) (defScope sToldThereL) .none eV44 ed44 ep44 ea44 ec44 et44), es44⟩)
    (cD44 : PySem.W.codeIn K ec44 "_law_told_there" = true)
    (kD44 : PySem.W.keepIn K (.ref d44) = true)
    (aD45 : PySem.W.nsIn K mainGlobals "_law_refused" = some (some (.ref d45)))
    (lD45 : K.lookup d45 = some ⟨ek45, eo45, .func (PySem.W.fnOf "_law_refused" "_law_refused" (defArgs sRefusedL) (defBody sRefusedL) (defScope sRefusedL) .none eV45 ed45 ep45 ea45 ec45 et45), es45⟩)
    (cD45 : PySem.W.codeIn K ec45 "_law_refused" = true)
    (kD45 : PySem.W.keepIn K (.ref d45) = true)
    (aD46 : PySem.W.nsIn K mainGlobals "_law_spoilt" = some (some (.ref d46)))
    (lD46 : K.lookup d46 = some ⟨ek46, eo46, .func (PySem.W.fnOf "_law_spoilt" "_law_spoilt" (defArgs sSpoiltL) (defBody sSpoiltL) (defScope sSpoiltL) .none eV46 ed46 ep46 ea46 ec46 et46), es46⟩)
    (cD46 : PySem.W.codeIn K ec46 "_law_spoilt" = true)
    (kD46 : PySem.W.keepIn K (.ref d46) = true)
    (aD47 : PySem.W.nsIn K mainGlobals "_law_refused_there" = some (some (.ref d47)))
    (lD47 : K.lookup d47 = some ⟨ek47, eo47, .func (PySem.W.fnOf "_law_refused_there" "_law_refused_there" (defArgs sRefusedThereL) (defBody sRefusedThereL) (defScope sRefusedThereL) .none eV47 ed47 ep47 ea47 ec47 et47), es47⟩)
    (cD47 : PySem.W.codeIn K ec47 "_law_refused_there" = true)
    (kD47 : PySem.W.keepIn K (.ref d47) = true)
    (aD48 : PySem.W.nsIn K mainGlobals "law" = some (some (.ref d48)))
    (lD48 : K.lookup d48 = some ⟨ek48, eo48, .func (PySem.W.fnOf "law" "law" (defArgs slaw) (defBody slaw) (defScope slaw) .none eV48 ed48 ep48 ea48 ec48 et48), es48⟩)
    (cD48 : PySem.W.codeIn K ec48 "law" = true)
    (kD48 : PySem.W.keepIn K (.ref d48) = true)
    (n_int : PySem.W.nsIn K mainGlobals "int" = some none)
    (n_abs : PySem.W.nsIn K mainGlobals "abs" = some none)
    (n_len : PySem.W.nsIn K mainGlobals "len" = some none)
    (n_range : PySem.W.nsIn K mainGlobals "range" = some none)
    (n_tuple : PySem.W.nsIn K mainGlobals "tuple" = some none)
    (n_list : PySem.W.nsIn K mainGlobals "list" = some none)
    (n_bool : PySem.W.nsIn K mainGlobals "bool" = some none)
    (n_str : PySem.W.nsIn K mainGlobals "str" = some none)
    (n_all : PySem.W.nsIn K mainGlobals "all" = some none)
    (n_isinstance : PySem.W.nsIn K mainGlobals "isinstance" = some none)
    (n_ValueError : PySem.W.nsIn K mainGlobals "ValueError" = some none)
    (n_max : PySem.W.nsIn K mainGlobals "max" = some none)
    (n_sum : PySem.W.nsIn K mainGlobals "sum" = some none)
    (n_reversed : PySem.W.nsIn K mainGlobals "reversed" = some none)
    (n_gcd : PySem.W.nsIn K mainGlobals "gcd" = some (some (.builtin "math.gcd")))
    (cB : clsB K CN IN ["word", "at"] = true)
    (kB : (decide (PySem.W.kitOne K (.ref CN) (.ref SH) = some true) && (decide (PySem.W.kitOne K (.ref CN) (.type "ValueError") = some true) && decide (PySem.W.exmOne K (.ref CN) (.ref CN) = some true))) = true) :
    ∃ fd : FuncData, (∀ (s : Shared) (v : Value), BindsTo s fd ⟨[v], []⟩ [("script", v)]) ∧ ∀ base : Heap, K.In base → base.Ns mainGlobals mg → FnOk l.prog w K mg base CX0 8 fa fd ["script"] (spLaw K) := by
  have e := hfa.symm.trans (PySem.W.mg_of X G aD48)
  cases e
  refine ⟨PySem.W.fnOf "law" "law" (defArgs slaw) (defBody slaw) (defScope slaw) .none eV48 ed48 ep48 ea48 ec48 et48, fun s v => .of_eq rfl, fun base _ _ => ?_⟩
  have T : Tx mg := ⟨PySem.W.mg_none_of X G n_int, PySem.W.mg_none_of X G n_abs, PySem.W.mg_none_of X G n_len, PySem.W.mg_none_of X G n_range, PySem.W.mg_none_of X G n_tuple, PySem.W.mg_none_of X G n_list, PySem.W.mg_none_of X G n_bool, PySem.W.mg_none_of X G n_str, PySem.W.mg_none_of X G n_all, PySem.W.mg_none_of X G n_isinstance, PySem.W.mg_none_of X G n_ValueError, PySem.W.mg_none_of X G n_max, PySem.W.mg_none_of X G n_sum, PySem.W.mg_none_of X G n_reversed, PySem.W.mg_of X G n_gcd⟩
  have FI0 := fun_mk (st := siNotUsable) lI0 cI0 kI0
  have bI0 := FI0.binds (ps := ("self" : Str) :: ["word", "at"]) fun _ _ _ _ _ _ us hl => match us, hl with | [_, _, _], _ => rfl
  have L : Kl l.prog w K mg base "NotUsable" CN ["word", "at"] := mk_kl (PySem.W.mg_of X G aC0) ⟨_, _, _, _, _, _, _, _, _, _, _, _, _, _, _, xL0, bm0_⟩ (clsB_ok cB) (fun o => iniNotUsable FI0 o ((clsB_ok cB).no _ (by exact List.mem_cons_self)) ((clsB_ok cB).no _ (by exact List.mem_cons_of_mem _ List.mem_cons_self))) bI0 (fun s u0 ws _ hl => match ws, hl with | [_, _], _ => .of_eq rfl)
  have q := ba kB
  have C : Nk l.prog w K mg base CN SH ME := ⟨L, PySem.W.mg_of X G aSH, PySem.W.mg_of X G aME, of_decide_eq_true q.1, of_decide_eq_true (ba q.2).1, of_decide_eq_true (ba q.2).2⟩
  have FD22 := fun_mk (st := sDrawL) lD22 cD22 kD22
  have r22 : mg "_law_draw" = some (.ref d22) ∧ PySem.W.keepIn K (.ref d22) = true ∧ Binds K _ ["tape", "many"] [] := ⟨PySem.W.mg_of X G aD22, kD22, FD22.binds (ps := ["tape", "many"]) fun _ _ _ _ _ _ us hl => match us, hl with | [_, _], _ => rfl⟩
  have DDrawL : Dn l.prog w K mg base CX0 "_law_draw" 1 ["tape", "many"] spDw := ⟨_, _, fn_imp dw_dr (okDrawL FD22 T), r22⟩
  have FD30 := fun_mk (st := sNumberL) lD30 cD30 kD30
  have r30 : mg "_law_number" = some (.ref d30) ∧ PySem.W.keepIn K (.ref d30) = true ∧ Binds K _ ["tape"] [] := ⟨PySem.W.mg_of X G aD30, kD30, FD30.binds (ps := ["tape"]) fun _ _ _ _ _ _ us hl => match us, hl with | [_], _ => rfl⟩
  have DNumberL : Dn l.prog w K mg base _ "_law_number" _ ["tape"] _ := ⟨_, _, okNumberL FD30 T DDrawL, r30⟩
  have FD31 := fun_mk (st := sPairL) lD31 cD31 kD31
  have r31 : mg "_law_pair" = some (.ref d31) ∧ PySem.W.keepIn K (.ref d31) = true ∧ Binds K _ ["tape"] [] := ⟨PySem.W.mg_of X G aD31, kD31, FD31.binds (ps := ["tape"]) fun _ _ _ _ _ _ us hl => match us, hl with | [_], _ => rfl⟩
  have DPairL : Dn l.prog w K mg base _ "_law_pair" _ ["tape"] _ := ⟨_, _, okPairL FD31 T DDrawL DNumberL, r31⟩
  have FD23 := fun_mk (st := sGcdL) lD23 cD23 kD23
  have r23 : mg "_law_gcd" = some (.ref d23) ∧ PySem.W.keepIn K (.ref d23) = true ∧ Binds K _ ["one", "other"] [] := ⟨PySem.W.mg_of X G aD23, kD23, FD23.binds (ps := ["one", "other"]) fun _ _ _ _ _ _ us hl => match us, hl with | [_, _], _ => rfl⟩
  have DGcdL : Dn l.prog w K mg base _ "_law_gcd" _ ["one", "other"] _ := ⟨_, _, okGcdL FD23 T , r23⟩
  have FD26 := fun_mk (st := sLowestL) lD26 cD26 kD26
  have r26 : mg "_law_lowest" = some (.ref d26) ∧ PySem.W.keepIn K (.ref d26) = true ∧ Binds K _ ["top", "bottom"] [] := ⟨PySem.W.mg_of X G aD26, kD26, FD26.binds (ps := ["top", "bottom"]) fun _ _ _ _ _ _ us hl => match us, hl with | [_, _], _ => rfl⟩
  have DLowestL : Dn l.prog w K mg base _ "_law_lowest" _ ["top", "bottom"] _ := ⟨_, _, okLowestL FD26 T DGcdL, r26⟩
  have FD32 := fun_mk (st := sThingL) lD32 cD32 kD32
  have r32 : mg "_law_thing" = some (.ref d32) ∧ PySem.W.keepIn K (.ref d32) = true ∧ Binds K _ ["tape", "dims"] [] := ⟨PySem.W.mg_of X G aD32, kD32, FD32.binds (ps := ["tape", "dims"]) fun _ _ _ _ _ _ us hl => match us, hl with | [_, _], _ => rfl⟩
  have DThingL : Dn l.prog w K mg base _ "_law_thing" _ ["tape", "dims"] _ := ⟨_, _, okThingL FD32 T DDrawL DPairL DLowestL, r32⟩
  have FD27 := fun_mk (st := sTruthL) lD27 cD27 kD27
  have r27 : mg "_law_truth" = some (.ref d27) ∧ PySem.W.keepIn K (.ref d27) = true ∧ Binds K _ ["got", "due"] [] := ⟨PySem.W.mg_of X G aD27, kD27, FD27.binds (ps := ["got", "due"]) fun _ _ _ _ _ _ us hl => match us, hl with | [_, _], _ => rfl⟩
  have DTruthL : Dn l.prog w K mg base _ "_law_truth" _ ["got", "due"] _ := ⟨_, _, okTruthL FD27 T , r27⟩
  have FD24 := fun_mk (st := sWholeL) lD24 cD24 kD24
  have r24 : mg "_law_whole" = some (.ref d24) ∧ PySem.W.keepIn K (.ref d24) = true ∧ Binds K _ ["thing"] [] := ⟨PySem.W.mg_of X G aD24, kD24, FD24.binds (ps := ["thing"]) fun _ _ _ _ _ _ us hl => match us, hl with | [_], _ => rfl⟩
  have DWholeM : Dm l.prog w K mg base "_law_whole" 1 ["thing"] (fun _ => spIsInt) := ⟨_, _, okWholeL FD24 T, r24⟩
  have DWholeL : Dn l.prog w K mg base CX0 "_law_whole" 1 ["thing"] spIsInt := DWholeM.dn
  have FD25 := fun_mk (st := sWholesL) lD25 cD25 kD25
  have r25 : mg "_law_wholes" = some (.ref d25) ∧ PySem.W.keepIn K (.ref d25) = true ∧ Binds K _ ["thing", "many"] [] := ⟨PySem.W.mg_of X G aD25, kD25, FD25.binds (ps := ["thing", "many"]) fun _ _ _ _ _ _ us hl => match us, hl with | [_, _], _ => rfl⟩
  have DWholesL : Dn l.prog w K mg base _ "_law_wholes" _ ["thing", "many"] _ := ⟨_, _, okWholesL FD25 T DWholeL, r25⟩
  have FD33 := fun_mk (st := sKnownL) lD33 cD33 kD33
  have r33 : mg "_law_known" = some (.ref d33) ∧ PySem.W.keepIn K (.ref d33) = true ∧ Binds K _ ["thing"] [] := ⟨PySem.W.mg_of X G aD33, kD33, FD33.binds (ps := ["thing"]) fun _ _ _ _ _ _ us hl => match us, hl with | [_], _ => rfl⟩
  have DKnownL : Dn l.prog w K mg base _ "_law_known" _ ["thing"] _ := ⟨_, _, okKnownL FD33 T DGcdL DWholesL, r33⟩
  have FD34 := fun_mk (st := sPlacedL) lD34 cD34 kD34
  have r34 : mg "_law_placed" = some (.ref d34) ∧ PySem.W.keepIn K (.ref d34) = true ∧ Binds K _ ["dims", "thing"] [] := ⟨PySem.W.mg_of X G aD34, kD34, FD34.binds (ps := ["dims", "thing"]) fun _ _ _ _ _ _ us hl => match us, hl with | [_, _], _ => rfl⟩
  have DPlacedL : Dn l.prog w K mg base _ "_law_placed" _ ["dims", "thing"] _ := ⟨_, _, okPlacedL FD34 T DGcdL DWholesL, r34⟩
  have FD3 := fun_mk (st := sIsInteger) lD3 cD3 kD3
  have r3 : mg "is_integer" = some (.ref d3) ∧ PySem.W.keepIn K (.ref d3) = true ∧ Binds K _ ["thing"] [] := ⟨PySem.W.mg_of X G aD3, kD3, FD3.binds (ps := ["thing"]) fun _ _ _ _ _ _ us hl => match us, hl with | [_], _ => rfl⟩
  have DIsInteger : Dn l.prog w K mg base _ "is_integer" _ ["thing"] _ := ⟨_, _, okIsInteger FD3 T , r3⟩
  have KDIsInteger : Dk l.prog w K mg base _ "is_integer" _ ["thing"] _ := ⟨_, _, okIsInteger FD3 T , PySem.W.mg_of X G aD3, kD3, fun s ws _ hl => match ws, hl with | [_], _ => .of_eq rfl⟩
  have FD5 := fun_mk (st := sIsRow) lD5 cD5 kD5
  have r5 : mg "is_row" = some (.ref d5) ∧ PySem.W.keepIn K (.ref d5) = true ∧ Binds K _ ["many", "thing"] [] := ⟨PySem.W.mg_of X G aD5, kD5, FD5.binds (ps := ["many", "thing"]) fun _ _ _ _ _ _ us hl => match us, hl with | [_, _], _ => rfl⟩
  have DIsRow : Dn l.prog w K mg base _ "is_row" _ ["many", "thing"] _ := ⟨_, _, okIsRow FD5 T DIsInteger, r5⟩
  have FD1 := fun_mk (st := sCommonDivisor) lD1 cD1 kD1
  have r1 : mg "common_divisor" = some (.ref d1) ∧ PySem.W.keepIn K (.ref d1) = true ∧ Binds K _ ["numbers"] [] := ⟨PySem.W.mg_of X G aD1, kD1, FD1.binds (ps := ["numbers"]) fun _ _ _ _ _ _ us hl => match us, hl with | [_], _ => rfl⟩
  have DCommonDivisor : Dn l.prog w K mg base _ "common_divisor" _ ["numbers"] _ := ⟨_, _, okCommonDivisor FD1 T , r1⟩
  have FD6 := fun_mk (st := sIsLowest) lD6 cD6 kD6
  have r6 : mg "is_lowest" = some (.ref d6) ∧ PySem.W.keepIn K (.ref d6) = true ∧ Binds K _ ["thing"] [] := ⟨PySem.W.mg_of X G aD6, kD6, FD6.binds (ps := ["thing"]) fun _ _ _ _ _ _ us hl => match us, hl with | [_], _ => rfl⟩
  have DIsLowest : Dn l.prog w K mg base _ "is_lowest" _ ["thing"] _ := ⟨_, _, okIsLowest FD6 T DCommonDivisor, r6⟩
  have FD7 := fun_mk (st := sIsQuotient) lD7 cD7 kD7
  have r7 : mg "is_quotient" = some (.ref d7) ∧ PySem.W.keepIn K (.ref d7) = true ∧ Binds K _ ["thing"] [] := ⟨PySem.W.mg_of X G aD7, kD7, FD7.binds (ps := ["thing"]) fun _ _ _ _ _ _ us hl => match us, hl with | [_], _ => rfl⟩
  have DIsQuotient : Dn l.prog w K mg base _ "is_quotient" _ ["thing"] _ := ⟨_, _, okIsQuotient FD7 T DIsRow DIsLowest, r7⟩
  have KDIsQuotient : Dk l.prog w K mg base _ "is_quotient" _ ["thing"] _ := ⟨_, _, okIsQuotient FD7 T DIsRow DIsLowest, PySem.W.mg_of X G aD7, kD7, fun s ws _ hl => match ws, hl with | [_], _ => .of_eq rfl⟩
  have FD4 := fun_mk (st := sIsNumber) lD4 cD4 kD4
  have r4 : mg "is_number" = some (.ref d4) ∧ PySem.W.keepIn K (.ref d4) = true ∧ Binds K _ ["thing"] [] := ⟨PySem.W.mg_of X G aD4, kD4, FD4.binds (ps := ["thing"]) fun _ _ _ _ _ _ us hl => match us, hl with | [_], _ => rfl⟩
  have DIsNumber : Dn l.prog w K mg base _ "is_number" _ ["thing"] _ := ⟨_, _, okIsNumber FD4 T DIsInteger, r4⟩
  have KDIsNumber : Dk l.prog w K mg base _ "is_number" _ ["thing"] _ := ⟨_, _, okIsNumber FD4 T DIsInteger, PySem.W.mg_of X G aD4, kD4, fun s ws _ hl => match ws, hl with | [_], _ => .of_eq rfl⟩
  have FD9 := fun_mk (st := sIsPlace) lD9 cD9 kD9
  have r9 : mg "is_place" = some (.ref d9) ∧ PySem.W.keepIn K (.ref d9) = true ∧ Binds K _ ["space", "thing"] [] := ⟨PySem.W.mg_of X G aD9, kD9, FD9.binds (ps := ["space", "thing"]) fun _ _ _ _ _ _ us hl => match us, hl with | [_, _], _ => rfl⟩
  have DIsPlace : Dn l.prog w K mg base _ "is_place" _ ["space", "thing"] _ := ⟨_, _, okIsPlace FD9 T DIsRow DIsLowest, r9⟩
  have KDIsPlace : Dk l.prog w K mg base _ "is_place" _ ["space", "thing"] _ := ⟨_, _, okIsPlace FD9 T DIsRow DIsLowest, PySem.W.mg_of X G aD9, kD9, fun s ws _ hl => match ws, hl with | [_, _], _ => .of_eq rfl⟩
  have FD35 := fun_mk (st := sKindsL) lD35 cD35 kD35
  have r35 : mg "_law_kinds" = some (.ref d35) ∧ PySem.W.keepIn K (.ref d35) = true ∧ Binds K _ ["tape", "space"] [] := ⟨PySem.W.mg_of X G aD35, kD35, FD35.binds (ps := ["tape", "space"]) fun _ _ _ _ _ _ us hl => match us, hl with | [_, _], _ => rfl⟩
  have DKindsL : Dn l.prog w K mg base _ "_law_kinds" _ ["tape", "space"] _ := ⟨_, _, okKindsL FD35 T DThingL DTruthL DKnownL DPlacedL DWholeL KDIsInteger KDIsQuotient KDIsNumber KDIsPlace, r35⟩
  have FD0 := fun_mk (st := sDemand) lD0 cD0 kD0
  have r0 : mg "demand" = some (.ref d0) ∧ PySem.W.keepIn K (.ref d0) = true ∧ Binds K _ ["fits", "word"] [] := ⟨PySem.W.mg_of X G aD0, kD0, FD0.binds (ps := ["fits", "word"]) fun _ _ _ _ _ _ us hl => match us, hl with | [_, _], _ => rfl⟩
  have DDemand : Dn l.prog w K mg base _ "demand" _ ["fits", "word"] _ := ⟨_, _, okDemand FD0 T L, r0⟩
  have FD2 := fun_mk (st := sLowestTerms) lD2 cD2 kD2
  have r2 : mg "lowest_terms" = some (.ref d2) ∧ PySem.W.keepIn K (.ref d2) = true ∧ Binds K _ ["numbers"] [] := ⟨PySem.W.mg_of X G aD2, kD2, FD2.binds (ps := ["numbers"]) fun _ _ _ _ _ _ us hl => match us, hl with | [_], _ => rfl⟩
  have DLowestTerms : Dn l.prog w K mg base _ "lowest_terms" _ ["numbers"] _ := ⟨_, _, okLowestTerms FD2 T DCommonDivisor, r2⟩
  have FD15 := fun_mk (st := sQuotientOf) lD15 cD15 kD15
  have r15 : mg "quotient_of" = some (.ref d15) ∧ PySem.W.keepIn K (.ref d15) = true ∧ Binds K _ ["top", "bottom"] [] := ⟨PySem.W.mg_of X G aD15, kD15, FD15.binds (ps := ["top", "bottom"]) fun _ _ _ _ _ _ us hl => match us, hl with | [_, _], _ => rfl⟩
  have DQuotientOf : Dn l.prog w K mg base _ "quotient_of" _ ["top", "bottom"] _ := ⟨_, _, okQuotientOf FD15 T DDemand DIsInteger DLowestTerms, r15⟩
  have KDQuotientOf : Dk l.prog w K mg base _ "quotient_of" _ ["top", "bottom"] _ := ⟨_, _, okQuotientOf FD15 T DDemand DIsInteger DLowestTerms, PySem.W.mg_of X G aD15, kD15, fun s ws _ hl => match ws, hl with | [_, _], _ => .of_eq rfl⟩
  have FD28 := fun_mk (st := sStandsL) lD28 cD28 kD28
  have r28 : mg "_law_stands" = some (.ref d28) ∧ PySem.W.keepIn K (.ref d28) = true ∧ Binds K _ ["got", "top", "bottom"] [] := ⟨PySem.W.mg_of X G aD28, kD28, FD28.binds (ps := ["got", "top", "bottom"]) fun _ _ _ _ _ _ us hl => match us, hl with | [_, _, _], _ => rfl⟩
  have DStandsL : Dn l.prog w K mg base _ "_law_stands" _ ["got", "top", "bottom"] _ := ⟨_, _, okStandsL FD28 T DGcdL DWholesL, r28⟩
  have FD36 := fun_mk (st := sTwoL) lD36 cD36 kD36
  have r36 : mg "_law_two" = some (.ref d36) ∧ PySem.W.keepIn K (.ref d36) = true ∧ Binds K _ ["tape"] [] := ⟨PySem.W.mg_of X G aD36, kD36, FD36.binds (ps := ["tape"]) fun _ _ _ _ _ _ us hl => match us, hl with | [_], _ => rfl⟩
  have DTwoL : Dn l.prog w K mg base _ "_law_two" _ ["tape"] _ := ⟨_, _, okTwoL FD36 T DDrawL KDQuotientOf DPairL DLowestL DStandsL, r36⟩
  have FD42 := fun_mk (st := sNoteL) lD42 cD42 kD42
  have r42 : mg "_law_note" = some (.ref d42) ∧ PySem.W.keepIn K (.ref d42) = true ∧ Binds K _ ["e"] [] := ⟨PySem.W.mg_of X G aD42, kD42, FD42.binds (ps := ["e"]) fun _ _ _ _ _ _ us hl => match us, hl with | [_], _ => rfl⟩
  have DNoteM : Dm l.prog w K mg base "_law_note" 2 ["e"] (spNote CN) := ⟨_, _, okNoteL FD42 T C DWholeM, r42⟩
  have FD16 := fun_mk (st := sDemandBoth) lD16 cD16 kD16
  have r16 : mg "demand_both" = some (.ref d16) ∧ PySem.W.keepIn K (.ref d16) = true ∧ Binds K _ ["one", "other"] [] := ⟨PySem.W.mg_of X G aD16, kD16, FD16.binds (ps := ["one", "other"]) fun _ _ _ _ _ _ us hl => match us, hl with | [_, _], _ => rfl⟩
  have DDemandBoth : Dn l.prog w K mg base _ "demand_both" _ ["one", "other"] _ := ⟨_, _, okDemandBoth FD16 T DDemand DIsQuotient, r16⟩
  have FD17 := fun_mk (st := sPlus) lD17 cD17 kD17
  have r17 : mg "plus" = some (.ref d17) ∧ PySem.W.keepIn K (.ref d17) = true ∧ Binds K _ ["one", "other"] [] := ⟨PySem.W.mg_of X G aD17, kD17, FD17.binds (ps := ["one", "other"]) fun _ _ _ _ _ _ us hl => match us, hl with | [_, _], _ => rfl⟩
  have DPlus : Dn l.prog w K mg base _ "plus" _ ["one", "other"] _ := ⟨_, _, okPlus FD17 T DDemandBoth DQuotientOf, r17⟩
  have KDPlus : Dk l.prog w K mg base _ "plus" _ ["one", "other"] _ := ⟨_, _, okPlus FD17 T DDemandBoth DQuotientOf, PySem.W.mg_of X G aD17, kD17, fun s ws _ hl => match ws, hl with | [_, _], _ => .of_eq rfl⟩
  have FD18 := fun_mk (st := sMinus) lD18 cD18 kD18
  have r18 : mg "minus" = some (.ref d18) ∧ PySem.W.keepIn K (.ref d18) = true ∧ Binds K _ ["one", "other"] [] := ⟨PySem.W.mg_of X G aD18, kD18, FD18.binds (ps := ["one", "other"]) fun _ _ _ _ _ _ us hl => match us, hl with | [_, _], _ => rfl⟩
  have DMinus : Dn l.prog w K mg base _ "minus" _ ["one", "other"] _ := ⟨_, _, okMinus FD18 T DDemandBoth DQuotientOf, r18⟩
  have KDMinus : Dk l.prog w K mg base _ "minus" _ ["one", "other"] _ := ⟨_, _, okMinus FD18 T DDemandBoth DQuotientOf, PySem.W.mg_of X G aD18, kD18, fun s ws _ hl => match ws, hl with | [_, _], _ => .of_eq rfl⟩
  have FD19 := fun_mk (st := sTimes) lD19 cD19 kD19
  have r19 : mg "times" = some (.ref d19) ∧ PySem.W.keepIn K (.ref d19) = true ∧ Binds K _ ["one", "other"] [] := ⟨PySem.W.mg_of X G aD19, kD19, FD19.binds (ps := ["one", "other"]) fun _ _ _ _ _ _ us hl => match us, hl with | [_, _], _ => rfl⟩
  have DTimes : Dn l.prog w K mg base _ "times" _ ["one", "other"] _ := ⟨_, _, okTimes FD19 T DDemandBoth DQuotientOf, r19⟩
  have KDTimes : Dk l.prog w K mg base _ "times" _ ["one", "other"] _ := ⟨_, _, okTimes FD19 T DDemandBoth DQuotientOf, PySem.W.mg_of X G aD19, kD19, fun s ws _ hl => match ws, hl with | [_, _], _ => .of_eq rfl⟩
  have FD20 := fun_mk (st := sOver) lD20 cD20 kD20
  have r20 : mg "over" = some (.ref d20) ∧ PySem.W.keepIn K (.ref d20) = true ∧ Binds K _ ["one", "other"] [] := ⟨PySem.W.mg_of X G aD20, kD20, FD20.binds (ps := ["one", "other"]) fun _ _ _ _ _ _ us hl => match us, hl with | [_, _], _ => rfl⟩
  have DOver : Dn l.prog w K mg base _ "over" _ ["one", "other"] _ := ⟨_, _, okOver FD20 T DDemand DDemandBoth DQuotientOf, r20⟩
  have KDOver : Dk l.prog w K mg base _ "over" _ ["one", "other"] _ := ⟨_, _, okOver FD20 T DDemand DDemandBoth DQuotientOf, PySem.W.mg_of X G aD20, kD20, fun s ws _ hl => match ws, hl with | [_, _], _ => .of_eq rfl⟩
  have FD21 := fun_mk (st := sLess) lD21 cD21 kD21
  have r21 : mg "less" = some (.ref d21) ∧ PySem.W.keepIn K (.ref d21) = true ∧ Binds K _ ["one", "other"] [] := ⟨PySem.W.mg_of X G aD21, kD21, FD21.binds (ps := ["one", "other"]) fun _ _ _ _ _ _ us hl => match us, hl with | [_, _], _ => rfl⟩
  have DLess : Dn l.prog w K mg base _ "less" _ ["one", "other"] _ := ⟨_, _, okLess FD21 T DDemandBoth, r21⟩
  have KDLess : Dk l.prog w K mg base _ "less" _ ["one", "other"] _ := ⟨_, _, okLess FD21 T DDemandBoth, PySem.W.mg_of X G aD21, kD21, fun s ws _ hl => match ws, hl with | [_, _], _ => .of_eq rfl⟩
  have FD43 := fun_mk (st := sToldL) lD43 cD43 kD43
  have r43 : mg "_law_told" = some (.ref d43) ∧ PySem.W.keepIn K (.ref d43) = true ∧ Binds K _ ["which", "one", "other"] [] := ⟨PySem.W.mg_of X G aD43, kD43, FD43.binds (ps := ["which", "one", "other"]) fun _ _ _ _ _ _ us hl => match us, hl with | [_, _, _], _ => rfl⟩
  have DToldL : Dn l.prog w K mg base _ "_law_told" _ ["which", "one", "other"] _ := ⟨_, _, okToldL FD43 T C DNoteM DQuotientOf DPlus DMinus DTimes DOver DLess, r43⟩
  have FD37 := fun_mk (st := sSumsL) lD37 cD37 kD37
  have r37 : mg "_law_sums" = some (.ref d37) ∧ PySem.W.keepIn K (.ref d37) = true ∧ Binds K _ ["tape"] [] := ⟨PySem.W.mg_of X G aD37, kD37, FD37.binds (ps := ["tape"]) fun _ _ _ _ _ _ us hl => match us, hl with | [_], _ => rfl⟩
  have DSumsL : Dn l.prog w K mg base _ "_law_sums" _ ["tape"] _ := ⟨_, _, okSumsL FD37 T DTwoL DStandsL DTruthL DToldL DLess KDPlus KDMinus KDTimes KDOver KDLess, r37⟩
  have FD8 := fun_mk (st := sIsPoint) lD8 cD8 kD8
  have r8 : mg "is_point" = some (.ref d8) ∧ PySem.W.keepIn K (.ref d8) = true ∧ Binds K _ ["space", "thing"] [] := ⟨PySem.W.mg_of X G aD8, kD8, FD8.binds (ps := ["space", "thing"]) fun _ _ _ _ _ _ us hl => match us, hl with | [_, _], _ => rfl⟩
  have DIsPoint : Dn l.prog w K mg base _ "is_point" _ ["space", "thing"] _ := ⟨_, _, okIsPoint FD8 T DIsRow, r8⟩
  have FD11 := fun_mk (st := sPlaceOf) lD11 cD11 kD11
  have r11 : mg "place_of" = some (.ref d11) ∧ PySem.W.keepIn K (.ref d11) = true ∧ Binds K _ ["space", "numbers", "bottom"] [] := ⟨PySem.W.mg_of X G aD11, kD11, FD11.binds (ps := ["space", "numbers", "bottom"]) fun _ _ _ _ _ _ us hl => match us, hl with | [_, _, _], _ => rfl⟩
  have DPlaceOf : Dn l.prog w K mg base _ "place_of" _ ["space", "numbers", "bottom"] _ := ⟨_, _, okPlaceOf FD11 T DDemand DIsInteger DLowestTerms DIsPoint, r11⟩
  have KDPlaceOf : Dk l.prog w K mg base _ "place_of" _ ["space", "numbers", "bottom"] _ := ⟨_, _, okPlaceOf FD11 T DDemand DIsInteger DLowestTerms DIsPoint, PySem.W.mg_of X G aD11, kD11, fun s ws _ hl => match ws, hl with | [_, _, _], _ => .of_eq rfl⟩
  have FD12 := fun_mk (st := sPointPlace) lD12 cD12 kD12
  have r12 : mg "point_place" = some (.ref d12) ∧ PySem.W.keepIn K (.ref d12) = true ∧ Binds K _ ["space", "point"] [] := ⟨PySem.W.mg_of X G aD12, kD12, FD12.binds (ps := ["space", "point"]) fun _ _ _ _ _ _ us hl => match us, hl with | [_, _], _ => rfl⟩
  have DPointPlace : Dn l.prog w K mg base _ "point_place" _ ["space", "point"] _ := ⟨_, _, okPointPlace FD12 T DDemand DIsPoint, r12⟩
  have KDPointPlace : Dk l.prog w K mg base _ "point_place" _ ["space", "point"] _ := ⟨_, _, okPointPlace FD12 T DDemand DIsPoint, PySem.W.mg_of X G aD12, kD12, fun s ws _ hl => match ws, hl with | [_, _], _ => .of_eq rfl⟩
  have FD13 := fun_mk (st := sBetween) lD13 cD13 kD13
  have r13 : mg "between" = some (.ref d13) ∧ PySem.W.keepIn K (.ref d13) = true ∧ Binds K _ ["space", "place", "other", "moment"] [] := ⟨PySem.W.mg_of X G aD13, kD13, FD13.binds (ps := ["space", "place", "other", "moment"]) fun _ _ _ _ _ _ us hl => match us, hl with | [_, _, _, _], _ => rfl⟩
  have DBetween : Dn l.prog w K mg base _ "between" _ ["space", "place", "other", "moment"] _ := ⟨_, _, okBetween FD13 T DDemand DLowestTerms DIsQuotient DIsPlace, r13⟩
  have KDBetween : Dk l.prog w K mg base _ "between" _ ["space", "place", "other", "moment"] _ := ⟨_, _, okBetween FD13 T DDemand DLowestTerms DIsQuotient DIsPlace, PySem.W.mg_of X G aD13, kD13, fun s ws _ hl => match ws, hl with | [_, _, _, _], _ => .of_eq rfl⟩
  have FD10 := fun_mk (st := sArePoints) lD10 cD10 kD10
  have r10 : mg "are_points" = some (.ref d10) ∧ PySem.W.keepIn K (.ref d10) = true ∧ Binds K _ ["space", "thing"] [] := ⟨PySem.W.mg_of X G aD10, kD10, FD10.binds (ps := ["space", "thing"]) fun _ _ _ _ _ _ us hl => match us, hl with | [_, _], _ => rfl⟩
  have DArePoints : Dn l.prog w K mg base _ "are_points" _ ["space", "thing"] _ := ⟨_, _, okArePoints FD10 T DIsPoint, r10⟩
  have FD14 := fun_mk (st := sMeanPlace) lD14 cD14 kD14
  have r14 : mg "mean_place" = some (.ref d14) ∧ PySem.W.keepIn K (.ref d14) = true ∧ Binds K _ ["space", "points"] [] := ⟨PySem.W.mg_of X G aD14, kD14, FD14.binds (ps := ["space", "points"]) fun _ _ _ _ _ _ us hl => match us, hl with | [_, _], _ => rfl⟩
  have DMeanPlace : Dn l.prog w K mg base _ "mean_place" _ ["space", "points"] _ := ⟨_, _, okMeanPlace FD14 T DDemand DLowestTerms DArePoints, r14⟩
  have KDMeanPlace : Dk l.prog w K mg base _ "mean_place" _ ["space", "points"] _ := ⟨_, _, okMeanPlace FD14 T DDemand DLowestTerms DArePoints, PySem.W.mg_of X G aD14, kD14, fun s ws _ hl => match ws, hl with | [_, _], _ => .of_eq rfl⟩
  have FD40 := fun_mk (st := sCoordinateL) lD40 cD40 kD40
  have r40 : mg "_law_coordinate" = some (.ref d40) ∧ PySem.W.keepIn K (.ref d40) = true ∧ Binds K _ ["tape"] [] := ⟨PySem.W.mg_of X G aD40, kD40, FD40.binds (ps := ["tape"]) fun _ _ _ _ _ _ us hl => match us, hl with | [_], _ => rfl⟩
  have DCoordinateL : Dn l.prog w K mg base _ "_law_coordinate" _ ["tape"] _ := ⟨_, _, okCoordinateL FD40 T DDrawL, r40⟩
  have FD39 := fun_mk (st := sPlaceL) lD39 cD39 kD39
  have r39 : mg "_law_place" = some (.ref d39) ∧ PySem.W.keepIn K (.ref d39) = true ∧ Binds K _ ["tape", "dims"] [] := ⟨PySem.W.mg_of X G aD39, kD39, FD39.binds (ps := ["tape", "dims"]) fun _ _ _ _ _ _ us hl => match us, hl with | [_, _], _ => rfl⟩
  have DPlaceL : Dn l.prog w K mg base _ "_law_place" _ ["tape", "dims"] _ := ⟨_, _, okPlaceL FD39 T DDrawL DCoordinateL DGcdL, r39⟩
  have FD29 := fun_mk (st := sLiesL) lD29 cD29 kD29
  have r29 : mg "_law_lies" = some (.ref d29) ∧ PySem.W.keepIn K (.ref d29) = true ∧ Binds K _ ["got", "tops", "bottom"] [] := ⟨PySem.W.mg_of X G aD29, kD29, FD29.binds (ps := ["got", "tops", "bottom"]) fun _ _ _ _ _ _ us hl => match us, hl with | [_, _, _], _ => rfl⟩
  have DLiesL : Dn l.prog w K mg base _ "_law_lies" _ ["got", "tops", "bottom"] _ := ⟨_, _, okLiesL FD29 T DGcdL DWholesL, r29⟩
  have FD41 := fun_mk (st := sPlacesL) lD41 cD41 kD41
  have r41 : mg "_law_places" = some (.ref d41) ∧ PySem.W.keepIn K (.ref d41) = true ∧ Binds K _ ["tape", "space"] [] := ⟨PySem.W.mg_of X G aD41, kD41, FD41.binds (ps := ["tape", "space"]) fun _ _ _ _ _ _ us hl => match us, hl with | [_, _], _ => rfl⟩
  have DPlacesL : Dn l.prog w K mg base _ "_law_places" _ ["tape", "space"] _ := ⟨_, _, okPlacesL FD41 T KDPlaceOf KDPointPlace KDBetween KDMeanPlace DDrawL DPlaceL DPairL DLowestL DLiesL DCoordinateL, r41⟩
  have FD38 := fun_mk (st := sRowL) lD38 cD38 kD38
  have r38 : mg "_law_row" = some (.ref d38) ∧ PySem.W.keepIn K (.ref d38) = true ∧ Binds K _ ["tape"] [] := ⟨PySem.W.mg_of X G aD38, kD38, FD38.binds (ps := ["tape"]) fun _ _ _ _ _ _ us hl => match us, hl with | [_], _ => rfl⟩
  have DRowL : Dn l.prog w K mg base _ "_law_row" _ ["tape"] _ := ⟨_, _, okRowL FD38 T DDrawL DLowestL DStandsL DPlus DMinus DTimes DOver, r38⟩
  have FD45 := fun_mk (st := sRefusedL) lD45 cD45 kD45
  have r45 : mg "_law_refused" = some (.ref d45) ∧ PySem.W.keepIn K (.ref d45) = true ∧ Binds K _ ["tape"] [] := ⟨PySem.W.mg_of X G aD45, kD45, FD45.binds (ps := ["tape"]) fun _ _ _ _ _ _ us hl => match us, hl with | [_], _ => rfl⟩
  have DRefusedL : Dn l.prog w K mg base _ "_law_refused" _ ["tape"] _ := ⟨_, _, okRefusedL FD45 T DDrawL DToldL, r45⟩
  have FD44 := fun_mk (st := sToldThereL) lD44 cD44 kD44
  have r44 : mg "_law_told_there" = some (.ref d44) ∧ PySem.W.keepIn K (.ref d44) = true ∧ Binds K _ ["which", "space", "one", "other", "moment"] [] := ⟨PySem.W.mg_of X G aD44, kD44, FD44.binds (ps := ["which", "space", "one", "other", "moment"]) fun _ _ _ _ _ _ us hl => match us, hl with | [_, _, _, _, _], _ => rfl⟩
  have DToldThereL : Dn l.prog w K mg base _ "_law_told_there" _ ["which", "space", "one", "other", "moment"] _ := ⟨_, _, okToldThereL FD44 T C DNoteM DPlaceOf DPointPlace DBetween DMeanPlace, r44⟩
  have FD46 := fun_mk (st := sSpoiltL) lD46 cD46 kD46
  have r46 : mg "_law_spoilt" = some (.ref d46) ∧ PySem.W.keepIn K (.ref d46) = true ∧ Binds K _ ["tape", "row"] [] := ⟨PySem.W.mg_of X G aD46, kD46, FD46.binds (ps := ["tape", "row"]) fun _ _ _ _ _ _ us hl => match us, hl with | [_, _], _ => rfl⟩
  have DSpoiltL : Dn l.prog w K mg base _ "_law_spoilt" _ ["tape", "row"] _ := ⟨_, _, okSpoiltL FD46 T DDrawL, r46⟩
  have FD47 := fun_mk (st := sRefusedThereL) lD47 cD47 kD47
  have r47 : mg "_law_refused_there" = some (.ref d47) ∧ PySem.W.keepIn K (.ref d47) = true ∧ Binds K _ ["tape", "space"] [] := ⟨PySem.W.mg_of X G aD47, kD47, FD47.binds (ps := ["tape", "space"]) fun _ _ _ _ _ _ us hl => match us, hl with | [_, _], _ => rfl⟩
  have DRefusedThereL : Dn l.prog w K mg base _ "_law_refused_there" _ ["tape", "space"] _ := ⟨_, _, okRefusedThereL FD47 T DDrawL DToldThereL DSpoiltL, r47⟩
  have FD48 := fun_mk (st := slaw) lD48 cD48 kD48
  exact oklaw FD48 T DDrawL DKindsL DSumsL DPlacesL DRowL DRefusedL DRefusedThereL
theorem walkT {l : PySem.W.OpenLaw} {q : Program} {loose : List Str} {XP : (Str → Option Value) → Heap → Prop} {YP : World → Heap → Prop} {d : DefRec} {K : Params → PySem.W.Frag} (hn : l.most = some 63) (hdf : d.params.defaults = [])
    (hY : ∀ (w : World) (h : Heap), YP w h → (K w.params).In h)
    (F : ∀ (w : World) (mg : Str → Option Value) (fa : Addr) (h : Heap), (K w.params).In h → h.Ns mainGlobals mg → mg d.name = some (.ref fa) →
      ∃ fd : FuncData, (∀ (s : Shared) (u : Value), BindsTo s fd ⟨[u], []⟩ [("script", u)]) ∧ ∀ base : Heap, (K w.params).In base → base.Ns mainGlobals mg → FnOk l.prog w (K w.params) mg base CX0 8 fa fd ["script"] (spLaw (K w.params))) :
    PySem.W.WalkO q loose XP YP l.row.toRowW d [] (fun f vs => PySem.call f vs) :=
  L2.walk_of (n := 63) (k := 8) (x := "script") (CX := fun _ => CX0) (sp := fun w => spLaw (K w.params)) hn (by decide) hdf ⟨rfl, by decide, by decide⟩ hY F (fun _ _ a ns hl _ hS => ⟨a, ns, rfl, hS, hl, fun _ => rfl⟩) fun _ _ _ _ _ z => z
end K15
end SecQ21
set_option Elab.async false
set_option linter.all false
open PySem PySem.W PyProof.Rows
set_option maxRecDepth 100000 in
set_option maxHeartbeats 0 in
theorem PySem.Challenge.cw_wholefaces_k15_quotients_and_places_holds : PySem.Challenge.rw_wholefaces_k15_quotients_and_places.Holds := by
  w_on; o_law; k_head; (case hw => w_witness2)
  k_fill
  refine K15.walkT (l := PySem.Challenge.rw_wholefaces_k15_quotients_and_places) rfl rfl (fun w h Y => PySem.W.kIn_of Y) ?F
  case F =>
    intro w mg fa h KX G hmg
    refine' K15.all_mk KX G hmg ?aC0 ?xL0 ?bm0_ ?iI0 ?lI0 ?cI0 ?kI0 ?aSH ?aME ?aD0 ?lD0 ?cD0 ?kD0 ?aD1 ?lD1 ?cD1 ?kD1 ?aD2 ?lD2 ?cD2 ?kD2 ?aD3 ?lD3 ?cD3 ?kD3 ?aD4 ?lD4 ?cD4 ?kD4 ?aD5 ?lD5 ?cD5 ?kD5 ?aD6 ?lD6 ?cD6 ?kD6 ?aD7 ?lD7 ?cD7 ?kD7 ?aD8 ?lD8 ?cD8 ?kD8 ?aD9 ?lD9 ?cD9 ?kD9 ?aD10 ?lD10 ?cD10 ?kD10 ?aD11 ?lD11 ?cD11 ?kD11 ?aD12 ?lD12 ?cD12 ?kD12 ?aD13 ?lD13 ?cD13 ?kD13 ?aD14 ?lD14 ?cD14 ?kD14 ?aD15 ?lD15 ?cD15 ?kD15 ?aD16 ?lD16 ?cD16 ?kD16 ?aD17 ?lD17 ?cD17 ?kD17 ?aD18 ?lD18 ?cD18 ?kD18 ?aD19 ?lD19 ?cD19 ?kD19 ?aD20 ?lD20 ?cD20 ?kD20 ?aD21 ?lD21 ?cD21 ?kD21 ?aD22 ?lD22 ?cD22 ?kD22 ?aD23 ?lD23 ?cD23 ?kD23 ?aD24 ?lD24 ?cD24 ?kD24 ?aD25 ?lD25 ?cD25 ?kD25 ?aD26 ?lD26 ?cD26 ?kD26 ?aD27 ?lD27 ?cD27 ?kD27 ?aD28 ?lD28 ?cD28 ?kD28 ?aD29 ?lD29 ?cD29 ?kD29 ?aD30 ?lD30 ?cD30 ?kD30 ?aD31 ?lD31 ?cD31 ?kD31 ?aD32 ?lD32 ?cD32 ?kD32 ?aD33 ?lD33 ?cD33 ?kD33 ?aD34 ?lD34 ?cD34 ?kD34 ?aD35 ?lD35 ?cD35 ?kD35 ?aD36 ?lD36 ?cD36 ?kD36 ?aD37 ?lD37 ?cD37 ?kD37 ?aD38 ?lD38 ?cD38 ?kD38 ?aD39 ?lD39 ?cD39 ?kD39 ?aD40 ?lD40 ?cD40 ?kD40 ?aD41 ?lD41 ?cD41 ?kD41 ?aD42 ?lD42 ?cD42 ?kD42 ?aD43 ?lD43 ?cD43 ?kD43 ?aD44 ?lD44 ?cD44 ?kD44 ?aD45 ?lD45 ?cD45 ?kD45 ?aD46 ?lD46 ?cD46 ?kD46 ?aD47 ?lD47 ?cD47 ?kD47 ?aD48 ?lD48 ?cD48 ?kD48 ?n_int ?n_abs ?n_len ?n_range ?n_tuple ?n_list ?n_bool ?n_str ?n_all ?n_isinstance ?n_ValueError ?n_max ?n_sum ?n_reversed ?n_gcd ?cB ?kB
    (case aC0 => k_is)
    (case xL0 => k_is)
    (case bm0_ => decide +kernel)
    (case iI0 => k_is)
    (case lI0 => k_is)
    (case cI0 => k_is)
    (case kI0 => k_is)
    (case aSH => k_is)
    (case aME => k_is)
    (case aD0 => k_is)
    (case lD0 => k_is)
    (case cD0 => k_is)
    (case kD0 => k_is)
    (case aD1 => k_is)
    (case lD1 => k_is)
    (case cD1 => k_is)
    (case kD1 => k_is)
    (case aD2 => k_is)
    (case lD2 => k_is)
    (case cD2 => k_is)
    (case kD2 => k_is)
    (case aD3 => k_is)
    (case lD3 => k_is)
    (case cD3 => k_is)
    (case kD3 => k_is)
    (case aD4 => k_is)
    (case lD4 => k_is)
    (case cD4 => k_is)
    (case kD4 => k_is)
    (case aD5 => k_is)
    (case lD5 => k_is)
    (case cD5 => k_is)
    (case kD5 => k_is)
    (case aD6 => k_is)
    (case lD6 => k_is)
    (case cD6 => k_is)
    (case kD6 => k_is)
    (case aD7 => k_is)
    (case lD7 => k_is)
    (case cD7 => k_is)
    (case kD7 => k_is)
    (case aD8 => k_is)
    (case lD8 => k_is)
    (case cD8 => k_is)
    (case kD8 => k_is)
    (case aD9 => k_is)
    (case lD9 => k_is)
    (case cD9 => k_is)
    (case kD9 => k_is)
    (case aD10 => k_is)
    (case lD10 => k_is)
    (case cD10 => k_is)
    (case kD10 => k_is)
    (case aD11 => k_is)
    (case lD11 => k_is)
    (case cD11 => k_is)
    (case kD11 => k_is)
    (case aD12 => k_is)
    (case lD12 => k_is)
    (case cD12 => k_is)
    (case kD12 => k_is)
    (case aD13 => k_is)
    (case lD13 => k_is)
    (case cD13 => k_is)
    (case kD13 => k_is)
    (case aD14 => k_is)
    (case lD14 => k_is)
    (case cD14 => k_is)
    (case kD14 => k_is)
    (case aD15 => k_is)
    (case lD15 => k_is)
    (case cD15 => k_is)
    (case kD15 => k_is)
    (case aD16 => k_is)
    (case lD16 => k_is)
    (case cD16 => k_is)
    (case kD16 => k_is)
    (case aD17 => k_is)
    (case lD17 => k_is)
    (case cD17 => k_is)
    (case kD17 => k_is)
    (case aD18 => k_is)
    (case lD18 => k_is)
    (case cD18 => k_is)
    (case kD18 => k_is)
    (case aD19 => k_is)
    (case lD19 => k_is)
    (case cD19 => k_is)
    (case kD19 => k_is)
    (case aD20 => k_is)
    (case lD20 => k_is)
    (case cD20 => k_is)
    (case kD20 => k_is)
    (case aD21 => k_is)
    (case lD21 => k_is)
    (case cD21 => k_is)
    (case kD21 => k_is)
    (case aD22 => k_is)
    (case lD22 => k_is)
    (case cD22 => k_is)
    (case kD22 => k_is)
    (case aD23 => k_is)
    (case lD23 => k_is)
    (case cD23 => k_is)
    (case kD23 => k_is)
    (case aD24 => k_is)
    (case lD24 => k_is)
    (case cD24 => k_is)
    (case kD24 => k_is)
    (case aD25 => k_is)
    (case lD25 => k_is)
    (case cD25 => k_is)
    (case kD25 => k_is)
    (case aD26 => k_is)
    (case lD26 => k_is)
    (case cD26 => k_is)
    (case kD26 => k_is)
    (case aD27 => k_is)
    (case lD27 => k_is)
    (case cD27 => k_is)
    (case kD27 => k_is)
    (case aD28 => k_is)
    (case lD28 => k_is)
    (case cD28 => k_is)
    (case kD28 => k_is)
    (case aD29 => k_is)
    (case lD29 => k_is)
    (case cD29 => k_is)
    (case kD29 => k_is)
    (case aD30 => k_is)
    (case lD30 => k_is)
    (case cD30 => k_is)
    (case kD30 => k_is)
    (case aD31 => k_is)
    (case lD31 => k_is)
    (case cD31 => k_is)
    (case kD31 => k_is)
    (case aD32 => k_is)
    (case lD32 => k_is)
    (case cD32 => k_is)
    (case kD32 => k_is)
    (case aD33 => k_is)
    (case lD33 => k_is)
    (case cD33 => k_is)
    (case kD33 => k_is)
    (case aD34 => k_is)
    (case lD34 => k_is)
    (case cD34 => k_is)
    (case kD34 => k_is)
    (case aD35 => k_is)
    (case lD35 => k_is)
    (case cD35 => k_is)
    (case kD35 => k_is)
    (case aD36 => k_is)
    (case lD36 => k_is)
    (case cD36 => k_is)
    (case kD36 => k_is)
    (case aD37 => k_is)
    (case lD37 => k_is)
    (case cD37 => k_is)
    (case kD37 => k_is)
    (case aD38 => k_is)
    (case lD38 => k_is)
    (case cD38 => k_is)
    (case kD38 => k_is)
    (case aD39 => k_is)
    (case lD39 => k_is)
    (case cD39 => k_is)
    (case kD39 => k_is)
    (case aD40 => k_is)
    (case lD40 => k_is)
    (case cD40 => k_is)
    (case kD40 => k_is)
    (case aD41 => k_is)
    (case lD41 => k_is)
    (case cD41 => k_is)
    (case kD41 => k_is)
    (case aD42 => k_is)
    (case lD42 => k_is)
    (case cD42 => k_is)
    (case kD42 => k_is)
    (case aD43 => k_is)
    (case lD43 => k_is)
    (case cD43 => k_is)
    (case kD43 => k_is)
    (case aD44 => k_is)
    (case lD44 => k_is)
    (case cD44 => k_is)
    (case kD44 => k_is)
    (case aD45 => k_is)
    (case lD45 => k_is)
    (case cD45 => k_is)
    (case kD45 => k_is)
    (case aD46 => k_is)
    (case lD46 => k_is)
    (case cD46 => k_is)
    (case kD46 => k_is)
    (case aD47 => k_is)
    (case lD47 => k_is)
    (case cD47 => k_is)
    (case kD47 => k_is)
    (case aD48 => k_is)
    (case lD48 => k_is)
    (case cD48 => k_is)
    (case kD48 => k_is)
    (case n_int => k_is)
    (case n_abs => k_is)
    (case n_len => k_is)
    (case n_range => k_is)
    (case n_tuple => k_is)
    (case n_list => k_is)
    (case n_bool => k_is)
    (case n_str => k_is)
    (case n_all => k_is)
    (case n_isinstance => k_is)
    (case n_ValueError => k_is)
    (case n_max => k_is)
    (case n_sum => k_is)
    (case n_reversed => k_is)
    (case n_gcd => k_is)
    (case cB => kernel_rfl)
    (case kB => kernel_rfl)
