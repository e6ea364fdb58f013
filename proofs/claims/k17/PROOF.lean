import PyProof.Rows.All
import Wide.All
import OpenK.AllK
import Wide.FinOn
import HandS.ForMost
import HandS.ForExc
import HandS.ExcInit
import HandS.TryMany
import HandS.ExcCtx
import HandS.HotCalls
import HandS.IsInst
import HandS.Style
import HandS.Flow
import KE.KExcIs
import HandS.Codes
import HandS.Gcd
import HandS.Wide
import HandS.WideBits
import HandS.TupAny
import HandS.Zip
import HandS.Iter
import KE.BitLaws
import KE.GoesMore
import KE.GoesNew
import HandS.Walk
import HandS.Small
import HandS.EndBits
import PySem.Challenge.RW_wholefaces_k17_points_and_seats
section SecA1
set_option Elab.async false
set_option linter.all false
set_option maxRecDepth 100000
set_option maxHeartbeats 4000000
namespace Err
open PySem PySem.Spec PyProof.Rows L2

/-- what the written part tells of an error class at C -/
structure Ec (K : PySem.W.Frag) (C : Addr) : Prop where
  oex : OexC K C
  cl : (PySem.W.clsIn K C).isSome = true
  ga : PySem.W.findIn K (.ref C) "__getattribute__" = some (some (.builtin "BaseException.__getattribute__"))
  gg : PySem.W.findIn K (.ref C) "__getattr__" = some none
  hd : PySem.W.hasDictIn K C = true
  ca : PySem.W.findIn K (.ref C) "__class__" = some (some (.builtin "object.__class__"))
  cn : PySem.W.specialIn K (.builtin "object.__class__") "__get__" = some (some (.builtin "getset_descriptor.__get__"))
  ct : PySem.W.takesIn K (.builtin "object.__class__") = some true
  cm : PySem.W.mroIn K C (.type "object") = some true

/-- an error object of the class at C, its dict at d, stands at a -/
def At (h : Heap) (a C : Addr) (d : Option Addr) : Prop := ∃ (oe : Obj) (fv : Array Value), h.get? a = some oe ∧ oe.cls = .ref C ∧ oe.dict = d ∧ oe.data = .fields fv
/-- in each state of the context there is such an object -/
def Seen (X : Cx) (H : Hp) (a C : Addr) (d : Option Addr) : Prop := ∀ (pins : List (Addr × Obj)) (σ : L2.St) (s : Shared), Inv X pins σ H s → At s.heap a C d
/-- the dict of an error -/
def Dk (H : Hp) (d : Addr) (fs : List (Str × V)) : Prop := H d = some (.xd fs) ∨ H d = some (exd d fs)
theorem Dk.ns {P : Program} {w : World} {H : Hp} {h : Heap} {d : Addr} {fs : List (Str × V)} (ok : HOk P w H h) (k : Dk H d fs) : ∃ mA, h.Ns1 d mA ∧ ∀ f, RelO (fs.lookup f) (mA f) := by
  rcases k with k | k
  · have z : ObjOk P w H h d (.xd fs) := ok d _ k
    exact z
  · exact exd_at ok k
theorem Dk.mono {H H' : Hp} {d : Addr} {fs : List (Str × V)} (m : ∀ b o, H b = some o → H' b = some o) (k : Dk H d fs) : Dk H' d fs := by
  rcases k with k | k
  · exact .inl (m _ _ k)
  · exact .inr (m _ _ k)
/-- an error that is tracked -/
theorem seen_exo {X : Cx} {H : Hp} {a C : Addr} {d : Option Addr} (e : H a = some (exo a C d)) : Seen X H a C d := fun _ _ _ I => by
  obtain ⟨t1, q⟩ := exo_at I.hok e
  exact ⟨_, _, q, rfl, rfl, rfl⟩
/-- an error that the context holds fast -/
theorem seen_pin {X : Cx} {H : Hp} {a C : Addr} {d : Option Addr} {oe : Obj} (m : (a, oe) ∈ X.pn) (z : Zc (.ref C) d oe) (f : ∃ vs, oe.data = .fields vs) : Seen X H a C d := fun _ _ _ I => by
  obtain ⟨vs, hv⟩ := f
  exact ⟨oe, vs, (I.pin _ (List.mem_append_left _ m)).1, z.1, z.2, hv⟩
section
variable {X : Cx}
/-- as the library's rows want it -/
def DOb (h : Heap) : Option Addr → Option Obj → Prop
  | some dx, some o => h.get? dx = some o
  | none, none => True
  | _, _ => False
theorem inst_of {h : Heap} {a C : Addr} {d : Option Addr} {oe : Obj} {fv : Array Value} (e : h.get? a = some oe) (c : oe.cls = .ref C) (k : oe.dict = d) (f : oe.data = .fields fv) {od : Option Obj} (hd : DOb h d od) :
    PySem.W.InstAt h a oe C od := by
  subst k
  refine ⟨e, c, by unfold PySem.W.notCls; rw [f] <;> rfl, ?_⟩
  unfold DOb at hd
  revert hd
  cases oe.dict <;> cases od <;> exact fun z => z
/-- e.n of an error -/
def tAt (X : Cx) (n : Str) (te : TE) : TE := fun σ H Q => te σ H fun x H1 => ∃ (a C dd : Addr) (fs : List (Str × V)) (v : V), x = .ref a ∧ Ec X.K C ∧ PySem.W.findIn X.K (.ref C) n = some none ∧ Seen X H1 a C (some dd) ∧ Dk H1 dd fs ∧ fs.lookup n = some v ∧ Q v H1
theorem pe_at {e : Expr} {te : TE} {pos : Pos} {n : Str} (he : PE X e te) (hb : attributeBase e n X.env (eval e X.env) = eval e X.env := by rfl) : PE X (.Attribute e n pos) (tAt X n te) := by
  refine ⟨fun pins s σ H Q I h => attr_of hb (thn (he.run pins s σ H _ I h) fun u s1 hh => ?_)⟩
  obtain ⟨x, H1, I1, rx, a, C, dd, fs, v, ex, T, hno, sn, dk, l, q⟩ := hh
  subst ex
  cases (show u = Value.ref a from rx)
  obtain ⟨oe, fv, e1, e2, e3, e4⟩ := sn _ _ _ I1
  obtain ⟨mA, hns, hr⟩ := dk.ns I1.hok
  obtain ⟨od, ho, hl⟩ := lookIn_ns hns
  obtain ⟨y, hy, ry⟩ := RelO.some_of (v := v) (o := mA n) (by rw [← l]; exact hr n)
  exact HandSPX.exc_get I1.kIn (inst_of e1 e2 e3 e4 (od := some od) ho) T.ga T.gg T.oex.exC (PySem.W.findObj_own T.hd hno rfl (by rw [hl, hy])) (handed_of ry) ⟨v, H1, I1.tok _, ry, q⟩
/-- isinstance(e, c) of an error -/
def rIsA (X : Cx) : List V → Hp → VK → Prop := fun xs H Q => ∃ (a C : Addr) (d : Option Addr) (c : V) (cv : Value) (b : Bool), xs = [.ref a, c] ∧ ClsV c cv ∧ Ec X.K C ∧ Seen X H a C d ∧ (∀ dd, d = some dd → ∃ fs, Dk H dd fs) ∧ PySem.W.kitOne X.K (.ref C) cv = some b ∧ Q (.bl b) H
theorem call_isA : CallR X (.builtin "isinstance") (rIsA X) := by
  intro pins s σ H xs us Q I r h
  obtain ⟨a, C, d, c, cv, b, rfl, k, T, sn, hd, e, q⟩ := h
  obtain ⟨u1, u2, rfl, r1, r2⟩ := vals2 r
  have z := k.eq r2
  subst z
  cases (show u1 = Value.ref a from r1)
  obtain ⟨oe, fv, e1, e2, e3, e4⟩ := sn _ _ _ I
  obtain ⟨od, ho⟩ : ∃ od : Option Obj, DOb s.heap d od := by
    cases d with
    | none => exact ⟨none, True.intro⟩
    | some dd =>
      obtain ⟨fs, dk⟩ := hd dd rfl
      obtain ⟨mA, ⟨o, es, ep, ho, _⟩, hr⟩ := dk.ns I.hok
      exact ⟨some o, ho⟩
  have J := inst_of e1 e2 e3 e4 (od := od) ho
  exact PySem.W.kia_one (PySem.W.kitx_exc T.cl T.ga T.gg T.oex.exC T.ca T.cn T.ct T.cm) I.kIn J e (fun z => nomatch z) fun tk => ⟨.bl b, H, I.tok tk, rfl, q⟩
end
end Err
end SecA1
section SecA2
set_option Elab.async false
set_option linter.all false
set_option maxRecDepth 100000
set_option maxHeartbeats 4000000
namespace Err
open PySem PySem.Spec PyProof.Rows L2 L2H

/-- nothing is handled and nothing held, or the error at p is handled and held -/
inductive Mood (A : Around) (outer : List Env) (H : Hp) (s : Shared) : Bool → List (Addr × Obj) → Prop
  | calm (h : A.handled = none) : Mood A outer H s true []
  | hot (p : Addr × Obj) (h : Hot1 A p) (k : PinOk outer H s p) : Mood A outer H s false [p]
def cxB (P : Program) (w : World) (K : PySem.W.Frag) (mg : Str → Option Value) (base : Heap) (N : List Str) (qual : Str) (scope : Scope) (f : Addr) (cd : Value) (A : Around) (outer : List Env) (s : Shared) (H : Hp) (b : Bool) (pl : List (Addr × Obj)) : Cx :=
  { cxOf CX0 P w K mg base N qual scope f cd A outer s H E0 with calm := b, pn := pl }
/-- the mood of a context -/
inductive MoodC (X : Cx) : Bool → List (Addr × Obj) → Prop
  | calm (h : X.calm = true) : MoodC X true []
  | hot (p : Addr × Obj) (h : Hot1 X.A p) (m : p ∈ X.pn) : MoodC X false [p]
theorem MoodC.to {X : Cx} {pins : List (Addr × Obj)} {σ : L2.St} {H : Hp} {s : Shared} {b : Bool} {pl : List (Addr × Obj)} (m : MoodC X b pl) (I : Inv X pins σ H s) : Mood X.A X.stack H s b pl := by
  cases m with
  | calm h => exact .calm (I.ok.hd h)
  | hot p h m =>
    have z := I.pin p (List.mem_append_left _ m)
    exact .hot p h ⟨z.1, z.2.1, fun y => by
      rcases List.mem_cons.mp (I.stkSub p.1 y) with y | y
      · exact z.2.2.1 y
      · exact z.2.2.2.1 y, z.2.2.2.2⟩
/-- a def that may be called in both moods -/
structure FnB (P : Program) (w : World) (K : PySem.W.Frag) (mg : Str → Option Value) (base : Heap) (k : Nat) (f : Addr) (fd : FuncData) (ps : List Str) (sp : List (Addr × Obj) → Sp) : Prop where
  len : ∀ pl vs H Q E, sp pl vs H Q E → vs.length = ps.length
  run : ∀ (A : Around) (outer : List Env) (s : Shared) (H : Hp) (args : Args) (us : List Value) (vs : List V) (Q : VK) (b : Bool) (pl : List (Addr × Obj)), RoomH k A → Mood A outer H s b pl → Env0 P w K mg base A outer s H →
    BindsTo s fd args (ps.zip us) → Vals vs us → sp pl vs H Q E0 → codeAny (model P w) A (.call (.ref f) args) (CR CX0 outer P w H s Q E0) s
section
variable {P : Program} {w : World} {K : PySem.W.Frag} {mg : Str → Option Value} {base : Heap} {k : Nat} {f : Addr} {fd : FuncData} {N ps : List Str} {sp : List (Addr × Obj) → Sp}
theorem FnB.ok (F : FnB P w K mg base k f fd ps sp) : FnOk P w K mg base CX0 k f fd ps (fun vs H Q _ => sp [] vs H Q E0) :=
  ⟨fun vs H Q E h => F.len [] vs H Q E0 h, fun A outer s H args us vs Q E hr e0 hb r h => codeAny_mono (F.run A outer s H args us vs Q true [] (roomH_of hr) (.calm hr.hd) e0 hb r h) fun x s' z => by
    cases x with
    | error e => exact (show False from z).elim
    | ok fl => cases fl <;> exact z⟩
theorem startB {qual : Str} {scope : Scope} {cd : Value} {A : Around} {outer : List Env} {s s1 : Shared} {H : Hp} {us : List Value} {vs : List V} {b : Bool} {pl : List (Addr × Obj)} (S : FnScope N ps scope) (m : Mood A outer H s b pl) (e0 : Env0 P w K mg base A outer s H)
    (hl : vs.length = ps.length) (r : Vals vs us)
    (x : InCallC s s.heap.objs.size (bindL (envOfC qual scope s.heap.objs.size f cd).kindOf (ps.zip us) fun _ => none) (cellsFrom (s.heap.objs.size + 1) scope.names []) (bindC (envOfC qual scope s.heap.objs.size f cd).kindOf (ps.zip us) fun _ => none) s1) :
    Inv (cxB P w K mg base N qual scope f cd A outer s H b pl) [] (L2.start N vs) H s1 := by
  cases m with
  | calm h => exact inv_start (CX := CX0) (E := E0) S h e0 hl r x
  | hot p h k => exact inv_startH (CX := CX0) (E := E0) S k e0 hl r x
/-- a def of the text by its body, in both moods -/
theorem fnB_of {x qual : Str} {st : Stmt} (F : Fun K x qual st f fd) (S : FnScope N ps (defScope st)) (len : ∀ pl vs H Q E, sp pl vs H Q E → vs.length = ps.length)
    (hbody : ∀ (cdv : Value) (A : Around) (outer : List Env) (s : Shared) (H : Hp) (vs : List V) (Q : VK) (b : Bool) (pl : List (Addr × Obj)), RoomH k (A.deeper (envOfC qual (defScope st) s.heap.objs.size f cdv)) →
      MoodC (cxB P w K mg base N qual (defScope st) f cdv A outer s H b pl) b pl → sp pl vs H Q E0 →
      ∃ t, PSs (cxB P w K mg base N qual (defScope st) f cdv A outer s H b pl) (defBody st) t ∧ t { nx := fun _ H' => Q .non H', rt := Q } (L2.start N vs) H) :
    FnB P w K mg base (k + 1) f fd ps sp := by
  obtain ⟨oc, od, kV, doc, pm, an, cdv, ct, osl, rfl, lk, hcd⟩ := F.ex
  refine ⟨len, fun A outer s H args us vs Q b pl hr md e0 hb r hsp => ?_⟩
  have hl := len _ _ _ _ _ hsp
  have mk : ∀ {b' : Addr} {o : Obj}, base.get? b' = some o → s.heap.get? b' = some o := fun {b' o} e => (e0.bs b' o e).1
  have KX : K.In s.heap := e0.mod.kin.keeps fun b' o e => mk e
  have par : ∀ y ∈ ps.zip us, (defScope st).names.lookup y.1 = some .local ∨ ((defScope st).names.lookup y.1 = some .cell ∧ ((cellsFrom (s.heap.objs.size + 1) (defScope st).names []).lookup y.1).isSome = true) := by
    rintro ⟨n, v⟩ hy
    refine (S.par n (List.of_mem_zip hy).1).imp id fun q => ⟨q, ?_⟩
    exact PySem.W.cellsFrom_some _ _ _ (.inl q)
  refine codeAny_call_function hr.depth (KX _ _ lk) rfl S.co S.gen rfl (PySem.W.codeRec_of KX hcd) (hb _ _ _ _ (wpAny_newFunctionEnv_cells S.kind par fun env he s1 x => ?_))
  subst he
  have lim : s.heap.NoLimit := e0.mod.nolimit.keeps fun b' o e => mk e
  refine ⟨lim.keeps x.toInCall.keep, codeAny_func ?_⟩
  have mc : MoodC (cxB P w K mg base N qual (defScope st) f cdv A outer s H b pl) b pl := by
    cases md with
    | calm h => exact .calm rfl
    | hot p h k => exact .hot p h List.mem_cons_self
  obtain ⟨t, ht, hq⟩ := hbody cdv A outer s H vs Q b pl (hr.deeper _) mc hsp
  have I := startB (mg := mg) (f := f) S md e0 hl r x
  refine wpAny_mono (ht.run [] s1 (L2.start N vs) H _ I hq) (fun fl s' hs => ?_) fun e s' hs => hs
  cases fl with
  | ret u =>
    obtain ⟨v, σ', H', J, rv, q⟩ := hs
    exact ⟨v, H', J.os, J.bare, J.base, J.hok, rv, q⟩
  | next =>
    obtain ⟨σ', H', J, q⟩ := hs
    exact ⟨.non, H', J.os, J.bare, J.base, J.hok, rfl, q⟩
  | brk =>
    obtain ⟨_, _, _, q⟩ := hs
    exact q.elim
  | cont =>
    obtain ⟨_, _, _, q⟩ := hs
    exact q.elim
end
/-- f(e, ..) in any mood -/
def tCallB (sp : List (Addr × Obj) → Sp) (pl : List (Addr × Obj)) (t : TA) : TE := fun σ H Q => t σ H fun vs H1 => sp pl vs H1 Q E0
section
variable {X : Cx} {k : Nat} {f : Addr} {fd : FuncData} {ps : List Str} {sp : List (Addr × Obj) → Sp} {b : Bool} {pl : List (Addr × Obj)} {x : Str} {q pos : Pos} {e : Expr} {es : List Expr} {t : TA}
theorem pe_cB (F : FnB X.prog X.w X.K X.mg X.base k f fd ps sp) (hr : RoomH k X.A) (mc : MoodC X b pl) (hg : Gl X x) (hm : X.mg x = some (.ref f)) (hk : PySem.W.keepIn X.K (.ref f) = true) (hb : Binds X.K fd ps [])
    (ha : PA X (e :: es) t) (hdb : (x == ("__debug__" : Str)) = false := by decide) (he : starEach (e :: es) X.env = (false, eval e X.env) :: starEach es X.env := by rfl) (hpl : (backTo pos (starEach es X.env)).any (·.1) = false := by rfl) :
    PE X (.Call (.Name x q) (e :: es) [] pos) (tCallB sp pl t) := by
  refine ⟨fun pins s σ H Q I h => wpAny_Call_Name_kw (ld_glob I hg hm ?_ hdb)⟩
  refine PySem.W.callWith_K (h₀ := X.base) I.ok.mod.kin hk (thn (ha.run pos pins s σ H _ I h) fun us s1 ⟨vs, H1, I1, r, z⟩ => ⟨I1.kIn, ?_⟩) he hpl
  have hl : us.length = ps.length := by rw [← r.length]; exact F.len _ _ _ _ _ z
  have bt := hb s1 us I1.kIn (by rw [List.append_nil]; exact hl)
  rw [List.append_nil] at bt
  refine wpAny_call (codeAny_mono (F.run X.A X.stack s1 H1 ⟨us, []⟩ us vs Q b pl hr (mc.to I1) I1.env0 bt r z) fun y s' hq => ?_)
  cases y with
  | error er => exact (show False from hq).elim
  | ok fl =>
    cases fl with
    | ret u => exact I1.after hq
    | next => exact hq.elim
    | brk => exact hq.elim
    | cont => exact hq.elim
end
end Err
end SecA2
section SecA3
set_option Elab.async false
set_option linter.all false
set_option maxRecDepth 100000
set_option maxHeartbeats 4000000
namespace Err
open PySem PySem.Spec PyProof.Rows L2 L2H
/-- a comprehension's block that holds the handled error fast -/
abbrev blq (X : Cx) (s : Shared) (H : Hp) (scope : Scope) (ce : Env) (fp : List Addr) (pl : List (Addr × Obj)) : Cx := { X.blk s H scope ce fp with pn := pl }
theorem hold {X : Cx} {pl : List (Addr × Obj)} {σ : L2.St} {H : Hp} {s : Shared} (I : Inv X [] σ H s) (h : ∀ p ∈ pl, s.heap.get? p.1 = some p.2 ∧ H p.1 = none ∧ p.1 ≠ X.env.locals ∧ p.1 ∉ X.fs ∧ ∀ v, p.2.data ≠ .cell v) : Inv { X with pn := pl } [] σ H s :=
  ⟨⟨I.ok.mod, I.ok.kind, I.ok.glob, I.ok.blt, I.ok.above, I.ok.inj, I.ok.has, I.ok.cab, I.ok.hd, I.ok.frames, I.ok.stk, I.ok.exf, I.ok.bs, I.ok.bsz, I.ok.noex, I.ok.exfs, I.ok.funs, I.ok.frf⟩,
    I.os, I.bare, I.base, I.loc, I.cell, I.free, I.freeC, fun p hp => h p (by rw [List.append_nil] at hp; exact hp), I.hok, I.len⟩
section
variable {X : Cx}
/-- a comprehension while an error is handled; what is walked: range -/
theorem lcH {el tg it0 : Expr} {ifs : List Expr} {sc : Scope} {own : List (Str × Nat)} {pos : Pos} {wi : TI} {g : TG} {tt : TT} {te : TE} (p : Addr × Obj) (hot : Hot1 X.A p) (hm : p ∈ X.pn) (hN : X.N.Nodup) (hi : PIH X tg it0 wi) (ok : BlkOk X.N X.env.scope sc own)
    (hg : ∀ s H C cl fp, PG (blq X s H sc (compEnvC sc cl C X.env) fp [p]) tg g) (ht : ∀ s H C cl fp, PTs (blq X s H sc (compEnvC sc cl C X.env) fp [p]) ifs tt)
    (he : ∀ s H C cl fp, PE (blq X s H sc (compEnvC sc cl C X.env) fp [p]) el te) (hs : ∀ x, foldedSetIterable it0 X.env x = pure x := by intro _; rfl) :
    PE X (.ListComp el [⟨tg, it0, ifs, 0⟩] sc pos) (tLc wi g tt te (own.map (·.2))) := by
  refine ⟨fun pins s σ H Q I h => ?_⟩
  rw [eval_ListComp]
  have fr : ∀ y ∈ sc.names, y.2 = .free → ∃ c, X.env.cells.lookup y.1 = some c := fun y hy e => (ok.free y hy e).elim (fun k => I.ok.has _ (.inl k)) fun k => I.ok.has _ (.inr k)
  refine wpAny_comprehension_free rfl hs (closure_ok fr) ok.kind (fun y hy e => by rw [ok.uniq y hy, e]) (thn (hi.run pins s σ H _ I h) fun xv s1 hx => thn hx fun iv s2 h2 => ?_)
  obtain ⟨it, fp, tn, J, H2, e, I2, T, st2, f2, q⟩ := h2
  subst e
  refine wpAny_newObj_type (newEnv_comp ?_) (by show 0 ≤ sizeLine; decide)
  generalize hD : s2.heap.objs.size = D
  have dn : H2 D = none := I2.hok.fresh (Nat.le_of_eq hD)
  obtain ⟨W, ⟨m0, w0⟩, turn⟩ := q D dn
  generalize hs3 : ({ s2 with heap := s2.heap.push { cls := .type "list", data := .seq ([] : List Value).toArray } } : Shared) = s3
  have I3 : Inv X pins σ (upd H2 D (.lst [])) s3 := by
    subst hs3
    refine I2.laid (t' := s2.toks) (fun b o z => Heap.get?_push_of_some _ z) (Nat.le_of_eq hD) ⟨Nat.zero_le _, [], 0, .nil, ?_⟩
    subst hD
    exact Heap.get?_push_size _ rfl
  have h3 : s3.heap = s2.heap.push { cls := .type "list", data := .seq ([] : List Value).toArray } := by subst hs3; rfl
  have lt2 : ∀ b ∈ fp, b < s2.heap.objs.size := fun b hb => let ⟨o, z, _⟩ := T.obj _ _ st2 b hb; Heap.lt_size z
  have f3 : ∀ b ∈ fp, FpOk X pins (upd H2 D (.lst [])) b ∧ b < s3.heap.objs.size := fun b hb => by
    have y := lt2 b hb
    refine ⟨⟨?_, (f2 b hb).2⟩, by rw [h3, Heap.size_push]; exact Nat.lt_succ_of_lt y⟩
    rw [upd_ne (by subst hD; exact Nat.ne_of_lt y)]
    exact (f2 b hb).1
  have st3 : tn 0 s3.heap := T.keep _ _ _ st2 fun b _ o z => by rw [h3]; exact Heap.get?_push_of_some _ z
  have pp := I3.pin p (List.mem_append_left _ hm)
  have I4a := block_start I3 ok hN f3
  generalize hce : compEnvC sc (cellsFrom (s3.heap.objs.size + 1) sc.names (cloFrom X.env.cells sc.names [])) s3.heap.objs.size X.env = ce at I4a
  have cL : ce.locals = s3.heap.objs.size := by subst hce; rfl
  have up4 : ∀ b o, s3.heap.get? b = some o → (pushCells (s3.heap.push { cls := .type "dict", data := .dict #[] }) sc.names).get? b = some o := fun b o z => pushCells_keeps _ _ _ _ (Heap.get?_push_of_some _ z)
  have npst : p.1 ∉ frs X.stack := fun y => by
    rcases List.mem_cons.mp (I3.stkSub p.1 y) with y | y
    · exact pp.2.2.1 y
    · exact pp.2.2.2.1 y
  have I4 : Inv (blq X s3 (upd H2 D (.lst [])) sc ce fp [p]) [] (wipe σ (own.map (·.2))) (upd H2 D (.lst [])) { s3 with heap := pushCells (s3.heap.push { cls := .type "dict", data := .dict #[] }) sc.names } := hold I4a fun p' hp' => by
    have y : p' = p := by simpa using hp'
    subst y
    exact ⟨up4 _ _ pp.1, pp.2.1, by show p'.1 ≠ ce.locals; rw [cL]; exact Nat.ne_of_lt (Heap.lt_size pp.1), npst, pp.2.2.2.2⟩
  have pg := hg s3 (upd H2 D (.lst [])) s3.heap.objs.size (cellsFrom (s3.heap.objs.size + 1) sc.names (cloFrom X.env.cells sc.names [])) fp
  have pt := ht s3 (upd H2 D (.lst [])) s3.heap.objs.size (cellsFrom (s3.heap.objs.size + 1) sc.names (cloFrom X.env.cells sc.names [])) fp
  have pe := he s3 (upd H2 D (.lst [])) s3.heap.objs.size (cellsFrom (s3.heap.objs.size + 1) sc.names (cloFrom X.env.cells sc.names [])) fp
  show codeAny _ _ (.compStart _ 0 (.ref it) (.ref D) (compEnvC sc (cellsFrom (s3.heap.objs.size + 1) sc.names (cloFrom X.env.cells sc.names [])) s3.heap.objs.size X.env)) (compPost (model X.prog X.w) X.A X.xe none _ (.ref D) s3.heap.objs.size) { s3 with heap := pushCells (s3.heap.push { cls := .type "dict", data := .dict #[] }) sc.names }
  rw [hce] at pg pt pe ⊢
  have nfp : ∀ b ∈ fp, (upd H2 D (.lst [])) b = none := fun b hb => (f3 b hb).1.1
  generalize hH3 : upd H2 D (.lst []) = H3 at I3 I4 pg pt pe w0 nfp f3
  generalize hs4 : ({ s3 with heap := pushCells (s3.heap.push { cls := .type "dict", data := .dict #[] }) sc.names } : Shared) = s4 at I4 ⊢
  have st4 : tn 0 s4.heap := T.keep _ _ _ st3 fun b _ o z => by subst hs4; exact up4 _ _ z
  have hc : HotC (blq X s3 H3 sc ce fp [p]) := ⟨p, hot, List.mem_cons_self⟩
  have fpOk : ∀ {σ' : L2.St} {H' : Hp} {s' : Shared}, Inv (blq X s3 H3 sc ce fp [p]) [] σ' H' s' → (∀ b ∈ fp, H' b = none) → ∀ b ∈ fp, FpOk (blq X s3 H3 sc ce fp [p]) [] H' b := fun {σ' H' s'} I' hn b hb =>
    ⟨hn b hb, (I'.ok.exf b hb).1, I'.ok.exfs b hb, .inl hb, fun x c z => (I'.ok.exf b hb).2 x c z, fun p' hp' => by
      have y : p' = p := by
        have y' : p' ∈ [p] ++ ([] : List (Addr × Obj)) := hp'
        simpa using y'
      subst y
      exact (f3 b hb).1.2.2.2.2.2 p' (List.mem_append_left _ hm)⟩
  refine codeAny_compStart_list ?_ (T.self X.A 0 _ _ _ st4 ?_) <;>
  · refine compLoop_any (fun n s' => ∃ i H', Inv (blq X s3 H3 sc ce fp [p]) [] (wipe σ (own.map (·.2))) H' s' ∧ tn i s'.heap ∧ (∀ b ∈ fp, H' b = none) ∧ W i n H') ?_ m0 ⟨0, H3, I4, st4, nfp, w0⟩
    rintro n s5 ⟨i, H5, I5, st5, n5, w5⟩
    rcases turn i n H5 w5 with ⟨stop, qq⟩ | ⟨go, Nx, hNx, step⟩
    · refine thnF (T.done (blq X s3 H3 sc ce fp [p]) rfl rfl rfl hc i [] s5 _ H5 (fun _ _ => False) I5 (fpOk I5 n5) st5 stop) fun r s6 ⟨hr, I6⟩ => ?_
      subst hr
      have I7 : Inv X pins σ H5 s6 := I3.call' (ch := fp) I6.os I6.base I6.hok I6.bare fun b hb => let z := (f3 b hb).1.2; ⟨z.2.2.1, z.1, z.2.2.2.1, z.2.2.2.2⟩
      have nC : H5 s3.heap.objs.size = none := by
        have z : H5 ce.locals = none := I6.free
        rw [cL] at z
        exact z
      obtain ⟨m, hn, _⟩ := I6.loc
      have hn' : s6.heap.Ns s3.heap.objs.size m := by
        have z : s6.heap.Ns ce.locals m := hn
        rw [cL] at z
        exact z
      refine ⟨m, hn', fun h'' sb => ?_⟩
      obtain ⟨z0, z1, z2, z3, z4, z5⟩ := I3.fpOk (H' := H5) (Nat.le_refl _) nC
      exact ⟨.ref D, H5, I7.turned (t' := s6.toks) (fun b o hb z => (sb.2 b hb).trans z) z0 z1 z3 z4 z5, rfl, qq⟩
    · refine thnF (T.item (blq X s3 H3 sc ce fp [p]) rfl rfl rfl hc i [] s5 _ H5 (fun _ _ => False) I5 (fpOk I5 n5) st5 go) fun r s6 ⟨u, hr, h6⟩ => ?_
      subst hr
      refine thnF h6 fun _ s7 ⟨x, H7, I7, r7, y7, st7, n7⟩ => ?_
      have J7 := I7.pinned (fpOk I7 n7) (T.obj _ _ st7)
      refine thnF (pg.run _ s7 _ H7 x u _ J7 r7 (step x H7 y7)) fun _ s8 ⟨σ8, H8, I8, hw8, q8⟩ => thnF (pt.run _ s8 σ8 H8 _ I8 q8) fun b s9 ⟨H9, I9, q9⟩ => ?_
      have fin : ∀ {s' : Shared} {H' : Hp}, Inv (blq X s3 H3 sc ce fp [p]) ([] ++ pinsAt fp s7.heap) σ8 H' s' → Nx H' → ∃ m, m < n ∧ ∃ i H', Inv (blq X s3 H3 sc ce fp [p]) [] (wipe σ (own.map (·.2))) H' s' ∧ tn i s'.heap ∧ (∀ b ∈ fp, H' b = none) ∧ W i m H' := fun {s' H'} I' nx => by
        obtain ⟨m', lt, w'⟩ := hNx H' nx
        have at' : ∀ b ∈ fp, ∀ o, s7.heap.get? b = some o → s'.heap.get? b = some o ∧ H' b = none := fun b hb o z =>
          let y := I'.pin (b, o) (List.mem_append_right _ (List.mem_append_right _ (mem_pinsAt hb z)))
          ⟨y.1, y.2.1⟩
        refine ⟨m', lt, i + 1, H', (I'.unpinned (pins := [])).weak (by rw [← hw8, wipe_length]) (fun j v z => ?_), T.keep _ _ _ st7 fun b hb o z => (at' b hb o z).1, fun b hb => ?_, w'⟩
        · rw [← hw8] at z
          exact (wipe_some z).1
        · obtain ⟨o, z, _⟩ := T.obj _ _ st7 b hb
          exact (at' b hb o z).2
      cases b with
      | false =>
        simp only [Bool.false_eq_true, if_false] at q9 ⊢
        exact fin I9 q9
      | true =>
        simp only [if_true] at q9 ⊢
        exact thnF (pe.run _ s9 σ8 H9 _ I9 q9) fun z s10 ⟨yv, H10, I10, r10, acc, hD10, hz10, nx⟩ => app_ok (X := blq X s3 H3 sc ce fp [p]) I10 hD10 hz10 r10 fun s11 I11 => fin I11 nx
end
end Err
end SecA3
section SecA4
set_option Elab.async false
set_option linter.all false
set_option maxRecDepth 100000
set_option maxHeartbeats 4000000
namespace ErrK
open PySem PySem.HandSPX
section
variable {M : Model} {A : Around} {E : Value → Shared → Prop} {h : Heap} {g : Array GenState} {d : Drawn} {t : Nat} {os : OsState}
variable {nm q : Str} {C N : Addr} {bs bm bmB : List Value} {hdct : Bool} {sn : List Str} {sub : List Value} {ab : Bool} {col : Option Bool} {dd : Option Addr} {k0 k1 k2 k3 k5 : Option Value} {B newId initId : String}
theorem chkNew (F : ExcBaseFacts B newId initId bmB) (hT : ∀ X : String, bm.contains (.type X) = bmB.contains (.type X)) {us : List Value} {kw : List (Str × Value)} {Q : Unit → Shared → Prop}
    (oC : h.get? C = some (excClassObj nm q C N bs bm hdct sn sub ab col dd k0 k1 k2 k3 k5 newId)) (z : Q () ⟨h, g, d, t, os⟩) : wpAny M A (checkBuiltinCall newId ⟨.ref C :: us, kw⟩) Q E ⟨h, g, d, t, os⟩ := by
  have isB : (Value.ref C :: bm).contains (.type B) = true := by rw [List.contains_cons, hT, F.hasB, Bool.or_true]
  have nost := F.noStar
  simp only [checkBuiltinCall, F.newKind, F.newSplit, F.newRow]
  repeat (first | refine wpAny_loadPart_at oC ?_ | (refine wpAny_isSubtype_exc oC ?_; rw [isB]) | refine wpAny_staticBase_exc oC ?_ | refine wpAny_madeBy_exc oC ?_ | simp only [bne_self_eq_false, Bool.false_eq_true, if_false] | wp_step)
  exact z
theorem chkCall {us : List Value} {kw : List (Str × Value)} {Q : Unit → Shared → Prop} (oC : h.get? C = some (excClassObj nm q C N bs bm hdct sn sub ab col dd k0 k1 k2 k3 k5 newId)) (z : Q () ⟨h, g, d, t, os⟩) :
    wpAny M A (checkBuiltinCall "type.__call__" ⟨.ref C :: us, kw⟩) Q E ⟨h, g, d, t, os⟩ := by
  have y3 := tc_sub
  have yT : (⟨h, g, d, t, os⟩ : Shared).TypeIs (.ref C) "type" := ⟨_, oC, rfl⟩
  simp only [checkBuiltinCall, tc_kind, tc_split]
  repeat (any_goals (first | assumption | with_reducible refine wpAny_loadPart_at oC ?_ | with_reducible refine wpAny_onRaise ?_ | with_reducible refine wpAny_map ?_ | wp_step))
end
section
variable {prog : Program} {w : World} {A : Around} {E : Value → Shared → Prop} {R : Result → Shared → Prop} {h : Heap} {g : Array GenState} {d : Drawn} {t : Nat} {os : OsState}
variable {nm q : Str} {C N : Addr} {bs bm bmB : List Value} {hdct : Bool} {sn : List Str} {sub : List Value} {ab : Bool} {col : Option Bool} {dd : Option Addr} {k0 k1 k2 k3 k5 : Option Value} {B newId initId : String}
theorem newK (F : ExcBaseFacts B newId initId bmB) (hT : ∀ X : String, bm.contains (.type X) = bmB.contains (.type X)) {us : List Value} {kw : List (Str × Value)}
    (oC : h.get? C = some (excClassObj nm q C N bs bm hdct sn sub ab col dd k0 k1 k2 k3 k5 newId)) (hus : us.length ≤ sizeLine)
    (z : R (.ok (.ret (.ref (h.objs.size + 1)))) ⟨(h.push { cls := .type "tuple", data := .seq us.toArray }).push { cls := .ref C, data := .fields #[.ref h.objs.size, .none, .none, .none, .bool false, .none] }, g, d, t, os⟩) :
    codeAny (model prog w) A (.builtin newId ⟨.ref C :: us, kw⟩) R ⟨h, g, d, t, os⟩ := by
  have hrest := hus
  have ends := F.ends
  have isB : (Value.ref C :: bm).contains (.type B) = true := by rw [List.contains_cons, hT, F.hasB, Bool.or_true]
  have noA : (Value.ref C :: bm).contains (.type "AttributeError") = false := by rw [List.contains_cons, hT, F.noAttr]; rfl
  have noN : (Value.ref C :: bm).contains (.type "NameError") = false := by rw [List.contains_cons, hT, F.noName]; rfl
  refine codeAny_builtinAt F.entry ?_
  unfold Builtin.«BaseException.__new__»
  refine wpAt_bind ?_
  show wpAt _ _ _ (stack >>= _) _ _ _
  refine wpAt_bind (wpAt_stack fun p below => wpAt_of_wpAny ?_)
  wp_walk
  refine wpAt_of_wpAny ?_
  rw [F.owner]
  repeat (first | with_reducible refine wpAny_madeHere_exc F.canon oC ?_ | with_reducible refine wpAny_loadPart_at oC ?_ | (with_reducible refine wpAny_isSubtype_exc oC ?_; first | rw [isB] | rw [noA] | rw [noN]) | wp_step)
  show R _ _
  rw [Heap.size_push]
  exact z
theorem tcallK (F : ExcBaseFacts B newId initId bmB) (hT : ∀ X : String, bm.contains (.type X) = bmB.contains (.type X)) {us : List Value} {kw : List (Str × Value)} {fI : Addr} {Q : Fin → Shared → Prop}
    (oC : h.get? C = some (excClassObj nm q C N bs bm hdct sn sub ab col dd k0 k1 k2 k3 k5 newId))
    (li : W.Looks (model prog w) h (typeLookup (.ref C) "__init__") (some (.ref fI))) (lb : ∀ self, W.Looks (model prog w) h (bindSpecial (.ref fI) self) (.ref fI, [self])) (hus : us.length ≤ sizeLine)
    (z : codeAny (model prog w) A (.call (.ref fI) ⟨.ref (h.objs.size + 1) :: us, kw⟩)
      (fun r s' => match r with | .ok (.ret v) => v = .none ∧ Q (.done (.ret (.ref (h.objs.size + 1)))) s' | .ok _ => False | .error e => E e s') ⟨(h.push (W.kdv_tup us)).push (excO C h.objs.size), g, d, t, os⟩) :
    wpAny (model prog w) A (Builtin.«type.__call__» ⟨.ref C :: us, kw⟩) Q E ⟨h, g, d, t, os⟩ := by
  repeat (first | with_reducible refine wpAny_loadPart_at oC ?_ | with_reducible refine wpAny_madeBy_exc oC ?_ | wp_step)
  refine codeAny_call_builtin_code (Code.quiet_builtin _ F.quiet) (chkNew F hT oC (newK F hT oC hus ?_))
  show wpAny _ _ _ _ _ _
  have kp : ∀ b o, h.get? b = some o → ((h.push (W.kdv_tup us)).push (excO C h.objs.size)).get? b = some o := fun b o e => Heap.get?_push_of_some _ (Heap.get?_push_of_some _ e)
  have oC1 := kp _ _ oC
  have ge : ((h.push (W.kdv_tup us)).push (excO C h.objs.size)).get? (h.objs.size + 1) = some (excO C h.objs.size) := by heap_get
  have isC : (Value.ref C :: bm).contains (.ref C) = true := by simp
  have li1 := li.keeps kp
  have lb1 := (lb (.ref (h.objs.size + 1))).keeps kp
  unfold isInstance
  repeat (first | with_reducible refine wpAny_loadPart_at ge ?_ | (with_reducible refine wpAny_isSubtype_exc oC1 ?_; rw [isC]) | wp_step)
  show wpAny _ _ (typeLookup (.ref C) _) _ _ _
  refine li1.at (wpAny_holding (wpAny_bind (lb1.at (wpAny_bind (wpAny_call (codeAny_mono z fun r s' y => ?_))))))
  rcases r with e | (v | _ | _ | _) <;> first | exact y | exact y.elim | skip
  obtain ⟨rfl, y⟩ := y
  first
    | exact wpAny_pure (wpAny_pure y)
    | (wp_walk; exact y)
theorem callK (F : ExcBaseFacts B newId initId bmB) (hT : ∀ X : String, bm.contains (.type X) = bmB.contains (.type X)) {us : List Value} {kw : List (Str × Value)} {fI : Addr}
    (oC : h.get? C = some (excClassObj nm q C N bs bm hdct sn sub ab col dd k0 k1 k2 k3 k5 newId))
    (li : W.Looks (model prog w) h (typeLookup (.ref C) "__init__") (some (.ref fI))) (lb : ∀ self, W.Looks (model prog w) h (bindSpecial (.ref fI) self) (.ref fI, [self])) (hus : us.length ≤ sizeLine)
    (z : codeAny (model prog w) (A.under (.builtin "type.__call__" ⟨.ref C :: us, kw⟩)) (.call (.ref fI) ⟨.ref (h.objs.size + 1) :: us, kw⟩) (W.InitBack (h.objs.size + 1) R) ⟨(h.push (W.kdv_tup us)).push (excO C h.objs.size), g, d, t, os⟩) :
    codeAny (model prog w) A (.call (.ref C) ⟨us, kw⟩) R ⟨h, g, d, t, os⟩ := by
  have y1 := tc_lookup
  have y2 := tc_bind (.ref C)
  have yT : (⟨h, g, d, t, os⟩ : Shared).TypeIs (.ref C) "type" := ⟨_, oC, rfl⟩
  refine codeAny_of_tree ?_
  show wpAny _ _ (callAny (.ref C) _) _ _ _
  repeat (any_goals (first | assumption | with_reducible refine wpAny_loadPart_at oC ?_ | wp_step))
  refine ⟨rfl, codeAny_call_builtin_at (Code.quiet_builtin _ (by decide +kernel)) entry_typeCall (chkCall oC (tcallK F hT oC li lb hus (codeAny_mono z fun r s' y => ?_)))⟩
  rcases r with e | (v | _ | _ | _) <;> exact y
end
end ErrK
end SecA4
section SecA5
set_option Elab.async false
set_option linter.all false
set_option maxRecDepth 100000
set_option maxHeartbeats 4000000
namespace Err
open PySem PySem.Spec PyProof.Rows L2 L2H
section
variable {X : Cx} {CX : CXT} {C fI : Addr} {k : Nat} {fd : FuncData} {ps : List Str} {sp : Sp}
/-- an error is made: what is called, the values in the parameters' order -/
theorem run_mk {pins : List (Addr × Obj)} {σ : L2.St} {H : Hp} {s : Shared} {R : Value → Shared → Prop} {us zs : List Value} {kw : List (Str × Value)} {vz : List V} {Qs : Addr → VK} (T : OexC X.K C) (iC : PySem.W.findIn X.K (.ref C) "__init__" = some (some (.ref fI)))
    (tI : PySem.W.typeIn X.K (.ref fI) = some (.type "function")) (F1 : FnOk X.prog X.w X.K X.mg X.base CX k fI fd ps sp) (hr : Room (k + 1) X.A) (hx : Passes CX X (fun _ _ _ => False)) (I : Inv X pins σ H s) (rz : Vals vz zs)
    (hb : ∀ (s' : Shared) (u0 : Value), X.K.In s'.heap → BindsTo s' fd ⟨u0 :: us, kw⟩ (ps.zip (u0 :: zs))) (hl : us.length ≤ 1000) (h : ∀ a, H a = none → sp (.ref a :: vz) (upd H a (exo a C none)) (Qs a) (fun _ _ _ => False))
    (hR : ∀ (a : Addr) (v : V) (u : Value) (H2 : Hp) (s' : Shared), s.heap.objs.size ≤ a → (∀ b o, s.heap.get? b = some o → b ≠ a) → Un (frs X.stack) [] (upd H a (exo a C none)) H2 ((s.heap.push (PySem.W.kdv_tup us)).push (PySem.HandSPX.excO C s.heap.objs.size)) s'.heap →
      HOk X.prog X.w H2 s'.heap → s'.os = s.os → AllBare s'.gens → Inv X pins σ H2 s' → RelV v u → Qs a v H2 → u = .none ∧ R (.ref a) s') :
    wpAny (model X.prog X.w) X.A (call (.ref C) us kw) R X.xe s := by
  obtain ⟨nm, q, N, bs, bm, sn, sub, ab, col, dd, k0, k1, k2, k3, k5, hC, hbm⟩ := T.cls
  obtain ⟨hp, g, dr, tk, os⟩ := s
  have sz : hp.objs.size ≤ hp.objs.size + 1 := Nat.le_succ _
  have na : H (hp.objs.size + 1) = none := I.hok.fresh sz
  have hq := h (hp.objs.size + 1) na
  have kp : ∀ b o, hp.get? b = some o → ((hp.push (PySem.W.kdv_tup us)).push (PySem.HandSPX.excO C hp.objs.size)).get? b = some o := fun b o e => Heap.get?_push_of_some _ (Heap.get?_push_of_some _ e)
  have ge : ((hp.push (PySem.W.kdv_tup us)).push (PySem.HandSPX.excO C hp.objs.size)).get? (hp.objs.size + 1) = some (PySem.HandSPX.excO C hp.objs.size) := by heap_get
  have I2 : Inv X pins σ (upd H (hp.objs.size + 1) (exo (hp.objs.size + 1) C none)) ⟨(hp.push (PySem.W.kdv_tup us)).push (PySem.HandSPX.excO C hp.objs.size), g, dr, tk, os⟩ := I.laid (t' := tk) (a := hp.objs.size + 1) kp sz (exo_ok ge)
  have rs : Vals (V.ref (hp.objs.size + 1) :: vz) (Value.ref (hp.objs.size + 1) :: zs) := .cons rfl rz
  have ls : us.length ≤ sizeLine := by
    rw [sizeLine_eq]
    omega
  refine wpAny_call (ErrK.callK F.excBase_ValueError (fun Y => PySem.HandSPX.refsVE_contains Y bm hbm) (I.kIn _ _ hC) (PySem.W.looks_findIn I.kIn iC) (fun self => PySem.W.bind_fn I.kIn self tI) ls
    (codeAny_mono (F1.run _ X.stack _ _ ⟨Value.ref (hp.objs.size + 1) :: us, kw⟩ (Value.ref (hp.objs.size + 1) :: zs) _ _ (fun _ _ _ => False) (hr.make C us kw) (I2.env0.make C us kw) (hb _ _ I2.kIn) rs hq) fun r s' hq' => ?_))
  cases r with
  | error er => exact hx pins σ _ _ er s' I2 hq'
  | ok fl =>
    cases fl with
    | ret u =>
      have y := hq'
      obtain ⟨v, H2, os2, bare2, un2, hok2, rv, q2⟩ := hq'
      obtain ⟨v', H2', I3, rv', q3⟩ := I2.after (Q := fun v' H' => v' = v ∧ H' = H2) (u := u) ⟨v, H2, os2, bare2, un2, hok2, rv, rfl, rfl⟩
      obtain ⟨e1, e2⟩ := q3
      subst e1
      subst e2
      exact hR _ _ _ _ s' sz (fun b o e => Nat.ne_of_lt (Nat.lt_of_lt_of_le (Heap.lt_size e) sz)) un2 hok2 os2 bare2 I3 rv q2
    | next => exact hq'.elim
    | brk => exact hq'.elim
    | cont => exact hq'.elim
/-- C(e, ..) as a value -/
def tMkV (C : Addr) (sp : Sp) (ta : TA) : TE := fun σ H Q => ta σ H fun vs H1 => vs.length ≤ 1000 ∧ ∀ a, H1 a = none → sp (.ref a :: vs) (upd H1 a (exo a C none)) (fun v H2 => v = .non ∧ Q (.ref a) H2) (fun _ _ _ => False)
def tMkVK (C : Addr) (sp : Sp) (gV : List V → List V) (n : Nat) (tk : TA) : TE := fun σ H Q => tk σ H fun zs H1 => zs.length = n ∧ ∀ a, H1 a = none → sp (.ref a :: gV zs) (upd H1 a (exo a C none)) (fun v H2 => v = .non ∧ Q (.ref a) H2) (fun _ _ _ => False)
variable {x : Str} {p pos : Pos} {e : Expr} {es : List Expr} {ta : TA}
theorem pe_mkv (T : OexC X.K C) (iC : PySem.W.findIn X.K (.ref C) "__init__" = some (some (.ref fI))) (tI : PySem.W.typeIn X.K (.ref fI) = some (.type "function")) (F1 : FnOk X.prog X.w X.K X.mg X.base CX k fI fd ps sp) (hr : Room (k + 1) X.A)
    (hb : Binds X.K fd ps []) (hx : Passes CX X (fun _ _ _ => False)) (hg : Gl X x) (hm : X.mg x = some (.ref C)) (ha : PA X (e :: es) ta) (hdb : (x == ("__debug__" : Str)) = false := by decide)
    (he : starEach (e :: es) X.env = (false, eval e X.env) :: starEach es X.env := by rfl) (hpl : (backTo pos (starEach es X.env)).any (·.1) = false := by rfl) : PE X (.Call (.Name x p) (e :: es) [] pos) (tMkV C sp ta) := by
  refine ⟨fun pins s σ H Q I h => wpAny_Call_Name_kw (ld_glob I hg hm ?_ hdb)⟩
  refine PySem.W.callWith_K (h₀ := X.base) I.ok.mod.kin T.kC (thn (ha.run pos pins s σ H _ I h) fun us s1 ⟨vs, H1, I1, r1, hz, q1⟩ => ⟨I1.kIn, ?_⟩) he hpl
  have n1 := I1.hok.fresh (Nat.le_refl _)
  have ll : ∀ u0 : Value, ((u0 :: us) ++ ([] : List Value)).length = ps.length := fun u0 => by
    have y := F1.len _ _ _ _ (q1 _ n1)
    rw [List.append_nil, ← y, List.length_cons, List.length_cons, Paired.length r1]
  exact run_mk (us := us) T iC tI F1 hr hx I1 r1 (fun s' u0 kin => by
      have y := hb s' (u0 :: us) kin (ll u0)
      rw [List.append_nil] at y
      exact y) (by show us.length ≤ 1000; rw [← Paired.length r1]; exact hz) q1 fun a v u H2 s' _ _ _ _ _ _ I3 rv q3 => by
    obtain ⟨rfl, q3⟩ := q3
    exact ⟨rv, ⟨.ref a, H2, I3, rfl, q3⟩⟩
theorem pe_mkv0 (T : OexC X.K C) (iC : PySem.W.findIn X.K (.ref C) "__init__" = some (some (.ref fI))) (tI : PySem.W.typeIn X.K (.ref fI) = some (.type "function")) (F1 : FnOk X.prog X.w X.K X.mg X.base CX k fI fd ps sp) (hr : Room (k + 1) X.A)
    (hb : Binds X.K fd ps []) (hx : Passes CX X (fun _ _ _ => False)) (hg : Gl X x) (hm : X.mg x = some (.ref C)) (hdb : (x == ("__debug__" : Str)) = false := by decide) : PE X (.Call (.Name x p) [] [] pos) (tMkV C sp tNil) := by
  refine ⟨fun pins s σ H Q I h => wpAny_Call_Name_kw (ld_glob I hg hm ?_ hdb)⟩
  refine PySem.W.callWith_K0 I.kIn T.kC ?_
  obtain ⟨_, q1⟩ := h
  have n1 := I.hok.fresh (Nat.le_refl _)
  have ll : ∀ u0 : Value, ([u0] ++ ([] : List Value)).length = ps.length := fun u0 => by
    have y := F1.len _ _ _ _ (q1 _ n1)
    rw [← y]; rfl
  exact run_mk (us := []) T iC tI F1 hr hx I .nil (fun s' u0 kin => hb s' [u0] kin (ll u0)) (Nat.zero_le _) q1 fun a v u H2 s' _ _ _ _ _ _ I3 rv q3 => by
    obtain ⟨rfl, q3⟩ := q3
    exact ⟨rv, ⟨.ref a, H2, I3, rfl, q3⟩⟩
theorem pe_mkvK {ks : List Str} {kws : List Keyword} {tk : TA} {g : List Value → List Value} {gV : List V → List V} (T : OexC X.K C) (iC : PySem.W.findIn X.K (.ref C) "__init__" = some (some (.ref fI))) (tI : PySem.W.typeIn X.K (.ref fI) = some (.type "function"))
    (F1 : FnOk X.prog X.w X.K X.mg X.base CX k fI fd ps sp) (hr : Room (k + 1) X.A) (hb : ∀ (s : Shared) (u0 : Value) (ws : List Value), X.K.In s.heap → ws.length = ks.length → BindsTo s fd ⟨[u0], ks.zip ws⟩ (ps.zip (u0 :: g ws)))
    (hrel : ∀ {zs : List V} {ws : List Value}, zs.length = ks.length → Vals zs ws → Vals (gV zs) (g ws)) (hx : Passes CX X (fun _ _ _ => False)) (hg : Gl X x) (hm : X.mg x = some (.ref C)) (hkw : PK X kws tk)
    (hall : (backToKw pos (keywordEach kws X.env)).all (·.1.isSome) = true := by rfl) (hks : (backToKw pos (keywordEach kws X.env)).filterMap (·.1) = ks := by rfl) (hdb : (x == ("__debug__" : Str)) = false := by decide)
    (hpl : ((backTo pos (starEach [] X.env)).any (·.1) || (backToKw pos (keywordEach kws X.env)).any (·.1.isNone)) = false := by rfl) : PE X (.Call (.Name x p) [] kws pos) (tMkVK C sp gV ks.length tk) := by
  refine ⟨fun pins s σ H Q I h => wpAny_Call_Name_kw (ld_glob I hg hm ?_ hdb)⟩
  refine PySem.W.callWith_KW0 (h₀ := X.base) I.ok.mod.kin T.kC hall (thn (hkw.run pos pins s σ H _ I h) fun ws s2 ⟨zs, H2, I2, rz, lz, q2⟩ => ⟨I2.kIn, ?_⟩) hpl
  rw [hks]
  have lw : ws.length = ks.length := by rw [← Paired.length rz]; exact lz
  exact run_mk (us := []) T iC tI F1 hr hx I2 (hrel lz rz) (fun s' u0 kin => hb s' u0 ws kin lw) (Nat.zero_le _) q2 fun a v u H3 s' _ _ _ _ _ _ I3 rv q3 => by
    obtain ⟨rfl, q3⟩ := q3
    exact ⟨rv, ⟨.ref a, H3, I3, rfl, q3⟩⟩
/-- raise C(e, ..): the error leaves what is tracked, its dict stays -/
theorem pmk_n (T : OexC X.K C) (iC : PySem.W.findIn X.K (.ref C) "__init__" = some (some (.ref fI))) (tI : PySem.W.typeIn X.K (.ref fI) = some (.type "function")) (F1 : FnOk X.prog X.w X.K X.mg X.base CX k fI fd ps sp) (hr : Room (k + 1) X.A)
    (hb : Binds X.K fd ps []) (hx : Passes CX X (fun _ _ _ => False)) (hg : Gl X x) (hm : X.mg x = some (.ref C)) (ha : PA X (e :: es) ta) (hdb : (x == ("__debug__" : Str)) = false := by decide)
    (he : starEach (e :: es) X.env = (false, eval e X.env) :: starEach es X.env := by rfl) (hpl : (backTo pos (starEach es X.env)).any (·.1) = false := by rfl) : L2N.PMk X (.Call (.Name x p) (e :: es) [] pos) (tMkO C sp [] ta) := by
  intro pins s σ H Q I h
  refine wpAny_Call_Name_kw (ld_glob I hg hm ?_ hdb)
  refine PySem.W.callWith_K (h₀ := X.base) I.ok.mod.kin T.kC (thn (ha.run pos pins s σ H _ I h) fun us s1 ⟨vs, H1, I1, r1, hz, q1⟩ => ⟨I1.kIn, ?_⟩) he hpl
  rw [List.append_nil] at q1
  have n1 := I1.hok.fresh (Nat.le_refl _)
  have ll : ∀ u0 : Value, ((u0 :: us) ++ ([] : List Value)).length = ps.length := fun u0 => by
    have y := F1.len _ _ _ _ (q1 _ n1)
    rw [List.append_nil, ← y, List.length_cons, List.length_cons, Paired.length r1]
  refine run_mk (us := us) T iC tI F1 hr hx I1 r1 (fun s' u0 kin => by
      have y := hb s' (u0 :: us) kin (ll u0)
      rw [List.append_nil] at y
      exact y) (by show us.length ≤ 1000; rw [← Paired.length r1]; exact hz) q1 fun a v u H2 s' sz _ un2 hok2 os2 bare2 I3 rv q3 => ?_
  obtain ⟨rfl, d, fs, ea, ed, hd1, q3⟩ := q3
  obtain ⟨hp, g, dr, tk, os⟩ := s1
  obtain ⟨h2, g2, d2, t2, os'⟩ := s'
  refine ⟨rv, ?_⟩
  obtain ⟨t0, G, J, kG, gn, hoe, na⟩ := mk_end0 (d2 := d2) (t2 := t2) I1 sz (fun b o z => Heap.get?_push_of_some _ (Heap.get?_push_of_some _ z)) un2 hok2 os2 bare2 ea ed hd1
  exact ⟨a, _, _, ⟨G, g2, d2, t2, os'⟩, _, .ref C, some d, rfl, J, kG, gn, hoe, ⟨rfl, rfl, fun vs z => by cases z; rfl⟩, rfl, rfl, na, rfl, bare2, raises_own T.exC T.tyC, q3⟩
/-- raise C(), an error without fields -/
def tMkO0 (C : Addr) (sp : Sp) : L2.St → Hp → XK → Prop := fun _ H Q => ∀ a, H a = none → sp [.ref a] (upd H a (exo a C none)) (fun v H2 => v = .non ∧ H2 = upd H a (exo a C none) ∧ Q (.ref C) none H) (fun _ _ _ => False)
theorem pmk_n0 (T : OexC X.K C) (iC : PySem.W.findIn X.K (.ref C) "__init__" = some (some (.ref fI))) (tI : PySem.W.typeIn X.K (.ref fI) = some (.type "function")) (F1 : FnOk X.prog X.w X.K X.mg X.base CX k fI fd ps sp) (hr : Room (k + 1) X.A)
    (hb : Binds X.K fd ps []) (hx : Passes CX X (fun _ _ _ => False)) (hg : Gl X x) (hm : X.mg x = some (.ref C)) (hdb : (x == ("__debug__" : Str)) = false := by decide) : L2N.PMk X (.Call (.Name x p) [] [] pos) (tMkO0 C sp) := by
  intro pins s σ H Q I q1
  refine wpAny_Call_Name_kw (ld_glob I hg hm ?_ hdb)
  refine PySem.W.callWith_K0 I.kIn T.kC ?_
  have n1 := I.hok.fresh (Nat.le_refl _)
  have ll : ∀ u0 : Value, ([u0] ++ ([] : List Value)).length = ps.length := fun u0 => by
    have y := F1.len _ _ _ _ (q1 _ n1)
    rw [← y]; rfl
  refine run_mk (us := []) T iC tI F1 hr hx I .nil (fun s' u0 kin => hb s' [u0] kin (ll u0)) (Nat.zero_le _) q1 fun a v u H2 s' sz nea un2 hok2 os2 bare2 I3 rv q3 => ?_
  obtain ⟨rfl, e2, q3⟩ := q3
  subst e2
  refine ⟨rv, ?_⟩
  obtain ⟨hp, g, dr, tk, os⟩ := s
  obtain ⟨h2, g2, d2, t2, os'⟩ := s'
  have na : H a = none := I.hok.fresh sz
  obtain ⟨t0, hoe⟩ := exo_at hok2 (upd_same : upd H a (exo a C none) a = _)
  obtain ⟨G, ga, gb⟩ := restrict h2 fun b => decide (b ≠ a)
  have gk : ∀ b, b ≠ a → G.get? b = h2.get? b := fun b hb => ga b (decide_eq_true hb)
  have gn : G.get? a = none := gb a (by simp)
  have kp : ∀ b o, hp.get? b = some o → ((hp.push (PySem.W.kdv_tup [])).push (PySem.HandSPX.excO C hp.objs.size)).get? b = some o := fun b o z => Heap.get?_push_of_some _ (Heap.get?_push_of_some _ z)
  have off : ∀ {b : Addr} {o : HO}, H b = some o → b ≠ a := fun z => ne_of_none z na
  have U : Un (frs X.stack) [] H H hp G := {
    keep := fun b o z n hf hx => by rw [gk b (nea b o z)]; exact un2.keep b o (kp b o z) (by rw [upd_ne (nea b o z)]; exact n) hf hx
    slot := fun b o z n hf hx => by rw [gk b (nea b o z)]; exact un2.slot b o (kp b o z) (by rw [upd_ne (nea b o z)]; exact n) hf hx
    free := fun _ _ _ n _ => n
    there := fun b o z hx => by rw [gk b (nea b o z)]; exact un2.there b o (kp b o z) hx
    tups := fun _ _ z => z
    frzs := fun _ _ _ z => z
    tbls := fun b ps z => ⟨#[], by rw [z]; simp⟩ }
  have ok3 : HOk X.prog X.w H G := fun b o z => by
    have y := hok2 b o (by rw [upd_ne (off z)]; exact z)
    refine y.stay (fun c v hc r => ?_) (fun c hc => ?_) (fun c xs hc => ?_)
    · have hca : c ≠ a := by
        rcases hc with hc | hc
        · rw [hc]; exact off z
        · intro e
          rw [e, upd_same] at hc
          exact exo_own (Option.some.inj hc)
      rw [gk c hca]
      exact r
    · have hca : c ≠ a := fun e => by
        rw [e, upd_same] at hc
        exact exo_own (Option.some.inj hc)
      rw [upd_ne hca] at hc
      exact hc
    · have hca : c ≠ a := fun e => by
        rw [e, upd_same] at hc
        exact exo_tup (Option.some.inj hc)
      rw [upd_ne hca] at hc
      exact hc
  have J : Inv X pins σ H ⟨G, g2, d2, t2, os'⟩ := I.call' (ch := []) os2 U ok3 bare2 (fun b z => absurd z (by simp))
  refine ⟨a, _, _, ⟨G, g2, d2, t2, os'⟩, H, .ref C, none, rfl, J, fun b o z => ?_, gn, hoe, ⟨rfl, rfl, fun vs z => by cases z; rfl⟩, rfl, rfl, na, rfl, bare2, raises_own T.exC T.tyC, q3⟩
  by_cases hba : b = a
  · have z' : G.get? b = some o := z
    rw [hba, gn] at z'
    cases z'
  · exact (gk b hba).symm.trans z
end
end Err
end SecA5
section SecA6
set_option Elab.async false
set_option linter.all false
set_option maxRecDepth 100000
set_option maxHeartbeats 4000000
namespace Err
open PySem PySem.Spec PyProof.Rows L2
/-- a clause's test e: M tells of a class whether it matches -/
def Tst (X : Cx) (e : Expr) (M : Value → Bool → Prop) : Prop := ∀ (a : Addr) (oe : Obj) (pn : List (Addr × Obj)) (s : Shared) (σ : L2.St) (H : Hp) (cls : Value) (b : Bool) (Q : Bool → Shared → Prop) (E E2 : Value → Shared → Prop),
  Inv (X.suite a ((a, oe) :: pn)) [] σ H s → oe.cls = cls → M cls b → (∀ h', (∀ b o, s.heap.get? b = some o → h'.get? b = some o) → Q b { s with heap := h' }) →
  wpAny (model X.prog X.w) (X.A.mark (some (.ref a))) (eval e X.env) (fun c s1 => wpAny (model X.prog X.w) (X.A.mark (some (.ref a))) (excMatches (.ref a) c) Q E2 s1) E s
section
variable {X : Cx}
theorem name_at {a : Addr} {oe : Obj} {pn : List (Addr × Obj)} {s : Shared} {σ : L2.St} {H : Hp} {x : Str} {c : Value} {np : Pos} {Q : Value → Shared → Prop} {E : Value → Shared → Prop} (hc : Names X x c) (I : Inv (X.suite a ((a, oe) :: pn)) [] σ H s) (q : Q c s) :
    wpAny (model X.prog X.w) (X.A.mark (some (.ref a))) (eval (.Name x np) X.env) Q E s := by
  obtain ⟨hg, hdbg, hm | ⟨hm, hv, hnn⟩⟩ := hc
  · exact ld_glob (X := X.suite a ((a, oe) :: pn)) I hg hm q hdbg
  · exact ld_blt (X := X.suite a ((a, oe) :: pn)) I hg hm hv q hnn hdbg
theorem tst_name {x : Str} {c : Value} {np : Pos} (hc : Names X x c) : Tst X (.Name x np) (fun cls b => PySem.W.exmOne X.K cls c = some b) := fun a oe pn s σ H cls b Q E E2 I ec m q => by
  have g := (I.pin (a, oe) (List.mem_append_left _ List.mem_cons_self)).1
  have LT : PySem.W.Looks (model X.prog X.w) s.heap (typeOf (.ref a)) cls := fun A Q E s k z => wpAny_typeOf_ref (k _ _ g) (by rw [ec]; exact z)
  exact name_at hc I ((PySem.W.exm_one (M := model X.prog X.w) I.kIn LT m).here (q s.heap fun _ _ z => z))
theorem tst_pair {x1 x2 : Str} {c1 c2 : Value} {n1 n2 tp : Pos} {z1} (h1 : Names X x1 c1) (h2 : Names X x2 c2)
    (hs : starEach [.Name x1 n1, .Name x2 n2] X.env = [(false, eval (.Name x1 n1) X.env), (false, eval (.Name x2 n2) X.env)] := by rfl) :
    Tst X (.Tuple [.Name x1 n1, .Name x2 n2] z1 tp) (fun cls b => PySem.W.exmAny X.K cls [c1, c2] = some b) := fun a oe pn s σ H cls b Q E E2 I ec m q => by
  have g := (I.pin (a, oe) (List.mem_append_left _ List.mem_cons_self)).1
  refine wpAny_Tuple_spliced ?_
  rw [hs]
  show wpAny _ _ (spliced ((false, eval (.Name x1 n1) X.env) :: [(false, eval (.Name x2 n2) X.env)])) _ _ s
  refine Calls.spliced_cons (name_at h1 I (Calls.spliced_cons (name_at h2 I (Calls.spliced_nil ⟨by show 2 ≤ sizeLine; decide, ?_⟩))))
  have kp : ∀ b o, s.heap.get? b = some o → (s.heap.push { cls := .type "tuple", data := .seq [c1, c2].toArray }).get? b = some o := fun b o z => Heap.get?_push_of_some _ z
  have LT : PySem.W.Looks (model X.prog X.w) (s.heap.push { cls := .type "tuple", data := .seq [c1, c2].toArray }) (typeOf (.ref a)) cls := fun A Q E s k z => wpAny_typeOf_ref (k _ _ (kp _ _ g)) (by rw [ec]; exact z)
  exact (PySem.W.exm_tup2 (M := model X.prog X.w) (I.kIn.keeps kp) LT (Heap.get?_push_size _ rfl) m).here (q _ kp)
/-- where a suite ends -/
def endAt (i : Option Nat) (D : Ends) : Ends := match i with
  | none => D
  | some i => { nx := fun σ' H' => D.nx (σ'.set i none) H', rt := D.rt, bk := fun σ' H' => D.bk (σ'.set i none) H', ct := fun σ' H' => D.ct (σ'.set i none) H' }
def putAt (i : Option Nat) (a : Addr) (σ : L2.St) : L2.St := match i with
  | none => σ
  | some i => σ.set i (some (.ref a))
abbrev Cl := (Value → Bool → Prop) × Option Nat × (Addr → Value → Option Addr → TS)
/-- the wish of the clauses, one behind the other -/
def wCl (Wout : WX) (D : Ends) : List Cl → WX
  | [] => Wout
  | (M, i, ts) :: r => fun cls d σ H => ∃ b, M cls b ∧ (b = true → ∀ a, H a = none → ts a cls d (endAt i D) (putAt i a σ) H) ∧ (b = false → wCl Wout D r cls d σ H)
inductive ClOk (X : Cx) : List ExceptHandler → List Cl → Prop
  | nil : ClOk X [] []
  | as {t : Expr} {n : Str} {i : Nat} {M : Value → Bool → Prop} {ts : Addr → Value → Option Addr → TS} {b0 : Stmt} {suite : List Stmt} {pos' : Pos} {hds : List ExceptHandler} {l : List Cl} (ht : Tst X t M) (hi : X.N[i]? = some n) (hl : X.env.kindOf n = some .local)
      (hsu : ∀ (a : Addr) (oe : Obj) (cls : Value) (d : Option Addr) (pn : List (Addr × Obj)), L2N.Zn cls d oe → (∃ vs, oe.data = .fields vs) → PSs (X.suite a ((a, oe) :: pn)) (b0 :: suite) (ts a cls d)) (r : ClOk X hds l) :
      ClOk X (.ExceptHandler (some t) (some n) (b0 :: suite) pos' :: hds) ((M, some i, ts) :: l)
  | only {t : Expr} {M : Value → Bool → Prop} {ts : Addr → Value → Option Addr → TS} {b0 : Stmt} {suite : List Stmt} {pos' : Pos} {hds : List ExceptHandler} {l : List Cl} (ht : Tst X t M)
      (hsu : ∀ (a : Addr) (oe : Obj) (cls : Value) (d : Option Addr) (pn : List (Addr × Obj)), L2N.Zn cls d oe → (∃ vs, oe.data = .fields vs) → PSs (X.suite a ((a, oe) :: pn)) (b0 :: suite) (ts a cls d)) (r : ClOk X hds l) :
      ClOk X (.ExceptHandler (some t) none (b0 :: suite) pos' :: hds) ((M, none, ts) :: l)
theorem flying_grows {B h h' : Heap} {l : List Env} {a : Addr} {Z : Obj → Prop} (fl : HandSPX.FlyingZ B l a Z h) (k : ∀ b o, h.get? b = some o → h'.get? b = some o) : HandSPX.FlyingZ B l a Z h' := by
  obtain ⟨f1, f2, f3, oe, vs, T, oT, ts, e1, e2, e3, e4, e5, e6, e7, e8, e9⟩ := fl
  exact ⟨fun b o z => k _ _ (f1 b o z), f2, Heap.FunFrames.of_keeps (fun b o e _ => ⟨o, k b o e, rfl⟩) f3, oe, vs, T, oT, ts, k _ _ e1, e2, e3, e4, e5, e6, k _ _ e7, e8, e9⟩
theorem upto_grows {h h1 h2 : Heap} (u : h.UpToSlots h1) (k : ∀ b o, h1.get? b = some o → h2.get? b = some o) : h.UpToSlots h2 := u.trans (Heap.UpToSlots.of_keeps k)
variable {body : List Stmt} {h0 : ExceptHandler} {hds : List ExceptHandler} {l : List Cl} {pos : Pos} {tb : WX → TS} {Wout : WX}
theorem ps_trys (hs : X.stack = X.env :: X.outer) (hf : X.env.frame = some X.env.locals) (hN : X.N.Nodup) (tk : L2N.Takes X Wout)
    (hb : ∀ (W : WX) (pn : List (Addr × Obj)) (xe : Value → Shared → Prop), L2N.Takes (X.tr pn xe) W → PassesOwn (model X.prog X.w) X.A X.env xe → PSs (X.tr pn xe) body (tb W))
    (hh : ClOk X (h0 :: hds) l) : PS X (.Try body (h0 :: hds) [] [] pos) (fun D σ H => tb (wCl Wout D l) D σ H) := by
  refine ⟨fun pins s σ H D I h => ?_⟩
  have ok := I.ok
  have hfr : X.A.frames = some (X.env :: X.outer) := by rw [ok.frames, hs]
  refine wpAny_Try_except (wpAny_mono ((hb (wCl Wout D l) (X.pn ++ pins) (fun e s1 => wpAny (model X.prog X.w) X.A (noteFrame e X.env) (fun _ s2 => wpAny (model X.prog X.w) X.A (setFlight e none) (fun _ s3 =>
    wpAny (model X.prog X.w) X.A (handleBy e X.env (h0 :: hds)) (SP X pins D) X.xe s3) X.xe s2) X.xe s1) (fun u s' xx => ?_) PassesOwn.looking).run [] s σ H D (I.toTry _) h) (fun f s1 hsp => ?_) (fun e s1 he => he))
  · obtain ⟨a, B, sI, pins', σ1, H1, cls, d, rfl, J0, nb, up, sky, na, os, ag, w⟩ := xx
    have J : Inv X pins σ1 H1 sI := J0.ofTry ok
    have sky1 : Sky B (X.env :: X.outer) a (L2N.Zn cls d) X.env.locals s'.heap := by rw [← hs]; exact sky
    show wpAny (model X.prog X.w) X.A (noteFrame (.ref a) X.env) _ _ _
    refine L2N.Sky.land L2N.Zn.steady hfr hf sky1 fun h3 fl3 up3 => ?_
    have go : ∀ {hs1 : List ExceptHandler} {l1 : List Cl}, ClOk X hs1 l1 → ∀ h4, HandSPX.FlyingZ B (X.env :: X.outer) a (L2N.Zn cls d) h4 → sI.heap.UpToSlots h4 → wCl Wout D l1 cls d σ1 H1 →
        wpAny (model X.prog X.w) X.A (handleBy (.ref a) X.env hs1) (SP X pins D) X.xe { s' with heap := h4 } := by
      intro hs1 l1 hk
      -- what stands at any heap that the error flies over
      have land : ∀ h4, HandSPX.FlyingZ B (X.env :: X.outer) a (L2N.Zn cls d) h4 → sI.heap.UpToSlots h4 → ∃ oe, L2N.Zn cls d oe ∧ (∃ vs, oe.data = .fields vs) ∧ h4.get? a = some oe ∧ Inv (X.suite a ((a, oe) :: (X.pn ++ pins))) [] σ1 H1 { s' with heap := h4 } := fun h4 fl4 up4 => by
        have J4 : Inv X pins σ1 H1 { s' with heap := h4 } := J.landed nb fl4.1 up4 os ag
        obtain ⟨oe, vs, he, hz, hd⟩ := fl4.there
        have nfr : a ∉ frs (X.env :: X.outer) := fun y => by
          obtain ⟨_, o1, e1, hnf⟩ := fl4.2.2.1.mem y
          rw [he] at e1
          cases e1
          exact hnf _ hd
        refine ⟨oe, hz, ⟨vs, hd⟩, he, J4.suite he hd na (fun y => nfr ?_) fun y => nfr ?_⟩
        · exact List.mem_filterMap.mpr ⟨X.env, List.mem_cons_self, by rw [hf, y]⟩
        · obtain ⟨e1, m1, q1⟩ := List.mem_filterMap.mp y
          exact List.mem_filterMap.mpr ⟨e1, List.mem_cons_of_mem _ m1, q1⟩
      induction hk with
      | nil =>
        intro h4 fl4 up4 w
        refine wpAny_handleBy_nil ?_
        obtain ⟨k1, k2, k3, oe, vs, T, oT, ts', he, hz, hd, e1, hr⟩ := id fl4
        unfold PySem.passOn
        refine wpAny_bind (wpAny_field he hd e1 ?_)
        rw [if_neg (show ¬ ((Value.ref T == Value.none) = true) from by simp)]
        have fin : wpAny (model X.prog X.w) X.A (setFlight (.ref a) X.env.frame) (fun _ s4 => wpAny (model X.prog X.w) X.A (throw (.ref a) : Sem Flow) (SP X pins D) X.xe s4) X.xe { s' with heap := h4 } := by
          rw [hf]
          exact HandSPX.setFlight_upZ fl4 fun h5 fl5 up5 => wpAny_throw (tk _ _ ⟨a, B, sI, pins, σ1, H1, cls, d, rfl, J, nb, up4.trans up5, .inr (.inr (by rw [hs]; exact fl5)), na, os, ag, w⟩)
        first
          | exact wpAny_bind (wpAny_pure (wpAny_bind fin))
          | exact wpAny_bind fin
      | @as t n i M ts b0 suite pos' hds2 l2 ht hi hl hsu r ih =>
        intro h4 fl4 up4 w
        obtain ⟨b, hb1, yes, no⟩ := w
        obtain ⟨oe, hz, hd, he, S4⟩ := land h4 fl4 up4
        refine wpAny_handleBy_cons (codeAny_handlers_test (ht a oe _ _ _ _ cls b _ _ _ S4 hz.1 hb1 fun h5 k5 => ?_)) (by intro q; cases q)
        have fl5 := flying_grows fl4 k5
        have up5 := upto_grows up4 k5
        cases b with
        | true =>
          refine codeAny_handlers_suite_as (HandSPX.lands_againZ fl5 fun h6 fl6 up6 => ?_)
          obtain ⟨oe6, hz6, hd6, he6, S6⟩ := land h6 fl6 (up5.trans up6)
          refine store_ok (X := X.suite a ((a, oe6) :: (X.pn ++ pins))) (v := .ref a) S6 hN hi (.inl hl) rfl (fun s7 S7 => ?_) (.inr hl)
          refine wpAny_mono ((hsu a oe6 cls d (X.pn ++ pins) hz6 hd6).run [] s7 _ H1 _ S7 (yes rfl a na)) (fun f s8 hsp => ?_) (fun _ _ z => z.elim)
          have gone : ∀ {σ8 : L2.St} {H8 : Hp} {Q : Shared → Prop}, Inv (X.suite a ((a, oe6) :: (X.pn ++ pins))) [] σ8 H8 s8 → (∀ s9, Inv X pins (σ8.set i none) H8 s9 → Q s9) →
              wpAny (model X.prog X.w) X.A (do bindName X.env n .none; unbindBehindTheSuite X.env n pos') (fun _ s9 => Q s9) X.xe s8 := fun {σ8 H8 Q} S8 hq => gone_ok (S8.unsuite ok) hN hi hl hq
          cases f with
          | next =>
            obtain ⟨σ8, H8, S8, q8⟩ := hsp
            exact gone S8 fun s9 J9 => ⟨_, _, J9, q8⟩
          | brk =>
            obtain ⟨σ8, H8, S8, q8⟩ := hsp
            exact gone S8 fun s9 J9 => ⟨_, _, J9, q8⟩
          | cont =>
            obtain ⟨σ8, H8, S8, q8⟩ := hsp
            exact gone S8 fun s9 J9 => ⟨_, _, J9, q8⟩
          | ret u =>
            obtain ⟨v8, σ8, H8, S8, r8, q8⟩ := hsp
            exact gone S8 fun s9 J9 => ⟨_, _, _, J9, r8, q8⟩
        | false => exact ih h5 fl5 up5 (no rfl)
      | @only t M ts b0 suite pos' hds2 l2 ht hsu r ih =>
        intro h4 fl4 up4 w
        obtain ⟨b, hb1, yes, no⟩ := w
        obtain ⟨oe, hz, hd, he, S4⟩ := land h4 fl4 up4
        refine wpAny_handleBy_cons (codeAny_handlers_test (ht a oe _ _ _ _ cls b _ _ _ S4 hz.1 hb1 fun h5 k5 => ?_)) (by intro q; cases q)
        have fl5 := flying_grows fl4 k5
        have up5 := upto_grows up4 k5
        cases b with
        | true =>
          refine codeAny_handlers_suite (HandSPX.lands_againZ fl5 fun h6 fl6 up6 => ?_)
          obtain ⟨oe6, hz6, hd6, he6, S6⟩ := land h6 fl6 (up5.trans up6)
          refine wpAny_mono ((hsu a oe6 cls d (X.pn ++ pins) hz6 hd6).run [] _ _ H1 _ S6 (yes rfl a na)) (fun f s8 hsp => ?_) (fun _ _ z => z.elim)
          cases f with
          | next =>
            obtain ⟨σ8, H8, S8, q8⟩ := hsp
            exact ⟨_, _, S8.unsuite ok, q8⟩
          | brk =>
            obtain ⟨σ8, H8, S8, q8⟩ := hsp
            exact ⟨_, _, S8.unsuite ok, q8⟩
          | cont =>
            obtain ⟨σ8, H8, S8, q8⟩ := hsp
            exact ⟨_, _, S8.unsuite ok, q8⟩
          | ret u =>
            obtain ⟨v8, σ8, H8, S8, r8, q8⟩ := hsp
            exact ⟨_, _, _, S8.unsuite ok, r8, q8⟩
        | false => exact ih h5 fl5 up5 (no rfl)
    exact go hh h3 fl3 (up.trans up3) w
  · cases f with
    | next =>
      obtain ⟨σ1, H1, J1, q⟩ := hsp
      exact wpAny_execs_nil ⟨σ1, H1, J1.ofTry ok, q⟩
    | brk =>
      obtain ⟨σ1, H1, J1, q⟩ := hsp
      exact ⟨σ1, H1, J1.ofTry ok, q⟩
    | cont =>
      obtain ⟨σ1, H1, J1, q⟩ := hsp
      exact ⟨σ1, H1, J1.ofTry ok, q⟩
    | ret u =>
      obtain ⟨v1, σ1, H1, J1, r1, q⟩ := hsp
      exact ⟨v1, σ1, H1, J1.ofTry ok, r1, q⟩
end
end Err
end SecA6
section SecA7
set_option Elab.async false
set_option linter.all false
set_option maxRecDepth 100000
set_option maxHeartbeats 4000000
namespace Rd
open PySem PySem.Spec PyProof.Rows L2
section
variable {D : Ends} {σ : L2.St} {H : Hp} {Q : VK} {t1 t2 : TS} {te ta tb : TE} {g : TG} {i : Nat} {v x y : V} {c c1 c2 : TT} {K : PySem.W.Frag} {QB : Bool → Hp → Prop} {tl tr : TA} {QA : List V → Hp → Prop}
theorem seq (q : t1 { D with nx := t2 D } σ H) : tSeq t1 t2 D σ H := q
theorem asg (q : te σ H fun x H1 => g x σ H1 D.nx) : tAsg te g D σ H := q
theorem nm {Q : L2.St → Hp → Prop} (q : Q (σ.set i (some v)) H) : gName i v σ H Q := q
theorem sub {r : TSet} {Q : L2.St → Hp → Prop} (q : ta σ H fun o H1 => tb σ H1 fun i H2 => r o i v H2 fun H3 => Q σ H3) : gSub ta tb r v σ H Q := q
theorem ret (q : te σ H D.rt) : tRet te D σ H := q
theorem retN (q : D.rt .non H) : tRetN D σ H := q
theorem drop (q : te σ H fun _ H1 => D.nx σ H1) : tDrop te D σ H := q
theorem ifs (q : c σ H fun b H1 => if b = true then t1 D σ H1 else t2 D σ H1) : tIfS c t1 t2 D σ H := q
theorem next (q : D.nx σ H) : tNext D σ H := q
theorem var (h : σ[i]? = some (some v)) (q : Q v H) : tVar i σ H Q := ⟨v, h, q⟩
theorem cst (q : Q v H) : tC v σ H Q := q
theorem op {r : R2} (q : ta σ H fun x H1 => tb σ H1 fun y H2 => r x y H2 Q) : tOp r ta tb σ H Q := q
theorem un {r : V → Hp → VK → Prop} (q : ta σ H fun x H1 => r x H1 Q) : tUn r ta σ H Q := q
theorem test (q : te σ H fun x H' => ∃ k, x = .bl k ∧ QB k H') : tTest te σ H QB := q
theorem tb' (q : te σ H fun x H' => ∃ k, x = .bl k ∧ QB k H') : tB te σ H QB := q
theorem exb {Z : Bool → Prop} {b : Bool} (q : Z b) : ∃ k, V.bl b = .bl k ∧ Z k := ⟨b, rfl, q⟩
theorem and2 (q : c1 σ H fun b H1 => if b = true then c2 σ H1 QB else QB false H1) : tAnd c1 c2 σ H QB := q
theorem or2 (q : c1 σ H fun b H1 => if b = true then QB true H1 else c2 σ H1 QB) : tOr c1 c2 σ H QB := q
theorem not1 (q : c σ H fun b H1 => QB (!b) H1) : tNot c σ H QB := q
theorem andV (q : ta σ H fun x H1 => ∃ c, x = .bl c ∧ if c = true then tb σ H1 Q else Q (.bl false) H1) : tAndV ta tb σ H Q := q
theorem orV (q : ta σ H fun x H1 => ∃ c, x = .bl c ∧ if c = true then Q (.bl true) H1 else tb σ H1 Q) : tOrV ta tb σ H Q := q
theorem notV (q : ta σ H fun x H1 => ∃ c, x = .bl c ∧ Q (.bl (!c)) H1) : tNotV ta σ H Q := q
theorem nil (q : QA [] H) : tNil σ H QA := q
theorem cons (q : ta σ H fun x H1 => tr σ H1 fun xs H2 => QA (x :: xs) H2) : tCons ta tr σ H QA := q
theorem cb {r : List V → Hp → VK → Prop} (q : tl σ H fun vs H1 => r vs H1 Q) : tCB r tl σ H Q := q
theorem i0 {f : Int → Int → V} {a b : Int} (q : Q (f a b) H) : rI0 f (.int a) (.int b) H Q := ⟨a, b, rfl, rfl, q⟩
theorem i1 {C : Int → Int → Prop} {f : Int → Int → V} {a b : Int} (hc : C a b) (q : Q (f a b) H) : rI C f (.int a) (.int b) H Q := ⟨a, b, rfl, rfl, hc, q⟩
theorem u1 {f : Int → V} {a : Int} (q : Q (f a) H) : rU f (.int a) H Q := ⟨a, rfl, q⟩
theorem ixL {p : Addr} {xs : List V} {a : Int} (h : H p = some (.lst xs)) (ha : atI xs a = some v) (q : Q v H) : rIxL K (.ref p) (.int a) H Q := ⟨p, xs, a, v, rfl, rfl, SqL.of h, ha, q⟩
theorem ixT {p : Addr} {xs : List V} {a : Int} (h : H p = some (.tup xs)) (ha : atI xs a = some v) (q : Q v H) : rIxT K (.ref p) (.int a) H Q := ⟨p, xs, a, v, rfl, rfl, SqT.of h, ha, q⟩
theorem setL {p : Addr} {xs : List V} {a : Int} {j : Nat} {Q : Hp → Prop} (h : H p = some (.lst xs)) (ha : ixN xs.length a = some j) (q : Q (upd H p (.lst (xs.set j v)))) : rSetL (.ref p) (.int a) v H Q := ⟨p, xs, a, j, rfl, rfl, h, ha, q⟩
theorem eq (hs : scal x y = true) (q : Q (.bl (decide (x = y))) H) : rEq x y H Q := ⟨hs, q⟩
theorem ne (hs : scal x y = true) (q : Q (.bl (!decide (x = y))) H) : rNe x y H Q := ⟨hs, q⟩
theorem call {sp : Sp} {dvs : List V} {E : XK} (q : tl σ H fun vs H1 => sp (vs ++ dvs) H1 Q E) : tCall sp dvs E tl σ H Q := q
theorem tup (q : tl σ H fun xs H1 => xs.length ≤ sizeLine ∧ ∀ p, H1 p = none → Q (.ref p) (upd H1 p (.tup xs))) : tTup tl σ H Q := q
theorem lst (q : tl σ H fun xs H1 => xs.length ≤ sizeLine ∧ ∀ p, H1 p = none → Q (.ref p) (upd H1 p (.lst xs))) : tLst tl σ H Q := q
theorem sl {r : V → Option Int → Option Int → Hp → VK → Prop} {to tp : TO} (q : te σ H fun x H1 => to σ H1 fun l H2 => tp σ H2 fun u H3 => r x l u H3 Q) : tSl r te to tp σ H Q := q
theorem no {Q : Option Int → Hp → Prop} (q : Q none H) : tNoPart σ H Q := q
theorem part {Q : Option Int → Hp → Prop} (q : te σ H fun x H1 => ∃ i, x = .int i ∧ Q (some i) H1) : tPart te σ H Q := q
theorem exi {Z : Int → Prop} {a : Int} (q : Z a) : ∃ k, V.int a = .int k ∧ Z k := ⟨a, rfl, q⟩
theorem slL {p : Addr} {xs : List V} {lo hi : Option Int} (h : H p = some (.lst xs)) (q : ∀ p', H p' = none → Q (.ref p') (upd H p' (.lst (cutV xs lo hi)))) : rSlL K (.ref p) lo hi H Q := ⟨p, xs, rfl, SqL.of h, q⟩
theorem at_ {X : Cx} {n : Str} (q : te σ H fun x H1 => ∃ (a C dd : Addr) (fs : List (Str × V)) (v : V), x = .ref a ∧ Err.Ec X.K C ∧ PySem.W.findIn X.K (.ref C) n = some none ∧ Err.Seen X H1 a C (some dd) ∧ Err.Dk H1 dd fs ∧ fs.lookup n = some v ∧ Q v H1) :
    Err.tAt X n te σ H Q := q
theorem ifT {b : Bool} {A B : Prop} (h : b = true) (q : A) : if b = true then A else B := by rw [if_pos h]; exact q
theorem ifF {b : Bool} {A B : Prop} (h : b = false) (q : B) : if b = true then A else B := by rw [h, if_neg Bool.false_ne_true]; exact q
theorem ifB {b : Bool} {A B : Prop} (q1 : b = true → A) (q2 : b = false → B) : if b = true then A else B := by
  cases b with
  | true => rw [if_pos rfl]; exact q1 rfl
  | false => rw [if_neg Bool.false_ne_true]; exact q2 rfl
theorem lenL {p : Addr} {xs : List V} (h : H p = some (.lst xs)) (q : Q (.int (xs.length : Nat)) H) : ∃ (x : V) (n : Nat), [V.ref p] = [x] ∧ LenV K x H n ∧ Q (.int (n : Nat)) H := ⟨_, _, rfl, .inl ⟨xs, SqL.of h, rfl⟩, q⟩
theorem lenT {p : Addr} {xs : List V} (h : H p = some (.tup xs)) (q : Q (.int (xs.length : Nat)) H) : ∃ (x : V) (n : Nat), [V.ref p] = [x] ∧ LenV K x H n ∧ Q (.int (n : Nat)) H := ⟨_, _, rfl, .inr ⟨xs, SqT.of h, rfl⟩, q⟩
theorem lenS {z : Str} (h : z.length ≤ sizeLine) (q : Q (.int (z.length : Nat)) H) : ∃ (x : V) (n : Nat), [V.str z] = [x] ∧ LenV K x H n ∧ Q (.int (n : Nat)) H := ⟨_, _, rfl, ⟨h, rfl⟩, q⟩
theorem int1 {a : Int} (q : Q (.int a) H) : (∃ i, [V.int a] = [V.int i] ∧ Q (.int i) H) ∨ ∃ k, [V.int a] = [V.bl k] ∧ Q (.int (if k = true then 1 else 0)) H := .inl ⟨a, rfl, q⟩
theorem int1b {b : Bool} (q : Q (.int (if b = true then 1 else 0)) H) : (∃ i, [V.bl b] = [V.int i] ∧ Q (.int i) H) ∨ ∃ k, [V.bl b] = [V.bl k] ∧ Q (.int (if k = true then 1 else 0)) H := .inr ⟨b, rfl, q⟩
theorem abs1 {a : Int} (q : Q (.int (if a < 0 then -a else a)) H) : ∃ i, [V.int a] = [V.int i] ∧ Q (.int (if i < 0 then -i else i)) H := ⟨a, rfl, q⟩
def rLenK (K : PySem.W.Frag) : List V → Hp → VK → Prop := fun xs H Q => ∃ (x : V) (n : Nat), xs = [x] ∧ LenV K x H n ∧ Q (.int (n : Nat)) H
theorem lenKL {p : Addr} {xs : List V} (h : H p = some (.lst xs)) (q : Q (.int (xs.length : Nat)) H) : rLenK K [.ref p] H Q := ⟨_, _, rfl, .inl ⟨xs, SqL.of h, rfl⟩, q⟩
theorem lenKT {p : Addr} {xs : List V} (h : H p = some (.tup xs)) (q : Q (.int (xs.length : Nat)) H) : rLenK K [.ref p] H Q := ⟨_, _, rfl, .inr ⟨xs, SqT.of h, rfl⟩, q⟩
theorem lenKS {z : Str} (h : z.length ≤ sizeLine) (q : Q (.int (z.length : Nat)) H) : rLenK K [.str z] H Q := ⟨_, _, rfl, ⟨h, rfl⟩, q⟩
theorem lc {wi : TI} {tt : TT} {vs : List Nat} (q : wi σ H fun J H1 => ∀ d, H1 d = none → ∃ W : Nat → Nat → Hp → Prop, (∃ m, W 0 m (upd H1 d (.lst []))) ∧ ∀ i m H, W i m H →
  (J.stop i H ∧ Q (.ref d) H) ∨ (J.go i H ∧ ∃ Nx : Hp → Prop, (∀ H', Nx H' → ∃ m', m' < m ∧ W (i + 1) m' H') ∧ ∀ x H', J.yld i H x H' → g x (wipe σ vs) H' fun σ2 H2 => wipe σ2 vs = wipe σ vs ∧ tt σ2 H2 fun b H3 =>
    if b = true then te σ2 H3 fun y H4 => ∃ acc, H4 d = some (.lst acc) ∧ acc.length < sizeLine ∧ Nx (upd H4 d (.lst (acc ++ [y]))) else Nx H3)) : tLc wi g tt te vs σ H Q := q
theorem rng {R : It → Hp → Prop} (q : tl σ H fun vs H1 => ∃ j : Int, vs = [.int j] ∧ -(2 ^ 62) ≤ j ∧ j < 2 ^ 62 ∧ R (Itr 0 j.toNat) H1) : iRng1 tl σ H R := q
theorem fors {wi : TI} (q : wi σ H fun J H1 => ∃ W : Nat → Nat → L2.St → Hp → Prop, (∃ m, W 0 m σ H1) ∧ ∀ i m σ H, W i m σ H →
  (J.stop i H ∧ D.nx σ H) ∨ (J.go i H ∧ ∃ N : L2.St → Hp → Prop, (∀ σ' H', N σ' H' → ∃ m', m' < m ∧ W (i + 1) m' σ' H') ∧ ∀ x H', J.yld i H x H' → g x σ H' fun σ2 H2 => t1 { D with nx := N, ct := N, bk := D.nx } σ2 H2)) : tFor wi g t1 D σ H := q
theorem m1 {r : V → List V → Hp → VK → Prop} (q : ta σ H fun x H1 => (∃ a, x = .str a) ∧ tb σ H1 fun y H2 => r x [y] H2 Q) : tM1 r ta tb σ H Q := q
theorem exs {Z : Prop} {z : Str} (q : Z) : (∃ a, V.str z = .str a) ∧ Z := ⟨⟨z, rfl⟩, q⟩
theorem ixS {z : Str} {a : Int} {c : Nat} (hl : z.length ≤ sizeLine) (h : atI z.cps.toList a = some c) (q : Q (.str ⟨#[c]⟩) H) : rIxS (.str z) (.int a) H Q := ⟨z, a, c, rfl, rfl, hl, h, q⟩
theorem yes (q : QB true H) : tYes σ H QB := q
theorem ex2 {α β : Type} {A : α → β → Prop} {x : α} {n : β} (h : A x n) : ∃ x n, A x n := ⟨x, n, h⟩
theorem cut {t u : TS} (Mid : L2.St → Hp → Prop) (h : t { D with nx := Mid } σ H) (k : ∀ σ' H', Mid σ' H' → u D σ' H') : C8.tCut t u D σ H := ⟨Mid, h, k⟩
end
end Rd
end SecA7
section SecN1
set_option Elab.async false
set_option linter.all false
set_option maxRecDepth 100000
set_option maxHeartbeats 4000000
namespace Dt
open PySem PySem.Spec PyProof.Rows L2
/-! values that stand for data: None, bools, ints, texts, lists and tuples of such, all of them tracked -/
/-- what is no tape -/
def NotTape (o : HO) : Prop := ∀ (a b c : Int) (l : Addr), o ≠ .lst [.int a, .int b, .int c, .ref l]
/-- all that is no tape stands as it stood -/
def Sam (H H' : Hp) : Prop := ∀ b o, NotTape o → H b = some o → H' b = some o
theorem Sam.refl {H : Hp} : Sam H H := fun _ _ _ h => h
theorem Sam.trans {H H1 H2 : Hp} (a : Sam H H1) (b : Sam H1 H2) : Sam H H2 := fun x o n h => b x o n (a x o n h)
theorem Sam.of {H H' : Hp} (s : Same H H') : Sam H H' := fun b o _ h => s b o h
theorem nt_tup {xs : List V} : NotTape (.tup xs) := fun _ _ _ _ z => by cases z
mutual
inductive Rp (H : Hp) : V → PyData → Prop
  | non : Rp H .non .none
  | bl (b : Bool) : Rp H (.bl b) (.bool b)
  | int (i : Int) : Rp H (.int i) (.int i)
  | str (z : Str) : Rp H (.str z) (.str z)
  | lst {p : Addr} {vs : List V} {ds : List PyData} : H p = some (.lst vs) → RpAll H vs ds → ds.length ≤ 1000 → NotTape (.lst vs) → Rp H (.ref p) (.list ds)
  | tup {p : Addr} {vs : List V} {ds : List PyData} : H p = some (.tup vs) → RpAll H vs ds → ds.length ≤ 1000 → Rp H (.ref p) (.tuple ds)
inductive RpAll (H : Hp) : List V → List PyData → Prop
  | nil : RpAll H [] []
  | cons {v : V} {vs : List V} {d : PyData} {ds : List PyData} : Rp H v d → RpAll H vs ds → RpAll H (v :: vs) (d :: ds)
end
mutual
theorem Rp.mono {H H' : Hp} (s : Sam H H') : ∀ (d : PyData) (v : V), Rp H v d → Rp H' v d
  | .none, _, h => by cases h; exact .non
  | .bool b, _, h => by cases h; exact .bl b
  | .int i, _, h => by cases h; exact .int i
  | .str z, _, h => by cases h; exact .str z
  | .list ds, _, h => by
    cases h with
    | lst e a l n => exact .lst (s _ _ n e) (RpAll.mono s ds _ a) l n
  | .tuple ds, _, h => by
    cases h with
    | tup e a l => exact .tup (s _ _ nt_tup e) (RpAll.mono s ds _ a) l
  | .dict _, _, h => by cases h
theorem RpAll.mono {H H' : Hp} (s : Sam H H') : ∀ (ds : List PyData) (vs : List V), RpAll H vs ds → RpAll H' vs ds
  | [], _, h => by cases h; exact .nil
  | d :: ds, _, h => by
    cases h with
    | cons a b => exact .cons (Rp.mono s d _ a) (RpAll.mono s ds _ b)
end
theorem Rp.to {H H' : Hp} {v : V} {d : PyData} (s : Same H H') (h : Rp H v d) : Rp H' v d := Rp.mono (Sam.of s) d v h
theorem Rp.sm {H H' : Hp} {v : V} {d : PyData} (s : Sam H H') (h : Rp H v d) : Rp H' v d := Rp.mono s d v h
theorem RpAll.to {H H' : Hp} {vs : List V} {ds : List PyData} (s : Same H H') (h : RpAll H vs ds) : RpAll H' vs ds := RpAll.mono (Sam.of s) ds vs h
theorem RpAll.sm {H H' : Hp} {vs : List V} {ds : List PyData} (s : Sam H H') (h : RpAll H vs ds) : RpAll H' vs ds := RpAll.mono s ds vs h
mutual
theorem Rp.dp {K : PySem.W.Frag} {H : Hp} : ∀ (d : PyData) (v : V), Rp H v d → Dp K H v d
  | .none, _, h => by cases h; exact .non
  | .bool b, _, h => by cases h; exact .bl b
  | .int i, _, h => by cases h; exact .int i
  | .str z, _, h => by cases h; exact .str z
  | .list ds, _, h => by
    cases h with
    | lst e a l n => exact .lst (SqL.of e) (RpAll.dp ds _ a)
  | .tuple ds, _, h => by
    cases h with
    | tup e a l => exact .tup (SqT.of e) (RpAll.dp ds _ a)
  | .dict _, _, h => by cases h
theorem RpAll.dp {K : PySem.W.Frag} {H : Hp} : ∀ (ds : List PyData) (vs : List V), RpAll H vs ds → DpAll K H vs ds
  | [], _, h => by cases h; exact .nil
  | d :: ds, _, h => by
    cases h with
    | cons a b => exact .cons (Rp.dp d _ a) (RpAll.dp ds _ b)
end
theorem RpAll.len {H : Hp} : ∀ {vs : List V} {ds : List PyData}, RpAll H vs ds → vs.length = ds.length
  | _, [], h => by cases h; rfl
  | _, d :: ds, h => by
    cases h with
    | cons a b => exact congrArg (· + 1) (RpAll.len b)
theorem RpAll.app {H : Hp} : ∀ {vs us : List V} {ds es : List PyData}, RpAll H vs ds → RpAll H us es → RpAll H (vs ++ us) (ds ++ es)
  | _, us, [], es, h, k => by cases h; exact k
  | _, us, d :: ds, es, h, k => by
    cases h with
    | cons a b => exact .cons a (RpAll.app b k)
theorem RpAll.at {H : Hp} : ∀ {vs : List V} {ds : List PyData} {i : Nat} {v : V}, RpAll H vs ds → vs[i]? = some v → ∃ d, ds[i]? = some d ∧ Rp H v d
  | _, [], i, v, h, e => by cases h; simp at e
  | _, d :: ds, 0, v, h, e => by
    cases h with
    | cons a b =>
      cases e
      exact ⟨d, rfl, a⟩
  | _, d :: ds, i + 1, v, h, e => by
    cases h with
    | cons a b =>
      have e' : _ = some v := e
      rw [List.getElem?_cons_succ] at e'
      have z := RpAll.at b e'
      rw [List.getElem?_cons_succ]
      exact z
theorem RpAll.get {H : Hp} {vs : List V} {ds : List PyData} {i : Nat} {d : PyData} (h : RpAll H vs ds) (e : ds[i]? = some d) : ∃ v, vs[i]? = some v ∧ Rp H v d := by
  have hi := (List.getElem?_eq_some_iff.mp e).1
  rw [← h.len] at hi
  obtain ⟨d', e', r⟩ := h.at (List.getElem?_eq_getElem hi)
  rw [e] at e'
  cases e'
  exact ⟨_, List.getElem?_eq_getElem hi, r⟩
theorem rp_ints {H : Hp} : ∀ ns : List Int, RpAll H (ns.map V.int) (ns.map PyData.int)
  | [] => .nil
  | n :: ns => .cons (.int n) (rp_ints ns)
/-- ints as data are ints -/
theorem RpAll.ints {H : Hp} : ∀ {vs : List V} (ns : List Int), RpAll H vs (ns.map PyData.int) → vs = ns.map V.int
  | _, [], h => by cases h; rfl
  | _, n :: ns, h => by
    cases h with
    | cons a b =>
      cases a
      rw [RpAll.ints ns b]
      rfl
theorem RpAll.cut {H : Hp} : ∀ {vs : List V} {ds : List PyData} (n : Nat), RpAll H vs ds → RpAll H (vs.take n) (ds.take n)
  | _, ds, 0, h => .nil
  | _, [], n + 1, h => by cases h; exact .nil
  | _, d :: ds, n + 1, h => by
    cases h with
    | cons a b => exact .cons a (RpAll.cut n b)
theorem RpAll.past {H : Hp} : ∀ {vs : List V} {ds : List PyData} (n : Nat), RpAll H vs ds → RpAll H (vs.drop n) (ds.drop n)
  | _, ds, 0, h => h
  | _, [], n + 1, h => by cases h; exact .nil
  | _, d :: ds, n + 1, h => by
    cases h with
    | cons a b => exact RpAll.past n b
/-! what isinstance tells of them -/
def tInt : PyData → Bool | .int _ => true | .bool _ => true | _ => false
def tBool : PyData → Bool | .bool _ => true | _ => false
def tStr : PyData → Bool | .str _ => true | _ => false
def tTuple : PyData → Bool | .tuple _ => true | _ => false
def tList : PyData → Bool | .list _ => true | _ => false
def dInt : PyData → Bool | .int _ => true | _ => false
section
variable {K : PySem.W.Frag} {H : Hp} {Q : VK} {v : V} {d : PyData}
theorem isi_any {n : String} {f : PyData → Bool} (h : Rp H v d) (k1 : PySem.W.kitOne K (.type "NoneType") (.type n) = some (f .none)) (k2 : ∀ b, PySem.W.kitOne K (.type "bool") (.type n) = some (f (.bool b))) (k3 : ∀ i, PySem.W.kitOne K (.type "int") (.type n) = some (f (.int i)))
    (k4 : ∀ z, PySem.W.kitOne K (.type "str") (.type n) = some (f (.str z))) (k5 : ∀ l, PySem.W.kitOne K (.type "list") (.type n) = some (f (.list l))) (k6 : ∀ l, PySem.W.kitOne K (.type "tuple") (.type n) = some (f (.tuple l))) (q : Q (.bl (f d)) H) : rIsi K [v, .ty n] H Q := by
  cases h with
  | non => exact ⟨_, _, _, _, _, rfl, ClsV.ty _, TyX.base TyOf.non, k1, q⟩
  | bl b => exact ⟨_, _, _, _, _, rfl, ClsV.ty _, TyX.base (TyOf.bl _), k2 b, q⟩
  | int i => exact ⟨_, _, _, _, _, rfl, ClsV.ty _, TyX.base (TyOf.int _), k3 i, q⟩
  | str z => exact ⟨_, _, _, _, _, rfl, ClsV.ty _, TyX.base (TyOf.str _), k4 z, q⟩
  | lst e a l n => exact ⟨_, _, _, _, _, rfl, ClsV.ty _, TyX.base (TyOf.lst e), k5 _, q⟩
  | tup e a l => exact ⟨_, _, _, _, _, rfl, ClsV.ty _, TyX.base (TyOf.tup e), k6 _, q⟩
theorem kt {a b : String} {r : Bool} (h : PySem.W.kitOne [] (.type a) (.type b) = some r) (g : ∀ K, PySem.W.kitOne K (.type a) (.type b) = PySem.W.kitOne [] (.type a) (.type b)) : PySem.W.kitOne K (.type a) (.type b) = some r := by rw [g]; exact h
theorem isi_int (h : Rp H v d) (q : Q (.bl (tInt d)) H) : rIsi K [v, .ty "int"] H Q := isi_any (f := tInt) h (kit_ty (r := false) (by decide +kernel)) (fun _ => kit_ty (r := true) (by decide +kernel)) (fun _ => kit_ty (r := true) (by decide +kernel)) (fun _ => kit_ty (r := false) (by decide +kernel)) (fun _ => kit_ty (r := false) (by decide +kernel)) (fun _ => kit_ty (r := false) (by decide +kernel)) q
theorem isi_bool (h : Rp H v d) (q : Q (.bl (tBool d)) H) : rIsi K [v, .ty "bool"] H Q := isi_any (f := tBool) h (kit_ty (r := false) (by decide +kernel)) (fun _ => kit_ty (r := true) (by decide +kernel)) (fun _ => kit_ty (r := false) (by decide +kernel)) (fun _ => kit_ty (r := false) (by decide +kernel)) (fun _ => kit_ty (r := false) (by decide +kernel)) (fun _ => kit_ty (r := false) (by decide +kernel)) q
theorem isi_str (h : Rp H v d) (q : Q (.bl (tStr d)) H) : rIsi K [v, .ty "str"] H Q := isi_any (f := tStr) h (kit_ty (r := false) (by decide +kernel)) (fun _ => kit_ty (r := false) (by decide +kernel)) (fun _ => kit_ty (r := false) (by decide +kernel)) (fun _ => kit_ty (r := true) (by decide +kernel)) (fun _ => kit_ty (r := false) (by decide +kernel)) (fun _ => kit_ty (r := false) (by decide +kernel)) q
theorem isi_tuple (h : Rp H v d) (q : Q (.bl (tTuple d)) H) : rIsi K [v, .ty "tuple"] H Q := isi_any (f := tTuple) h (kit_ty (r := false) (by decide +kernel)) (fun _ => kit_ty (r := false) (by decide +kernel)) (fun _ => kit_ty (r := false) (by decide +kernel)) (fun _ => kit_ty (r := false) (by decide +kernel)) (fun _ => kit_ty (r := false) (by decide +kernel)) (fun _ => kit_ty (r := true) (by decide +kernel)) q
theorem isi_list (h : Rp H v d) (q : Q (.bl (tList d)) H) : rIsi K [v, .ty "list"] H Q := isi_any (f := tList) h (kit_ty (r := false) (by decide +kernel)) (fun _ => kit_ty (r := false) (by decide +kernel)) (fun _ => kit_ty (r := false) (by decide +kernel)) (fun _ => kit_ty (r := false) (by decide +kernel)) (fun _ => kit_ty (r := true) (by decide +kernel)) (fun _ => kit_ty (r := false) (by decide +kernel)) q
end
/-- new objects -/
theorem same_put {H H' : Hp} {d : Addr} {o : HO} (h : H d = none) (s : Same H H') : Same H (upd H' d o) := fun b u e => by rw [upd_ne (ne_of_none e h)]; exact s b u e
theorem newK {H J : Hp} {p : Addr} {o : HO} (e : upd H p o = J) (h : H p = none) : J p = some o ∧ Same H J := by
  subst e
  exact ⟨upd_same, same_put h (Same.refl _)⟩
/-- a walk over a list or a tuple -/
theorem pi_or {X : Cx} {tg l : Expr} {w1 w2 : TI} (h1 : PI X tg l w1) (h2 : PI X tg l w2) : PI X tg l (fun σ H R => w1 σ H R ∨ w2 σ H R) := ⟨fun pins s σ H R I h => h.elim (h1.run pins s σ H R I) (h2.run pins s σ H R I)⟩
/-! ints: the gcd of some, lowest terms -/
def gcdL (ns : List Int) : Int := ((ns.foldl (fun g n => Nat.gcd g n.natAbs) 0 : Nat) : Int)
def lowL (ns : List Int) : List Int := ns.map fun n => n / gcdL ns
end Dt
end SecN1
section SecN2
set_option Elab.async false
set_option linter.all false
set_option maxRecDepth 100000
set_option maxHeartbeats 4000000
namespace Dt
open PySem PySem.Spec PyProof.Rows L2 L2H Err
/-- a def of the text, by its name -/
structure Dn (P : Program) (w : World) (K : PySem.W.Frag) (mg : Str → Option Value) (base : Heap) (CX : CXT) (x : Str) (k : Nat) (ps : List Str) (sp : Sp) : Prop where
  ex : ∃ f fd, FnOk P w K mg base CX k f fd ps sp ∧ mg x = some (.ref f) ∧ PySem.W.keepIn K (.ref f) = true ∧ Binds K fd ps []
section
variable {X : Cx} {x : Str} {k : Nat} {ps : List Str} {sp : Sp} {q pos : Pos} {e : Expr} {es : List Expr} {t : TA}
theorem pe_dn (D : Dn X.prog X.w X.K X.mg X.base CX0 x k ps sp) (hr : Room k X.A) (ha : PA X (e :: es) t) (hg : Gl X x := by rfl) (hdb : (x == ("__debug__" : Str)) = false := by decide)
    (he : starEach (e :: es) X.env = (false, eval e X.env) :: starEach es X.env := by rfl) (hpl : (backTo pos (starEach es X.env)).any (·.1) = false := by rfl) : PE X (.Call (.Name x q) (e :: es) [] pos) (tCall sp [] E0 t) := by
  obtain ⟨f, fd, F, hm, hk, hb⟩ := D.ex
  exact pe_call F hr hg hm hk hb .nil pass0 ha hdb he hpl
end
/-- what stands in H, but for t, stands in H' -/
def Keeps (t : Addr) (H H' : Hp) : Prop := ∀ b o, b ≠ t → H b = some o → H' b = some o
theorem Keeps.refl {t : Addr} {H : Hp} : Keeps t H H := fun _ _ _ h => h
theorem Keeps.trans {t : Addr} {H H1 H2 : Hp} (a : Keeps t H H1) (b : Keeps t H1 H2) : Keeps t H H2 := fun x o n h => b x o n (a x o n h)
theorem Keeps.of {t : Addr} {H H' : Hp} (s : Same H H') : Keeps t H H' := fun b o _ h => s b o h
/-- the tape at t, the script's copy at l -/
structure Tape (t l : Addr) (ns : List Int) (H : Hp) : Prop where
  ex : ∃ a b c : Int, H t = some (.lst [.int a, .int b, .int c, .ref l]) ∧ 0 ≤ c
  sc : H l = some (.lst (ns.map V.int))
theorem Tape.ne {t l : Addr} {ns : List Int} {H : Hp} (T : Tape t l ns H) : l ≠ t := by
  obtain ⟨a, b, c, e, _⟩ := T.ex
  refine ne_of T.sc e fun z => ?_
  have z' := HO.lst.inj z
  match ns, z' with
  | [], z' => cases z'
  | [_], z' => cases z'
  | [_, _], z' => cases z'
  | [_, _, _], z' => cases z'
  | _ :: _ :: _ :: w :: _, z' =>
    simp at z'
theorem Tape.mono {t l : Addr} {ns : List Int} {H H' : Hp} (T : Tape t l ns H) (s : Same H H') : Tape t l ns H' := by
  obtain ⟨a, b, c, e, h⟩ := T.ex
  exact ⟨⟨a, b, c, s _ _ e, h⟩, s _ _ T.sc⟩
/-- a number below m, not below 0; the tape goes on, all else stands -/
def spDraw : Sp := fun vs H Q _ => ∃ (t l : Addr) (ns : List Int) (m : Int), vs = [.ref t, .int m] ∧ Tape t l ns H ∧ ns.length ≤ 63 ∧ 0 < m ∧ m < 1000000 ∧
  ∀ (v : Int) (H' : Hp), 0 ≤ v → v < m → Tape t l ns H' → Keeps t H H' → Q (.int v) H'
/-- x is True, x is False: x anything -/
def rIsT : R2 := fun x y H Q => ∃ b : Bool, y = .bl b ∧ Q (.bl (decide (x = .bl b))) H
def rNotT : R2 := fun x y H Q => ∃ b : Bool, y = .bl b ∧ Q (.bl (!decide (x = .bl b))) H
section
variable {X : Cx}
theorem plain_of {x : V} {v : Value} {b : Bool} (r : RelV x v) : PySem.plainIs v (.bool b) = true ∧ (v = .bool b ↔ x = .bl b) := by
  cases x with
  | non => cases (show v = Value.none from r); exact ⟨rfl, by simp⟩
  | bl c => cases (show v = Value.bool c from r); exact ⟨rfl, by simp⟩
  | int i => obtain ⟨t, e⟩ := (show ∃ t, v = Value.int i t from r); cases e; exact ⟨rfl, by simp⟩
  | str z => obtain ⟨t, e⟩ := (show ∃ t, v = Value.str z t from r); cases e; exact ⟨rfl, by simp⟩
  | byt z => obtain ⟨t, e⟩ := (show ∃ t, v = Value.bytes z t from r); cases e; exact ⟨rfl, by simp⟩
  | flt z => obtain ⟨t, e⟩ := (show ∃ t, v = Value.float z t from r); cases e; exact ⟨rfl, by simp⟩
  | ref a => cases (show v = Value.ref a from r); exact ⟨rfl, by simp⟩
  | ty n => cases (show v = Value.type n from r); exact ⟨rfl, by simp⟩
theorem op_is_bl : OpR X (compareOp .Is) rIsT := by
  intro pins s σ H x y v u Q I rx ry h
  obtain ⟨b, rfl, q⟩ := h
  cases (show u = Value.bool b from ry)
  obtain ⟨h1, h2⟩ := plain_of (b := b) rx
  by_cases e : x = .bl b
  · have ev := h2.mpr e
    subst ev
    rw [decide_eq_true e] at q
    exact wpAny_is_self h1 ⟨.bl true, H, I, rfl, q⟩
  · rw [decide_eq_false e] at q
    exact wpAny_is_other h1 (fun z => e (h2.mp z)) ⟨.bl false, H, I, rfl, q⟩
theorem op_isnot_bl : OpR X (compareOp .IsNot) rNotT := by
  intro pins s σ H x y v u Q I rx ry h
  obtain ⟨b, rfl, q⟩ := h
  cases (show u = Value.bool b from ry)
  obtain ⟨h1, h2⟩ := plain_of (b := b) rx
  by_cases e : x = .bl b
  · have ev := h2.mpr e
    subst ev
    rw [decide_eq_true e] at q
    exact wpAny_isNot_self h1 ⟨.bl false, H, I, rfl, q⟩
  · rw [decide_eq_false e] at q
    exact wpAny_isNot_other h1 (fun z => e (h2.mp z)) ⟨.bl true, H, I, rfl, q⟩
end
/-- __init__ of an error with the fields nm, made at a: its dict is new, or there is none -/
def spI (C : Addr) (nm : List Str) : Sp := fun vs H Q _ => ∃ (a : Addr) (vals : List V), vs = .ref a :: vals ∧ vals.length = nm.length ∧ H a = some (exo a C none) ∧ (nm = [] → Q .non H) ∧
  (nm ≠ [] → ∀ (d : Addr) (H' : Hp), H d = none → d ≠ a → H' a = some (exo a C (some d)) → H' d = some (exd d (nm.zip vals).reverse) → (∀ b o, b ≠ a → H b = some o → H' b = some o) → Q .non H')
/-- a class of errors of the text -/
structure Kl (P : Program) (w : World) (K : PySem.W.Frag) (mg : Str → Option Value) (base : Heap) (x : Str) (C : Addr) (nm : List Str) : Prop where
  ec : Ec K C
  g : mg x = some (.ref C)
  no : ∀ f ∈ nm, PySem.W.findIn K (.ref C) f = some none
  ini : ∃ fI fd, PySem.W.findIn K (.ref C) "__init__" = some (some (.ref fI)) ∧ PySem.W.typeIn K (.ref fI) = some (.type "function") ∧ FnOk P w K mg base CX0 1 fI fd (("self" : Str) :: nm) (spI C nm) ∧ Binds K fd (("self" : Str) :: nm) [] ∧
    ∀ (s : Shared) (u0 : Value) (ws : List Value), K.In s.heap → ws.length = nm.reverse.length → BindsTo s fd ⟨[u0], nm.reverse.zip ws⟩ ((("self" : Str) :: nm).zip (u0 :: ws.reverse))
/-- the error stands, its fields in the sequence of its dict -/
def ErrO (H : Hp) (a C : Addr) (fs : List (Str × V)) : Prop := (fs = [] ∧ H a = some (exo a C none)) ∨ ∃ d, H a = some (exo a C (some d)) ∧ H d = some (exd d fs)
theorem ErrO.mono {H H' : Hp} {a C : Addr} {fs : List (Str × V)} (s : Same H H') (h : ErrO H a C fs) : ErrO H' a C fs := by
  rcases h with ⟨e, h⟩ | ⟨d, h1, h2⟩
  · exact .inl ⟨e, s _ _ h⟩
  · exact .inr ⟨d, s _ _ h1, s _ _ h2⟩
section
variable {X : Cx} {x : Str} {C : Addr} {nm : List Str} {p pos pos2 : Pos} {e : Expr} {es : List Expr} {ta : TA}
theorem pe_new (L : Kl X.prog X.w X.K X.mg X.base x C nm) (hr : Room 2 X.A) (ha : PA X (e :: es) ta) (hg : Gl X x := by rfl) (hdb : (x == ("__debug__" : Str)) = false := by decide)
    (he : starEach (e :: es) X.env = (false, eval e X.env) :: starEach es X.env := by rfl) (hpl : (backTo pos (starEach es X.env)).any (·.1) = false := by rfl) : PE X (.Call (.Name x p) (e :: es) [] pos) (tMkV C (spI C nm) ta) := by
  obtain ⟨fI, fd, iC, tI, F1, hb, _⟩ := L.ini
  exact pe_mkv L.ec.oex iC tI F1 hr hb pass0 hg L.g ha hdb he hpl
theorem pe_new0 (L : Kl X.prog X.w X.K X.mg X.base x C nm) (hr : Room 2 X.A) (hg : Gl X x := by rfl) (hdb : (x == ("__debug__" : Str)) = false := by decide) : PE X (.Call (.Name x p) [] [] pos) (tMkV C (spI C nm) tNil) := by
  obtain ⟨fI, fd, iC, tI, F1, hb, _⟩ := L.ini
  exact pe_mkv0 L.ec.oex iC tI F1 hr hb pass0 hg L.g hdb
theorem pe_newK {kws : List Keyword} {tk : TA} (L : Kl X.prog X.w X.K X.mg X.base x C nm) (hr : Room 2 X.A) (hkw : PK X kws tk) (hks : (backToKw pos (keywordEach kws X.env)).filterMap (·.1) = nm.reverse := by rfl) (hg : Gl X x := by rfl)
    (hdb : (x == ("__debug__" : Str)) = false := by decide) (hall : (backToKw pos (keywordEach kws X.env)).all (·.1.isSome) = true := by rfl)
    (hpl : ((backTo pos (starEach [] X.env)).any (·.1) || (backToKw pos (keywordEach kws X.env)).any (·.1.isNone)) = false := by rfl) : PE X (.Call (.Name x p) [] kws pos) (tMkVK C (spI C nm) List.reverse nm.reverse.length tk) := by
  obtain ⟨fI, fd, iC, tI, F1, hb, hk⟩ := L.ini
  exact pe_mkvK (g := List.reverse) (gV := List.reverse) (ks := nm.reverse) L.ec.oex iC tI F1 hr hk (fun {zs ws} _ r => by
    have go : ∀ {as : List V} {bs : List Value}, Vals as bs → Vals as.reverse bs.reverse := by
      intro as bs h
      induction h with
      | nil => exact .nil
      | cons a t ih =>
        rw [List.reverse_cons, List.reverse_cons]
        exact ih.append (.cons a .nil)
    exact go r) pass0 hg L.g hkw hall hks hdb hpl
theorem ps_rse (E : XK) (L : Kl X.prog X.w X.K X.mg X.base x C nm) (hc : X.calm = true) (hr : Room 2 X.A) (tk : L2N.Takes X (fun cls d _ H => E cls d H)) (ha : PA X (e :: es) ta) (hg : Gl X x := by rfl) (hdb : (x == ("__debug__" : Str)) = false := by decide)
    (he : starEach (e :: es) X.env = (false, eval e X.env) :: starEach es X.env := by rfl) (hpl : (backTo pos (starEach es X.env)).any (·.1) = false := by rfl) : PS X (.Raise (some (.Call (.Name x p) (e :: es) [] pos)) none pos2) (fun _ σ H => tMkO C (spI C nm) [] ta σ H fun cls d H' => E cls d H') := by
  obtain ⟨fI, fd, iC, tI, F1, hb, _⟩ := L.ini
  exact L2N.ps_raise hc tk (pmk_n L.ec.oex iC tI F1 hr hb pass0 hg L.g ha hdb he hpl)
theorem ps_rse0 (E : XK) (L : Kl X.prog X.w X.K X.mg X.base x C nm) (hc : X.calm = true) (hr : Room 2 X.A) (tk : L2N.Takes X (fun cls d _ H => E cls d H)) (hg : Gl X x := by rfl) (hdb : (x == ("__debug__" : Str)) = false := by decide) :
    PS X (.Raise (some (.Call (.Name x p) [] [] pos)) none pos2) (fun _ σ H => tMkO0 C (spI C nm) σ H fun cls d H' => E cls d H') := by
  obtain ⟨fI, fd, iC, tI, F1, hb, _⟩ := L.ini
  exact L2N.ps_raise hc tk (pmk_n0 L.ec.oex iC tI F1 hr hb pass0 hg L.g hdb)
end
/-- what the making of an error reads -/
theorem made_end {C : Addr} {nm : List Str} {vs : List V} {H : Hp} {Q : VK} (hl : vs.length = nm.length) (h1 : vs.length ≤ 1000) (q : ∀ (a : Addr) (H' : Hp), H a = none → ErrO H' a C (nm.zip vs).reverse → Same H H' → Q (.ref a) H') :
    vs.length ≤ 1000 ∧ ∀ a, H a = none → spI C nm (.ref a :: vs) (upd H a (exo a C none)) (fun v H2 => v = .non ∧ Q (.ref a) H2) (fun _ _ _ => False) := by
  refine ⟨h1, fun a na => ⟨a, vs, rfl, hl, upd_same, fun e => ⟨rfl, ?_⟩, fun ne d H' nd nda e1 e2 k => ⟨rfl, ?_⟩⟩⟩
  · subst e
    exact q a _ na (.inl ⟨rfl, upd_same⟩) (same_put na (Same.refl _))
  · refine q a H' na (.inr ⟨d, e1, e2⟩) fun b o e => ?_
    have nb : b ≠ a := ne_of_none e na
    exact k b o nb (by rw [upd_ne nb]; exact e)
/-- what the raising of an error reads -/
theorem raised_end {C : Addr} {nm : List Str} {vs : List V} {H : Hp} {E : XK} (hl : vs.length = nm.length) (h1 : vs.length ≤ 1000) (hn : nm ≠ []) (q : ∀ (d : Addr) (H' : Hp), H' d = some (.xd (nm.zip vs).reverse) → Same H H' → E (.ref C) (some d) H') :
    vs.length ≤ 1000 ∧ ∀ a, H a = none → spI C nm (.ref a :: (vs ++ [])) (upd H a (exo a C none)) (fun v H2 => v = .non ∧ ∃ (d : Addr) (fs : List (Str × V)), H2 a = some (exo a C (some d)) ∧ H2 d = some (exd d fs) ∧ H d = none ∧ E (.ref C) (some d) (upd (del H2 a) d (.xd fs))) (fun _ _ _ => False) := by
  refine ⟨h1, fun a na => ⟨a, vs ++ [], rfl, by rw [List.append_nil]; exact hl, upd_same, fun e => absurd e hn, fun ne d H' nd nda e1 e2 k => ?_⟩⟩
  rw [List.append_nil] at e2
  have nd0 : H d = none := by
    rw [upd_ne nda] at nd
    exact nd
  refine ⟨rfl, d, _, e1, e2, nd0, q d _ upd_same fun b o e => ?_⟩
  have nb : b ≠ a := ne_of_none e na
  rw [upd_ne (ne_of_none e nd0), del_ne nb]
  exact k b o nb (by rw [upd_ne nb]; exact e)
/-- the error at a, tracked or held fast -/
def EAt (pl : List (Addr × Obj)) (H : Hp) (a C : Addr) (d : Option Addr) : Prop := H a = some (exo a C d) ∨ ∃ oe, (a, oe) ∈ pl ∧ Zc (.ref C) d oe ∧ ∃ vs, oe.data = .fields vs
def ErrX (pl : List (Addr × Obj)) (H : Hp) (a C : Addr) (fs : List (Str × V)) : Prop := (fs = [] ∧ EAt pl H a C none) ∨ ∃ d, EAt pl H a C (some d) ∧ Dk H d fs
theorem ErrO.x {pl : List (Addr × Obj)} {H : Hp} {a C : Addr} {fs : List (Str × V)} (h : ErrO H a C fs) : ErrX pl H a C fs := by
  rcases h with ⟨e, h⟩ | ⟨d, h1, h2⟩
  · exact .inl ⟨e, .inl h⟩
  · exact .inr ⟨d, .inl h1, .inr h2⟩
theorem EAt.mono {pl : List (Addr × Obj)} {H H' : Hp} {a C : Addr} {d : Option Addr} (s : Same H H') (h : EAt pl H a C d) : EAt pl H' a C d := by
  rcases h with h | h
  · exact .inl (s _ _ h)
  · exact .inr h
theorem ErrX.mono {pl : List (Addr × Obj)} {H H' : Hp} {a C : Addr} {fs : List (Str × V)} (s : Same H H') (h : ErrX pl H a C fs) : ErrX pl H' a C fs := by
  rcases h with ⟨e, h⟩ | ⟨d, h1, h2⟩
  · exact .inl ⟨e, h.mono s⟩
  · exact .inr ⟨d, h1.mono s, h2.mono s⟩
theorem EAt.seen {X : Cx} {H : Hp} {a C : Addr} {d : Option Addr} (h : EAt X.pn H a C d) : Seen X H a C d := by
  rcases h with h | ⟨oe, m, z, f⟩
  · exact seen_exo h
  · exact seen_pin m z f
section
variable {P : Program} {w : World} {K : PySem.W.Frag} {mg : Str → Option Value} {base : Heap}
/-- a def that may raise where nothing is handled -/
theorem okN {x qual : Str} {st : Stmt} {f : Addr} {fd : FuncData} {N ps : List Str} {k : Nat} {sp : Sp} (F : Fun K x qual st f fd) (S : FnScope N ps (defScope st)) (len : ∀ vs H Q E, sp vs H Q E → vs.length = ps.length)
    (body : ∀ (cdv : Value) (A : Around) (outer : List Env) (s : Shared) (H : Hp) (vs : List V) (Q : VK) (E : XK), Room k (A.deeper (envOfC qual (defScope st) s.heap.objs.size f cdv)) → sp vs H Q E →
      ∃ t, PSs (cxOf (L2N.CX P w) P w K mg base N qual (defScope st) f cdv A outer s H E) (defBody st) t ∧ t { nx := fun _ H' => Q .non H', rt := Q } (L2.start N vs) H) : FnOk P w K mg base (L2N.CX P w) (k + 1) f fd ps sp := by
  obtain ⟨oc, od, kV, doc, pm, an, cdv, ct, osl, rfl, lk, hcd⟩ := F.ex
  exact fn_of lk hcd S len fun A outer s H vs Q E hr h => body cdv A outer s H vs Q E hr h
theorem fld_of {pl : List (Addr × Obj)} {H : Hp} {a C : Addr} {p : Str × V} {r : List (Str × V)} (h : ErrX pl H a C (p :: r)) : ∃ d, EAt pl H a C (some d) ∧ Dk H d (p :: r) := by
  rcases h with ⟨e, _⟩ | h
  · cases e
  · exact h
end
/-- a def of the text that may be called in both moods -/
structure Dm (P : Program) (w : World) (K : PySem.W.Frag) (mg : Str → Option Value) (base : Heap) (x : Str) (k : Nat) (ps : List Str) (sp : List (Addr × Obj) → Sp) : Prop where
  ex : ∃ f fd, FnB P w K mg base k f fd ps sp ∧ mg x = some (.ref f) ∧ PySem.W.keepIn K (.ref f) = true ∧ Binds K fd ps []
theorem Dm.dn {P : Program} {w : World} {K : PySem.W.Frag} {mg : Str → Option Value} {base : Heap} {x : Str} {k : Nat} {ps : List Str} {sp : List (Addr × Obj) → Sp} (D : Dm P w K mg base x k ps sp) : Dn P w K mg base CX0 x k ps (fun vs H Q _ => sp [] vs H Q E0) := by
  obtain ⟨f, fd, F, r⟩ := D.ex
  exact ⟨f, fd, F.ok, r⟩
theorem MoodC.blk {X : Cx} {b : Bool} {pl : List (Addr × Obj)} (m : MoodC X b pl) (s : Shared) (H : Hp) (sc : Scope) (ce : Env) (fp : List Addr) : MoodC (blq X s H sc ce fp pl) b pl := by
  cases m with
  | calm h => exact .calm h
  | hot p h m => exact .hot p h List.mem_cons_self
section
variable {X : Cx} {x : Str} {k : Nat} {ps : List Str} {sp : List (Addr × Obj) → Sp} {b : Bool} {pl : List (Addr × Obj)} {q pos : Pos} {e : Expr} {es : List Expr} {t : TA}
theorem pe_cls {C : Addr} (hm : X.mg x = some (.ref C)) (hg : Gl X x := by rfl) (hd : (x == ("__debug__" : Str)) = false := by decide) : PE X (.Name x q) (tC (.ref C)) := pe_glob (v := .ref C) hg hm rfl hd
theorem pe_dm (D : Dm X.prog X.w X.K X.mg X.base x k ps sp) (hr : RoomH k X.A) (mc : MoodC X b pl) (ha : PA X (e :: es) t) (hg : Gl X x := by rfl) (hdb : (x == ("__debug__" : Str)) = false := by decide)
    (he : starEach (e :: es) X.env = (false, eval e X.env) :: starEach es X.env := by rfl) (hpl : (backTo pos (starEach es X.env)).any (·.1) = false := by rfl) : PE X (.Call (.Name x q) (e :: es) [] pos) (tCallB sp pl t) := by
  obtain ⟨f, fd, F, hm, hk, hb⟩ := D.ex
  exact pe_cB F hr mc hg hm hk hb ha hdb he hpl
/-- a list made over a range, in both moods -/
theorem pe_lcM {el tg n : Expr} {ifs : List Expr} {sc : Scope} {own : List (Str × Nat)} {pos p2 p3 : Pos} {ta : TA} {g : TG} {tt : TT} {te : TE} (mc : MoodC X b pl) (hN : X.N.Nodup) (hgl : Gl X "range") (hm : X.mg "range" = none) (ha : PA X [n] ta) (ok : BlkOk X.N X.env.scope sc own)
    (hg : ∀ s H C cl fp, PG (blq X s H sc (compEnvC sc cl C X.env) fp pl) tg g) (ht : ∀ s H C cl fp, PTs (blq X s H sc (compEnvC sc cl C X.env) fp pl) ifs tt) (he : ∀ s H C cl fp, PE (blq X s H sc (compEnvC sc cl C X.env) fp pl) el te)
    (hn : starEach [n] X.env = [(false, eval n X.env)] := by rfl) (hs : ∀ x, foldedSetIterable (.Call (.Name "range" p2) [n] [] p3) X.env x = pure x := by intro _; rfl) :
    PE X (.ListComp el [⟨tg, .Call (.Name "range" p2) [n] [] p3, ifs, 0⟩] sc pos) (tLc (iRng1 ta) g tt te (own.map (·.2))) := by
  cases mc with
  | calm h => exact pe_lc h hN (pi_range1 hgl hm ha hn) ok hg ht he hs
  | hot p h m => exact lcH p h m hN (pi_range1H hgl hm ha hn) ok hg ht he hs
end
theorem hu2 {k : Nat} {A : Around} (r : RoomH k A) : A.units + 64 < cLine := by
  have := r.un
  omega
theorem isA_of {X : Cx} {a : Addr} {C : Addr} {fs : List (Str × V)} {H : Hp} {c : V} {cv : Value} {b : Bool} {Q : VK} (T : Ec X.K C) (h : ErrX X.pn H a C fs) (hc : ClsV c cv) (k : PySem.W.kitOne X.K (.ref C) cv = some b) (q : Q (.bl b) H) : rIsA X [.ref a, c] H Q := by
  rcases h with ⟨_, h⟩ | ⟨d, h, hd⟩
  · exact ⟨a, C, none, c, cv, b, rfl, hc, T, h.seen, (fun dd e => by cases e), k, q⟩
  · exact ⟨a, C, some d, c, cv, b, rfl, hc, T, h.seen, (fun dd e => by cases e; exact ⟨fs, hd⟩), k, q⟩
/-- a suite that knows the error it holds -/
def tsAll (cls : Value) (d : Option Addr) (t : Obj → List (Addr × Obj) → TS) : TS := fun D σ H => ∀ (oe : Obj) (pn : List (Addr × Obj)), L2N.Zn cls d oe → (∃ vs, oe.data = .fields vs) → t oe pn D σ H
theorem pss_all {X : Cx} {ss : List Stmt} {cls : Value} {d : Option Addr} {t : Obj → List (Addr × Obj) → TS} {oe : Obj} {pn : List (Addr × Obj)} (hz : L2N.Zn cls d oe) (hf : ∃ vs, oe.data = .fields vs) (h : PSs X ss (t oe pn)) : PSs X ss (tsAll cls d t) :=
  ⟨fun pins s σ H D I q => h.run pins s σ H D I (q oe pn hz hf)⟩
theorem mood_suite {X : Cx} {a : Addr} {oe : Obj} {cls : Value} {d : Option Addr} {pn : List (Addr × Obj)} (hz : L2N.Zn cls d oe) (hf : ∃ vs, oe.data = .fields vs) : MoodC (X.suite a ((a, oe) :: pn)) false [(a, oe)] := by
  obtain ⟨vs, hv⟩ := hf
  exact .hot (a, oe) ⟨rfl, vs, hv, hz.2.2 vs hv⟩ List.mem_cons_self
theorem takes0N {X : Cx} : L2N.Takes X (fun _ _ _ _ => False) := fun _ _ x => by
  obtain ⟨_, _, _, _, _, _, _, _, _, _, _, _, _, _, _, _, w⟩ := x
  exact w.elim
section
variable {X : Cx} {x : Str} {k : Nat} {ps : List Str} {sp : Sp} {q pos : Pos} {e : Expr} {es : List Expr} {t : TA}
theorem pe_dnS {W : WX} (D : Dn X.prog X.w X.K X.mg X.base (L2N.CX X.prog X.w) x k ps sp) (hr : Room k X.A) (tk : L2N.Takes X W) (ha : PA X (e :: es) t) (hg : Gl X x := by rfl) (hdb : (x == ("__debug__" : Str)) = false := by decide)
    (he : starEach (e :: es) X.env = (false, eval e X.env) :: starEach es X.env := by rfl) (hpl : (backTo pos (starEach es X.env)).any (·.1) = false := by rfl) : PE X (.Call (.Name x q) (e :: es) [] pos) (tCallS sp (WE W) t) := by
  obtain ⟨f, fd, F, hm, hk, hb⟩ := D.ex
  exact pe_callS F hr hg hm hk hb (fun σ => L2N.passAt tk σ) ha hdb he hpl
end
theorem roomH_mk {k : Nat} {A : Around} (r : Room k A) (h : Option Value) : RoomH k (A.mark h) := ⟨r.dp, r.un⟩
theorem Tape.some {t l : Addr} {ns : List Int} {H : Hp} (T : Tape t l ns H) : ∃ o, H t = some o := by
  obtain ⟨a, b, c, e, _⟩ := T.ex
  exact ⟨_, e⟩
theorem ne_new {H : Hp} {a d : Addr} (h : ∃ o, H a = some o) (n : H d = none) : d ≠ a := fun z => by
  obtain ⟨o, ho⟩ := h
  rw [z, ho] at n
  cases n
theorem Tape.put {t l d : Addr} {ns : List Int} {H : Hp} {o : HO} (T : Tape t l ns H) (n1 : d ≠ t) (n2 : d ≠ l) : Tape t l ns (upd H d o) := by
  obtain ⟨a, b, c, e, h⟩ := T.ex
  exact ⟨⟨a, b, c, by rw [upd_ne n1.symm]; exact e, h⟩, by rw [upd_ne n2.symm]; exact T.sc⟩
theorem keeps_put {t d : Addr} {H H' : Hp} {o : HO} (h : H d = none) (k : Keeps t H H') : Keeps t H (upd H' d o) := fun b u n e => by
  rw [upd_ne (ne_of_none e h)]
  exact k b u n e
end Dt
end SecN2
section SecN3
set_option Elab.async false
set_option linter.all false
set_option maxRecDepth 100000
namespace Rd
open PySem PySem.Spec PyProof.Rows L2 L2H Err Dt
section
variable {D : Ends} {σ : L2.St} {H H' : Hp} {Q : VK} {C : Addr} {sp : Sp} {ta : TA} {te : TE} {gV : List V → List V} {n : Nat} {E : XK} {E' : L2.St → XK} {K : PySem.W.Frag} {p : Addr} {xs : List V} {b : Bool} {x : V}
theorem isT {b : Bool} (q : Q (.bl (decide (x = .bl b))) H) : Dt.rIsT x (.bl b) H Q := ⟨b, rfl, q⟩
theorem isnT {b : Bool} (q : Q (.bl (!decide (x = .bl b))) H) : Dt.rNotT x (.bl b) H Q := ⟨b, rfl, q⟩
theorem mkv (q : ta σ H fun vs H1 => vs.length ≤ 1000 ∧ ∀ a, H1 a = none → sp (.ref a :: vs) (upd H1 a (exo a C none)) (fun v H2 => v = .non ∧ Q (.ref a) H2) (fun _ _ _ => False)) : tMkV C sp ta σ H Q := q
theorem mko {dvs : List V} (q : ta σ H fun vs H1 => vs.length ≤ 1000 ∧ ∀ a, H1 a = none → sp (.ref a :: (vs ++ dvs)) (upd H1 a (exo a C none))
  (fun v H2 => v = .non ∧ ∃ (d : Addr) (fs : List (Str × V)), H2 a = some (exo a C (some d)) ∧ H2 d = some (exd d fs) ∧ H1 d = none ∧ E (.ref C) (some d) (upd (del H2 a) d (.xd fs))) (fun _ _ _ => False)) : tMkO C sp dvs ta σ H E := q
theorem callB {sp : List (Addr × Obj) → Sp} {pl : List (Addr × Obj)} (q : ta σ H fun vs H1 => sp pl vs H1 Q E0) : tCallB sp pl ta σ H Q := q
theorem callS (q : ta σ H fun vs H1 => sp vs H1 Q (E' σ)) : tCallS sp E' ta σ H Q := q
theorem bm {T : String} {r : V → List V → Hp → VK → Prop} (q : te σ H fun x H1 => tyV K T x H1 ∧ ta σ H1 fun xs H2 => r x xs H2 Q) : tBM K T r te ta σ H Q := q
theorem itl {R : It → Hp → Prop} (q : te σ H fun x H1 => ∃ a, x = .ref a ∧ (∃ xs, SqL K H1 a xs) ∧ R (Itl K a) H1) : iList K te σ H R := q
theorem itt {R : It → Hp → Prop} (q : te σ H fun x H1 => ∃ a, x = .ref a ∧ (∃ xs, SqT K H1 a xs) ∧ R (Itt K a) H1) : iTup K te σ H R := q
theorem app {y : V} (h : H p = some (.lst xs)) (hl : xs.length < sizeLine) (q : Q .non (upd H p (.lst (xs ++ [y])))) : rAppend (.ref p) [y] H Q := ⟨p, xs, y, rfl, rfl, h, hl, q⟩
/-- new objects -/
theorem tupN (q : ta σ H fun xs H1 => xs.length ≤ sizeLine ∧ ∀ p H2, H2 p = some (.tup xs) → Same H1 H2 → H1 p = none → Q (.ref p) H2) (mono : ∀ {R R' : List V → Hp → Prop}, (∀ xs H, R xs H → R' xs H) → ta σ H R → ta σ H R') : tTup ta σ H Q :=
  mono (fun xs H1 h => ⟨h.1, fun p n => h.2 p _ upd_same (same_put n (Same.refl _)) n⟩) q
theorem newT (hl : xs.length ≤ sizeLine) (q : ∀ p H2, H2 p = some (.tup xs) → Same H H2 → H p = none → Q (.ref p) H2) : xs.length ≤ sizeLine ∧ ∀ p, H p = none → Q (.ref p) (upd H p (.tup xs)) :=
  ⟨hl, fun p n => q p _ upd_same (same_put n (Same.refl _)) n⟩
theorem newL (hl : xs.length ≤ sizeLine) (q : ∀ p H2, H2 p = some (.lst xs) → Same H H2 → H p = none → Q (.ref p) H2) : xs.length ≤ sizeLine ∧ ∀ p, H p = none → Q (.ref p) (upd H p (.lst xs)) :=
  ⟨hl, fun p n => q p _ upd_same (same_put n (Same.refl _)) n⟩
theorem at_to {o : HO} (s : Same H H') (e : H p = some o) : H' p = some o := s _ _ e
theorem len_le {α : Type} {l : List α} {n : Nat} (h : l.length = n) (k : n ≤ 1000) : l.length ≤ sizeLine := by rw [sizeLine_eq]; omega
end
end Rd
end SecN3
section SecN4
set_option Elab.async false
set_option linter.all false
set_option maxRecDepth 100000
namespace Dt
open PySem PySem.Spec PyProof.Rows L2 L2H Err
theorem Keeps.sam {t l : Addr} {ns : List Int} {H H' : Hp} (T : Tape t l ns H) (k : Keeps t H H') : Sam H H' := fun b o n e => by
  refine k b o (fun z => ?_) e
  obtain ⟨x, y, c, e2, _⟩ := T.ex
  rw [z, e2] at e
  cases e
  exact n _ _ _ _ rfl
theorem at_sam {H H' : Hp} {p : Addr} {o : HO} (n : NotTape o) (s : Sam H H') (e : H p = some o) : H' p = some o := s _ _ n e
/-- a number below m, not below 0; the tape goes on, all else stands -/
def spDr : Sp := fun vs H Q _ => ∃ (t l : Addr) (ns : List Int) (m : Int), vs = [.ref t, .int m] ∧ Tape t l ns H ∧ ns.length ≤ 63 ∧ 0 < m ∧ m < 1073741824 ∧
  ∀ (v : Int) (H' : Hp), 0 ≤ v → v < m → Tape t l ns H' → Sam H H' → Q (.int v) H'
/-- the tape stands at t, the script's copy at l -/
def Tq (t l : Addr) (H : Hp) : Prop := ∃ ns, Tape t l ns H ∧ ns.length ≤ 63
theorem Tq.to {t l : Addr} {H H' : Hp} (s : Same H H') (h : Tq t l H) : Tq t l H' := by
  obtain ⟨ns, T, k⟩ := h
  exact ⟨ns, T.mono s, k⟩
theorem Tq.ne {t l d : Addr} {H : Hp} (h : Tq t l H) (n : H d = none) : d ≠ t ∧ d ≠ l := by
  obtain ⟨ns, T, k⟩ := h
  obtain ⟨a, b, c, e, _⟩ := T.ex
  exact ⟨fun z => (by rw [z, e] at n; cases n), fun z => (by rw [z, T.sc] at n; cases n)⟩
theorem Tq.put {t l d : Addr} {H : Hp} {o : HO} (h : Tq t l H) (n : d ≠ t ∧ d ≠ l) : Tq t l (upd H d o) := by
  obtain ⟨ns, T, k⟩ := h
  exact ⟨ns, T.put n.1 n.2, k⟩
theorem sam_put {H H' : Hp} {d : Addr} {o : HO} (h : H d = none) (s : Sam H H') : Sam H (upd H' d o) := fun b u n e => by rw [upd_ne (ne_of_none e h)]; exact s b u n e
theorem yes_if {σ : L2.St} {H : Hp} {B : Hp → Prop} {C : Hp → Prop} (h : B H) : tYes σ H fun b H3 => if b = true then B H3 else C H3 := by
  show (if true = true then B H else C H)
  rw [if_pos rfl]
  exact h
/-- a list made of a list of ints -/
theorem lc_ints {K : PySem.W.Frag} {a d : Addr} {ns : List Int} {H0 : Hp} {B : Hp → Prop} {te : TE} {j : Nat} {σ : L2.St} {vs : List Nat} (f : Int → Int) (hd : H0 d = none) (he : H0 a = some (.lst (ns.map V.int))) (hl : ns.length ≤ 1000)
    (step : ∀ (n : Int) (H' : Hp) (R : VK), Same H0 H' → R (.int (f n)) H' → wipe ((wipe σ vs).set j (some (.int n))) vs = wipe σ vs ∧ te ((wipe σ vs).set j (some (.int n))) H' R)
    (k : ∀ (H' : Hp), H' d = some (.lst ((ns.map f).map V.int)) → Same H0 H' → B H') :
    ∃ W : Nat → Nat → Hp → Prop, (∃ m, W 0 m (upd H0 d (.lst []))) ∧ ∀ i m H, W i m H →
      ((Itl K a).stop i H ∧ B H) ∨ ((Itl K a).go i H ∧ ∃ Nx : Hp → Prop, (∀ H', Nx H' → ∃ m', m' < m ∧ W (i + 1) m' H') ∧ ∀ x H', (Itl K a).yld i H x H' → gName j x (wipe σ vs) H' fun σ2 H2 => wipe σ2 vs = wipe σ vs ∧ tYes σ2 H2 fun b H3 =>
        if b = true then te σ2 H3 fun y H4 => ∃ acc, H4 d = some (.lst acc) ∧ acc.length < sizeLine ∧ Nx (upd H4 d (.lst (acc ++ [y]))) else Nx H3) := by
  refine lc_list (K := K) (a := a) (xs := ns.map V.int) (fun i H3 => H3 d = some (.lst (((ns.take i).map f).map V.int)) ∧ Same H0 H3) ⟨upd_same, same_put hd (Same.refl _)⟩ (fun i H3 _ ⟨_, s3⟩ => SqL.of (s3 _ _ he)) ?_ ?_
  · rintro i x H3 hx ⟨e3, s3⟩
    rw [List.getElem?_map] at hx
    cases hn : ns[i]? with
    | none => rw [hn] at hx; cases hx
    | some n =>
      rw [hn] at hx
      cases hx
      obtain ⟨h1, h2⟩ := step n H3 (fun y H4 => ∃ acc, H4 d = some (.lst acc) ∧ acc.length < sizeLine ∧ (upd H4 d (.lst (acc ++ [y]))) d = some (.lst (((ns.take (i + 1)).map f).map V.int)) ∧ Same H0 (upd H4 d (.lst (acc ++ [y])))) s3
        ⟨_, e3, by rw [List.length_map, List.length_map, List.length_take, sizeLine_eq]; omega, by rw [upd_same, List.take_succ, hn, List.map_append, List.map_append]; rfl, same_put hd s3⟩
      exact ⟨h1, yes_if h2⟩
  · rintro H4 ⟨e4, s4⟩
    rw [List.length_map, List.take_length] at e4
    exact k H4 e4 s4
theorem nt_ints {ns : List Int} : NotTape (.lst (ns.map V.int)) := fun a b c l z => by
  match ns, z with
  | [], z => cases z
  | [_], z => cases z
  | [_, _], z => cases z
  | [_, _, _], z => cases z
  | _ :: _ :: _ :: _ :: _, z => simp at z
theorem cut_ints {ns : List Int} (lo hi : Option Int) : ∃ ms : List Int, cutV (ns.map V.int) lo hi = ms.map V.int ∧ ms = (ns.drop (HT.sIx ns.length 0 lo)).take (HT.sIx ns.length ns.length hi - HT.sIx ns.length 0 lo) :=
  ⟨_, by unfold cutV; rw [List.length_map, ← List.map_drop, ← List.map_take], rfl⟩
/-- a def of the text that is called by names, in the other sequence -/
structure Dk (P : Program) (w : World) (K : PySem.W.Frag) (mg : Str → Option Value) (base : Heap) (CX : CXT) (x : Str) (k : Nat) (ps : List Str) (sp : Sp) : Prop where
  ex : ∃ f fd, FnOk P w K mg base CX k f fd ps sp ∧ mg x = some (.ref f) ∧ PySem.W.keepIn K (.ref f) = true ∧ ∀ (s : Shared) (ws : List Value), K.In s.heap → ws.length = ps.length → BindsTo s fd ⟨[], ps.reverse.zip ws⟩ (ps.zip ws.reverse)
def tCallR (sp : Sp) (n : Nat) (tk : TA) : TE := fun σ H Q => tk σ H fun zs H1 => zs.length = n ∧ sp zs.reverse H1 Q E0
theorem vals_rev : ∀ {as : List V} {bs : List Value}, Vals as bs → Vals as.reverse bs.reverse := by
  intro as bs h
  induction h with
  | nil => exact .nil
  | cons a t ih =>
    rw [List.reverse_cons, List.reverse_cons]
    exact ih.append (.cons a .nil)
theorem passN0' {X : Cx} : Passes (L2N.CX X.prog X.w) X E0 := fun _ _ _ _ _ _ _ c => by
  obtain ⟨_, _, _, _, _, _, _, _, _, _, _, _, h⟩ := c
  exact (show False from h).elim
theorem pe_dnKx {X : Cx} {CX : CXT} {x : Str} {k : Nat} {ps : List Str} {sp : Sp} {q pos : Pos} {kws : List Keyword} {tk : TA} (D : Dk X.prog X.w X.K X.mg X.base CX x k ps sp) (hr : Room k X.A) (hx : Passes CX X E0) (hkw : PK X kws tk) (hg : Gl X x := by rfl)
    (hks : (backToKw pos (keywordEach kws X.env)).filterMap (·.1) = ps.reverse := by rfl) (hall : (backToKw pos (keywordEach kws X.env)).all (·.1.isSome) = true := by rfl) (hdb : (x == ("__debug__" : Str)) = false := by decide)
    (hpl : ((backTo pos (starEach [] X.env)).any (·.1) || (backToKw pos (keywordEach kws X.env)).any (·.1.isNone)) = false := by rfl) : PE X (.Call (.Name x q) [] kws pos) (tCallR sp ps.length tk) := by
  obtain ⟨f, fd, F, hm, hk, hb⟩ := D.ex
  refine ⟨fun pins s σ H Q I h => wpAny_Call_Name_kw (ld_glob I hg hm ?_ hdb)⟩
  refine PySem.W.callWith_KW0 (h₀ := X.base) I.ok.mod.kin hk hall (thn (hkw.run pos pins s σ H _ I h) fun ws s2 ⟨zs, H2, I2, rz, lz, q2⟩ => ⟨I2.kIn, ?_⟩) hpl
  rw [hks]
  have lw : ws.length = ps.length := by rw [← Paired.length rz]; exact lz
  refine wpAny_call (codeAny_mono (F.run X.A X.stack s2 H2 ⟨[], ps.reverse.zip ws⟩ ws.reverse zs.reverse Q E0 hr I2.env0 (hb s2 ws I2.kIn lw) (vals_rev rz) q2) fun r s' hq => ?_)
  cases r with
  | error e => exact hx pins σ H2 s2 e s' I2 hq
  | ok fl =>
    cases fl with
    | ret u => exact I2.after hq
    | next => exact hq.elim
    | brk => exact hq.elim
    | cont => exact hq.elim
end Dt
namespace Rd
open PySem PySem.Spec PyProof.Rows L2 L2H Err Dt
section
variable {σ : L2.St} {H : Hp} {K : PySem.W.Frag} {p q : Addr} {xs ys : List V} {v : V} {vs : List V} {n : Nat} {t : TG} {u : TGs} {Q : L2.St → Hp → Prop} {QV : VK}
theorem callR {sp : Sp} {n : Nat} {tk : TA} {QV : VK} (k : tk σ H fun zs H1 => zs.length = n ∧ sp zs.reverse H1 QV E0) : tCallR sp n tk σ H QV := k
theorem tupOf {K : PySem.W.Frag} {QV : VK} (hp : H p = some (.lst xs)) (k : ∀ q J, J q = some (.tup xs) → Same H J → H q = none → QV (.ref q) J) :
    ∃ p' ys, [V.ref p] = [V.ref p'] ∧ ((SqL K H p' ys ∧ ∀ l, H l = none → QV (.ref l) (upd H l (.tup ys))) ∨ (SqT K H p' ys ∧ QV (.ref p') H)) :=
  ⟨p, xs, rfl, .inl ⟨SqL.of hp, fun l n => k l _ upd_same (same_put n (Same.refl _)) n⟩⟩
theorem lstOf {K : PySem.W.Frag} {QV : VK} (hp : H p = some (.lst xs)) (k : ∀ q J, J q = some (.lst xs) → Same H J → H q = none → QV (.ref q) J) :
    ∃ p' ys, [V.ref p] = [V.ref p'] ∧ (SqL K H p' ys ∨ SqT K H p' ys) ∧ ∀ l, H l = none → QV (.ref l) (upd H l (.lst ys)) :=
  ⟨p, xs, rfl, .inl (SqL.of hp), fun l n => k l _ upd_same (same_put n (Same.refl _)) n⟩
theorem brk {D : Ends} (k : D.bk σ H) : tBreak D σ H := k
theorem bits {te : TE} {QV : VK} (k : te σ H fun x H1 => ∃ i, x = .int i ∧ QV (.int (Builtin.Int.intBits i : Nat)) H1) : tBits te σ H QV := k
theorem max2 {a b : Int} {QV : VK} (k : QV (.int (if b > a then b else a)) H) : ∃ i j, [V.int a, V.int b] = [.int i, .int j] ∧ QV (.int (if j > i then j else i)) H := ⟨a, b, rfl, k⟩
theorem gtup (he : H p = some (.tup xs)) (hl : xs.length = n) (k : u xs σ H Q) : gTup K n u (.ref p) σ H Q := ⟨p, xs, rfl, SqT.of he, hl, k⟩
theorem gcons (k : t v σ H fun σ1 H1 => u vs σ1 H1 Q) : gCons t u (v :: vs) σ H Q := ⟨v, vs, rfl, k⟩
theorem gnil (k : Q σ H) : gNil [] σ H Q := ⟨rfl, k⟩
theorem catT (hp : H p = some (.tup xs)) (hq : H q = some (.tup ys)) (h1 : xs ≠ []) (h2 : ys ≠ []) (hl : xs.length + ys.length ≤ 16777216) (k : ∀ r J, J r = some (.tup (xs ++ ys)) → Same H J → H r = none → QV (.ref r) J) : rCatA K (.ref p) (.ref q) H QV :=
  ⟨p, q, xs, ys, rfl, rfl, SqT.of hp, SqT.of hq, by rw [PySem.sizeLine_eq]; exact hl, fun z => absurd z h1, fun _ z => absurd z h2, fun _ _ r n => k r _ upd_same (same_put n (Same.refl _)) n⟩
theorem catL (hp : H p = some (.lst xs)) (hq : H q = some (.lst ys)) (hl : xs.length + ys.length ≤ 16777216) (k : ∀ r J, J r = some (.lst (xs ++ ys)) → Same H J → H r = none → QV (.ref r) J) : rCat (.ref p) (.ref q) H QV :=
  ⟨p, q, xs, ys, rfl, rfl, hp, hq, by rw [PySem.sizeLine_eq]; exact hl, fun r n => k r _ upd_same (same_put n (Same.refl _)) n⟩
end
end Rd
end SecN4
section SecD1
set_option Elab.async false
set_option linter.all false
set_option maxRecDepth 100000
set_option maxHeartbeats 4000000
set_option pp.deepTerms false
namespace Dt
open PySem PySem.Spec PyProof.Rows L2 L2H Err
section
variable {X : Cx} {x : Str} {k : Nat} {ps : List Str} {sp : Sp} {q pos : Pos} {e : Expr} {es : List Expr} {t : TA}
/-- a def that may raise, called by one that may raise -/
theorem pe_dnX {E : XK} (D : Dn X.prog X.w X.K X.mg X.base (L2N.CX X.prog X.w) x k ps sp) (hr : Room k X.A) (tk : L2N.Takes X (fun cls d _ H => E cls d H)) (ha : PA X (e :: es) t) (hg : Gl X x := by rfl) (hdb : (x == ("__debug__" : Str)) = false := by decide)
    (he : starEach (e :: es) X.env = (false, eval e X.env) :: starEach es X.env := by rfl) (hpl : (backTo pos (starEach es X.env)).any (·.1) = false := by rfl) : PE X (.Call (.Name x q) (e :: es) [] pos) (tCall sp [] E t) := by
  obtain ⟨f, fd, F, hm, hk, hb⟩ := D.ex
  exact pe_call F hr hg hm hk hb .nil (L2N.passes_call tk fun _ _ _ _ h => h) ha hdb he hpl
theorem passN0 : Passes (L2N.CX X.prog X.w) X E0 := fun _ _ _ _ _ _ _ c => by
  obtain ⟨_, _, _, _, _, _, _, _, _, _, _, _, h⟩ := c
  exact (show False from h).elim
/-- .., called where it does not raise -/
theorem pe_dn0 (D : Dn X.prog X.w X.K X.mg X.base (L2N.CX X.prog X.w) x k ps sp) (hr : Room k X.A) (ha : PA X (e :: es) t) (hg : Gl X x := by rfl) (hdb : (x == ("__debug__" : Str)) = false := by decide)
    (he : starEach (e :: es) X.env = (false, eval e X.env) :: starEach es X.env := by rfl) (hpl : (backTo pos (starEach es X.env)).any (·.1) = false := by rfl) : PE X (.Call (.Name x q) (e :: es) [] pos) (tCall sp [] E0 t) := by
  obtain ⟨f, fd, F, hm, hk, hb⟩ := D.ex
  exact pe_call F hr hg hm hk hb .nil passN0 ha hdb he hpl
end
/-- the error that a demand raises -/
def NU (CN : Addr) (word : Str) (E : XK) (H : Hp) : Prop := ∀ (d : Addr) (H' : Hp), H' d = some (.xd [(("at" : Str), .int (-1)), (("word" : Str), .str word)]) → Same H H' → E (.ref CN) (some d) H'
theorem NU.to {CN : Addr} {word : Str} {E : XK} {H H' : Hp} (s : Same H H') (h : NU CN word E H) : NU CN word E H' := fun d H2 e s2 => h d H2 e (s.trans s2)
def spDemand (CN : Addr) : Sp := fun vs H Q E => ∃ (b : Bool) (word : Str), vs = [.bl b, .str word] ∧ (b = true → Q .non H) ∧ (b = false → NU CN word E H)
/-! what the kinds tell -/
def dNum : PyData → Bool | .int i => decide (0 ≤ i) | _ => false
def dRow (n : Int) : PyData → Bool | .tuple ds => decide ((ds.length : Int) = n) && ds.all dInt | _ => false
theorem all_ints : ∀ {ds : List PyData}, ds.all dInt = true → ∃ ns : List Int, ds = ns.map PyData.int
  | [], _ => ⟨[], rfl⟩
  | d :: ds, h => by
    rw [List.all_cons, Bool.and_eq_true] at h
    obtain ⟨ns, rfl⟩ := all_ints h.2
    cases d with
    | int i => exact ⟨i :: ns, rfl⟩
    | _ => exact absurd h.1 (by simp [dInt])
theorem row_ints {n : Int} {d : PyData} (h : dRow n d = true) : ∃ ns : List Int, d = .tuple (ns.map PyData.int) ∧ (ns.length : Int) = n := by
  cases d with
  | tuple ds =>
    have h' : (decide ((ds.length : Int) = n) && ds.all dInt) = true := h
    rw [Bool.and_eq_true] at h'
    obtain ⟨ns, rfl⟩ := all_ints h'.2
    exact ⟨ns, rfl, by have := of_decide_eq_true h'.1; rwa [List.length_map] at this⟩
  | _ => cases h
/-- lowest terms, the last one at least 1 -/
def lowB (ns : List Int) : Bool := decide (1 ≤ ns.getLastD 0) && decide (gcdL ns = 1)
def intsOf : List PyData → List Int := fun ds => ds.map fun d => match d with | .int i => i | _ => 0
theorem intsOf_map (ns : List Int) : intsOf (ns.map PyData.int) = ns := by
  unfold intsOf
  rw [List.map_map]
  exact (List.map_congr_left fun _ _ => rfl).trans (List.map_id ns)
def dLow (n : Int) (d : PyData) : Bool := dRow n d && (match d with | .tuple ds => lowB (intsOf ds) | _ => false)
end Dt
namespace Rd
open PySem PySem.Spec PyProof.Rows L2 L2H Err Dt
theorem ife {t : TT} {ta tb : TE} {σ : L2.St} {H : Hp} {Q : VK} (k : t σ H fun c H1 => if c = true then ta σ H1 Q else tb σ H1 Q) : tIf t ta tb σ H Q := k
end Rd
end SecD1
section SecL0
set_option Elab.async false
set_option linter.all false
set_option maxRecDepth 100000
set_option maxHeartbeats 4000000
set_option pp.deepTerms false
namespace K17
open PySem PySem.Spec PyProof.Rows L2 L2H Err Dt
def topS (i : Nat) : Stmt := PySem.Challenge.pw_wholefaces_k17_points_and_seats.main.body.getD i (.Pass ⟨0, 0, 0, 0⟩)
structure Tx (mg : Str → Option Value) : Prop where
  n_int : mg "int" = none
  n_abs : mg "abs" = none
  n_len : mg "len" = none
  n_range : mg "range" = none
  n_tuple : mg "tuple" = none
  n_list : mg "list" = none
  n_bool : mg "bool" = none
  n_str : mg "str" = none
  n_all : mg "all" = none
  n_any : mg "any" = none
  n_isinstance : mg "isinstance" = none
  n_ValueError : mg "ValueError" = none
  n_zip : mg "zip" = none
end K17
end SecL0
section SecM17
set_option Elab.async false
set_option linter.all false
/-! whole numbers by their binary figures: the lowest figure of some numbers -/
namespace Bt
open PySem PySem.Builtin PyProof.Rows
theorem nand (a b : Nat) : a &&& b = 2 * (a / 2 &&& b / 2) + (if a % 2 = 1 ∧ b % 2 = 1 then 1 else 0) := by
  have h := Nat.and_div_two (a := a) (b := b)
  have g := Nat.and_mod_two_eq_one (a := a) (b := b)
  split <;> rename_i z
  · have := g.mpr z; omega
  · have : (a &&& b) % 2 ≠ 1 := fun e => z (g.mp e)
    omega
theorem nor (a b : Nat) : a ||| b = 2 * (a / 2 ||| b / 2) + (if a % 2 = 1 ∨ b % 2 = 1 then 1 else 0) := by
  have h := Nat.or_div_two (a := a) (b := b)
  have g := Nat.or_mod_two_eq_one (a := a) (b := b)
  split <;> rename_i z
  · have := g.mpr z; omega
  · have : (a ||| b) % 2 ≠ 1 := fun e => z (g.mp e)
    omega
theorem and_step (x y : Int) : bitAnd x y = 2 * bitAnd (x / 2) (y / 2) + (if x % 2 = 1 ∧ y % 2 = 1 then 1 else 0) := by
  by_cases hx : 0 ≤ x <;> by_cases hy : 0 ≤ y
  · have e1 : (x / 2).toNat = x.toNat / 2 := by omega
    have e2 : (y / 2).toNat = y.toNat / 2 := by omega
    unfold bitAnd
    rw [decide_eq_true hx, decide_eq_true hy, decide_eq_true (show (0 : Int) ≤ x / 2 by omega), decide_eq_true (show (0 : Int) ≤ y / 2 by omega)]
    simp only [e1, e2]
    rw [nand x.toNat y.toNat]
    generalize (x.toNat / 2 &&& y.toNat / 2) = w
    split <;> split <;> omega
  · have e1 : (x / 2).toNat = x.toNat / 2 := by omega
    have e2 : (bitNot (y / 2)).toNat = (bitNot y).toNat / 2 := by unfold bitNot; omega
    have e3 : (bitNot y).toNat % 2 = 1 ↔ ¬ y % 2 = 1 := by unfold bitNot; omega
    unfold bitAnd
    rw [decide_eq_true hx, decide_eq_false hy, decide_eq_true (show (0 : Int) ≤ x / 2 by omega), decide_eq_false (show ¬ (0 : Int) ≤ y / 2 by omega)]
    simp only [e1, e2]
    rw [nand x.toNat (bitNot y).toNat]
    generalize (x.toNat / 2 &&& (bitNot y).toNat / 2) = w
    split <;> split <;> omega
  · have e1 : (y / 2).toNat = y.toNat / 2 := by omega
    have e2 : (bitNot (x / 2)).toNat = (bitNot x).toNat / 2 := by unfold bitNot; omega
    have e3 : (bitNot x).toNat % 2 = 1 ↔ ¬ x % 2 = 1 := by unfold bitNot; omega
    unfold bitAnd
    rw [decide_eq_false hx, decide_eq_true hy, decide_eq_false (show ¬ (0 : Int) ≤ x / 2 by omega), decide_eq_true (show (0 : Int) ≤ y / 2 by omega)]
    simp only [e1, e2]
    rw [nand y.toNat (bitNot x).toNat]
    generalize (y.toNat / 2 &&& (bitNot x).toNat / 2) = w
    split <;> split <;> omega
  · have e1 : (bitNot (x / 2)).toNat = (bitNot x).toNat / 2 := by unfold bitNot; omega
    have e2 : (bitNot (y / 2)).toNat = (bitNot y).toNat / 2 := by unfold bitNot; omega
    have e3 : (bitNot x).toNat % 2 = 1 ↔ ¬ x % 2 = 1 := by unfold bitNot; omega
    have e4 : (bitNot y).toNat % 2 = 1 ↔ ¬ y % 2 = 1 := by unfold bitNot; omega
    unfold bitAnd
    rw [decide_eq_false hx, decide_eq_false hy, decide_eq_false (show ¬ (0 : Int) ≤ x / 2 by omega), decide_eq_false (show ¬ (0 : Int) ≤ y / 2 by omega)]
    simp only [e1, e2]
    rw [nor (bitNot x).toNat (bitNot y).toNat]
    generalize ((bitNot x).toNat / 2 ||| (bitNot y).toNat / 2) = w
    unfold bitNot at *
    split <;> split <;> omega
theorem or_step (x y : Int) : bitOr x y = 2 * bitOr (x / 2) (y / 2) + (if x % 2 = 1 ∨ y % 2 = 1 then 1 else 0) := by
  have h := and_step (bitNot x) (bitNot y)
  have e1 : bitNot x / 2 = bitNot (x / 2) := by unfold bitNot; omega
  have e2 : bitNot y / 2 = bitNot (y / 2) := by unfold bitNot; omega
  have e3 : bitNot x % 2 = 1 ↔ ¬ x % 2 = 1 := by unfold bitNot; omega
  have e4 : bitNot y % 2 = 1 ↔ ¬ y % 2 = 1 := by unfold bitNot; omega
  rw [e1, e2] at h
  unfold bitOr
  rw [h]
  generalize bitAnd (bitNot (x / 2)) (bitNot (y / 2)) = w
  unfold bitNot
  split <;> split <;> omega
theorem pow2 (k : Nat) : (2 : Int) ^ (k + 1) = 2 * 2 ^ k := by rw [Int.pow_succ, Int.mul_comm]
theorem half_pow (k : Nat) (a : Int) : (2 ^ (k + 1) * a) / 2 = 2 ^ k * a := by
  rw [pow2, Int.mul_assoc]
  generalize 2 ^ k * a = z
  omega
theorem even_pow (k : Nat) (a : Int) : ¬ (2 ^ (k + 1) * a) % 2 = 1 := by
  rw [pow2, Int.mul_assoc]
  generalize 2 ^ k * a = z
  omega
theorem and_pow (k : Nat) (a b : Int) : bitAnd (2 ^ k * a) (2 ^ k * b) = 2 ^ k * bitAnd a b := by
  induction k with
  | zero => simp
  | succ k ih =>
    rw [and_step, half_pow, half_pow, ih, if_neg fun h => even_pow k a h.1, Int.add_zero, pow2, Int.mul_assoc]
theorem or_pow (k : Nat) (a b : Int) : bitOr (2 ^ k * a) (2 ^ k * b) = 2 ^ k * bitOr a b := by
  induction k with
  | zero => simp
  | succ k ih =>
    rw [or_step, half_pow, half_pow, ih, if_neg fun h => h.elim (even_pow k a) (even_pow k b), Int.add_zero, pow2, Int.mul_assoc]
theorem and_not (q : Int) : bitAnd q (bitNot q) = 0 := by
  by_cases h : 0 ≤ q
  · unfold bitAnd
    rw [decide_eq_true h, decide_eq_false (show ¬ 0 ≤ bitNot q by unfold bitNot; omega)]
    have : bitNot (bitNot q) = q := by unfold bitNot; omega
    simp only [this, Nat.and_self]
    omega
  · unfold bitAnd
    rw [decide_eq_false h, decide_eq_true (show 0 ≤ bitNot q by unfold bitNot; omega)]
    simp only [Nat.and_self]
    unfold bitNot
    omega
theorem odd_neg {m : Int} (h : m % 2 = 1) : bitAnd m (-m) = 1 := by
  have e : -m / 2 = bitNot (m / 2) := by unfold bitNot; omega
  rw [and_step, e, and_not, if_pos ⟨h, by omega⟩]
  rfl
/-- all of the numbers joined -/
def orL (ns : List Int) : Int := ns.foldl bitOr 0
theorem orL_take {ns : List Int} {i : Nat} {n : Int} (h : ns[i]? = some n) : orL (ns.take (i + 1)) = bitOr (orL (ns.take i)) n := by
  unfold orL
  rw [List.take_succ, h, List.foldl_append]
  rfl
theorem fold_pow (k : Nat) : ∀ (ms : List Int) (z : Int), (ms.map (2 ^ k * ·)).foldl bitOr (2 ^ k * z) = 2 ^ k * ms.foldl bitOr z
  | [], z => rfl
  | m :: ms, z => by
    rw [List.map_cons, List.foldl_cons, or_pow, fold_pow k ms, List.foldl_cons]
theorem orL_pow (k : Nat) (ms : List Int) : orL (ms.map (2 ^ k * ·)) = 2 ^ k * orL ms := by
  have := fold_pow k ms 0
  rw [Int.mul_zero] at this
  exact this
theorem fold_odd : ∀ (ms : List Int) (z : Int), (ms.foldl bitOr z) % 2 = 1 ↔ z % 2 = 1 ∨ ∃ m ∈ ms, m % 2 = 1
  | [], z => by simp
  | m :: ms, z => by
    rw [List.foldl_cons, fold_odd ms, or_step]
    generalize bitOr (z / 2) (m / 2) = w
    constructor
    · rintro (h | ⟨a, b, c⟩)
      · split at h <;> rename_i q
        · rcases q with q | q
          · exact .inl q
          · exact .inr ⟨m, List.mem_cons_self, q⟩
        · omega
      · exact .inr ⟨a, List.mem_cons_of_mem _ b, c⟩
    · rintro (h | ⟨a, b, c⟩)
      · left
        rw [if_pos (.inl h)]
        omega
      · rcases List.mem_cons.mp b with rfl | b
        · left
          rw [if_pos (.inr c)]
          omega
        · exact .inr ⟨a, b, c⟩
theorem orL_odd {ms : List Int} (h : ∃ m ∈ ms, m % 2 = 1) : orL ms % 2 = 1 := (fold_odd ms 0).mpr (.inr h)
/-- 2 ^ k is the greatest power of two that all of them are multiples of -/
structure Gr (ns : List Int) (k : Nat) : Prop where
  dv : ∀ n ∈ ns, n = 2 ^ k * (n / 2 ^ k)
  od : ∃ n ∈ ns, n / 2 ^ k % 2 = 1
def gr (ns : List Int) : Int := bitAnd (orL ns) (-(orL ns))
theorem Gr.map {ns : List Int} {k : Nat} (h : Gr ns k) : ns = (ns.map (· / 2 ^ k)).map (2 ^ k * ·) := by
  rw [List.map_map]
  conv => lhs; rw [← List.map_id ns]
  exact List.map_congr_left fun n hn => h.dv n hn
theorem Gr.gr {ns : List Int} {k : Nat} (h : Gr ns k) : gr ns = 2 ^ k := by
  unfold Bt.gr
  rw [h.map, orL_pow, ← Int.mul_neg, and_pow, odd_neg, Int.mul_one]
  refine orL_odd ?_
  obtain ⟨n, hn, ho⟩ := h.od
  exact ⟨_, List.mem_map.mpr ⟨n, hn, rfl⟩, ho⟩
theorem Gr.bit {ns : List Int} {k : Nat} (h : Gr ns k) {n : Int} (hn : n ∈ ns) : bitAnd n (2 ^ k) = 2 ^ k * (n / 2 ^ k % 2) := by
  have e := and_pow k (n / 2 ^ k) 1
  rw [← h.dv n hn, Int.mul_one, bitAnd_m1] at e
  exact e
theorem pow_pos (k : Nat) : (0 : Int) < 2 ^ k := Int.pow_pos (by decide)
theorem Gr.bit0 {ns : List Int} {k : Nat} (h : Gr ns k) {n : Int} (hn : n ∈ ns) : bitAnd n (2 ^ k) ≠ 0 ↔ n / 2 ^ k % 2 = 1 := by
  rw [h.bit hn]
  have hp := pow_pos k
  constructor
  · intro z
    rcases (by omega : n / 2 ^ k % 2 = 0 ∨ n / 2 ^ k % 2 = 1) with e | e
    · exact absurd (by rw [e, Int.mul_zero]) z
    · exact e
  · intro e
    rw [e]
    omega
theorem bits_pow (k : Nat) : Builtin.Int.intBits ((2 : Int) ^ k) = k + 1 := by
  unfold Builtin.Int.intBits
  have h : ((2 : Int) ^ k == 0) = false := by simp; exact Int.pow_ne_zero (by decide)
  rw [h]
  have e : ((2 : Int) ^ k).natAbs = 2 ^ k := by rw [Int.natAbs_pow]; rfl
  rw [e, Nat.log2_two_pow]
  rfl
end Bt
end SecM17
section SecM18
set_option Elab.async false
set_option linter.all false
/-! seats, tips, corners, as lists of numbers -/
namespace Bt
open PySem PySem.Builtin PyProof.Rows
def odd (k : Nat) (x : Int) : Bool := decide (x / 2 ^ k % 2 = 1)
def lowOf (k : Nat) (x : Int) : Int := if odd k x = true then x - 2 ^ k else x
def highOf (k : Nat) (x : Int) : Int := if odd k x = true then x + 2 ^ k else x
def opL (ns : List Int) (k : Nat) : List Nat := (List.range ns.length).filter fun i => odd k (ns.getD i 0)
def tip0 (k : Nat) (x : Int) : Int := if lowOf k x / 2 ^ (k + 1) % 2 = 0 then lowOf k x else highOf k x
def tip1 (k : Nat) (x : Int) : Int := lowOf k x + highOf k x - tip0 k x
def endsOf (k : Nat) (x : Int) : List Int := if odd k x = true then [x - 2 ^ k, x + 2 ^ k] else [x]
def stepC (acc : List (List Int)) (row : List Int) : List (List Int) := acc.flatMap fun c => row.map fun x => c ++ [x]
def chL (rows : List (List Int)) : List (List Int) := rows.foldl stepC [[]]
def corL (k : Nat) (ns : List Int) : List (List Int) := chL (ns.map (endsOf k))
theorem chL_take {rows : List (List Int)} {i : Nat} {r : List Int} (h : rows[i]? = some r) : chL (rows.take (i + 1)) = stepC (chL (rows.take i)) r := by
  unfold chL
  rw [List.take_succ, h, List.foldl_append]
  rfl
theorem opL_mem {ns : List Int} {k i : Nat} (h : i < ns.length) : i ∈ opL ns k ↔ odd k (ns.getD i 0) = true := by
  unfold opL
  rw [List.mem_filter, List.mem_range]
  exact ⟨fun z => z.2, fun z => ⟨h, z⟩⟩
theorem dv_iff {x : Int} {R : Nat} : x % 2 ^ R = 0 ↔ x = 2 ^ R * (x / 2 ^ R) := by
  have h := Int.mul_ediv_add_emod x (2 ^ R)
  constructor
  · intro e
    rw [e, Int.add_zero] at h
    exact h.symm
  · intro e
    rw [← e] at h
    omega
theorem new_gr {ns : List Int} : ∀ {R : Nat}, (∃ x ∈ ns, x % 2 ^ R ≠ 0) → ∃ k, k < R ∧ Gr ns k
  | 0, ⟨x, hx, h⟩ => by simp at h
  | R + 1, ⟨x, hx, h⟩ => by
    by_cases z : ∃ y ∈ ns, y % 2 ^ R ≠ 0
    · obtain ⟨k, hk, g⟩ := new_gr z
      exact ⟨k, by omega, g⟩
    · have all : ∀ y ∈ ns, y % 2 ^ R = 0 := fun y hy => Classical.byContradiction fun e => z ⟨y, hy, e⟩
      refine ⟨R, by omega, ⟨fun y hy => dv_iff.mp (all y hy), x, hx, ?_⟩⟩
      have e := dv_iff.mp (all x hx)
      rcases (by omega : x / 2 ^ R % 2 = 0 ∨ x / 2 ^ R % 2 = 1) with q | q
      · exfalso
        apply h
        have : x % 2 ^ (R + 1) = 2 ^ R * (x / 2 ^ R % 2) := by
          conv => lhs; rw [e]
          rw [Int.pow_succ, Int.mul_emod_mul_of_pos _ _ (pow_pos R)]
        rw [this, q, Int.mul_zero]
      · exact q
theorem pow_dvd {x : Int} {j k : Nat} (h : j ≤ k) (e : x % 2 ^ k = 0) : x % 2 ^ j = 0 := by
  obtain ⟨d, rfl⟩ := Nat.exists_eq_add_of_le h
  have := dv_iff.mp e
  rw [Int.pow_add, Int.mul_assoc] at this
  rw [this]
  exact Int.mul_emod_right _ _
theorem Gr.lt_new {ns : List Int} {k R : Nat} (g : Gr ns k) (h : k < R) : ∃ x ∈ ns, x % 2 ^ R ≠ 0 := by
  obtain ⟨x, hx, ho⟩ := g.od
  refine ⟨x, hx, fun e => ?_⟩
  have e1 := pow_dvd (show k + 1 ≤ R by omega) e
  have e2 : x % 2 ^ (k + 1) = 2 ^ k * (x / 2 ^ k % 2) := by
    conv => lhs; rw [g.dv x hx]
    rw [Int.pow_succ, Int.mul_emod_mul_of_pos _ _ (pow_pos k)]
  rw [e1, ho] at e2
  have := pow_pos k
  omega
/-- a low number is an even multiple -/
theorem low_even {k : Nat} {x : Int} (h : x = 2 ^ k * (x / 2 ^ k)) : lowOf k x = 2 ^ (k + 1) * (x / 2 ^ k / 2) := by
  unfold lowOf odd
  rw [Int.pow_succ, Int.mul_assoc]
  have hp := pow_pos k
  generalize x / 2 ^ k = q at *
  generalize (2 : Int) ^ k = g at *
  split <;> rename_i z
  · have z := of_decide_eq_true z
    have e : q = 2 * (q / 2) + 1 := by omega
    generalize q / 2 = w at *
    rw [h, e]
    grind
  · have z := of_decide_eq_false (Bool.not_eq_true _ ▸ z)
    have e : q = 2 * (q / 2) := by omega
    generalize q / 2 = w at *
    rw [h, e]
theorem low_bit {k : Nat} {x : Int} (h : x = 2 ^ k * (x / 2 ^ k)) : bitAnd (lowOf k x) (2 ^ (k + 1)) = 0 ↔ lowOf k x / 2 ^ (k + 1) % 2 = 0 := by
  have e := low_even h
  have hp := pow_pos (k + 1)
  generalize x / 2 ^ k / 2 = w at e
  rw [e]
  have e2 := and_pow (k + 1) w 1
  rw [Int.mul_one, bitAnd_m1] at e2
  rw [e2, Int.mul_ediv_cancel_left _ (by omega)]
  rcases (by omega : w % 2 = 0 ∨ w % 2 = 1) with q | q
  · rw [q]; simp
  · rw [q]; simp; omega
theorem step_head {acc : List (List Int)} {row : List Int} {a : List Int} {x : Int} (h : acc.head? = some a) (k : row.head? = some x) : (stepC acc row).head? = some (a ++ [x]) := by
  cases acc with
  | nil => cases h
  | cons b t =>
    cases row with
    | nil => cases k
    | cons y r =>
      cases h
      cases k
      rfl
theorem step_last {acc : List (List Int)} {row : List Int} {a : List Int} {x : Int} (h : acc.getLast? = some a) (k : row.getLast? = some x) : (stepC acc row).getLast? = some (a ++ [x]) := by
  obtain ⟨t, rfl⟩ := List.getLast?_eq_some_iff.mp h
  obtain ⟨r, rfl⟩ := List.getLast?_eq_some_iff.mp k
  unfold stepC
  rw [List.flatMap_append]
  simp
theorem ends_head (k : Nat) (x : Int) : (endsOf k x).head? = some (lowOf k x) := by unfold endsOf lowOf; split <;> rfl
theorem ends_last (k : Nat) (x : Int) : (endsOf k x).getLast? = some (highOf k x) := by unfold endsOf highOf; split <;> rfl
theorem fold_head (k : Nat) : ∀ (ns : List Int) (acc : List (List Int)) (a : List Int), acc.head? = some a → ((ns.map (endsOf k)).foldl stepC acc).head? = some (a ++ ns.map (lowOf k))
  | [], acc, a, h => by simpa using h
  | n :: ns, acc, a, h => by
    rw [List.map_cons, List.foldl_cons, fold_head k ns _ _ (step_head h (ends_head k n)), List.map_cons, List.append_assoc]
    rfl
theorem fold_last (k : Nat) : ∀ (ns : List Int) (acc : List (List Int)) (a : List Int), acc.getLast? = some a → ((ns.map (endsOf k)).foldl stepC acc).getLast? = some (a ++ ns.map (highOf k))
  | [], acc, a, h => by simpa using h
  | n :: ns, acc, a, h => by
    rw [List.map_cons, List.foldl_cons, fold_last k ns _ _ (step_last h (ends_last k n)), List.map_cons, List.append_assoc]
    rfl
theorem cor_head (k : Nat) (ns : List Int) : (corL k ns).head? = some (ns.map (lowOf k)) := by
  have := fold_head k ns [[]] [] rfl
  simpa [corL, chL] using this
theorem cor_last (k : Nat) (ns : List Int) : (corL k ns).getLast? = some (ns.map (highOf k)) := by
  have := fold_last k ns [[]] [] rfl
  simpa [corL, chL] using this
theorem step_len (acc : List (List Int)) (row : List Int) : (stepC acc row).length = acc.length * row.length := by
  unfold stepC
  induction acc with
  | nil => simp
  | cons a t ih =>
    rw [List.flatMap_cons, List.length_append, List.length_map, ih, List.length_cons, Nat.succ_mul, Nat.add_comm]
theorem step_take {acc : List (List Int)} {row : List Int} {i j : Nat} {c : List Int} {x : Int} (h : acc[i]? = some c) (k : row[j]? = some x) : stepC (acc.take i) row ++ (row.take (j + 1)).map (fun x => c ++ [x]) = (stepC (acc.take i) row ++ (row.take j).map (fun x => c ++ [x])) ++ [c ++ [x]] := by
  rw [List.take_succ, k, List.map_append, List.append_assoc]
  rfl
theorem step_next {acc : List (List Int)} {row : List Int} {i : Nat} {c : List Int} (h : acc[i]? = some c) : stepC (acc.take i) row ++ row.map (fun x => c ++ [x]) = stepC (acc.take (i + 1)) row := by
  unfold stepC
  rw [List.take_succ, h, List.flatMap_append]
  simp
theorem ends_len (k : Nat) (x : Int) : (endsOf k x).length ≤ 2 := by unfold endsOf; split <;> simp
theorem fold_len (k : Nat) : ∀ (ns : List Int) (acc : List (List Int)), ((ns.map (endsOf k)).foldl stepC acc).length ≤ acc.length * 2 ^ ns.length
  | [], acc => by simp
  | n :: ns, acc => by
    rw [List.map_cons, List.foldl_cons]
    refine Nat.le_trans (fold_len k ns _) ?_
    rw [step_len, List.length_cons, Nat.pow_succ, Nat.mul_comm (2 ^ ns.length) 2, ← Nat.mul_assoc]
    exact Nat.mul_le_mul_right _ (Nat.mul_le_mul_left _ (ends_len k n))
theorem fold_each (k : Nat) : ∀ (ns : List Int) (acc : List (List Int)) (m : Nat), (∀ a ∈ acc, a.length = m) → ∀ c ∈ (ns.map (endsOf k)).foldl stepC acc, c.length = m + ns.length
  | [], acc, m, h => by simpa using h
  | n :: ns, acc, m, h => by
    rw [List.map_cons, List.foldl_cons]
    intro c hc
    have := fold_each k ns (stepC acc (endsOf k n)) (m + 1) (fun a ha => by
      unfold stepC at ha
      obtain ⟨b, hb, hx⟩ := List.mem_flatMap.mp ha
      obtain ⟨x, _, rfl⟩ := List.mem_map.mp hx
      rw [List.length_append, h b hb]
      rfl) c hc
    rw [this, List.length_cons]
    omega
end Bt
end SecM18
section SecZ3
set_option Elab.async false
set_option linter.all false
set_option maxRecDepth 100000
/-! zip of three tuples, from the library's turn over three draws -/
namespace Z3
open PySem PySem.Spec PyProof.Rows L2
def It3 (K : PySem.W.Frag) (a b c : Addr) : It where
  go := fun i H => ∃ (xs ys zs : List V), (SqT K H a xs ∧ SqT K H b ys ∧ SqT K H c zs) ∧ i < xs.length ∧ i < ys.length ∧ i < zs.length
  yld := fun i H v H' => ∃ T x y z, v = .ref T ∧ H T = none ∧ H' = upd H T (.tup [x, y, z]) ∧ (∀ xs, SqT K H a xs → xs[i]? = some x) ∧ (∀ ys, SqT K H b ys → ys[i]? = some y) ∧ ∀ zs, SqT K H c zs → zs[i]? = some z
  stop := fun i H => ∃ (xs ys zs : List V), (SqT K H a xs ∧ SqT K H b ys ∧ SqT K H c zs) ∧ i = xs.length ∧ ys.length = xs.length ∧ zs.length = xs.length
/-- where the six cells of the zip lie -/
structure Lay (n a b c : Nat) : Prop where
  ha : a < n
  hb : b < n
  hc : c < n
theorem ne_nat {x y : Nat} (h : x ≠ y) : @Ne Addr x y := h
theorem nm2 {x y z : Nat} (h : x ≠ y) (k : x ≠ z) : ¬ @Membership.mem Addr (List Addr) _ [y, z] x := fun m => by
  rcases List.mem_cons.mp m with e | m
  · exact h e
  · rcases List.mem_cons.mp m with e | m
    · exact k e
    · cases m
theorem Lay.sep {n a b c : Nat} (D : Lay n a b c) : ZipSep3 (n + 5) (n + 3) (n + 4) n (n + 1) (n + 2) [n, a] [n + 1, b] [n + 2, c] := by
  have h1 := D.ha
  have h2 := D.hb
  have h3 := D.hc
  constructor <;> first | exact List.mem_cons_self | exact nm2 (by omega) (by omega) | exact ne_nat (by omega)
def Tn (n a b c : Addr) (i : Nat) (h : Heap) : Prop :=
  IsZip h (n + 5) (n + 3) (n + 4) .none ∧ IsTupOf3 h (n + 3) (.ref n) (.ref (n + 1)) (.ref (n + 2)) ∧ (∃ x y z, IsTupOf3 h (n + 4) x y z) ∧ h.IsTupleIter n a i ∧ h.IsTupleIter (n + 1) b i ∧ h.IsTupleIter (n + 2) c i
abbrev fpZ (n : Addr) : List Addr := [n + 5, n + 3, n + 4, n, n + 1, n + 2]
theorem fp_cases {n x : Addr} (h : x ∈ fpZ n) : x = n + 5 ∨ x = n + 3 ∨ x = n + 4 ∨ x = n ∨ x = n + 1 ∨ x = n + 2 := by simpa using h
theorem wsub {n o : Addr} (h : o ∈ [n + 5, n + 4, n, n + 1, n + 2]) : o ∈ fpZ n := by
  rcases List.mem_cons.mp h with rfl | h
  · exact .head _
  · exact .tail _ (.tail _ h)
theorem fp_lt {n m o : Nat} (k : n + 5 < m) (h : @Membership.mem Addr (List Addr) _ (fpZ n) o) : o < m := by
  rcases fp_cases h with e | e | e | e | e | e <;> (have e : o = _ := e; omega)
theorem turn3 {P : Program} {w : World} {K : PySem.W.Frag} {elts : List Expr} {kk : Nat} {tpos : Pos} {n a b c : Addr} (D : Lay n a b c) : Turn P w K (.Tuple elts kk tpos) (It3 K a b c) (fpZ n) (n + 5) (Tn n a b c) where
  mem := by simp
  obj := fun i h st x hx => by
    obtain ⟨t1, t2, ⟨_, _, _, t3⟩, ⟨o1, e1, _, d1⟩, ⟨o2, e2, _, d2⟩, ⟨o3, e3, _, d3⟩⟩ := st
    rcases fp_cases hx with rfl | rfl | rfl | rfl | rfl | rfl
    · exact ⟨_, t1, fun v z => by cases z⟩
    · exact ⟨_, t2, fun v z => by cases z⟩
    · exact ⟨_, t3, fun v z => by cases z⟩
    · exact ⟨o1, e1, fun v z => by rw [z] at d1; cases d1⟩
    · exact ⟨o2, e2, fun v z => by rw [z] at d2; cases d2⟩
    · exact ⟨o3, e3, fun v z => by rw [z] at d3; cases d3⟩
  keep := fun i h h' st k => by
    obtain ⟨t1, t2, ⟨x, y, z, t3⟩, j1, j2, j3⟩ := st
    exact ⟨k _ (by simp) _ t1, k _ (by simp) _ t2, ⟨x, y, z, k _ (by simp) _ t3⟩, j1.at fun o e => k _ (by simp) o e, j2.at fun o e => k _ (by simp) o e, j3.at fun o e => k _ (by simp) o e⟩
  item := by
    intro X hP hw hK hc i pins s σ H E I hf st hg
    subst hP hw hK
    obtain ⟨t1, t2, t3, j1, j2, j3⟩ := st
    obtain ⟨xs, ys, zs, ⟨q1, q2, q3⟩, l1, l2, l3⟩ := hg
    obtain ⟨m1, r1, p1, _⟩ := I.tuple q1
    obtain ⟨m2, r2, p2, _⟩ := I.tuple q2
    obtain ⟨m3, r3, p3, _⟩ := I.tuple q3
    have hd : X.A.in1.handled = none := I.ok.hd hc
    have G := GoesN.zip3 (prog := X.prog) (w := X.w) (A := X.A) (elts := elts) (x1 := kk) (pos := tpos) D.sep (Draws.tuple hd n a (ne_nat (Nat.ne_of_lt D.ha)) m1.toArray) (Draws.tuple hd (n + 1) b (ne_nat (Nat.ne_of_lt (Nat.lt_succ_of_lt D.hb))) m2.toArray) (Draws.tuple hd (n + 2) c (ne_nat (Nat.ne_of_lt (Nat.lt_succ_of_lt (Nat.lt_succ_of_lt D.hc)))) m3.toArray)
    have e1 := r1.length
    have e2 := r2.length
    have e3 := r3.length
    have top : n + 5 < s.heap.objs.size := Heap.lt_size t1
    refine G.goes i s _ E (by simp only [List.size_toArray]; omega) ⟨t1, t2, t3, ⟨j1, p1⟩, ⟨j2, p2⟩, ⟨j3, p3⟩⟩ fun v h' tk hy st' hk htk => ?_
    obtain ⟨T, x, y, z, rfl, hT, x1, x2, x3, tt⟩ := hy
    obtain ⟨s1, s2, s3, ⟨k1, _⟩, ⟨k2, _⟩, ⟨k3, _⟩⟩ := st'
    have g1 : m1[i]? = some x := by simpa using x1
    have g2 : m2[i]? = some y := by simpa using x2
    have g3 : m3[i]? = some z := by simpa using x3
    have f1 : xs[i]? = some xs[i] := List.getElem?_eq_getElem l1
    have f2 : ys[i]? = some ys[i] := List.getElem?_eq_getElem l2
    have f3 : zs[i]? = some zs[i] := List.getElem?_eq_getElem l3
    obtain ⟨u1, v1, w1⟩ := r1.get f1
    obtain ⟨u2, v2, w2⟩ := r2.get f2
    obtain ⟨u3, v3, w3⟩ := r3.get f3
    rw [g1] at v1
    rw [g2] at v2
    rw [g3] at v3
    cases v1
    cases v2
    cases v3
    have I1 := I.turnedNew (t' := tk) (T := T) (ob := .tup [xs[i], ys[i], zs[i]]) (ch := fpZ n) (fun o u ho hu => hk o u (fun z => ho (wsub z)) hu) hf hT ⟨by show 3 ≤ sizeLine; decide, _, .cons w1 (.cons w2 (.cons w3 .nil)), tt⟩
    refine ⟨.ref T, _, I1, rfl, ⟨T, _, _, _, rfl, I.hok.fresh hT, rfl, fun l hl => by rw [I.tuple_inj hl q1]; exact f1, fun l hl => by rw [I.tuple_inj hl q2]; exact f2, fun l hl => by rw [I.tuple_inj hl q3]; exact f3⟩, ⟨s1, s2, s3, k1, k2, k3⟩, fun o ho => ?_⟩
    rw [upd_ne (ne_nat (Nat.ne_of_lt (Nat.lt_of_lt_of_le (fp_lt top ho) hT)))]
    exact (hf o ho).1
  done := by
    intro X hP hw hK hc i pins s σ H E I hf st hg
    subst hP hw hK
    obtain ⟨t1, t2, t3, j1, j2, j3⟩ := st
    obtain ⟨xs, ys, zs, ⟨q1, q2, q3⟩, l1, l2, l3⟩ := hg
    obtain ⟨m1, r1, p1, _⟩ := I.tuple q1
    obtain ⟨m2, r2, p2, _⟩ := I.tuple q2
    obtain ⟨m3, r3, p3, _⟩ := I.tuple q3
    have hd : X.A.in1.handled = none := I.ok.hd hc
    have G := GoesN.zip3 (prog := X.prog) (w := X.w) (A := X.A) (elts := elts) (x1 := kk) (pos := tpos) D.sep (Draws.tuple hd n a (ne_nat (Nat.ne_of_lt D.ha)) m1.toArray) (Draws.tuple hd (n + 1) b (ne_nat (Nat.ne_of_lt (Nat.lt_succ_of_lt D.hb))) m2.toArray) (Draws.tuple hd (n + 2) c (ne_nat (Nat.ne_of_lt (Nat.lt_succ_of_lt (Nat.lt_succ_of_lt D.hc)))) m3.toArray)
    have e1 := r1.length
    have e2 := r2.length
    have e3 := r3.length
    have ei : i = min (min m1.toArray.size m2.toArray.size) m3.toArray.size := by simp only [List.size_toArray]; omega
    rw [ei] at j1 j2 j3
    exact G.stops s _ E ⟨t1, t2, t3, ⟨j1, p1⟩, ⟨j2, p2⟩, ⟨j3, p3⟩⟩ fun h' tk hk htk => I.turnedL (t' := tk) (ch := fpZ n) (fun o u ho hu => hk o u (fun z => ho (wsub z)) hu) hf
  self := fun A i s Q E st h => wpAny_pyIter_zip st.1 h
def iZip3 (K : PySem.W.Frag) (ta : TA) : TI := fun σ H R => ta σ H fun vs H1 => ∃ a b c xs ys zs, vs = [.ref a, .ref b, .ref c] ∧ SqT K H1 a xs ∧ SqT K H1 b ys ∧ SqT K H1 c zs ∧ R (It3 K a b c) H1
theorem pi_zip3 {X : Cx} {e e2 e3 : Expr} {ta : TA} {p pos tpos : Pos} {elts : List Expr} {kk : Nat} (hg : Gl X "zip") (hm : X.mg "zip" = none) (ha : PA X [e, e2, e3] ta)
    (hs : starEach [e, e2, e3] X.env = (false, eval e X.env) :: starEach [e2, e3] X.env := by rfl) (hpl : (backTo pos (starEach [e2, e3] X.env)).any (·.1) = false := by rfl) :
    PI X (.Tuple elts kk tpos) (.Call (.Name "zip" p) [e, e2, e3] [] pos) (iZip3 X.K ta) := by
  refine ⟨fun pins s σ H R I h => Call_ (ld_blt I hg hm PyProof.Rows.boot_zip (PyProof.Rows.callWith_type1 (thn (ha.run pos pins s σ H _ I h) fun us s1 ⟨vs, H1, I1, r1, q1⟩ => ?_) hs hpl))⟩
  obtain ⟨a, b, c, xs, ys, zs, ex, q1, q2, q3, q⟩ := q1
  subst ex
  cases r1 with
  | cons r rr =>
    cases rr with
    | cons r' rr =>
      cases rr with
      | cons r'' rr =>
        cases rr
        cases r
        cases r'
        cases r''
        obtain ⟨m1, v1, p1, _⟩ := I1.tuple q1
        obtain ⟨m2, v2, p2, _⟩ := I1.tuple q2
        obtain ⟨m3, v3, p3, _⟩ := I1.tuple q3
        have lt : ∀ {t : Addr} {items : Array Value}, s1.heap.IsTuple t items → t < s1.heap.objs.size := fun ⟨o, e, _⟩ => Heap.lt_size e
        refine zip_begins3 (begins_tuple a m1.toArray) (begins_tuple b m2.toArray) (begins_tuple c m3.toArray) p1 p2 p3 fun h' z0 z1 z2 z3 z4 z5 sz hk => wpAny_pyIter_zip z0 ?_
        refine ⟨s1.heap.objs.size + 5, fpZ s1.heap.objs.size, Tn s1.heap.objs.size a b c, It3 X.K a b c, H1, rfl, I1.kept (t' := s1.toks) hk, turn3 ⟨lt p1, lt p2, lt p3⟩, ⟨z0, z1, ⟨_, _, _, z2⟩, ⟨_, z3, rfl, rfl⟩, ⟨_, z4, rfl, rfl⟩, ⟨_, z5, rfl, rfl⟩⟩, fun o ho => ?_, q⟩
        have hle : s1.heap.objs.size ≤ o := by rcases fp_cases ho with rfl | rfl | rfl | rfl | rfl | rfl <;> omega
        exact I1.fpOk hle (I1.hok.fresh hle)
end Z3
end SecZ3
section SecK1
set_option Elab.async false
set_option linter.all false
set_option maxRecDepth 100000
set_option maxHeartbeats 4000000
set_option pp.deepTerms false
local macro_rules | `(tactic| walk_at "tq") => `(tactic| first | assumption | (refine' Dt.Tq.to ?s0 ?h0; (case h0 => assumption); (case s0 => walk_at "same")))
local macro_rules | `(tactic| walk_at "same") => `(tactic| first | exact L2.Same.refl _ | assumption | (refine' L2.Same.trans ?s1 ?s2; (case s2 => assumption); (case s1 => walk_at "same")))
local macro_rules | `(tactic| walk_at "sam") => `(tactic| first | exact Dt.Sam.refl | assumption | exact Dt.Sam.of (by assumption) | (refine' Dt.Sam.trans ?s1 ?s2; (case s2 => first | assumption | exact Dt.Sam.of (by assumption)); (case s1 => walk_at "sam")))
local macro_rules | `(tactic| walk_at "tape") => `(tactic| first | assumption | (refine' Dt.Tape.mono ?h0 ?s0; (case h0 => assumption); (case s0 => walk_at "same")))
local macro_rules | `(tactic| walk_at "nt") => `(tactic| first | exact Dt.nt_tup | exact Dt.nt_ints | assumption | (intro a0 b0 c0 l0 z0; cases z0) | (intro a0 b0 c0 l0 z0; simp at z0))
local macro_rules | `(tactic| walk_at "heap") => `(tactic| first | assumption | exact L2.upd_same | (refine' Rd.at_to ?s0 ?h0; (case h0 => assumption); (case s0 => walk_at "same")) | (refine' Dt.at_sam ?n0 ?s0 ?h0; (case h0 => assumption); (case n0 => walk_at "nt"); (case s0 => walk_at "sam")))
local macro_rules | `(tactic| walk_at "rp") => `(tactic| first | exact Dt.Rp.int _ | exact Dt.Rp.bl _ | exact Dt.Rp.str _ | exact Dt.Rp.non | assumption | (refine' Dt.Rp.sm ?s0 ?h0; (case h0 => assumption); (case s0 => walk_at "sam")) | (refine' Dt.Rp.tup ?h1 ?h2 ?h3; (case h1 => walk_at "heap"); (case h2 => walk_at "rps"); (case h3 => first | assumption | (show _ ≤ 1000; decide) | (show _ ≤ 1000; simp) | (show _ ≤ 1000; omega))) | (refine' Dt.Rp.lst ?h1 ?h2 ?h3 ?h4; (case h1 => walk_at "heap"); (case h2 => walk_at "rps"); (case h3 => first | assumption | (show _ ≤ 1000; decide) | (show _ ≤ 1000; simp) | (show _ ≤ 1000; omega)); (case h4 => walk_at "nt")))
local macro_rules | `(tactic| walk_at "rps") => `(tactic| first | exact Dt.RpAll.nil | assumption | (refine' Dt.RpAll.cons ?h1 ?h2; (case h1 => walk_at "rp"); (case h2 => walk_at "rps")) | (refine' Dt.RpAll.sm ?s0 ?h0; (case h0 => assumption); (case s0 => walk_at "sam")))
local macro_rules | `(tactic| walk_at "rd") => `(tactic| first
  | with_reducible refine Rd.seq ?_ | with_reducible refine Rd.asg ?_ | with_reducible refine Rd.nm ?_ | with_reducible refine Rd.sub ?_ | with_reducible refine Rd.ret ?_ | with_reducible refine Rd.retN ?_
  | with_reducible refine Rd.drop ?_ | with_reducible refine Rd.ifs ?_ | with_reducible refine Rd.next ?_ | with_reducible refine Rd.cst ?_ | with_reducible refine Rd.op ?_ | with_reducible refine Rd.un ?_
  | with_reducible refine Rd.test ?_ | with_reducible refine Rd.tb' ?_ | with_reducible refine Rd.exb ?_ | with_reducible refine Rd.exi ?_ | with_reducible refine Rd.and2 ?_ | with_reducible refine Rd.or2 ?_ | with_reducible refine Rd.not1 ?_
  | with_reducible refine Rd.andV ?_ | with_reducible refine Rd.orV ?_ | with_reducible refine Rd.notV ?_ | with_reducible refine Rd.nil ?_ | with_reducible refine Rd.cons ?_ | with_reducible refine Rd.cb ?_
  | with_reducible refine Rd.i0 ?_ | with_reducible refine Rd.u1 ?_ | with_reducible refine Rd.call ?_ | with_reducible refine Rd.tup ?_ | with_reducible refine Rd.lst ?_ | with_reducible refine Rd.sl ?_ | with_reducible refine Rd.no ?_ | with_reducible refine Rd.part ?_ | with_reducible refine Rd.at_ ?_ | with_reducible refine Rd.yes ?_ | with_reducible refine Rd.fors ?_ | with_reducible refine Rd.m1 ?_ | with_reducible refine Rd.exs ?_ | with_reducible refine Rd.lc ?_ | with_reducible refine Rd.rng ?_
  | with_reducible refine Rd.mkv ?_ | with_reducible refine Rd.mko ?_ | with_reducible refine Rd.callB ?_ | with_reducible refine Rd.callS ?_ | with_reducible refine Rd.bm ?_ | with_reducible refine Rd.itl ?_ | with_reducible refine Rd.itt ?_
  | ((with_reducible refine' And.intro ?hl ?_); (case hl => ((with_reducible show List.length _ ≤ PySem.sizeLine); (show _ ≤ PySem.sizeLine); rw [PySem.sizeLine_eq]; simp)))
  | (intro p0 n0; generalize hK0 : L2.upd _ p0 _ = K0; obtain ⟨e0, t0⟩ := Dt.newK hK0 n0)
  | ((with_reducible refine' Rd.lenKL ?he ?_); (case he => walk_at "heap")) | ((with_reducible refine' Rd.lenKT ?he ?_); (case he => walk_at "heap"))
  | ((with_reducible refine' Rd.var ?hv ?_); (case hv => exact rfl))
  | ((with_reducible refine' Rd.ifT ?hv ?_); (case hv => first | exact rfl | assumption)) | ((with_reducible refine' Rd.ifF ?hv ?_); (case hv => first | exact rfl | assumption))
  | ((with_reducible refine' Rd.eq ?hv ?_); (case hv => exact rfl))
  | ((with_reducible refine' Rd.ne ?hv ?_); (case hv => exact rfl))
  | ((with_reducible refine' Dt.isi_int ?hr ?_); (case hr => walk_at "rp")) | ((with_reducible refine' Dt.isi_bool ?hr ?_); (case hr => walk_at "rp")) | ((with_reducible refine' Dt.isi_tuple ?hr ?_); (case hr => walk_at "rp")) | ((with_reducible refine' Dt.isi_str ?hr ?_); (case hr => walk_at "rp")) | ((with_reducible refine' Dt.isi_list ?hr ?_); (case hr => walk_at "rp"))
  | with_reducible refine ⟨rfl, ?_⟩ | with_reducible refine Or.inl ⟨_, rfl, ?_⟩ | with_reducible refine Or.inr ⟨_, rfl, ?_⟩ | with_reducible refine ⟨_, rfl, ?_⟩
  | ((with_reducible refine' Rd.ex2 ⟨rfl, ?hl, ?_⟩); (case hl => first | exact Or.inl ⟨_, L2.SqL.of (by walk_at "heap"), rfl⟩ | exact Or.inr ⟨_, L2.SqT.of (by walk_at "heap"), rfl⟩))
  | ((with_reducible refine' Rd.i1 ?hv ?_); (case hv => first | exact ⟨by decide, by decide, by decide⟩ | exact Or.inr ⟨by decide, by decide⟩ | exact Or.inl ⟨by decide, by decide⟩ | exact ⟨by decide, by decide⟩ | decide | assumption | (show _ ≠ _; omega) | (refine ⟨?_, ?_⟩ <;> omega) | (refine Or.inl ⟨?_, ?_⟩ <;> omega)))
  | ((with_reducible refine' Rd.ixL ?he ?hx ?_); (case he => walk_at "heap"); (case hx => rfl))
  | ((with_reducible refine' Rd.ixT ?he ?hx ?_); (case he => walk_at "heap"); (case hx => rfl))
  | ((with_reducible refine' Rd.setL ?he ?hx ?_); (case he => first | assumption | exact L2.upd_same); (case hx => rfl)))
local macro_rules | `(tactic| walk_at "rd") => `(tactic| first | with_reducible refine Rd.isT ?_ | with_reducible refine Rd.isnT ?_ | with_reducible refine Rd.ife ?_)
local macro_rules | `(tactic| walk_at "rd") => `(tactic| first | ((with_reducible refine' Rd.gtup ?he ?hl ?_); (case he => walk_at "heap"); (case hl => exact rfl)) | with_reducible refine Rd.brk ?_ | with_reducible refine Rd.callR ?_ | ((with_reducible refine' ⟨_, _, rfl, Or.inl ⟨L2.SqL.of ?hp, ?_⟩⟩); (case hp => walk_at "heap")) | ((with_reducible refine' ⟨_, _, rfl, Or.inl (L2.SqL.of ?hp), ?_⟩); (case hp => walk_at "heap")) | ((with_reducible refine' Rd.catL ?hp ?hq ?hl ?_); (case hp => walk_at "heap"); (case hq => walk_at "heap"); (case hl => (simp only [List.length_map, List.length_append, List.length_cons, List.length_nil]; omega)); (intro r0 J0 e0 t0 n0)) | with_reducible refine Rd.bits ?_ | with_reducible refine Rd.max2 ?_ | with_reducible refine Rd.gcons ?_ | with_reducible refine Rd.gnil ?_)
local macro_rules | `(tactic| walk_at "rds") => `(tactic| repeat (first | walk_at "rd" | assumption))
namespace K17
open PySem PySem.Spec PyProof.Rows L2 L2H Err Dt
def spIsInt : Sp := fun vs H Q _ => ∃ (v : V) (d : PyData), vs = [v] ∧ Rp H v d ∧ ∀ H', Same H H' → Q (.bl (dInt d)) H'
def spIsRow : Sp := fun vs H Q _ => ∃ (n : Int) (v : V) (d : PyData), vs = [.int n, v] ∧ Rp H v d ∧ ∀ H', Same H H' → Q (.bl (dRow n d)) H'
def Space (H : Hp) (s : Addr) (n r : Int) : Prop := H s = some (.tup [.int n, .int r]) ∧ 2 ≤ n ∧ n ≤ 3 ∧ 0 ≤ r ∧ r ≤ 8
theorem Space.to {H H' : Hp} {s : Addr} {n r : Int} (t : Same H H') (h : Space H s n r) : Space H' s n r := ⟨t _ _ h.1, h.2⟩
theorem Space.sm {H H' : Hp} {s : Addr} {n r : Int} (t : Sam H H') (h : Space H s n r) : Space H' s n r := ⟨t _ _ nt_tup h.1, h.2⟩
def spIsPoint : Sp := fun vs H Q _ => ∃ (s : Addr) (n r : Int) (v : V) (d : PyData), vs = [.ref s, v] ∧ Space H s n r ∧ Rp H v d ∧ ∀ H', Same H H' → Q (.bl (dRow n d)) H'
def dPoints (n : Int) : PyData → Bool | .tuple ds => ds.all (dRow n) | _ => false
def spArePoints : Sp := fun vs H Q _ => ∃ (s : Addr) (n r : Int) (v : V) (d : PyData), vs = [.ref s, v] ∧ Space H s n r ∧ Rp H v d ∧ ∀ H', Same H H' → Q (.bl (dPoints n d)) H'
def dBody (n : Int) : PyData → Bool | .tuple ds => decide ((ds.length : Int) = n + 1) && ds.all (dRow n) | _ => false
def spIsBody : Sp := fun vs H Q _ => ∃ (s : Addr) (n r : Int) (v : V) (d : PyData), vs = [.ref s, v] ∧ Space H s n r ∧ Rp H v d ∧ ∀ H', Same H H' → Q (.bl (dBody n d)) H'
/-- some number is no multiple of the unit -/
def newL (r : Int) (ns : List Int) : Bool := ns.any fun x => !decide (x % 2 ^ r.toNat = 0)
def dNew (n r : Int) (d : PyData) : Bool := dRow n d && (match d with | .tuple ds => newL r (intsOf ds) | _ => false)
def spIsNew : Sp := fun vs H Q _ => ∃ (s : Addr) (n r : Int) (v : V) (d : PyData), vs = [.ref s, v] ∧ Space H s n r ∧ Rp H v d ∧ ∀ H', Same H H' → Q (.bl (dNew n r d)) H'
def dSpace : PyData → Bool | .tuple [.int a, .int b] => (decide (a = 2) || decide (a = 3)) && decide (0 ≤ b) | _ => false
def spIsSpace : Sp := fun vs H Q _ => ∃ (v : V) (d : PyData), vs = [v] ∧ Rp H v d ∧ ∀ H', Same H H' → Q (.bl (dSpace d)) H'
theorem int_at {ns : List Int} {i : Nat} {x : V} (h : (ns.map V.int)[i]? = some x) : ∃ n, ns[i]? = some n ∧ x = .int n := by
  rw [List.getElem?_map] at h
  cases e : ns[i]? with
  | none => rw [e] at h; cases h
  | some n =>
    rw [e] at h
    exact ⟨n, rfl, (Option.some.inj h).symm⟩
theorem shl1 {r : Int} (h0 : 0 ≤ r) (h1 : r ≤ 8) : CShl 1 r := ⟨h0, by show ((1 : Nat) : Int) + r ≤ 2 ^ 27; omega⟩
theorem unit_pos (r : Int) : (0 : Int) < 2 ^ r.toNat := Int.pow_pos (by decide)
theorem _root_.Dt.Rp.row {H : Hp} {v : V} {ns : List Int} (h : Rp H v (.tuple (ns.map PyData.int))) : ∃ p, v = .ref p ∧ H p = some (.tup (ns.map V.int)) ∧ ns.length ≤ 1000 := by
  cases h with
  | tup e r l =>
    have := r.ints ns
    subst this
    exact ⟨_, rfl, e, by rwa [List.length_map] at l⟩
theorem rp_row {H : Hp} {p : Addr} {ns : List Int} (e : H p = some (.tup (ns.map V.int))) (l : ns.length ≤ 1000) : Rp H (.ref p) (.tuple (ns.map PyData.int)) := .tup e (rp_ints ns) (by rwa [List.length_map])
theorem row_true {n : Int} {ns : List Int} (h : (ns.length : Int) = n) : dRow n (.tuple (ns.map PyData.int)) = true := by
  show (decide (((ns.map PyData.int).length : Int) = n) && (ns.map PyData.int).all dInt) = true
  rw [List.length_map, decide_eq_true h, Bool.true_and, List.all_eq_true]
  intro d hd
  obtain ⟨i, _, rfl⟩ := List.mem_map.mp hd
  rfl
theorem upd_idem {H : Hp} {t : Addr} {o : HO} (h : H t = some o) : upd H t o = H := by
  funext b
  by_cases e : b = t
  · rw [e, upd_same, h]
  · rw [upd_ne e]
theorem fmod_in {a m : Int} (h : 0 < m) : 0 ≤ a.fmod m ∧ a.fmod m < m := by
  rw [Int.fmod_eq_emod_of_nonneg _ (Int.le_of_lt h)]
  exact ⟨Int.emod_nonneg _ (by omega), Int.emod_lt_of_pos _ h⟩
section
variable {P : Program} {w : World} {K : PySem.W.Frag} {mg : Str → Option Value} {base : Heap}
set_option pp.maxSteps 3000
abbrev sDemand : Stmt := topS 7
theorem scDemand : FnScope ["fits", "word"] ["fits", "word"] (defScope sDemand) := ⟨rfl, rfl, rfl, by decide +kernel, rfl, by decide +kernel, by decide +kernel⟩
theorem okDemand {f : Addr} {fd : FuncData} (F : Fun K "demand" "demand" sDemand f fd) (T : Tx mg) {CN : Addr} (L : Kl P w K mg base "NotUsable" CN ["word", "at"]) : FnOk P w K mg base (L2N.CX P w) 3 f fd ["fits", "word"] (spDemand CN) := by
  refine okN F scDemand (fun vs H Q E h => ?_) (fun cdv A outer s H vs Q E hr h => ?_)
  · obtain ⟨b, z, rfl, _⟩ := h
    rfl
  · obtain ⟨b, z, rfl, k1, k2⟩ := h
    refine ⟨_, (pss_one (ps_if (pt_not (pt_val (pv 0)))
    (pss_one (ps_rse E L rfl (hr.mono (by omega)) (L2N.takes_of rfl rfl rfl rfl) (pa_cons (pv 1) (pa_cons (pe_un un_neg pe_int) pa_nil))))
    pss_nil)), ?_⟩
    have st0 : L2.start ["fits", "word"] [V.bl b, V.str z] = [some (V.bl b), some (V.str z)] := rfl
    rw [st0]
    cases b with
    | true =>
      walk_at "rds"
      exact k1 rfl
    | false =>
      walk_at "rds"
      exact raised_end (by rfl) (by show 2 ≤ 1000; decide) (by decide) fun d H' e s => k2 rfl d H' e s
abbrev sIsInteger : Stmt := topS 9
theorem scIsInteger : FnScope ["thing"] ["thing"] (defScope sIsInteger) := ⟨rfl, rfl, rfl, by decide +kernel, rfl, by decide +kernel, by decide +kernel⟩
theorem okIsInteger {f : Addr} {fd : FuncData} (F : Fun K "is_integer" "is_integer" sIsInteger f fd) (T : Tx mg)  : FnOk P w K mg base CX0 1 f fd ["thing"] spIsInt := by
  refine F.ok scIsInteger (fun vs H Q E h => ?_) (fun cdv A outer s H vs Q E hr h => ?_)
  · obtain ⟨v, d, rfl, _⟩ := h
    rfl
  · obtain ⟨v, d, rfl, r, kk⟩ := h
    refine ⟨_, (pss_one (ps_ret (pe_and (pe_callB call_isi (by rfl) T.n_isinstance (by decide +kernel) (pa_cons (pv 0) (pa_cons (pe_bltn (v := .ty "int") (u := .type "int") rfl T.n_int (by decide +kernel) rfl) pa_nil))) (pe_one (pe_not (pe_callB call_isi (by rfl) T.n_isinstance (by decide +kernel) (pa_cons (pv 0) (pa_cons (pe_bltn (v := .ty "bool") (u := .type "bool") rfl T.n_bool (by decide +kernel) rfl) pa_nil)))))))), ?_⟩
    have st0 : L2.start ["thing"] [v] = [some (v)] := rfl
    rw [st0]
    walk_at "rds"
    cases r <;>
    · walk_at "rds"
      exact kk _ (Same.refl _)
abbrev sIsRow : Stmt := topS 10
theorem scIsRow : FnScope ["many", "thing", "number"] ["many", "thing"] (defScope sIsRow) := ⟨rfl, rfl, rfl, by decide +kernel, rfl, by decide +kernel, by decide +kernel⟩
theorem okIsRow {f : Addr} {fd : FuncData} (F : Fun K "is_row" "is_row" sIsRow f fd) (T : Tx mg) (DIsInteger : Dn P w K mg base CX0 "is_integer" 1 ["thing"] spIsInt) : FnOk P w K mg base CX0 2 f fd ["many", "thing"] spIsRow := by
  refine F.ok scIsRow (fun vs H Q E h => ?_) (fun cdv A outer s H vs Q E hr h => ?_)
  · obtain ⟨n, v, d, rfl, _⟩ := h
    rfl
  · obtain ⟨n, v, d, rfl, r, kk⟩ := h
    refine ⟨_, (pss_one (ps_ret (pe_and (pe_callB call_isi (by rfl) T.n_isinstance (by decide +kernel) (pa_cons (pv 1) (pa_cons (pe_bltn (v := .ty "tuple") (u := .type "tuple") rfl T.n_tuple (by decide +kernel) rfl) pa_nil))) (pe_and (pe_cmpR op_eq (pe_callB call_len (by rfl) T.n_len (by decide +kernel) (pa_cons (pv 1) pa_nil)) (pv 0) (nomark _)) (pe_one (pe_callB (cr_all rfl) (by rfl) T.n_all (by decide +kernel) (pa_cons (pe_lc (own := [("number", 2)]) (g := (gName 2)) (by rfl) scIsRow.nd (pi_tup (pv 1)) (blkOk_by (own := [("number", 2)]) (N := ["many", "thing", "number"]) (sc := defScope sIsRow) (by decide +kernel)) (fun _ _ _ _ _ => (pg_name (i := 2) scIsRow.nd rfl (Or.inl rfl))) (fun _ _ _ _ _ => pts_nil) (fun _ _ _ _ _ => (pe_dn DIsInteger (hr.mono (by omega)) (pa_cons (pv 2) pa_nil)))) pa_nil))))))), ?_⟩
    have st0 : L2.start ["many", "thing", "number"] [V.int n, v] = [some (V.int n), some (v), none] := rfl
    rw [st0]
    cases r with
    | @tup p vs ds e a l =>
      walk_at "rds"
      have hl : vs.length = ds.length := a.len
      refine Rd.ifB (fun h => ?_) fun h => ?_
      · walk_at "rds"
        refine ⟨⟨_, SqT.of e⟩, fun d hd => lc_tup (K := K) (a := p) (xs := vs) (fun i H3 => H3 d = some (.lst (((ds.take i).map dInt).map V.bl)) ∧ Same H H3) ⟨upd_same, same_put hd (Same.refl _)⟩ (fun i H3 _ ⟨_, s3⟩ => SqT.of (s3 _ _ e)) ?_ ?_⟩
        · rintro i x H3 hx ⟨e3, s3⟩
          refine ⟨rfl, ?_⟩
          walk_at "rds"
          obtain ⟨d1, h1, r1⟩ := a.at hx
          refine ⟨x, d1, rfl, r1.to s3, fun H4 t4 => ⟨_, t4 _ _ e3, ?_, ?_, same_put hd (s3.trans t4)⟩⟩
          · rw [List.length_map, List.length_map, List.length_take, sizeLine_eq]
            omega
          · rw [upd_same, List.take_succ, h1, List.map_append, List.map_append]
            rfl
        · rintro H4 ⟨e4, s4⟩
          walk_at "rds"
          refine ⟨d, _, rfl, SqL.of e4, ?_⟩
          rw [hl, List.take_length]
          have ez : dRow n (.tuple ds) = (ds.map dInt).all id := by
            show (decide ((ds.length : Int) = n) && ds.all dInt) = _
            have h' : (ds.length : Int) = n := by
              have z := of_decide_eq_true h
              rw [← hl]
              exact V.int.inj z
            rw [decide_eq_true h', Bool.true_and, List.all_map]
            rfl
          rw [← ez]
          exact kk _ s4
      · walk_at "rds"
        have ez : dRow n (.tuple ds) = false := by
          show (decide ((ds.length : Int) = n) && ds.all dInt) = _
          have h' : ¬ (ds.length : Int) = n := fun z => by
            have y := of_decide_eq_false h
            rw [hl, z] at y
            exact y rfl
          rw [decide_eq_false h', Bool.false_and]
        rw [← ez]
        exact kk _ (Same.refl _)
    | non | bl | int | str | lst =>
      walk_at "rds"
      exact kk _ (Same.refl _)
abbrev sIsPoint : Stmt := topS 12
theorem scIsPoint : FnScope ["space", "thing"] ["space", "thing"] (defScope sIsPoint) := ⟨rfl, rfl, rfl, by decide +kernel, rfl, by decide +kernel, by decide +kernel⟩
theorem okIsPoint {f : Addr} {fd : FuncData} (F : Fun K "is_point" "is_point" sIsPoint f fd) (T : Tx mg) (DIsRow : Dn P w K mg base CX0 "is_row" 2 ["many", "thing"] spIsRow)  : FnOk P w K mg base CX0 3 f fd ["space", "thing"] spIsPoint := by
  refine F.ok scIsPoint (fun vs H Q E h => ?_) (fun cdv A outer s H vs Q E hr h => ?_)
  · obtain ⟨s, n, rr, v, d, rfl, _⟩ := h
    rfl
  · obtain ⟨s, n, rr, v, d, rfl, ⟨hs, hn⟩, r, kk⟩ := h
    refine ⟨_, (pss_one (ps_ret (pe_dn DIsRow (hr.mono (by omega)) (pa_cons (pe_ix ix_tup (pv 0) pe_int (fun _ _ => rfl)) (pa_cons (pv 1) pa_nil))))), ?_⟩
    have st0 : L2.start ["space", "thing"] [V.ref s, v] = [some (V.ref s), some (v)] := rfl
    rw [st0]
    walk_at "rds"
    exact ⟨n, v, d, rfl, r, fun H1 t1 => kk _ t1⟩
abbrev sArePoints : Stmt := topS 14
theorem scArePoints : FnScope ["space", "thing", "point"] ["space", "thing"] (defScope sArePoints) := ⟨rfl, rfl, rfl, by decide +kernel, rfl, by decide +kernel, by decide +kernel⟩
theorem okArePoints {f : Addr} {fd : FuncData} (F : Fun K "are_points" "are_points" sArePoints f fd) (T : Tx mg) (DIsPoint : Dn P w K mg base CX0 "is_point" 3 ["space", "thing"] spIsPoint)  : FnOk P w K mg base CX0 4 f fd ["space", "thing"] spArePoints := by
  refine F.ok scArePoints (fun vs H Q E h => ?_) (fun cdv A outer s H vs Q E hr h => ?_)
  · obtain ⟨s, n, rr, v, d, rfl, _⟩ := h
    rfl
  · obtain ⟨s, n, rr, v, d, rfl, hS, r, kk⟩ := h
    refine ⟨_, (pss_one (ps_ret (pe_and (pe_callB call_isi (by rfl) T.n_isinstance (by decide +kernel) (pa_cons (pv 1) (pa_cons (pe_bltn (v := .ty "tuple") (u := .type "tuple") rfl T.n_tuple (by decide +kernel) rfl) pa_nil))) (pe_one (pe_callB (cr_all rfl) (by rfl) T.n_all (by decide +kernel) (pa_cons (pe_lc (own := [("point", 2)]) (g := (gName 2)) (by rfl) scArePoints.nd (pi_tup (pv 1)) (blkOk_by (own := [("point", 2)]) (N := ["space", "thing", "point"]) (sc := defScope sArePoints) (by decide +kernel)) (fun _ _ _ _ _ => (pg_name (i := 2) scArePoints.nd rfl (Or.inl rfl))) (fun _ _ _ _ _ => pts_nil) (fun _ _ _ _ _ => (pe_dn DIsPoint (hr.mono (by omega)) (pa_cons (pv 0) (pa_cons (pv 2) pa_nil))))) pa_nil)))))), ?_⟩
    have st0 : L2.start ["space", "thing", "point"] [V.ref s, v] = [some (V.ref s), some (v), none] := rfl
    rw [st0]
    cases r with
    | @tup p vs ds e a l =>
      walk_at "rds"
      have hl : vs.length = ds.length := a.len
      refine ⟨⟨_, SqT.of e⟩, fun d hd => lc_tup (K := K) (a := p) (xs := vs) (fun i H3 => H3 d = some (.lst (((ds.take i).map (dRow n)).map V.bl)) ∧ Same H H3) ⟨upd_same, same_put hd (Same.refl _)⟩ (fun i H3 _ ⟨_, s3⟩ => SqT.of (s3 _ _ e)) ?_ ?_⟩
      · rintro i x H3 hx ⟨e3, s3⟩
        refine ⟨rfl, ?_⟩
        walk_at "rds"
        obtain ⟨d1, h1, r1⟩ := a.at hx
        refine ⟨s, n, rr, x, d1, rfl, hS.to s3, r1.to s3, fun H4 t4 => ⟨_, t4 _ _ e3, ?_, ?_, same_put hd (s3.trans t4)⟩⟩
        · rw [List.length_map, List.length_map, List.length_take, sizeLine_eq]
          omega
        · rw [upd_same, List.take_succ, h1, List.map_append, List.map_append]
          rfl
      · rintro H4 ⟨e4, s4⟩
        walk_at "rds"
        refine ⟨d, _, rfl, SqL.of e4, ?_⟩
        rw [hl, List.take_length]
        have ez : dPoints n (.tuple ds) = (ds.map (dRow n)).all id := by
          show ds.all (dRow n) = _
          rw [List.all_map]
          rfl
        rw [← ez]
        exact kk _ s4
    | non | bl | int | str | lst =>
      walk_at "rds"
      exact kk _ (Same.refl _)
abbrev sWholeL : Stmt := topS 32
theorem scWholeL : FnScope ["thing"] ["thing"] (defScope sWholeL) := ⟨rfl, rfl, rfl, by decide +kernel, rfl, by decide +kernel, by decide +kernel⟩
theorem okWholeL {f : Addr} {fd : FuncData} (F : Fun K "_law_whole" "_law_whole" sWholeL f fd) (T : Tx mg)  : FnB P w K mg base 1 f fd ["thing"] (fun _ => spIsInt) := by
  refine fnB_of F scWholeL (fun pl vs H Q E h => ?_) (fun cdv A outer s H vs Q b pl hr mc h => ?_)
  · obtain ⟨v, d, rfl, _⟩ := h
    rfl
  · obtain ⟨v, d, rfl, r, kk⟩ := h
    refine ⟨_, (pss_one (ps_ret (pe_and (pe_callB call_isi (by rfl) T.n_isinstance (by decide +kernel) (pa_cons (pv 0) (pa_cons (pe_bltn (v := .ty "int") (u := .type "int") rfl T.n_int (by decide +kernel) rfl) pa_nil))) (pe_one (pe_not (pe_callB call_isi (by rfl) T.n_isinstance (by decide +kernel) (pa_cons (pv 0) (pa_cons (pe_bltn (v := .ty "bool") (u := .type "bool") rfl T.n_bool (by decide +kernel) rfl) pa_nil)))))))), ?_⟩
    have st0 : L2.start ["thing"] [v] = [some (v)] := rfl
    rw [st0]
    walk_at "rds"
    cases r <;>
    · walk_at "rds"
      exact kk _ (Same.refl _)
abbrev sDrawL : Stmt := topS 31
theorem scDrawL : FnScope ["tape", "many", "cell", "value"] ["tape", "many"] (defScope sDrawL) := ⟨rfl, rfl, rfl, by decide +kernel, rfl, by decide +kernel, by decide +kernel⟩
theorem okDrawL {f : Addr} {fd : FuncData} (F : Fun K "_law_draw" "_law_draw" sDrawL f fd) (T : Tx mg)  : FnOk P w K mg base CX0 1 f fd ["tape", "many"] spDr := by
  refine F.ok scDrawL (fun vs H Q E h => ?_) (fun cdv A outer s H vs Q E hr h => ?_)
  · obtain ⟨t, l, ns, m, rfl, _⟩ := h
    rfl
  · obtain ⟨t, l, ns, m, rfl, Tp, hl, m0, m1, k⟩ := h
    refine ⟨_, (C8.pss_cut (ps_if (PW.pt (pw_and (pt_cmpR op_eq (pe_ix ix_list (pv 0) pe_int (fun _ _ => rfl)) pe_int (nomark _)) (pw_and1 (pt_cmpR op_lt (pe_ix ix_list (pv 0) pe_int (fun _ _ => rfl)) (pe_callB call_len (by rfl) T.n_len (by decide +kernel) (pa_cons (pe_ix ix_list (pv 0) pe_int (fun _ _ => rfl)) pa_nil)) (nomark _)))))
    (pss_cons (ps_set (i := 2) scDrawL.nd rfl (Or.inl rfl) (pe_ix ix_list (pe_ix ix_list (pv 0) pe_int (fun _ _ => rfl)) (pe_ix ix_list (pv 0) pe_int (fun _ _ => rfl)) (fun _ _ => rfl)))
      (pss_cons (ps_asg (pe_op op_add (pe_ix ix_list (pv 0) pe_int (fun _ _ => rfl)) pe_int) (pg_sub (pv 0) pe_int set_list))
      (pss_one (ps_if (PW.pt (pw_or (pt_cmpR op_ge (pv 2) (pe_op op_pow pe_int pe_int) (nomark _)) (pw_or1 (pt_cmpR op_le (pv 2) (pe_un un_neg (pe_op op_pow pe_int pe_int)) (nomark _)))))
      (pss_one (ps_asg (pe_callB call_abs (by rfl) T.n_abs (by decide +kernel) (pa_cons (pv 2) pa_nil)) (pg_sub (pv 0) pe_int set_list)))
      (pss_one (ps_asg (pe_op op_modN (pe_callTy call_int1 (by rfl) T.n_int (by decide +kernel) (pa_cons (pe_op op_add (pe_op op_mul (pe_ix ix_list (pv 0) pe_int (fun _ _ => rfl)) pe_int) (pv 2)) pa_nil)) pe_int) (pg_sub (pv 0) pe_int set_list)))))))
    pss_nil)
    (pss_cons (ps_if (pt_cmpR op_gt (pe_ix ix_list (pv 0) pe_int (fun _ _ => rfl)) pe_int (nomark _))
    (pss_cons (ps_set (i := 3) scDrawL.nd rfl (Or.inl rfl) (pe_op op_modN (pe_callTy call_int1 (by rfl) T.n_int (by decide +kernel) (pa_cons (pe_ix ix_list (pv 0) pe_int (fun _ _ => rfl)) pa_nil)) (pv 1)))
      (pss_cons (ps_asg (pe_op op_fdivN (pe_ix ix_list (pv 0) pe_int (fun _ _ => rfl)) (pv 1)) (pg_sub (pv 0) pe_int set_list))
      (pss_one (ps_ret (pv 3)))))
    pss_nil)
    (pss_cons (ps_asg (pe_op op_modN (pe_callTy call_int1 (by rfl) T.n_int (by decide +kernel) (pa_cons (pe_op op_add (pe_op op_mul (pe_ix ix_list (pv 0) pe_int (fun _ _ => rfl)) pe_int) pe_int) pa_nil)) pe_int) (pg_sub (pv 0) pe_int set_list))
    (pss_one (ps_ret (pe_op op_modN (pe_callTy call_int1 (by rfl) T.n_int (by decide +kernel) (pa_cons (pe_op op_fdivN (pe_ix ix_list (pv 0) pe_int (fun _ _ => rfl)) pe_int) pa_nil)) (pv 1))))))), ?_⟩
    have st0 : L2.start ["tape", "many", "cell", "value"] [V.ref t, V.int m] = [some (V.ref t), some (V.int m), none, none] := rfl
    rw [st0]
    obtain ⟨a, b, c, e, hc⟩ := Tp.ex
    have ne := Tp.ne
    have sc := Tp.sc
    refine Rd.cut (fun σ' H' => ∃ (x y : Option V) (a b c : Int), σ' = [some (.ref t), some (.int m), x, y] ∧ H' = upd H t (.lst [.int a, .int b, .int c, .ref l]) ∧ 0 ≤ c) ?_ ?_
    · have fin : ∀ (x y : Option V) (a b c : Int), 0 ≤ c → ∃ (x' y' : Option V) (a' b' c' : Int), [some (V.ref t), some (V.int m), x, y] = [some (.ref t), some (.int m), x', y'] ∧ upd H t (.lst [.int a, .int b, .int c, .ref l]) = upd H t (.lst [.int a', .int b', .int c', .ref l]) ∧ 0 ≤ c' :=
        fun x y a b c h => ⟨x, y, a, b, c, rfl, rfl, h⟩
      have stop : ∀ (x y : Option V), ∃ (x' y' : Option V) (a' b' c' : Int), [some (V.ref t), some (V.int m), x, y] = [some (.ref t), some (.int m), x', y'] ∧ H = upd H t (.lst [.int a', .int b', .int c', .ref l]) ∧ 0 ≤ c' :=
        fun x y => ⟨x, y, a, b, c, rfl, (upd_idem e).symm, hc⟩
      walk_at "rds"
      refine Rd.ifB (fun ha => ?_) fun _ => ?_
      · walk_at "rds"
        refine Rd.ifB (fun hb => ?_) fun _ => ?_
        · have hb' : c < (ns.length : Int) := by
            have y : c < ((ns.map V.int).length : Int) := of_decide_eq_true hb
            rw [List.length_map] at y
            exact y
          walk_at "rds"
          obtain ⟨j, ej⟩ : ∃ j : Nat, c = (j : Int) := ⟨c.toNat, by omega⟩
          have hj : j < ns.length := by omega
          refine Rd.ixL sc (v := .int ns[j]) (at_of (j := j) ej (by rw [List.getElem?_map, List.getElem?_eq_getElem hj]; rfl)) ?_
          walk_at "rds"
          refine Rd.ifB (fun _ => ?_) fun _ => ?_
          · walk_at "rds"
            rw [upd_upd]
            exact fin _ _ _ _ _ (by show 0 ≤ c + 1; omega)
          · walk_at "rds"
            refine Rd.ifB (fun _ => ?_) fun _ => ?_ <;>
            · walk_at "rds"
              rw [upd_upd]
              exact fin _ _ _ _ _ (by show 0 ≤ c + 1; omega)
        · walk_at "rds"
          exact stop _ _
      · walk_at "rds"
        exact stop _ _
    · rintro σ' H' ⟨x, y, a, b, c, rfl, rfl, hc⟩
      have tp : ∀ (a b : Int) (H' : Hp), H' = upd H t (.lst [.int a, .int b, .int c, .ref l]) → Tape t l ns H' ∧ Keeps t H H' := fun a b H' e => by
        rw [e]
        exact ⟨⟨⟨a, b, c, upd_same, hc⟩, by rw [upd_ne ne]; exact sc⟩, fun z o n h => by rw [upd_ne n]; exact h⟩
      walk_at "rds"
      refine Rd.ifB (fun _ => ?_) fun _ => ?_
      · walk_at "rds"
        obtain ⟨tp1, tp2⟩ := tp (a.fdiv m) b _ (show upd (upd H t (.lst [.int a, .int b, .int c, .ref l])) t (.lst [.int (a.fdiv m), .int b, .int c, .ref l]) = _ from upd_upd)
        exact k _ _ (fmod_in m0).1 (fmod_in m0).2 tp1 (Keeps.sam Tp tp2)
      · walk_at "rds"
        obtain ⟨tp1, tp2⟩ := tp a ((b * 70507 + 3541).fmod 1073741789) _ (show upd (upd H t (.lst [.int a, .int b, .int c, .ref l])) t (.lst [.int a, .int ((b * 70507 + 3541).fmod 1073741789), .int c, .ref l]) = _ from upd_upd)
        exact k _ _ (fmod_in m0).1 (fmod_in m0).2 tp1 (Keeps.sam Tp tp2)
abbrev sIsBody : Stmt := topS 15
theorem scIsBody : FnScope ["space", "thing"] ["space", "thing"] (defScope sIsBody) := ⟨rfl, rfl, rfl, by decide +kernel, rfl, by decide +kernel, by decide +kernel⟩
theorem okIsBody {f : Addr} {fd : FuncData} (F : Fun K "is_body" "is_body" sIsBody f fd) (T : Tx mg) (DArePoints : Dn P w K mg base CX0 "are_points" 4 ["space", "thing"] spArePoints)  : FnOk P w K mg base CX0 5 f fd ["space", "thing"] spIsBody := by
  refine F.ok scIsBody (fun vs H Q E h => ?_) (fun cdv A outer s H vs Q E hr h => ?_)
  · obtain ⟨s, n, rr, v, d, rfl, _⟩ := h
    rfl
  · obtain ⟨s, n, rr, v, d, rfl, hS, r, kk⟩ := h
    refine ⟨_, (pss_one (ps_ret (pe_and (pe_callB call_isi (by rfl) T.n_isinstance (by decide +kernel) (pa_cons (pv 1) (pa_cons (pe_bltn (v := .ty "tuple") (u := .type "tuple") rfl T.n_tuple (by decide +kernel) rfl) pa_nil))) (pe_and (pe_cmpR op_eq (pe_callB call_len (by rfl) T.n_len (by decide +kernel) (pa_cons (pv 1) pa_nil)) (pe_op op_add (pe_ix ix_tup (pv 0) pe_int (fun _ _ => rfl)) pe_int) (nomark _)) (pe_one (pe_dn DArePoints (hr.mono (by omega)) (pa_cons (pv 0) (pa_cons (pv 1) pa_nil)))))))), ?_⟩
    have st0 : L2.start ["space", "thing"] [V.ref s, v] = [some (V.ref s), some (v)] := rfl
    rw [st0]
    have es := hS.1
    cases r with
    | @tup p vs ds e a l =>
      walk_at "rds"
      have hl : vs.length = ds.length := a.len
      refine Rd.ifB (fun h => ?_) fun h => ?_
      · walk_at "rds"
        refine ⟨s, n, rr, _, .tuple ds, rfl, hS, .tup e a l, fun H1 t1 => ?_⟩
        have h' : (ds.length : Int) = n + 1 := by
          have z := of_decide_eq_true h
          rw [← hl]
          exact V.int.inj z
        have k : Q (.bl (decide ((ds.length : Int) = n + 1) && ds.all (dRow n))) H1 := kk H1 t1
        rw [decide_eq_true h', Bool.true_and] at k
        exact k
      · walk_at "rds"
        have k : Q (.bl (decide ((ds.length : Int) = n + 1) && ds.all (dRow n))) H := kk H (Same.refl _)
        have h' : ¬ (ds.length : Int) = n + 1 := fun z => by
          have y := of_decide_eq_false h
          rw [hl, z] at y
          exact y rfl
        rw [decide_eq_false h', Bool.false_and] at k
        exact k
    | non | bl | int | str | lst =>
      walk_at "rds"
      exact kk _ (Same.refl _)
abbrev sIsNew : Stmt := topS 13
theorem scIsNew : FnScope ["space", "thing", "unit", "number"] ["space", "thing"] (defScope sIsNew) := ⟨rfl, rfl, rfl, by decide +kernel, rfl, by decide +kernel, by decide +kernel⟩
theorem okIsNew {f : Addr} {fd : FuncData} (F : Fun K "is_new" "is_new" sIsNew f fd) (T : Tx mg) (DIsPoint : Dn P w K mg base CX0 "is_point" 3 ["space", "thing"] spIsPoint)  : FnOk P w K mg base CX0 4 f fd ["space", "thing"] spIsNew := by
  refine F.ok scIsNew (fun vs H Q E h => ?_) (fun cdv A outer s H vs Q E hr h => ?_)
  · obtain ⟨s, n, rr, v, d, rfl, _⟩ := h
    rfl
  · obtain ⟨s, n, rr, v, d, rfl, hS, r, kk⟩ := h
    refine ⟨_, (pss_cons (ps_set (i := 2) scIsNew.nd rfl (Or.inr rfl) (pe_op op_shlW pe_int (pe_ix ix_tup (pv 0) pe_int (fun _ _ => rfl))))
    (pss_one (ps_ret (pe_and (pe_dn DIsPoint (hr.mono (by omega)) (pa_cons (pv 0) (pa_cons (pv 1) pa_nil))) (pe_one (pe_callB (cr_any rfl) (by rfl) T.n_any (by decide +kernel) (pa_cons (pe_lc (own := [("number", 3)]) (g := (gName 3)) (by rfl) scIsNew.nd (pi_tup (pv 1)) (blkOk_by (own := [("number", 3)]) (N := ["space", "thing", "unit", "number"]) (sc := defScope sIsNew) (by decide +kernel)) (fun _ _ _ _ _ => (pg_name (i := 3) scIsNew.nd rfl (Or.inl rfl))) (fun _ _ _ _ _ => pts_nil) (fun _ _ _ _ _ => (pe_cmpR op_ne (pe_op op_mod (pv 3) (pv 2)) pe_int (nomark _)))) pa_nil))))))), ?_⟩
    have st0 : L2.start ["space", "thing", "unit", "number"] [V.ref s, v] = [some (V.ref s), some (v), none, none] := rfl
    rw [st0]
    have es := hS.1
    have h0 := hS.2.2.2.1
    have h8 := hS.2.2.2.2
    have c1 := shl1 h0 h8
    walk_at "rds"
    rw [Int.one_mul]
    have up := unit_pos rr
    refine ⟨s, n, rr, v, d, rfl, hS, r, fun H1 t1 => ?_⟩
    walk_at "rds"
    refine Rd.ifB (fun h => ?_) fun h => ?_
    · obtain ⟨ns, rfl, ln⟩ := row_ints h
      obtain ⟨p, rfl, e, l⟩ := r.row
      have e1 := t1 _ _ e
      walk_at "rds"
      refine ⟨⟨_, SqT.of e1⟩, fun d hd => lc_tup (K := K) (a := p) (xs := ns.map V.int) (fun i H3 => H3 d = some (.lst (((ns.take i).map fun x => !decide (x % 2 ^ rr.toNat = 0)).map V.bl)) ∧ Same H1 H3) ⟨upd_same, same_put hd (Same.refl _)⟩ (fun i H3 _ ⟨_, s3⟩ => SqT.of (s3 _ _ e1)) ?_ ?_⟩
      · rintro i x H3 hx ⟨e3, s3⟩
        refine ⟨rfl, ?_⟩
        obtain ⟨m, hm, rfl⟩ := int_at hx
        walk_at "rds"
        refine ⟨_, e3, ?_, ?_, same_put hd s3⟩
        · rw [List.length_map, List.length_map, List.length_take, sizeLine_eq]
          omega
        · rw [upd_same, List.take_succ, hm, List.map_append, List.map_append]
          simp
      · rintro H4 ⟨e4, s4⟩
        rw [List.length_map, List.take_length] at e4
        walk_at "rds"
        refine ⟨d, _, rfl, SqL.of e4, ?_⟩
        have k := kk H4 (t1.trans s4)
        unfold dNew at k
        rw [h, Bool.true_and] at k
        have e9 : (match PyData.tuple (ns.map PyData.int) with | .tuple ds => newL rr (intsOf ds) | _ => false) = newL rr ns := by show newL rr (intsOf (ns.map PyData.int)) = _; rw [intsOf_map]
        rw [e9] at k
        unfold newL at k
        rw [List.any_map]
        exact k
    · walk_at "rds"
      have k := kk H1 t1
      unfold dNew at k
      rw [h, Bool.false_and] at k
      exact k
end
end K17
end SecK1
section SecK2
set_option Elab.async false
set_option linter.all false
set_option maxRecDepth 100000
set_option maxHeartbeats 4000000
set_option pp.deepTerms false
local macro_rules | `(tactic| walk_at "tq") => `(tactic| first | assumption | (refine' Dt.Tq.to ?s0 ?h0; (case h0 => assumption); (case s0 => walk_at "same")))
local macro_rules | `(tactic| walk_at "same") => `(tactic| first | exact L2.Same.refl _ | assumption | (refine' L2.Same.trans ?s1 ?s2; (case s2 => assumption); (case s1 => walk_at "same")))
local macro_rules | `(tactic| walk_at "sam") => `(tactic| first | exact Dt.Sam.refl | assumption | exact Dt.Sam.of (by assumption) | (refine' Dt.Sam.trans ?s1 ?s2; (case s2 => first | assumption | exact Dt.Sam.of (by assumption)); (case s1 => walk_at "sam")))
local macro_rules | `(tactic| walk_at "tape") => `(tactic| first | assumption | (refine' Dt.Tape.mono ?h0 ?s0; (case h0 => assumption); (case s0 => walk_at "same")))
local macro_rules | `(tactic| walk_at "nt") => `(tactic| first | exact Dt.nt_tup | exact Dt.nt_ints | assumption | (intro a0 b0 c0 l0 z0; cases z0) | (intro a0 b0 c0 l0 z0; simp at z0))
local macro_rules | `(tactic| walk_at "heap") => `(tactic| first | assumption | exact L2.upd_same | (refine' Rd.at_to ?s0 ?h0; (case h0 => assumption); (case s0 => walk_at "same")) | (refine' Dt.at_sam ?n0 ?s0 ?h0; (case h0 => assumption); (case n0 => walk_at "nt"); (case s0 => walk_at "sam")))
local macro_rules | `(tactic| walk_at "rp") => `(tactic| first | exact Dt.Rp.int _ | exact Dt.Rp.bl _ | exact Dt.Rp.str _ | exact Dt.Rp.non | assumption | (refine' Dt.Rp.sm ?s0 ?h0; (case h0 => assumption); (case s0 => walk_at "sam")) | (refine' Dt.Rp.tup ?h1 ?h2 ?h3; (case h1 => walk_at "heap"); (case h2 => walk_at "rps"); (case h3 => first | assumption | (show _ ≤ 1000; decide) | (show _ ≤ 1000; simp) | (show _ ≤ 1000; omega))) | (refine' Dt.Rp.lst ?h1 ?h2 ?h3 ?h4; (case h1 => walk_at "heap"); (case h2 => walk_at "rps"); (case h3 => first | assumption | (show _ ≤ 1000; decide) | (show _ ≤ 1000; simp) | (show _ ≤ 1000; omega)); (case h4 => walk_at "nt")))
local macro_rules | `(tactic| walk_at "rps") => `(tactic| first | exact Dt.RpAll.nil | assumption | (refine' Dt.RpAll.cons ?h1 ?h2; (case h1 => walk_at "rp"); (case h2 => walk_at "rps")) | (refine' Dt.RpAll.sm ?s0 ?h0; (case h0 => assumption); (case s0 => walk_at "sam")))
local macro_rules | `(tactic| walk_at "rd") => `(tactic| first
  | with_reducible refine Rd.seq ?_ | with_reducible refine Rd.asg ?_ | with_reducible refine Rd.nm ?_ | with_reducible refine Rd.sub ?_ | with_reducible refine Rd.ret ?_ | with_reducible refine Rd.retN ?_
  | with_reducible refine Rd.drop ?_ | with_reducible refine Rd.ifs ?_ | with_reducible refine Rd.next ?_ | with_reducible refine Rd.cst ?_ | with_reducible refine Rd.op ?_ | with_reducible refine Rd.un ?_
  | with_reducible refine Rd.test ?_ | with_reducible refine Rd.tb' ?_ | with_reducible refine Rd.exb ?_ | with_reducible refine Rd.exi ?_ | with_reducible refine Rd.and2 ?_ | with_reducible refine Rd.or2 ?_ | with_reducible refine Rd.not1 ?_
  | with_reducible refine Rd.andV ?_ | with_reducible refine Rd.orV ?_ | with_reducible refine Rd.notV ?_ | with_reducible refine Rd.nil ?_ | with_reducible refine Rd.cons ?_ | with_reducible refine Rd.cb ?_
  | with_reducible refine Rd.i0 ?_ | with_reducible refine Rd.u1 ?_ | with_reducible refine Rd.call ?_ | with_reducible refine Rd.tup ?_ | with_reducible refine Rd.lst ?_ | with_reducible refine Rd.sl ?_ | with_reducible refine Rd.no ?_ | with_reducible refine Rd.part ?_ | with_reducible refine Rd.at_ ?_ | with_reducible refine Rd.yes ?_ | with_reducible refine Rd.fors ?_ | with_reducible refine Rd.m1 ?_ | with_reducible refine Rd.exs ?_ | with_reducible refine Rd.lc ?_ | with_reducible refine Rd.rng ?_
  | with_reducible refine Rd.mkv ?_ | with_reducible refine Rd.mko ?_ | with_reducible refine Rd.callB ?_ | with_reducible refine Rd.callS ?_ | with_reducible refine Rd.bm ?_ | with_reducible refine Rd.itl ?_ | with_reducible refine Rd.itt ?_
  | ((with_reducible refine' And.intro ?hl ?_); (case hl => ((with_reducible show List.length _ ≤ PySem.sizeLine); (show _ ≤ PySem.sizeLine); rw [PySem.sizeLine_eq]; simp)))
  | (intro p0 n0; generalize hK0 : L2.upd _ p0 _ = K0; obtain ⟨e0, t0⟩ := Dt.newK hK0 n0)
  | ((with_reducible refine' Rd.lenKL ?he ?_); (case he => walk_at "heap")) | ((with_reducible refine' Rd.lenKT ?he ?_); (case he => walk_at "heap"))
  | ((with_reducible refine' Rd.var ?hv ?_); (case hv => exact rfl))
  | ((with_reducible refine' Rd.ifT ?hv ?_); (case hv => first | exact rfl | assumption)) | ((with_reducible refine' Rd.ifF ?hv ?_); (case hv => first | exact rfl | assumption))
  | ((with_reducible refine' Rd.eq ?hv ?_); (case hv => exact rfl))
  | ((with_reducible refine' Rd.ne ?hv ?_); (case hv => exact rfl))
  | ((with_reducible refine' Dt.isi_int ?hr ?_); (case hr => walk_at "rp")) | ((with_reducible refine' Dt.isi_bool ?hr ?_); (case hr => walk_at "rp")) | ((with_reducible refine' Dt.isi_tuple ?hr ?_); (case hr => walk_at "rp")) | ((with_reducible refine' Dt.isi_str ?hr ?_); (case hr => walk_at "rp")) | ((with_reducible refine' Dt.isi_list ?hr ?_); (case hr => walk_at "rp"))
  | with_reducible refine ⟨rfl, ?_⟩ | with_reducible refine Or.inl ⟨_, rfl, ?_⟩ | with_reducible refine Or.inr ⟨_, rfl, ?_⟩ | with_reducible refine ⟨_, rfl, ?_⟩
  | ((with_reducible refine' Rd.ex2 ⟨rfl, ?hl, ?_⟩); (case hl => first | exact Or.inl ⟨_, L2.SqL.of (by walk_at "heap"), rfl⟩ | exact Or.inr ⟨_, L2.SqT.of (by walk_at "heap"), rfl⟩))
  | ((with_reducible refine' Rd.i1 ?hv ?_); (case hv => first | exact ⟨by decide, by decide, by decide⟩ | exact Or.inr ⟨by decide, by decide⟩ | exact Or.inl ⟨by decide, by decide⟩ | exact ⟨by decide, by decide⟩ | decide | assumption | (show _ ≠ _; omega) | (refine ⟨?_, ?_⟩ <;> omega) | (refine Or.inl ⟨?_, ?_⟩ <;> omega)))
  | ((with_reducible refine' Rd.ixL ?he ?hx ?_); (case he => walk_at "heap"); (case hx => rfl))
  | ((with_reducible refine' Rd.ixT ?he ?hx ?_); (case he => walk_at "heap"); (case hx => rfl))
  | ((with_reducible refine' Rd.setL ?he ?hx ?_); (case he => first | assumption | exact L2.upd_same); (case hx => rfl)))
local macro_rules | `(tactic| walk_at "rd") => `(tactic| first | with_reducible refine Rd.isT ?_ | with_reducible refine Rd.isnT ?_ | with_reducible refine Rd.ife ?_)
local macro_rules | `(tactic| walk_at "rd") => `(tactic| first | ((with_reducible refine' Rd.gtup ?he ?hl ?_); (case he => walk_at "heap"); (case hl => exact rfl)) | with_reducible refine Rd.brk ?_ | with_reducible refine Rd.callR ?_ | ((with_reducible refine' ⟨_, _, rfl, Or.inl ⟨L2.SqL.of ?hp, ?_⟩⟩); (case hp => walk_at "heap")) | ((with_reducible refine' ⟨_, _, rfl, Or.inl (L2.SqL.of ?hp), ?_⟩); (case hp => walk_at "heap")) | ((with_reducible refine' Rd.catL ?hp ?hq ?hl ?_); (case hp => walk_at "heap"); (case hq => walk_at "heap"); (case hl => (simp only [List.length_map, List.length_append, List.length_cons, List.length_nil]; omega)); (intro r0 J0 e0 t0 n0)) | with_reducible refine Rd.bits ?_ | with_reducible refine Rd.max2 ?_ | with_reducible refine Rd.gcons ?_ | with_reducible refine Rd.gnil ?_)
local macro_rules | `(tactic| walk_at "rds") => `(tactic| repeat (first | walk_at "rd" | assumption))
namespace K17
open PySem PySem.Spec PyProof.Rows L2 L2H Err Dt
open Bt
abbrev Tup (H : Hp) (p : Addr) (ns : List Int) : Prop := H p = some (.tup (ns.map V.int))
def spGrain : Sp := fun vs H Q _ => ∃ (p : Addr) (ns : List Int) (k : Nat), vs = [.ref p] ∧ Tup H p ns ∧ Gr ns k ∧ Q (.int (2 ^ k)) H
abbrev opV (ns : List Int) (k : Nat) : List Int := (opL ns k).map fun i : Nat => (i : Int)
def spOpened : Sp := fun vs H Q _ => ∃ (p : Addr) (ns : List Int) (k : Nat), vs = [.ref p] ∧ Tup H p ns ∧ ns.length ≤ 900 ∧ Gr ns k ∧ ∀ (q : Addr) (H' : Hp), Tup H' q (opV ns k) → Same H H' → Q (.ref q) H'
def spLevel : Sp := fun vs H Q _ => ∃ (s p : Addr) (n r : Int) (ns : List Int) (k : Nat), vs = [.ref s, .ref p] ∧ Space H s n r ∧ Tup H p ns ∧ Gr ns k ∧ Q (.int (r - ((k + 1 : Nat) : Int))) H
def genV (n r : Int) (ns : List Int) (k : Nat) : Int := n * (r - ((k + 1 : Nat) : Int)) + n - ((opL ns k).length : Int)
def spGen : Sp := fun vs H Q _ => ∃ (s p : Addr) (n r : Int) (ns : List Int), vs = [.ref s, .ref p] ∧ Space H s n r ∧ Tup H p ns ∧ (ns.length : Int) = n ∧ (newL r ns = false → ∀ H', Same H H' → Q (.int (-1)) H') ∧ (∀ k : Nat, Gr ns k → (k : Int) < r → ∀ H', Same H H' → Q (.int (genV n r ns k)) H')
def spSeat : Sp := fun vs H Q _ => ∃ (p : Addr) (ns : List Int) (k : Nat), vs = [.ref p] ∧ Tup H p ns ∧ ns.length ≤ 900 ∧ Gr ns k ∧ ∀ (q a b : Addr) (H' : Hp), H' q = some (.tup [.ref a, .ref b]) → Tup H' a (ns.map (lowOf k)) → Tup H' b (ns.map (highOf k)) → Same H H' → Q (.ref q) H'
def spTips : Sp := fun vs H Q _ => ∃ (p : Addr) (ns : List Int) (k : Nat), vs = [.ref p] ∧ Tup H p ns ∧ ns.length ≤ 900 ∧ k ≤ 900 ∧ Gr ns k ∧ ∀ (q a b : Addr) (H' : Hp), H' q = some (.tup [.ref a, .ref b]) → Tup H' a (ns.map (tip0 k)) → Tup H' b (ns.map (tip1 k)) → Same H H' → Q (.ref q) H'
theorem newL_iff {r : Int} {ns : List Int} : newL r ns = true ↔ ∃ x ∈ ns, x % 2 ^ r.toNat ≠ 0 := by
  unfold newL
  rw [List.any_eq_true]
  constructor
  · rintro ⟨x, hx, h⟩
    exact ⟨x, hx, by simpa using h⟩
  · rintro ⟨x, hx, h⟩
    exact ⟨x, hx, by simpa using h⟩
theorem newL_gr {r : Int} {ns : List Int} (h : newL r ns = true) : ∃ k : Nat, (k : Int) < r ∧ Gr ns k := by
  obtain ⟨k, hk, g⟩ := new_gr (newL_iff.mp h)
  exact ⟨k, by omega, g⟩
theorem gr_newL {r : Int} {ns : List Int} {k : Nat} (g : Gr ns k) (h : (k : Int) < r) : newL r ns = true := newL_iff.mpr (g.lt_new (by omega))
theorem getD_int {ns : List Int} {i : Nat} (h : i < ns.length) : atI (ns.map V.int) (i : Int) = some (.int (ns.getD i 0)) := by
  apply atI_nat
  rw [List.getElem?_map, List.getElem?_eq_getElem h, List.getD_eq_getElem?_getD, List.getElem?_eq_getElem h]
  rfl
theorem getD_mem {ns : List Int} {i : Nat} (h : i < ns.length) : ns.getD i 0 ∈ ns := by
  rw [List.getD_eq_getElem?_getD, List.getElem?_eq_getElem h]
  exact List.getElem_mem h
theorem flat_ints {ns : List Int} : (ns.map V.int).all flatV = true := by
  rw [List.all_eq_true]
  intro v hv
  obtain ⟨i, _, rfl⟩ := List.mem_map.mp hv
  rfl
theorem inV_ints {ns : List Int} {i : Int} : inV (.int i) (ns.map V.int) = decide (i ∈ ns) := by
  unfold inV
  induction ns with
  | nil => rfl
  | cons n ns ih =>
    rw [List.map_cons, List.any_cons, ih]
    have e : eqV (.int n) (.int i) = decide (n = i) := rfl
    rw [e]
    by_cases h : n = i
    · subst h; simp
    · have h' : ¬ i = n := fun z => h z.symm
      simp [h, h']
theorem inV_op {ns : List Int} {k i : Nat} (h : i < ns.length) : inV (.int (i : Int)) ((opV ns k).map V.int) = odd k (ns.getD i 0) := by
  rw [inV_ints]
  have e : (i : Int) ∈ opV ns k ↔ odd k (ns.getD i 0) = true := by
    rw [← opL_mem h]
    constructor
    · intro z
      obtain ⟨j, hj, e⟩ := List.mem_map.mp z
      rwa [show i = j by omega]
    · intro z
      exact List.mem_map.mpr ⟨i, z, rfl⟩
  by_cases z : odd k (ns.getD i 0) = true
  · rw [z, decide_eq_true (e.mpr z)]
  · rw [Bool.not_eq_true] at z
    rw [z, decide_eq_false fun y => by rw [e, z] at y; cases y]
theorem map_take {f : Int → Int} {ns : List Int} {i : Nat} (h : i < ns.length) : ((ns.take (i + 1)).map f).map V.int = ((ns.take i).map f).map V.int ++ [.int (f (ns.getD i 0))] := by
  have e : ns[i]? = some (ns.getD i 0) := by rw [List.getD_eq_getElem?_getD, List.getElem?_eq_getElem h]; rfl
  rw [List.take_succ, e, List.map_append, List.map_append]
  rfl
theorem op_take {ns : List Int} {k i : Nat} : ((List.range (i + 1)).filter fun i => odd k (ns.getD i 0)) = ((List.range i).filter fun i => odd k (ns.getD i 0)) ++ if odd k (ns.getD i 0) = true then [i] else [] := by
  rw [List.range_succ, List.filter_append]
  congr 1
  split <;> rename_i h
  · exact List.filter_cons_of_pos (p := fun i => odd k (ns.getD i 0)) h
  · exact List.filter_cons_of_neg (p := fun i => odd k (ns.getD i 0)) h
theorem bitB {ns : List Int} {k i : Nat} (G : Gr ns k) (h : i < ns.length) : (!decide (V.int (Builtin.bitAnd (ns.getD i 0) (2 ^ k)) = V.int 0)) = odd k (ns.getD i 0) := by
  have e := G.bit0 (getD_mem h)
  unfold odd
  by_cases z : ns.getD i 0 / 2 ^ k % 2 = 1
  · rw [decide_eq_true z, decide_eq_false fun y => (e.mpr z) (V.int.inj y)]
    rfl
  · rw [decide_eq_false z, decide_eq_true (by rw [Classical.byContradiction fun y => z (e.mp y)])]
    rfl
theorem op_len (ns : List Int) (k : Nat) : (opL ns k).length ≤ ns.length := by
  unfold opL
  refine Nat.le_trans (List.length_filter_le _ _) ?_
  rw [List.length_range]
  exact Nat.le_refl _
theorem tipB {k : Nat} {x : Int} (h : x = 2 ^ k * (x / 2 ^ k)) : (if decide (V.int (Builtin.bitAnd (lowOf k x) (2 * 2 ^ k)) = V.int 0) = true then lowOf k x else highOf k x) = tip0 k x := by
  have e := low_bit h
  rw [show (2 : Int) * 2 ^ k = 2 ^ (k + 1) by rw [Int.pow_succ, Int.mul_comm]]
  unfold tip0
  by_cases z : Builtin.bitAnd (lowOf k x) (2 ^ (k + 1)) = 0
  · rw [if_pos (decide_eq_true (by rw [z])), if_pos (e.mp z)]
  · rw [if_neg (by rw [decide_eq_false fun y => z (V.int.inj y)]; decide), if_neg fun y => z (e.mpr y)]
theorem map_at {f : Int → Int} {ns : List Int} {i : Nat} {x : V} (h : ((ns.map f).map V.int)[i]? = some x) : i < ns.length ∧ x = .int (f (ns.getD i 0)) := by
  rw [List.getElem?_map, List.getElem?_map] at h
  cases e : ns[i]? with
  | none => rw [e] at h; cases h
  | some n =>
    rw [e] at h
    refine ⟨(List.getElem?_eq_some_iff.mp e).1, ?_⟩
    rw [List.getD_eq_getElem?_getD, e]
    exact (Option.some.inj h).symm
theorem walk_gen {J : It} {n : Nat} {G : Hp → Prop} {Y : Nat → Hp → V → Hp → Prop} (w : Walk J n G Y) {Qd : Hp → Prop} {Bod : (Hp → Prop) → V → Hp → Prop} {H0 : Hp} (Pv : Nat → Hp → Prop) (h0 : Pv 0 H0) (hG : ∀ i H, i ≤ n → Pv i H → G H)
    (hs : ∀ i x H H', i < n → Pv i H → Y i H x H' → Bod (Pv (i + 1)) x H') (hd : ∀ H, Pv n H → Qd H) :
    ∃ W : Nat → Nat → Hp → Prop, (∃ m, W 0 m H0) ∧ ∀ i m H, W i m H → (J.stop i H ∧ Qd H) ∨ (J.go i H ∧ ∃ Nx : Hp → Prop, (∀ H', Nx H' → ∃ m', m' < m ∧ W (i + 1) m' H') ∧ ∀ x H', J.yld i H x H' → Bod Nx x H') := by
  refine ⟨fun i m H => m = n - i ∧ i ≤ n ∧ Pv i H, ⟨n, by simp, Nat.zero_le _, h0⟩, ?_⟩
  rintro i m H ⟨rfl, hi, p⟩
  by_cases hlt : i < n
  · exact .inr ⟨w.goes i H hlt (hG i H hi p), Pv (i + 1), fun H' p' => ⟨n - (i + 1), by omega, rfl, hlt, p'⟩, fun x H' y => hs i x H H' hlt p (w.yields i H x H' hlt (hG i H hi p) y)⟩
  · have e : i = n := by omega
    subst e
    exact .inl ⟨w.stops H (hG i H hi p), hd H p⟩
theorem walk_zipT {K : PySem.W.Frag} {a b : Addr} {xs ys : List V} {n : Nat} (hx : xs.length = n) (hy : ys.length = n) : Walk (RZ.ItzT K a b) n (fun H => SqT K H a xs ∧ SqT K H b ys) (YPair (fun i => xs[i]?) (fun i => ys[i]?)) where
  goes := fun i H hi q => ⟨xs, ys, xs[i], ys[i], q.1, q.2, by simp [hx, hi], by simp [hy, hi]⟩
  stops := fun H q => ⟨xs, ys, q.1, q.2, .inl (by omega)⟩
  yields := fun i H v H' hi q ⟨T, x, y, e1, e2, e3, e4, e5⟩ => ⟨T, x, y, e1, e2, e3, e4 xs q.1, e5 ys q.2⟩
def YTri (xs ys zs : List V) : Nat → Hp → V → Hp → Prop := fun i H v H' => ∃ T x y z, v = .ref T ∧ H T = none ∧ H' = upd H T (.tup [x, y, z]) ∧ xs[i]? = some x ∧ ys[i]? = some y ∧ zs[i]? = some z
theorem walk_zip3 {K : PySem.W.Frag} {a b c : Addr} {xs ys zs : List V} {n : Nat} (hx : xs.length = n) (hy : ys.length = n) (hz : zs.length = n) : Walk (Z3.It3 K a b c) n (fun H => SqT K H a xs ∧ SqT K H b ys ∧ SqT K H c zs) (YTri xs ys zs) where
  goes := fun i H hi q => ⟨xs, ys, zs, q, by omega, by omega, by omega⟩
  stops := fun H q => ⟨xs, ys, zs, q, by omega, by omega, by omega⟩
  yields := fun i H v H' hi q ⟨T, x, y, z, e1, e2, e3, e4, e5, e6⟩ => ⟨T, x, y, z, e1, e2, e3, e4 xs q.1, e5 ys q.2.1, e6 zs q.2.2⟩
section
variable {P : Program} {w : World} {K : PySem.W.Frag} {mg : Str → Option Value} {base : Heap}
set_option pp.maxSteps 3000
abbrev sPointGrain : Stmt := topS 17
theorem scPointGrain : FnScope ["point", "joined", "number"] ["point"] (defScope sPointGrain) := ⟨rfl, rfl, rfl, by decide +kernel, rfl, by decide +kernel, by decide +kernel⟩
theorem okPointGrain {f : Addr} {fd : FuncData} (F : Fun K "point_grain" "point_grain" sPointGrain f fd) (T : Tx mg)  : FnOk P w K mg base CX0 1 f fd ["point"] spGrain := by
  refine F.ok scPointGrain (fun vs H Q E h => ?_) (fun cdv A outer s H vs Q E hr h => ?_)
  · obtain ⟨p, ns, k, rfl, _⟩ := h
    rfl
  · obtain ⟨p, ns, k, rfl, e, G, kk⟩ := h
    refine ⟨_, (pss_cons (ps_set (i := 1) scPointGrain.nd rfl (Or.inl rfl) pe_int)
    (pss_cons (ps_for PassesOwn.never rfl (pi_tup (pv 0)) (pg_name (i := 2) scPointGrain.nd rfl (Or.inl rfl))
    (pss_one (ps_set (i := 1) scPointGrain.nd rfl (Or.inl rfl) (pe_op op_or (pv 1) (pv 2)))))
    (pss_one (ps_ret (pe_op op_and (pv 1) (pe_un un_neg (pv 1))))))), ?_⟩
    have st0 : L2.start ["point", "joined", "number"] [V.ref p] = [some (V.ref p), none, none] := rfl
    rw [st0]
    walk_at "rds"
    refine ⟨⟨_, SqT.of e⟩, for_tup (K := K) (a := p) (xs := ns.map V.int) (fun i σ' H' => ∃ x, σ' = [some (.ref p), some (.int (orL (ns.take i))), x] ∧ H' = H) ⟨none, rfl, rfl⟩ (fun i σ' H' _ ⟨_, _, z⟩ => by rw [z]; exact SqT.of e) ?_ ?_⟩
    · rintro i x σ' H' hx ⟨x1, rfl, rfl⟩
      obtain ⟨n, hn, rfl⟩ := int_at hx
      walk_at "rds"
      rw [← orL_take hn]
      exact ⟨_, rfl, rfl⟩
    · rintro σ' H' ⟨x1, rfl, rfl⟩
      rw [List.length_map, List.take_length]
      walk_at "rds"
      have := G.gr
      unfold gr at this
      rw [this]
      exact kk
abbrev sPointOpened : Stmt := topS 18
theorem scPointOpened : FnScope ["point", "grain", "i"] ["point"] (defScope sPointOpened) := ⟨rfl, rfl, rfl, by decide +kernel, rfl, by decide +kernel, by decide +kernel⟩
theorem okPointOpened {f : Addr} {fd : FuncData} (F : Fun K "point_opened" "point_opened" sPointOpened f fd) (T : Tx mg) (DPointGrain : Dn P w K mg base CX0 "point_grain" 1 ["point"] spGrain)  : FnOk P w K mg base CX0 2 f fd ["point"] spOpened := by
  refine F.ok scPointOpened (fun vs H Q E h => ?_) (fun cdv A outer s H vs Q E hr h => ?_)
  · obtain ⟨p, ns, k, rfl, _⟩ := h
    rfl
  · obtain ⟨p, ns, k, rfl, e, hl, G, kk⟩ := h
    refine ⟨_, (pss_cons (ps_set (i := 1) scPointOpened.nd rfl (Or.inr rfl) (pe_dn DPointGrain (hr.mono (by omega)) (pa_cons (pv 0) pa_nil)))
    (pss_one (ps_ret (pe_callTy call_tuple_of (by rfl) T.n_tuple (by decide +kernel) (pa_cons (pe_lc (own := [("i", 2)]) (g := (gName 2)) (by rfl) scPointOpened.nd (pi_range1 rfl T.n_range (pa_cons (pe_callB call_len (by rfl) T.n_len (by decide +kernel) (pa_cons (pv 0) pa_nil)) pa_nil)) (blkOk_by (own := [("i", 2)]) (N := ["point", "grain", "i"]) (sc := defScope sPointOpened) (by decide +kernel)) (fun _ _ _ _ _ => (pg_name (i := 2) scPointOpened.nd rfl (Or.inl rfl))) (fun _ _ _ _ _ => (pts_one (pt_cmpR op_ne (pe_op op_and (pe_ix (r := rIxT K) ix_tup (pv 0) (pv 2) (fun _ _ => rfl)) (pv 1)) pe_int (nomark _)))) (fun _ _ _ _ _ => (pv 2))) pa_nil))))), ?_⟩
    have st0 : L2.start ["point", "grain", "i"] [V.ref p] = [some (V.ref p), none, none] := rfl
    rw [st0]
    walk_at "rds"
    refine ⟨p, ns, k, rfl, e, G, ?_⟩
    walk_at "rds"
    refine ⟨by omega, by simp; omega, fun d hd => ?_⟩
    rw [show (((ns.map V.int).length : Nat) : Int).toNat = ns.length by rw [List.length_map]; rfl]
    refine lc_range (lo := 0) (n := ns.length) (fun i H3 => H3 d = some (.lst ((((List.range i).filter fun i => odd k (ns.getD i 0)).map fun i : Nat => (i : Int)).map V.int)) ∧ Same H H3) ⟨upd_same, same_put hd (Same.refl _)⟩ ?_ ?_
    · rintro i H3 hi ⟨e3, s3⟩
      have e' := s3 _ _ e
      rw [Int.zero_add]
      refine ⟨rfl, ?_⟩
      walk_at "rds"
      refine Rd.ixT e' (getD_int hi) ?_
      walk_at "rds"
      rw [bitB G hi]
      have nx := op_take (ns := ns) (k := k) (i := i)
      refine Rd.ifB (fun h => ?_) fun h => ?_
      · walk_at "rds"
        rw [if_pos h] at nx
        refine ⟨_, e3, ?_, ?_, same_put hd s3⟩
        · rw [List.length_map, List.length_map, sizeLine_eq]
          have := List.length_filter_le (fun i => odd k (ns.getD i 0)) (List.range i)
          rw [List.length_range] at this
          omega
        · rw [upd_same, nx, List.map_append, List.map_append]
          rfl
      · walk_at "rds"
        rw [if_neg (by rw [h]; decide), List.append_nil] at nx
        rw [nx]
        exact ⟨e3, s3⟩
    · rintro H4 ⟨e4, s4⟩
      walk_at "rds"
      exact kk _ _ (by assumption) (by walk_at "same")
abbrev sPointLevel : Stmt := topS 19
theorem scPointLevel : FnScope ["space", "point"] ["space", "point"] (defScope sPointLevel) := ⟨rfl, rfl, rfl, by decide +kernel, rfl, by decide +kernel, by decide +kernel⟩
theorem okPointLevel {f : Addr} {fd : FuncData} (F : Fun K "point_level" "point_level" sPointLevel f fd) (T : Tx mg) (DPointGrain : Dn P w K mg base CX0 "point_grain" 1 ["point"] spGrain)  : FnOk P w K mg base CX0 2 f fd ["space", "point"] spLevel := by
  refine F.ok scPointLevel (fun vs H Q E h => ?_) (fun cdv A outer s H vs Q E hr h => ?_)
  · obtain ⟨s, p, n, r, ns, k, rfl, _⟩ := h
    rfl
  · obtain ⟨s, p, n, r, ns, k, rfl, hS, e, G, kk⟩ := h
    refine ⟨_, (pss_one (ps_ret (pe_op op_sub (pe_ix ix_tup (pv 0) pe_int (fun _ _ => rfl)) (pe_bits (pe_dn DPointGrain (hr.mono (by omega)) (pa_cons (pv 1) pa_nil)))))), ?_⟩
    have st0 : L2.start ["space", "point"] [V.ref s, V.ref p] = [some (V.ref s), some (V.ref p)] := rfl
    rw [st0]
    have es := hS.1
    walk_at "rds"
    refine ⟨p, ns, k, rfl, e, G, ?_⟩
    walk_at "rds"
    rw [bits_pow]
    exact kk
abbrev sPointGeneration : Stmt := topS 20
theorem scPointGeneration : FnScope ["space", "point", "dims"] ["space", "point"] (defScope sPointGeneration) := ⟨rfl, rfl, rfl, by decide +kernel, rfl, by decide +kernel, by decide +kernel⟩
theorem okPointGeneration {f : Addr} {fd : FuncData} (F : Fun K "point_generation" "point_generation" sPointGeneration f fd) (T : Tx mg) (DIsNew : Dn P w K mg base CX0 "is_new" 4 ["space", "thing"] spIsNew) (DPointLevel : Dn P w K mg base CX0 "point_level" 2 ["space", "point"] spLevel) (DPointOpened : Dn P w K mg base CX0 "point_opened" 2 ["point"] spOpened)  : FnOk P w K mg base CX0 5 f fd ["space", "point"] spGen := by
  refine F.ok scPointGeneration (fun vs H Q E h => ?_) (fun cdv A outer s H vs Q E hr h => ?_)
  · obtain ⟨s, p, n, r, ns, rfl, _⟩ := h
    rfl
  · obtain ⟨s, p, n, r, ns, rfl, hS, e, ln, k1, k2⟩ := h
    refine ⟨_, (pss_cons (ps_if (pt_not (pt_val (pe_dn DIsNew (hr.mono (by omega)) (pa_cons (pv 0) (pa_cons (pv 1) pa_nil)))))
    (pss_one (ps_ret (pe_un un_neg pe_int)))
    pss_nil)
    (pss_cons (ps_set (i := 2) scPointGeneration.nd rfl (Or.inl rfl) (pe_ix ix_tup (pv 0) pe_int (fun _ _ => rfl)))
    (pss_one (ps_ret (pe_op op_sub (pe_op op_add (pe_op op_mulW (pv 2) (pe_dn DPointLevel (hr.mono (by omega)) (pa_cons (pv 0) (pa_cons (pv 1) pa_nil)))) (pv 2)) (pe_callB call_len (by rfl) T.n_len (by decide +kernel) (pa_cons (pe_dn DPointOpened (hr.mono (by omega)) (pa_cons (pv 1) pa_nil)) pa_nil))))))), ?_⟩
    have st0 : L2.start ["space", "point", "dims"] [V.ref s, V.ref p] = [some (V.ref s), some (V.ref p), none] := rfl
    rw [st0]
    have n2 := hS.2.1
    have n3 := hS.2.2.1
    walk_at "rds"
    refine ⟨s, n, r, _, _, rfl, hS, rp_row e (by omega), fun H1 t1 => ?_⟩
    have hS1 := hS.to t1
    have es1 := hS1.1
    have e1 := t1 _ _ e
    have dn : dNew n r (.tuple (ns.map PyData.int)) = newL r ns := by
      unfold dNew
      rw [row_true ln, Bool.true_and]
      show newL r (intsOf (ns.map PyData.int)) = _
      rw [intsOf_map]
    rw [dn]
    walk_at "rds"
    refine Rd.ifB (fun h => ?_) fun h => ?_
    · walk_at "rds"
      exact k1 (by simpa using h) _ t1
    · obtain ⟨k, hk, G⟩ := newL_gr (r := r) (ns := ns) (by simpa using h)
      walk_at "rds"
      refine ⟨s, p, n, r, ns, k, rfl, hS1, e1, G, ?_⟩
      have wm : CMulW n (r - ((k + 1 : Nat) : Int)) := by
        have q := hS.2.2.2
        show n.natAbs.log2 + (r - ((k + 1 : Nat) : Int)).natAbs.log2 < 1000000
        have l1 := Nat.log2_le_self n.natAbs
        have l2 := Nat.log2_le_self (r - ((k + 1 : Nat) : Int)).natAbs
        omega
      walk_at "rds"
      refine ⟨p, ns, k, rfl, e1, by omega, G, fun q H2 eq t2 => ?_⟩
      walk_at "rds"
      have lo : (((opV ns k).map V.int).length : Int) = ((opL ns k).length : Int) := by rw [List.length_map, List.length_map]
      rw [lo]
      exact k2 k G hk _ (t1.trans t2)
abbrev sPointSeat : Stmt := topS 21
theorem scPointSeat : FnScope ["point", "grain", "opened", "lows", "i", "highs"] ["point"] (defScope sPointSeat) := ⟨rfl, rfl, rfl, by decide +kernel, rfl, by decide +kernel, by decide +kernel⟩
theorem okPointSeat {f : Addr} {fd : FuncData} (F : Fun K "point_seat" "point_seat" sPointSeat f fd) (T : Tx mg) (DPointGrain : Dn P w K mg base CX0 "point_grain" 1 ["point"] spGrain) (DPointOpened : Dn P w K mg base CX0 "point_opened" 2 ["point"] spOpened)  : FnOk P w K mg base CX0 3 f fd ["point"] spSeat := by
  refine F.ok scPointSeat (fun vs H Q E h => ?_) (fun cdv A outer s H vs Q E hr h => ?_)
  · obtain ⟨p, ns, k, rfl, _⟩ := h
    rfl
  · obtain ⟨p, ns, k, rfl, e, hl, G, kk⟩ := h
    refine ⟨_, (pss_cons (ps_set (i := 1) scPointSeat.nd rfl (Or.inr rfl) (pe_dn DPointGrain (hr.mono (by omega)) (pa_cons (pv 0) pa_nil)))
    (pss_cons (ps_set (i := 2) scPointSeat.nd rfl (Or.inr rfl) (pe_dn DPointOpened (hr.mono (by omega)) (pa_cons (pv 0) pa_nil)))
    (pss_cons (ps_set (i := 3) scPointSeat.nd rfl (Or.inl rfl) (pe_callTy call_tuple_of (by rfl) T.n_tuple (by decide +kernel) (pa_cons (pe_lc (own := [("i", 4)]) (g := (gName 4)) (by rfl) scPointSeat.nd (pi_range1 rfl T.n_range (pa_cons (pe_callB call_len (by rfl) T.n_len (by decide +kernel) (pa_cons (pv 0) pa_nil)) pa_nil)) (blkOk_by (own := [("i", 4)]) (N := ["point", "grain", "opened", "lows", "i", "highs"]) (sc := defScope sPointSeat) (by decide +kernel)) (fun _ _ _ _ _ => (pg_name (i := 4) scPointSeat.nd rfl (Or.inl rfl))) (fun _ _ _ _ _ => pts_nil) (fun _ _ _ _ _ => (pe_ifExp (pt_cmpR (r := rIn K false) op_in_seq (pv 4) (pv 2) (by rfl)) (pe_op op_sub (pe_ix (r := rIxT K) ix_tup (pv 0) (pv 4) (fun _ _ => rfl)) (pv 1)) (pe_ix (r := rIxT K) ix_tup (pv 0) (pv 4) (fun _ _ => rfl))))) pa_nil)))
    (pss_cons (ps_set (i := 5) scPointSeat.nd rfl (Or.inl rfl) (pe_callTy call_tuple_of (by rfl) T.n_tuple (by decide +kernel) (pa_cons (pe_lc (own := [("i", 4)]) (g := (gName 4)) (by rfl) scPointSeat.nd (pi_range1 rfl T.n_range (pa_cons (pe_callB call_len (by rfl) T.n_len (by decide +kernel) (pa_cons (pv 0) pa_nil)) pa_nil)) (blkOk_by (own := [("i", 4)]) (N := ["point", "grain", "opened", "lows", "i", "highs"]) (sc := defScope sPointSeat) (by decide +kernel)) (fun _ _ _ _ _ => (pg_name (i := 4) scPointSeat.nd rfl (Or.inl rfl))) (fun _ _ _ _ _ => pts_nil) (fun _ _ _ _ _ => (pe_ifExp (pt_cmpR (r := rIn K false) op_in_seq (pv 4) (pv 2) (by rfl)) (pe_op op_add (pe_ix (r := rIxT K) ix_tup (pv 0) (pv 4) (fun _ _ => rfl)) (pv 1)) (pe_ix (r := rIxT K) ix_tup (pv 0) (pv 4) (fun _ _ => rfl))))) pa_nil)))
    (pss_one (ps_ret (pe_tup (pa_cons (pv 3) (pa_cons (pv 5) pa_nil))))))))), ?_⟩
    have st0 : L2.start ["point", "grain", "opened", "lows", "i", "highs"] [V.ref p] = [some (V.ref p), none, none, none, none, none] := rfl
    rw [st0]
    walk_at "rds"
    refine ⟨p, ns, k, rfl, e, G, ?_⟩
    walk_at "rds"
    refine ⟨p, ns, k, rfl, e, hl, G, fun q H1 eq t1 => ?_⟩
    have e1 := t1 _ _ e
    walk_at "rds"
    refine ⟨by omega, by simp; omega, fun d5 hd5 => ?_⟩
    rw [show (((ns.map V.int).length : Nat) : Int).toNat = ns.length by rw [List.length_map]; rfl]
    refine lc_range (lo := 0) (n := ns.length) (fun i H3 => H3 d5 = some (.lst (((ns.take i).map (lowOf k)).map V.int)) ∧ Same H1 H3) ⟨upd_same, same_put hd5 (Same.refl _)⟩ ?_ ?_
    · rintro i H3 hi ⟨e3, s3⟩
      have e' := s3 _ _ e1
      have eo' := s3 _ _ eq
      rw [Int.zero_add]
      refine ⟨rfl, ?_⟩
      walk_at "rds"
      refine ⟨_, _, rfl, .inr (SqT.of eo'), rfl, flat_ints, ?_⟩
      rw [if_neg (by decide), inV_op hi]
      have nx := map_take (f := lowOf k) hi
      have ll : (((ns.take i).map (lowOf k)).map V.int).length < sizeLine := by
        rw [List.length_map, List.length_map, List.length_take, sizeLine_eq]
        omega
      refine ⟨_, rfl, ?_⟩
      refine Rd.ifB (fun h => ?_) fun h => ?_
      · walk_at "rds"
        refine Rd.ixT e' (getD_int hi) ?_
        walk_at "rds"
        refine ⟨_, e3, ll, ?_, same_put hd5 s3⟩
        rw [upd_same, nx]
        unfold lowOf
        rw [if_pos h]
      · walk_at "rds"
        refine Rd.ixT e' (getD_int hi) ?_
        walk_at "rds"
        refine ⟨_, e3, ll, ?_, same_put hd5 s3⟩
        rw [upd_same, nx]
        unfold lowOf
        rw [if_neg (by rw [h]; decide)]
    rintro H5 ⟨e5, s5⟩
    rw [List.take_length] at e5
    have e50 := s5 _ _ e1
    have e51 := s5 _ _ eq
    walk_at "rds"
    rename_i p6 m6 H6 g6 e6 s6
    have e16 := s6 _ _ e50
    have eq6 := s6 _ _ e51
    refine ⟨by omega, by simp; omega, fun d7 hd7 => ?_⟩
    rw [show (((ns.map V.int).length : Nat) : Int).toNat = ns.length by rw [List.length_map]; rfl]
    refine lc_range (lo := 0) (n := ns.length) (fun i H3 => H3 d7 = some (.lst (((ns.take i).map (highOf k)).map V.int)) ∧ Same H6 H3) ⟨upd_same, same_put hd7 (Same.refl _)⟩ ?_ ?_
    · rintro i H3 hi ⟨e3, s3⟩
      have e' := s3 _ _ e16
      have eo' := s3 _ _ eq6
      rw [Int.zero_add]
      refine ⟨rfl, ?_⟩
      walk_at "rds"
      refine ⟨_, _, rfl, .inr (SqT.of eo'), rfl, flat_ints, ?_⟩
      rw [if_neg (by decide), inV_op hi]
      have nx := map_take (f := highOf k) hi
      have ll : (((ns.take i).map (highOf k)).map V.int).length < sizeLine := by
        rw [List.length_map, List.length_map, List.length_take, sizeLine_eq]
        omega
      refine ⟨_, rfl, ?_⟩
      refine Rd.ifB (fun h => ?_) fun h => ?_
      · walk_at "rds"
        refine Rd.ixT e' (getD_int hi) ?_
        walk_at "rds"
        refine ⟨_, e3, ll, ?_, same_put hd7 s3⟩
        rw [upd_same, nx]
        unfold highOf
        rw [if_pos h]
      · walk_at "rds"
        refine Rd.ixT e' (getD_int hi) ?_
        walk_at "rds"
        refine ⟨_, e3, ll, ?_, same_put hd7 s3⟩
        rw [upd_same, nx]
        unfold highOf
        rw [if_neg (by rw [h]; decide)]
    rintro H7 ⟨e7, s7⟩
    rw [List.take_length] at e7
    have e70 := s7 _ _ e16
    have e71 := s7 _ _ eq6
    walk_at "rds"
    rename_i p8 m8 H8 g8 e8 s8 p9 m9 H9 g9 e9 s9
    refine' kk p9 p6 p8 _ ?h1 ?h2 ?h3 ?h4
    case h1 => walk_at "heap"
    case h2 => (show H9 p6 = _; walk_at "heap")
    case h3 => (show H9 p8 = _; walk_at "heap")
    case h4 => walk_at "same"
abbrev sPointTips : Stmt := topS 22
theorem scPointTips : FnScope ["point", "width", "lows", "highs", "first", "low", "high", "last", "tip"] ["point"] (defScope sPointTips) := ⟨rfl, rfl, rfl, by decide +kernel, rfl, by decide +kernel, by decide +kernel⟩
theorem okPointTips {f : Addr} {fd : FuncData} (F : Fun K "point_tips" "point_tips" sPointTips f fd) (T : Tx mg) (DPointGrain : Dn P w K mg base CX0 "point_grain" 1 ["point"] spGrain) (DPointSeat : Dn P w K mg base CX0 "point_seat" 3 ["point"] spSeat)  : FnOk P w K mg base CX0 4 f fd ["point"] spTips := by
  refine F.ok scPointTips (fun vs H Q E h => ?_) (fun cdv A outer s H vs Q E hr h => ?_)
  · obtain ⟨p, ns, k, rfl, _⟩ := h
    rfl
  · obtain ⟨p, ns, k, rfl, e, hl, hk, G, kk⟩ := h
    refine ⟨_, (pss_cons (ps_set (i := 1) scPointTips.nd rfl (Or.inr rfl) (pe_op op_mulW pe_int (pe_dn DPointGrain (hr.mono (by omega)) (pa_cons (pv 0) pa_nil))))
    (pss_cons (ps_asg (pe_dn DPointSeat (hr.mono (by omega)) (pa_cons (pv 0) pa_nil)) (pg_tup rfl (pgs_cons (pg_name (i := 2) scPointTips.nd rfl (Or.inl rfl)) (pgs_cons (pg_name (i := 3) scPointTips.nd rfl (Or.inl rfl)) pgs_nil))))
    (pss_cons (ps_set (i := 4) scPointTips.nd rfl (Or.inl rfl) (pe_callTy call_tuple_of (by rfl) T.n_tuple (by decide +kernel) (pa_cons (pe_lc (own := [("low", 5), ("high", 6)]) (g := (gTup K 2 (gCons (gName 5) (gCons (gName 6) gNil)))) (by rfl) scPointTips.nd (RZ.pi_zipA rfl T.n_zip (pa_cons (pv 2) (pa_cons (pv 3) pa_nil))) (blkOk_by (own := [("low", 5), ("high", 6)]) (N := ["point", "width", "lows", "highs", "first", "low", "high", "last", "tip"]) (sc := defScope sPointTips) (by decide +kernel)) (fun _ _ _ _ _ => (pg_tup rfl (pgs_cons (pg_name (i := 5) scPointTips.nd rfl (Or.inl rfl)) (pgs_cons (pg_name (i := 6) scPointTips.nd rfl (Or.inl rfl)) pgs_nil)))) (fun _ _ _ _ _ => pts_nil) (fun _ _ _ _ _ => (pe_ifExp (pt_cmpR op_eq (pe_op op_and (pv 5) (pv 1)) pe_int (nomark _)) (pv 5) (pv 6)))) pa_nil)))
    (pss_cons (ps_set (i := 7) scPointTips.nd rfl (Or.inl rfl) (pe_callTy call_tuple_of (by rfl) T.n_tuple (by decide +kernel) (pa_cons (pe_lc (own := [("low", 5), ("high", 6), ("tip", 8)]) (g := (gTup K 3 (gCons (gName 5) (gCons (gName 6) (gCons (gName 8) gNil))))) (by rfl) scPointTips.nd (Z3.pi_zip3 rfl T.n_zip (pa_cons (pv 2) (pa_cons (pv 3) (pa_cons (pv 4) pa_nil)))) (blkOk_by (own := [("low", 5), ("high", 6), ("tip", 8)]) (N := ["point", "width", "lows", "highs", "first", "low", "high", "last", "tip"]) (sc := defScope sPointTips) (by decide +kernel)) (fun _ _ _ _ _ => (pg_tup rfl (pgs_cons (pg_name (i := 5) scPointTips.nd rfl (Or.inl rfl)) (pgs_cons (pg_name (i := 6) scPointTips.nd rfl (Or.inl rfl)) (pgs_cons (pg_name (i := 8) scPointTips.nd rfl (Or.inl rfl)) pgs_nil))))) (fun _ _ _ _ _ => pts_nil) (fun _ _ _ _ _ => (pe_op op_sub (pe_op op_add (pv 5) (pv 6)) (pv 8)))) pa_nil)))
    (pss_one (ps_ret (pe_tup (pa_cons (pv 4) (pa_cons (pv 7) pa_nil))))))))), ?_⟩
    have st0 : L2.start ["point", "width", "lows", "highs", "first", "low", "high", "last", "tip"] [V.ref p] = [some (V.ref p), none, none, none, none, none, none, none, none] := rfl
    rw [st0]
    have wm : CMulW 2 (2 ^ k) := by
      show (2 : Int).natAbs.log2 + ((2 : Int) ^ k).natAbs.log2 < 1000000
      have e : ((2 : Int) ^ k).natAbs = 2 ^ k := by rw [Int.natAbs_pow]; rfl
      rw [e, Nat.log2_two_pow]
      show (2 : Nat).log2 + k < 1000000
      have : (2 : Nat).log2 ≤ 2 := Nat.log2_le_self 2
      omega
    walk_at "rds"
    refine ⟨p, ns, k, rfl, e, G, ?_⟩
    walk_at "rds"
    refine ⟨p, ns, k, rfl, e, hl, G, fun q a b H1 eq ea eb t1 => ?_⟩
    walk_at "rds"
    unfold RZ.iZipA
    walk_at "rds"
    refine ⟨a, b, _, _, rfl, .inr ⟨SqT.of ea, SqT.of eb, fun d hd => ?_⟩⟩
    refine lc_it (walk_zipT (n := ns.length) (by rw [List.length_map, List.length_map]) (by rw [List.length_map, List.length_map])) (fun i H3 => H3 d = some (.lst (((ns.take i).map (tip0 k)).map V.int)) ∧ Same H1 H3) ⟨upd_same, same_put hd (Same.refl _)⟩ (fun i H3 _ ⟨_, s3⟩ => ⟨SqT.of (s3 _ _ ea), SqT.of (s3 _ _ eb)⟩) ?_ ?_
    · rintro i x H3 H4 hi ⟨e3, s3⟩ ⟨T3, u, v, rfl, hT, rfl, hu, hv⟩
      obtain ⟨_, rfl⟩ := map_at hu
      obtain ⟨_, rfl⟩ := map_at hv
      have s4 : Same H3 (upd H3 T3 (.tup [.int (lowOf k (ns.getD i 0)), .int (highOf k (ns.getD i 0))])) := same_put hT (Same.refl _)
      have e4 : upd H3 T3 (.tup [.int (lowOf k (ns.getD i 0)), .int (highOf k (ns.getD i 0))]) T3 = some (.tup [.int (lowOf k (ns.getD i 0)), .int (highOf k (ns.getD i 0))]) := upd_same
      generalize upd H3 T3 (.tup [.int (lowOf k (ns.getD i 0)), .int (highOf k (ns.getD i 0))]) = H4 at *
      have nx := map_take (f := tip0 k) hi
      have tb := tipB (G.dv _ (getD_mem hi))
      have ll : (((ns.take i).map (tip0 k)).map V.int).length < sizeLine := by
        rw [List.length_map, List.length_map, List.length_take, sizeLine_eq]
        omega
      walk_at "rds"
      refine Rd.ifB (fun h => ?_) fun h => ?_
      · walk_at "rds"
        refine ⟨_, s4 _ _ e3, ll, ?_, same_put hd (s3.trans s4)⟩
        rw [upd_same, nx, ← tb, if_pos h]
      · walk_at "rds"
        refine ⟨_, s4 _ _ e3, ll, ?_, same_put hd (s3.trans s4)⟩
        rw [upd_same, nx, ← tb, if_neg (by rw [h]; decide)]
    rintro H5 ⟨e5, s5⟩
    rw [List.take_length] at e5
    have ea5 := s5 _ _ ea
    have eb5 := s5 _ _ eb
    walk_at "rds"
    rename_i p6 m6 H6 g6 e6 s6
    have ea6 := s6 _ _ ea5
    have eb6 := s6 _ _ eb5
    unfold Z3.iZip3
    walk_at "rds"
    refine ⟨a, b, p6, _, _, _, rfl, SqT.of ea6, SqT.of eb6, SqT.of e6, fun d7 hd7 => ?_⟩
    refine lc_it (walk_zip3 (n := ns.length) (by rw [List.length_map, List.length_map]) (by rw [List.length_map, List.length_map]) (by rw [List.length_map, List.length_map])) (fun i H3 => H3 d7 = some (.lst (((ns.take i).map (tip1 k)).map V.int)) ∧ Same H6 H3) ⟨upd_same, same_put hd7 (Same.refl _)⟩ (fun i H3 _ ⟨_, s3⟩ => ⟨SqT.of (s3 _ _ ea6), SqT.of (s3 _ _ eb6), SqT.of (s3 _ _ e6)⟩) ?_ ?_
    · rintro i x H3 H4 hi ⟨e3, s3⟩ ⟨T3, u, v, w', rfl, hT, rfl, hu, hv, hw⟩
      obtain ⟨_, rfl⟩ := map_at hu
      obtain ⟨_, rfl⟩ := map_at hv
      obtain ⟨_, rfl⟩ := map_at hw
      have s4 : Same H3 (upd H3 T3 (.tup [.int (lowOf k (ns.getD i 0)), .int (highOf k (ns.getD i 0)), .int (tip0 k (ns.getD i 0))])) := same_put hT (Same.refl _)
      have e4 : upd H3 T3 (.tup [.int (lowOf k (ns.getD i 0)), .int (highOf k (ns.getD i 0)), .int (tip0 k (ns.getD i 0))]) T3 = some (.tup [.int (lowOf k (ns.getD i 0)), .int (highOf k (ns.getD i 0)), .int (tip0 k (ns.getD i 0))]) := upd_same
      generalize upd H3 T3 (.tup [.int (lowOf k (ns.getD i 0)), .int (highOf k (ns.getD i 0)), .int (tip0 k (ns.getD i 0))]) = H4 at *
      have nx := map_take (f := tip1 k) hi
      have ll : (((ns.take i).map (tip1 k)).map V.int).length < sizeLine := by
        rw [List.length_map, List.length_map, List.length_take, sizeLine_eq]
        omega
      walk_at "rds"
      refine ⟨_, s4 _ _ e3, ll, ?_, same_put hd7 (s3.trans s4)⟩
      rw [upd_same, nx]
      rfl
    rintro H8 ⟨e8, s8⟩
    rw [List.take_length] at e8
    have e68 := s8 _ _ e6
    walk_at "rds"
    rename_i p9 m9 H9 g9 e9 s9 p10 m10 H10 g10 e10 s10
    refine' kk p10 p6 p9 _ ?h1 ?h2 ?h3 ?h4
    case h1 => walk_at "heap"
    case h2 => (show H10 p6 = _; walk_at "heap")
    case h3 => (show H10 p9 = _; walk_at "heap")
    case h4 => walk_at "same"
end
end K17
end SecK2
section SecK3
set_option Elab.async false
set_option linter.all false
set_option maxRecDepth 100000
set_option maxHeartbeats 4000000
set_option pp.deepTerms false
local macro_rules | `(tactic| walk_at "tq") => `(tactic| first | assumption | (refine' Dt.Tq.to ?s0 ?h0; (case h0 => assumption); (case s0 => walk_at "same")))
local macro_rules | `(tactic| walk_at "same") => `(tactic| first | exact L2.Same.refl _ | assumption | (refine' L2.Same.trans ?s1 ?s2; (case s2 => assumption); (case s1 => walk_at "same")))
local macro_rules | `(tactic| walk_at "sam") => `(tactic| first | exact Dt.Sam.refl | assumption | exact Dt.Sam.of (by assumption) | (refine' Dt.Sam.trans ?s1 ?s2; (case s2 => first | assumption | exact Dt.Sam.of (by assumption)); (case s1 => walk_at "sam")))
local macro_rules | `(tactic| walk_at "tape") => `(tactic| first | assumption | (refine' Dt.Tape.mono ?h0 ?s0; (case h0 => assumption); (case s0 => walk_at "same")))
local macro_rules | `(tactic| walk_at "nt") => `(tactic| first | exact Dt.nt_tup | exact Dt.nt_ints | assumption | (intro a0 b0 c0 l0 z0; cases z0) | (intro a0 b0 c0 l0 z0; simp at z0))
local macro_rules | `(tactic| walk_at "heap") => `(tactic| first | assumption | exact L2.upd_same | (refine' Rd.at_to ?s0 ?h0; (case h0 => assumption); (case s0 => walk_at "same")) | (refine' Dt.at_sam ?n0 ?s0 ?h0; (case h0 => assumption); (case n0 => walk_at "nt"); (case s0 => walk_at "sam")))
local macro_rules | `(tactic| walk_at "rp") => `(tactic| first | exact Dt.Rp.int _ | exact Dt.Rp.bl _ | exact Dt.Rp.str _ | exact Dt.Rp.non | assumption | (refine' Dt.Rp.sm ?s0 ?h0; (case h0 => assumption); (case s0 => walk_at "sam")) | (refine' Dt.Rp.tup ?h1 ?h2 ?h3; (case h1 => walk_at "heap"); (case h2 => walk_at "rps"); (case h3 => first | assumption | (show _ ≤ 1000; decide) | (show _ ≤ 1000; simp) | (show _ ≤ 1000; omega))) | (refine' Dt.Rp.lst ?h1 ?h2 ?h3 ?h4; (case h1 => walk_at "heap"); (case h2 => walk_at "rps"); (case h3 => first | assumption | (show _ ≤ 1000; decide) | (show _ ≤ 1000; simp) | (show _ ≤ 1000; omega)); (case h4 => walk_at "nt")))
local macro_rules | `(tactic| walk_at "rps") => `(tactic| first | exact Dt.RpAll.nil | assumption | (refine' Dt.RpAll.cons ?h1 ?h2; (case h1 => walk_at "rp"); (case h2 => walk_at "rps")) | (refine' Dt.RpAll.sm ?s0 ?h0; (case h0 => assumption); (case s0 => walk_at "sam")))
local macro_rules | `(tactic| walk_at "rd") => `(tactic| first
  | with_reducible refine Rd.seq ?_ | with_reducible refine Rd.asg ?_ | with_reducible refine Rd.nm ?_ | with_reducible refine Rd.sub ?_ | with_reducible refine Rd.ret ?_ | with_reducible refine Rd.retN ?_
  | with_reducible refine Rd.drop ?_ | with_reducible refine Rd.ifs ?_ | with_reducible refine Rd.next ?_ | with_reducible refine Rd.cst ?_ | with_reducible refine Rd.op ?_ | with_reducible refine Rd.un ?_
  | with_reducible refine Rd.test ?_ | with_reducible refine Rd.tb' ?_ | with_reducible refine Rd.exb ?_ | with_reducible refine Rd.exi ?_ | with_reducible refine Rd.and2 ?_ | with_reducible refine Rd.or2 ?_ | with_reducible refine Rd.not1 ?_
  | with_reducible refine Rd.andV ?_ | with_reducible refine Rd.orV ?_ | with_reducible refine Rd.notV ?_ | with_reducible refine Rd.nil ?_ | with_reducible refine Rd.cons ?_ | with_reducible refine Rd.cb ?_
  | with_reducible refine Rd.i0 ?_ | with_reducible refine Rd.u1 ?_ | with_reducible refine Rd.call ?_ | with_reducible refine Rd.tup ?_ | with_reducible refine Rd.lst ?_ | with_reducible refine Rd.sl ?_ | with_reducible refine Rd.no ?_ | with_reducible refine Rd.part ?_ | with_reducible refine Rd.at_ ?_ | with_reducible refine Rd.yes ?_ | with_reducible refine Rd.fors ?_ | with_reducible refine Rd.m1 ?_ | with_reducible refine Rd.exs ?_ | with_reducible refine Rd.lc ?_ | with_reducible refine Rd.rng ?_
  | with_reducible refine Rd.mkv ?_ | with_reducible refine Rd.mko ?_ | with_reducible refine Rd.callB ?_ | with_reducible refine Rd.callS ?_ | with_reducible refine Rd.bm ?_ | with_reducible refine Rd.itl ?_ | with_reducible refine Rd.itt ?_
  | ((with_reducible refine' And.intro ?hl ?_); (case hl => ((with_reducible show List.length _ ≤ PySem.sizeLine); (show _ ≤ PySem.sizeLine); rw [PySem.sizeLine_eq]; simp)))
  | (intro p0 n0; generalize hK0 : L2.upd _ p0 _ = K0; obtain ⟨e0, t0⟩ := Dt.newK hK0 n0)
  | ((with_reducible refine' Rd.lenKL ?he ?_); (case he => walk_at "heap")) | ((with_reducible refine' Rd.lenKT ?he ?_); (case he => walk_at "heap"))
  | ((with_reducible refine' Rd.var ?hv ?_); (case hv => exact rfl))
  | ((with_reducible refine' Rd.ifT ?hv ?_); (case hv => first | exact rfl | assumption)) | ((with_reducible refine' Rd.ifF ?hv ?_); (case hv => first | exact rfl | assumption))
  | ((with_reducible refine' Rd.eq ?hv ?_); (case hv => exact rfl))
  | ((with_reducible refine' Rd.ne ?hv ?_); (case hv => exact rfl))
  | ((with_reducible refine' Dt.isi_int ?hr ?_); (case hr => walk_at "rp")) | ((with_reducible refine' Dt.isi_bool ?hr ?_); (case hr => walk_at "rp")) | ((with_reducible refine' Dt.isi_tuple ?hr ?_); (case hr => walk_at "rp")) | ((with_reducible refine' Dt.isi_str ?hr ?_); (case hr => walk_at "rp")) | ((with_reducible refine' Dt.isi_list ?hr ?_); (case hr => walk_at "rp"))
  | with_reducible refine ⟨rfl, ?_⟩ | with_reducible refine Or.inl ⟨_, rfl, ?_⟩ | with_reducible refine Or.inr ⟨_, rfl, ?_⟩ | with_reducible refine ⟨_, rfl, ?_⟩
  | ((with_reducible refine' Rd.ex2 ⟨rfl, ?hl, ?_⟩); (case hl => first | exact Or.inl ⟨_, L2.SqL.of (by walk_at "heap"), rfl⟩ | exact Or.inr ⟨_, L2.SqT.of (by walk_at "heap"), rfl⟩))
  | ((with_reducible refine' Rd.i1 ?hv ?_); (case hv => first | exact ⟨by decide, by decide, by decide⟩ | exact Or.inr ⟨by decide, by decide⟩ | exact Or.inl ⟨by decide, by decide⟩ | exact ⟨by decide, by decide⟩ | decide | assumption | (show _ ≠ _; omega) | (refine ⟨?_, ?_⟩ <;> omega) | (refine Or.inl ⟨?_, ?_⟩ <;> omega)))
  | ((with_reducible refine' Rd.ixL ?he ?hx ?_); (case he => walk_at "heap"); (case hx => rfl))
  | ((with_reducible refine' Rd.ixT ?he ?hx ?_); (case he => walk_at "heap"); (case hx => rfl))
  | ((with_reducible refine' Rd.setL ?he ?hx ?_); (case he => first | assumption | exact L2.upd_same); (case hx => rfl)))
local macro_rules | `(tactic| walk_at "rd") => `(tactic| first | with_reducible refine Rd.isT ?_ | with_reducible refine Rd.isnT ?_ | with_reducible refine Rd.ife ?_)
local macro_rules | `(tactic| walk_at "rd") => `(tactic| first | ((with_reducible refine' Rd.gtup ?he ?hl ?_); (case he => walk_at "heap"); (case hl => exact rfl)) | with_reducible refine Rd.brk ?_ | with_reducible refine Rd.callR ?_ | ((with_reducible refine' ⟨_, _, rfl, Or.inl ⟨L2.SqL.of ?hp, ?_⟩⟩); (case hp => walk_at "heap")) | ((with_reducible refine' ⟨_, _, rfl, Or.inl (L2.SqL.of ?hp), ?_⟩); (case hp => walk_at "heap")) | ((with_reducible refine' Rd.catL ?hp ?hq ?hl ?_); (case hp => walk_at "heap"); (case hq => walk_at "heap"); (case hl => (simp only [List.length_map, List.length_append, List.length_cons, List.length_nil]; omega)); (intro r0 J0 e0 t0 n0)) | with_reducible refine Rd.bits ?_ | with_reducible refine Rd.max2 ?_ | with_reducible refine Rd.gcons ?_ | with_reducible refine Rd.gnil ?_)
local macro_rules | `(tactic| walk_at "rds") => `(tactic| repeat (first | walk_at "rd" | assumption))
namespace K17
open PySem PySem.Spec PyProof.Rows L2 L2H Err Dt
open Bt
theorem _root_.Rd.lc2 {wi wi1 : TI} {g g1 : TG} {tt tt1 : TT} {te : TE} {vs vs1 : List Nat} {σ : L2.St} {H : Hp} {Q : VK} (k : wi σ H fun J H1 => ∀ D, H1 D = none → ∃ W : Nat → Nat → Hp → Prop, (∃ m, W 0 m (upd H1 D (.lst []))) ∧ ∀ i m H, W i m H →
  (J.stop i H ∧ Q (.ref D) H) ∨ (J.go i H ∧ ∃ Nx : Hp → Prop, (∀ H', Nx H' → ∃ m', m' < m ∧ W (i + 1) m' H') ∧ ∀ x H', J.yld i H x H' → g x (wipe σ vs) H' fun σ2 H2 => wipe σ2 vs = wipe σ vs ∧ tt σ2 H2 fun b H3 =>
    if b = true then wi1 σ2 H3 fun J1 H4 => ∃ W1 : Nat → Nat → Hp → Prop, (∃ m, W1 0 m H4) ∧ ∀ j k H, W1 j k H →
      (J1.stop j H ∧ Nx H) ∨ (J1.go j H ∧ ∃ Nx1 : Hp → Prop, (∀ H', Nx1 H' → ∃ k', k' < k ∧ W1 (j + 1) k' H') ∧ ∀ x H', J1.yld j H x H' → g1 x (wipe σ2 vs1) H' fun σ3 H5 => wipe σ3 vs1 = wipe σ2 vs1 ∧ tt1 σ3 H5 fun b H6 =>
        if b = true then te σ3 H6 fun y H7 => ∃ acc, H7 D = some (.lst acc) ∧ acc.length < sizeLine ∧ Nx1 (upd H7 D (.lst (acc ++ [y]))) else Nx1 H6)
    else Nx H3)) : tLc2 wi g tt wi1 g1 tt1 te vs vs1 σ H Q := k
theorem catT1 {K : PySem.W.Frag} {H : Hp} {p q : Addr} {xs : List V} {y : V} {QV : VK} (hp : H p = some (.tup xs)) (hq : H q = some (.tup [y])) (hl : xs.length ≤ 1000) (k : ∀ r J, J r = some (.tup (xs ++ [y])) → Same H J → QV (.ref r) J) : rCatA K (.ref p) (.ref q) H QV := by
  refine ⟨p, q, xs, [y], rfl, rfl, SqT.of hp, SqT.of hq, by rw [PySem.sizeLine_eq]; show xs.length + 1 ≤ _; omega, fun z => ?_, fun _ z => (by cases z), fun _ _ r n => k r _ upd_same (same_put n (Same.refl _))⟩
  subst z
  exact k q H hq (Same.refl _)
/-- tuples of numbers at addresses -/
inductive TsA (H : Hp) : List V → List (List Int) → Prop
  | nil : TsA H [] []
  | cons {p : Addr} {r : List Int} {vs : List V} {rs : List (List Int)} (e : H p = some (.tup (r.map V.int))) (t : TsA H vs rs) : TsA H (.ref p :: vs) (r :: rs)
theorem TsA.mono {H H' : Hp} (s : ∀ (p : Addr) (us : List V), H p = some (.tup us) → H' p = some (.tup us)) {vs : List V} {rs : List (List Int)} (h : TsA H vs rs) : TsA H' vs rs := by
  induction h with
  | nil => exact .nil
  | cons e t ih => exact .cons (s _ _ e) ih
theorem TsA.to {H H' : Hp} (s : Same H H') {vs : List V} {rs : List (List Int)} (h : TsA H vs rs) : TsA H' vs rs := h.mono fun p us e => s _ _ e
theorem TsA.sam {H H' : Hp} (s : Sam H H') {vs : List V} {rs : List (List Int)} (h : TsA H vs rs) : TsA H' vs rs := h.mono fun p us e => s _ _ nt_tup e
theorem TsA.put {H : Hp} {d : Addr} {us : List V} {o : HO} (hd : H d = some (.lst us)) {vs : List V} {rs : List (List Int)} (h : TsA H vs rs) : TsA (upd H d o) vs rs := h.mono fun p us e => by
  have : p ≠ d := fun z => by rw [z, hd] at e; cases e
  rw [upd_ne this]
  exact e
theorem TsA.app {H : Hp} {p : Addr} {r : List Int} {vs : List V} {rs : List (List Int)} (h : TsA H vs rs) (e : H p = some (.tup (r.map V.int))) : TsA H (vs ++ [.ref p]) (rs ++ [r]) := by
  induction h with
  | nil => exact .cons e .nil
  | cons e0 t ih => exact .cons e0 ih
theorem TsA.cat {H : Hp} {vs us : List V} {rs qs : List (List Int)} (h : TsA H vs rs) (k : TsA H us qs) : TsA H (vs ++ us) (rs ++ qs) := by
  induction h with
  | nil => exact k
  | cons e0 t ih => exact .cons e0 ih
theorem TsA.at {H : Hp} {vs : List V} {rs : List (List Int)} (h : TsA H vs rs) : ∀ {i : Nat} {v : V}, vs[i]? = some v → ∃ (p : Addr) (r : List Int), v = .ref p ∧ rs[i]? = some r ∧ H p = some (.tup (r.map V.int)) := by
  induction h with
  | nil => intro i v e; simp at e
  | cons e0 t ih =>
    intro i v e
    cases i with
    | zero => simp at e; exact ⟨_, _, e.symm, by simp, e0⟩
    | succ i => simp at e; simpa using ih e
theorem TsA.get {H : Hp} {vs : List V} {rs : List (List Int)} (h : TsA H vs rs) : ∀ {i : Nat} {r : List Int}, rs[i]? = some r → ∃ p : Addr, vs[i]? = some (.ref p) ∧ H p = some (.tup (r.map V.int)) := by
  induction h with
  | nil => intro i v e; simp at e
  | cons e0 t ih =>
    intro i v e
    cases i with
    | zero => simp at e; subst e; exact ⟨_, rfl, e0⟩
    | succ i => simp at e; simpa using ih e
theorem TsA.len {H : Hp} {vs : List V} {rs : List (List Int)} (h : TsA H vs rs) : vs.length = rs.length := by
  induction h with
  | nil => rfl
  | cons e t ih => simp [ih]
theorem TsA.nt {H : Hp} {vs : List V} {rs : List (List Int)} (h : TsA H vs rs) : NotTape (.lst vs) := fun a b c l z => by
  cases h with
  | nil => cases z
  | cons e q => cases z
def dTs (rs : List (List Int)) : List PyData := rs.map fun r => .tuple (r.map PyData.int)
theorem TsA.rp {H : Hp} {vs : List V} {rs : List (List Int)} (h : TsA H vs rs) : (∀ r ∈ rs, r.length ≤ 1000) → RpAll H vs (dTs rs) := by
  induction h with
  | nil => intro _; exact .nil
  | cons e t ih => intro k; exact .cons (rp_row e (k _ (List.mem_cons_self ..))) (ih fun r hr => k r (List.mem_cons_of_mem _ hr))
def spChoices : Sp := fun vs H Q _ => ∃ (p : Addr) (us : List V) (rows : List (List Int)), vs = [.ref p] ∧ H p = some (.lst us) ∧ TsA H us rows ∧ rows.length ≤ 900 ∧ (∀ i, (chL (rows.take i)).length ≤ 1000) ∧ (∀ i, ∀ c ∈ chL (rows.take i), c.length ≤ 900) ∧ ∀ (q : Addr) (ws : List V) (H' : Hp), H' q = some (.lst ws) → TsA H' ws (chL rows) → Same H H' → Q (.ref q) H'
theorem room {a b i j m : Nat} (h : i < a) (k : j < b) (l : a * b ≤ m) : i * b + j < m := by
  have := Nat.mul_le_mul_right b (show i + 1 ≤ a by omega)
  rw [Nat.succ_mul] at this
  omega
abbrev Post := Int → Int → List Int → Nat → Hp → VK → Prop
def spNw (CN : Addr) (post : Post) : Sp := fun vs H Q E => ∃ (s : Addr) (n r : Int) (v : V) (d : PyData), vs = [.ref s, v] ∧ Space H s n r ∧ Rp H v d ∧ (dNew n r d = false → NU CN "point" E H) ∧
  (∀ (ns : List Int) (k : Nat), d = .tuple (ns.map PyData.int) → (ns.length : Int) = n → Gr ns k → (k : Int) < r → post n r ns k H Q)
def pGrain : Post := fun _ _ _ k H Q => ∀ H', Same H H' → Q (.int (2 ^ k)) H'
def pOpen : Post := fun _ _ ns k H Q => ∀ (q : Addr) (H' : Hp), Tup H' q (opV ns k) → Same H H' → Q (.ref q) H'
def pLevel : Post := fun _ r _ k H Q => ∀ H', Same H H' → Q (.int (r - ((k + 1 : Nat) : Int))) H'
def pSeat : Post := fun _ _ ns k H Q => ∀ (q a b : Addr) (H' : Hp), H' q = some (.tup [.ref a, .ref b]) → Tup H' a (ns.map (lowOf k)) → Tup H' b (ns.map (highOf k)) → Same H H' → Q (.ref q) H'
def pTips : Post := fun _ _ ns k H Q => ∀ (q a b : Addr) (H' : Hp), H' q = some (.tup [.ref a, .ref b]) → Tup H' a (ns.map (tip0 k)) → Tup H' b (ns.map (tip1 k)) → Same H H' → Q (.ref q) H'
def pCor : Post := fun _ _ ns k H Q => ∀ (q : Addr) (ws : List V) (H' : Hp), H' q = some (.tup ws) → TsA H' ws (corL k ns) → Same H H' → Q (.ref q) H'
def spGenOf (CN : Addr) : Sp := fun vs H Q E => ∃ (s : Addr) (n r : Int) (v : V) (d : PyData), vs = [.ref s, v] ∧ Space H s n r ∧ Rp H v d ∧ (dRow n d = false → NU CN "point" E H) ∧
  (∀ ns : List Int, d = .tuple (ns.map PyData.int) → (ns.length : Int) = n → (newL r ns = false → ∀ H', Same H H' → Q (.int (-1)) H') ∧ (∀ k : Nat, Gr ns k → (k : Int) < r → ∀ H', Same H H' → Q (.int (genV n r ns k)) H'))
theorem new_ex {n r : Int} {d : PyData} (h : dNew n r d = true) : ∃ (ns : List Int) (k : Nat), d = .tuple (ns.map PyData.int) ∧ (ns.length : Int) = n ∧ Gr ns k ∧ (k : Int) < r := by
  unfold dNew at h
  rw [Bool.and_eq_true] at h
  obtain ⟨ns, rfl, ln⟩ := row_ints h.1
  have h2 : newL r (intsOf (ns.map PyData.int)) = true := h.2
  rw [intsOf_map] at h2
  obtain ⟨k, hk, g⟩ := newL_gr h2
  exact ⟨ns, k, rfl, ln, g, hk⟩
theorem ends_if (k : Nat) (x : Int) : (if decide (V.int (lowOf k x) = V.int (highOf k x)) = true then [lowOf k x] else [lowOf k x, highOf k x]) = endsOf k x := by
  have hp := pow_pos k
  unfold endsOf lowOf highOf
  by_cases h : odd k x = true
  · rw [if_pos h, if_pos h, if_pos h, if_neg (by rw [decide_eq_false fun z => by have := V.int.inj z; omega]; decide)]
  · rw [if_neg h, if_neg h, if_neg h, if_pos (decide_eq_true rfl)]
theorem ends_take {ns : List Int} {k i : Nat} (h : i < ns.length) : (ns.take (i + 1)).map (endsOf k) = (ns.take i).map (endsOf k) ++ [endsOf k (ns.getD i 0)] := by
  have e : ns[i]? = some (ns.getD i 0) := by rw [List.getD_eq_getElem?_getD, List.getElem?_eq_getElem h]; rfl
  rw [List.take_succ, e, List.map_append]
  rfl
theorem ch_len {k : Nat} {ns : List Int} (h : ns.length ≤ 3) (i : Nat) : (chL ((ns.map (endsOf k)).take i)).length ≤ 1000 := by
  rw [← List.map_take]
  refine Nat.le_trans (fold_len k (ns.take i) [[]]) ?_
  rw [List.length_take]
  have : 2 ^ min i ns.length ≤ 2 ^ 3 := Nat.pow_le_pow_right (by decide) (by omega)
  show 1 * _ ≤ _
  omega
theorem ch_each {k : Nat} {ns : List Int} (h : ns.length ≤ 3) (i : Nat) : ∀ c ∈ chL ((ns.map (endsOf k)).take i), c.length ≤ 900 := fun c hc => by
  rw [← List.map_take] at hc
  have := fold_each k (ns.take i) [[]] 0 (fun a ha => by rw [List.mem_singleton.mp ha]; rfl) c hc
  rw [List.length_take] at this
  omega
section
variable {P : Program} {w : World} {K : PySem.W.Frag} {mg : Str → Option Value} {base : Heap}
set_option pp.maxSteps 3000
abbrev sGrainOf : Stmt := topS 23
theorem scGrainOf : FnScope ["space", "point"] ["space", "point"] (defScope sGrainOf) := ⟨rfl, rfl, rfl, by decide +kernel, rfl, by decide +kernel, by decide +kernel⟩
theorem okGrainOf {f : Addr} {fd : FuncData} (F : Fun K "grain_of" "grain_of" sGrainOf f fd) (T : Tx mg) {CN : Addr} (DDemand : Dn P w K mg base (L2N.CX P w) "demand" 3 ["fits", "word"] (spDemand CN)) (DIsNew : Dn P w K mg base CX0 "is_new" 4 ["space", "thing"] spIsNew) (DPointGrain : Dn P w K mg base CX0 "point_grain" 1 ["point"] spGrain)  : FnOk P w K mg base (L2N.CX P w) 5 f fd ["space", "point"] (spNw CN pGrain) := by
  refine okN F scGrainOf (fun vs H Q E h => ?_) (fun cdv A outer s H vs Q E hr h => ?_)
  · obtain ⟨s, n, rr, v, d, rfl, _⟩ := h
    rfl
  · obtain ⟨s, n, rr, v, d, rfl, hS, r1, k1, kk⟩ := h
    refine ⟨_, (pss_cons (ps_expr (pe_dnX DDemand (hr.mono (by omega)) (L2N.takes_of rfl rfl rfl rfl) (pa_cons (pe_dn DIsNew (hr.mono (by omega)) (pa_cons (pv 0) (pa_cons (pv 1) pa_nil))) (pa_cons pe_str pa_nil))))
    (pss_one (ps_ret (pe_dn DPointGrain (hr.mono (by omega)) (pa_cons (pv 1) pa_nil))))), ?_⟩
    have st0 : L2.start ["space", "point"] [V.ref s, v] = [some (V.ref s), some (v)] := rfl
    rw [st0]
    have es := hS.1
    walk_at "rds"
    refine ⟨s, n, rr, v, d, rfl, hS, r1, fun H1 t1 => ?_⟩
    walk_at "rds"
    refine ⟨_, _, rfl, fun h => ?_, fun h => (k1 h).to t1⟩
    obtain ⟨ns, k, rfl, ln, G, hk⟩ := new_ex h
    obtain ⟨p, rfl, e, l⟩ := r1.row
    have hS1 := hS.to t1
    have es1 := hS1.1
    have e1 := t1 _ _ e
    have n3 := hS.2.2.1
    have q8 := hS.2.2.2
    have K0 := kk ns k rfl ln G hk
    walk_at "rds"
    refine ⟨p, ns, k, rfl, e1, G, ?_⟩
    walk_at "rds"
    exact K0 _ t1
abbrev sOpenOf : Stmt := topS 24
theorem scOpenOf : FnScope ["space", "point"] ["space", "point"] (defScope sOpenOf) := ⟨rfl, rfl, rfl, by decide +kernel, rfl, by decide +kernel, by decide +kernel⟩
theorem okOpenOf {f : Addr} {fd : FuncData} (F : Fun K "open_of" "open_of" sOpenOf f fd) (T : Tx mg) {CN : Addr} (DDemand : Dn P w K mg base (L2N.CX P w) "demand" 3 ["fits", "word"] (spDemand CN)) (DIsNew : Dn P w K mg base CX0 "is_new" 4 ["space", "thing"] spIsNew) (DPointOpened : Dn P w K mg base CX0 "point_opened" 2 ["point"] spOpened)  : FnOk P w K mg base (L2N.CX P w) 5 f fd ["space", "point"] (spNw CN pOpen) := by
  refine okN F scOpenOf (fun vs H Q E h => ?_) (fun cdv A outer s H vs Q E hr h => ?_)
  · obtain ⟨s, n, rr, v, d, rfl, _⟩ := h
    rfl
  · obtain ⟨s, n, rr, v, d, rfl, hS, r1, k1, kk⟩ := h
    refine ⟨_, (pss_cons (ps_expr (pe_dnX DDemand (hr.mono (by omega)) (L2N.takes_of rfl rfl rfl rfl) (pa_cons (pe_dn DIsNew (hr.mono (by omega)) (pa_cons (pv 0) (pa_cons (pv 1) pa_nil))) (pa_cons pe_str pa_nil))))
    (pss_one (ps_ret (pe_dn DPointOpened (hr.mono (by omega)) (pa_cons (pv 1) pa_nil))))), ?_⟩
    have st0 : L2.start ["space", "point"] [V.ref s, v] = [some (V.ref s), some (v)] := rfl
    rw [st0]
    have es := hS.1
    walk_at "rds"
    refine ⟨s, n, rr, v, d, rfl, hS, r1, fun H1 t1 => ?_⟩
    walk_at "rds"
    refine ⟨_, _, rfl, fun h => ?_, fun h => (k1 h).to t1⟩
    obtain ⟨ns, k, rfl, ln, G, hk⟩ := new_ex h
    obtain ⟨p, rfl, e, l⟩ := r1.row
    have hS1 := hS.to t1
    have es1 := hS1.1
    have e1 := t1 _ _ e
    have n3 := hS.2.2.1
    have q8 := hS.2.2.2
    have K0 := kk ns k rfl ln G hk
    walk_at "rds"
    refine ⟨p, ns, k, rfl, e1, by omega, G, fun q H2 eq t2 => ?_⟩
    walk_at "rds"
    exact K0 q _ eq (t1.trans t2)
abbrev sLevelOf : Stmt := topS 25
theorem scLevelOf : FnScope ["space", "point"] ["space", "point"] (defScope sLevelOf) := ⟨rfl, rfl, rfl, by decide +kernel, rfl, by decide +kernel, by decide +kernel⟩
theorem okLevelOf {f : Addr} {fd : FuncData} (F : Fun K "level_of" "level_of" sLevelOf f fd) (T : Tx mg) {CN : Addr} (DDemand : Dn P w K mg base (L2N.CX P w) "demand" 3 ["fits", "word"] (spDemand CN)) (DIsNew : Dn P w K mg base CX0 "is_new" 4 ["space", "thing"] spIsNew) (DPointLevel : Dn P w K mg base CX0 "point_level" 2 ["space", "point"] spLevel)  : FnOk P w K mg base (L2N.CX P w) 5 f fd ["space", "point"] (spNw CN pLevel) := by
  refine okN F scLevelOf (fun vs H Q E h => ?_) (fun cdv A outer s H vs Q E hr h => ?_)
  · obtain ⟨s, n, rr, v, d, rfl, _⟩ := h
    rfl
  · obtain ⟨s, n, rr, v, d, rfl, hS, r1, k1, kk⟩ := h
    refine ⟨_, (pss_cons (ps_expr (pe_dnX DDemand (hr.mono (by omega)) (L2N.takes_of rfl rfl rfl rfl) (pa_cons (pe_dn DIsNew (hr.mono (by omega)) (pa_cons (pv 0) (pa_cons (pv 1) pa_nil))) (pa_cons pe_str pa_nil))))
    (pss_one (ps_ret (pe_dn DPointLevel (hr.mono (by omega)) (pa_cons (pv 0) (pa_cons (pv 1) pa_nil)))))), ?_⟩
    have st0 : L2.start ["space", "point"] [V.ref s, v] = [some (V.ref s), some (v)] := rfl
    rw [st0]
    have es := hS.1
    walk_at "rds"
    refine ⟨s, n, rr, v, d, rfl, hS, r1, fun H1 t1 => ?_⟩
    walk_at "rds"
    refine ⟨_, _, rfl, fun h => ?_, fun h => (k1 h).to t1⟩
    obtain ⟨ns, k, rfl, ln, G, hk⟩ := new_ex h
    obtain ⟨p, rfl, e, l⟩ := r1.row
    have hS1 := hS.to t1
    have es1 := hS1.1
    have e1 := t1 _ _ e
    have n3 := hS.2.2.1
    have q8 := hS.2.2.2
    have K0 := kk ns k rfl ln G hk
    walk_at "rds"
    refine ⟨s, p, n, rr, ns, k, rfl, hS1, e1, G, ?_⟩
    walk_at "rds"
    exact K0 _ t1
abbrev sSeatOf : Stmt := topS 27
theorem scSeatOf : FnScope ["space", "point"] ["space", "point"] (defScope sSeatOf) := ⟨rfl, rfl, rfl, by decide +kernel, rfl, by decide +kernel, by decide +kernel⟩
theorem okSeatOf {f : Addr} {fd : FuncData} (F : Fun K "seat_of" "seat_of" sSeatOf f fd) (T : Tx mg) {CN : Addr} (DDemand : Dn P w K mg base (L2N.CX P w) "demand" 3 ["fits", "word"] (spDemand CN)) (DIsNew : Dn P w K mg base CX0 "is_new" 4 ["space", "thing"] spIsNew) (DPointSeat : Dn P w K mg base CX0 "point_seat" 3 ["point"] spSeat)  : FnOk P w K mg base (L2N.CX P w) 5 f fd ["space", "point"] (spNw CN pSeat) := by
  refine okN F scSeatOf (fun vs H Q E h => ?_) (fun cdv A outer s H vs Q E hr h => ?_)
  · obtain ⟨s, n, rr, v, d, rfl, _⟩ := h
    rfl
  · obtain ⟨s, n, rr, v, d, rfl, hS, r1, k1, kk⟩ := h
    refine ⟨_, (pss_cons (ps_expr (pe_dnX DDemand (hr.mono (by omega)) (L2N.takes_of rfl rfl rfl rfl) (pa_cons (pe_dn DIsNew (hr.mono (by omega)) (pa_cons (pv 0) (pa_cons (pv 1) pa_nil))) (pa_cons pe_str pa_nil))))
    (pss_one (ps_ret (pe_dn DPointSeat (hr.mono (by omega)) (pa_cons (pv 1) pa_nil))))), ?_⟩
    have st0 : L2.start ["space", "point"] [V.ref s, v] = [some (V.ref s), some (v)] := rfl
    rw [st0]
    have es := hS.1
    walk_at "rds"
    refine ⟨s, n, rr, v, d, rfl, hS, r1, fun H1 t1 => ?_⟩
    walk_at "rds"
    refine ⟨_, _, rfl, fun h => ?_, fun h => (k1 h).to t1⟩
    obtain ⟨ns, k, rfl, ln, G, hk⟩ := new_ex h
    obtain ⟨p, rfl, e, l⟩ := r1.row
    have hS1 := hS.to t1
    have es1 := hS1.1
    have e1 := t1 _ _ e
    have n3 := hS.2.2.1
    have q8 := hS.2.2.2
    have K0 := kk ns k rfl ln G hk
    walk_at "rds"
    refine ⟨p, ns, k, rfl, e1, by omega, G, fun q a b H2 eq ea eb t2 => ?_⟩
    walk_at "rds"
    exact K0 q a b _ eq ea eb (t1.trans t2)
abbrev sTipsOf : Stmt := topS 28
theorem scTipsOf : FnScope ["space", "point"] ["space", "point"] (defScope sTipsOf) := ⟨rfl, rfl, rfl, by decide +kernel, rfl, by decide +kernel, by decide +kernel⟩
theorem okTipsOf {f : Addr} {fd : FuncData} (F : Fun K "tips_of" "tips_of" sTipsOf f fd) (T : Tx mg) {CN : Addr} (DDemand : Dn P w K mg base (L2N.CX P w) "demand" 3 ["fits", "word"] (spDemand CN)) (DIsNew : Dn P w K mg base CX0 "is_new" 4 ["space", "thing"] spIsNew) (DPointTips : Dn P w K mg base CX0 "point_tips" 4 ["point"] spTips)  : FnOk P w K mg base (L2N.CX P w) 5 f fd ["space", "point"] (spNw CN pTips) := by
  refine okN F scTipsOf (fun vs H Q E h => ?_) (fun cdv A outer s H vs Q E hr h => ?_)
  · obtain ⟨s, n, rr, v, d, rfl, _⟩ := h
    rfl
  · obtain ⟨s, n, rr, v, d, rfl, hS, r1, k1, kk⟩ := h
    refine ⟨_, (pss_cons (ps_expr (pe_dnX DDemand (hr.mono (by omega)) (L2N.takes_of rfl rfl rfl rfl) (pa_cons (pe_dn DIsNew (hr.mono (by omega)) (pa_cons (pv 0) (pa_cons (pv 1) pa_nil))) (pa_cons pe_str pa_nil))))
    (pss_one (ps_ret (pe_dn DPointTips (hr.mono (by omega)) (pa_cons (pv 1) pa_nil))))), ?_⟩
    have st0 : L2.start ["space", "point"] [V.ref s, v] = [some (V.ref s), some (v)] := rfl
    rw [st0]
    have es := hS.1
    walk_at "rds"
    refine ⟨s, n, rr, v, d, rfl, hS, r1, fun H1 t1 => ?_⟩
    walk_at "rds"
    refine ⟨_, _, rfl, fun h => ?_, fun h => (k1 h).to t1⟩
    obtain ⟨ns, k, rfl, ln, G, hk⟩ := new_ex h
    obtain ⟨p, rfl, e, l⟩ := r1.row
    have hS1 := hS.to t1
    have es1 := hS1.1
    have e1 := t1 _ _ e
    have n3 := hS.2.2.1
    have q8 := hS.2.2.2
    have K0 := kk ns k rfl ln G hk
    walk_at "rds"
    refine ⟨p, ns, k, rfl, e1, by omega, by omega, G, fun q a b H2 eq ea eb t2 => ?_⟩
    walk_at "rds"
    exact K0 q a b _ eq ea eb (t1.trans t2)
abbrev sGenerationOf : Stmt := topS 26
theorem scGenerationOf : FnScope ["space", "point"] ["space", "point"] (defScope sGenerationOf) := ⟨rfl, rfl, rfl, by decide +kernel, rfl, by decide +kernel, by decide +kernel⟩
theorem okGenerationOf {f : Addr} {fd : FuncData} (F : Fun K "generation_of" "generation_of" sGenerationOf f fd) (T : Tx mg) {CN : Addr} (DDemand : Dn P w K mg base (L2N.CX P w) "demand" 3 ["fits", "word"] (spDemand CN)) (DIsPoint : Dn P w K mg base CX0 "is_point" 3 ["space", "thing"] spIsPoint) (DPointGeneration : Dn P w K mg base CX0 "point_generation" 5 ["space", "point"] spGen)  : FnOk P w K mg base (L2N.CX P w) 6 f fd ["space", "point"] (spGenOf CN) := by
  refine okN F scGenerationOf (fun vs H Q E h => ?_) (fun cdv A outer s H vs Q E hr h => ?_)
  · obtain ⟨s, n, rr, v, d, rfl, _⟩ := h
    rfl
  · obtain ⟨s, n, rr, v, d, rfl, hS, r1, k1, kk⟩ := h
    refine ⟨_, (pss_cons (ps_expr (pe_dnX DDemand (hr.mono (by omega)) (L2N.takes_of rfl rfl rfl rfl) (pa_cons (pe_dn DIsPoint (hr.mono (by omega)) (pa_cons (pv 0) (pa_cons (pv 1) pa_nil))) (pa_cons pe_str pa_nil))))
    (pss_one (ps_ret (pe_dn DPointGeneration (hr.mono (by omega)) (pa_cons (pv 0) (pa_cons (pv 1) pa_nil)))))), ?_⟩
    have st0 : L2.start ["space", "point"] [V.ref s, v] = [some (V.ref s), some (v)] := rfl
    rw [st0]
    have es := hS.1
    walk_at "rds"
    refine ⟨s, n, rr, v, d, rfl, hS, r1, fun H1 t1 => ?_⟩
    walk_at "rds"
    refine ⟨_, _, rfl, fun h => ?_, fun h => (k1 h).to t1⟩
    obtain ⟨ns, rfl, ln⟩ := row_ints h
    obtain ⟨p, rfl, e, l⟩ := r1.row
    have e1 := t1 _ _ e
    obtain ⟨K0, K1⟩ := kk ns rfl ln
    walk_at "rds"
    refine ⟨s, p, n, rr, ns, rfl, hS.to t1, e1, ln, fun z H2 t2 => ?_, fun k G hk H2 t2 => ?_⟩
    · walk_at "rds"
      exact K0 z _ (t1.trans t2)
    · walk_at "rds"
      exact K1 k G hk _ (t1.trans t2)
abbrev sAllChoices : Stmt := topS 1
theorem scAllChoices : FnScope ["rows", "choices", "row", "choice", "thing"] ["rows"] (defScope sAllChoices) := ⟨rfl, rfl, rfl, by decide +kernel, rfl, by decide +kernel, by decide +kernel⟩
theorem okAllChoices {f : Addr} {fd : FuncData} (F : Fun K "all_choices" "all_choices" sAllChoices f fd) (T : Tx mg)  : FnOk P w K mg base CX0 1 f fd ["rows"] spChoices := by
  refine F.ok scAllChoices (fun vs H Q E h => ?_) (fun cdv A outer s H vs Q E hr h => ?_)
  · obtain ⟨p, us, rows, rfl, _⟩ := h
    rfl
  · obtain ⟨p, us, rows, rfl, e, ts, lr, hl, hc, kk⟩ := h
    refine ⟨_, (pss_cons (ps_set (i := 1) scAllChoices.nd rfl (Or.inl rfl) (pe_lst (pa_cons (pe_tup pa_nil) pa_nil)))
    (pss_cons (ps_for PassesOwn.never rfl (pi_list (pv 0)) (pg_name (i := 2) scAllChoices.nd rfl (Or.inr rfl))
    (pss_one (ps_setLc2 (g := gName 3) (wi1 := iTup K (tVar 2)) (g1 := gName 4) (te := tOp (rCatA K) (tVar 3) (tTup (tCons (tVar 4) tNil))) (i := 1) (own := [("choice", 3), ("thing", 4)]) (vs1 := [4]) (by rfl) scAllChoices.nd rfl rfl (sw_true rfl rfl rfl (by decide +kernel)) (pi_list (pv 1)) (blkOk_by (own := [("choice", 3), ("thing", 4)]) (N := ["rows", "choices", "row", "choice", "thing"]) (sc := defScope sAllChoices) (by decide +kernel)) (by decide) (fun _ _ _ _ _ => (pg_name (i := 3) scAllChoices.nd rfl (Or.inl rfl))) (fun _ _ _ _ _ => pts_nil) (fun _ _ _ _ _ => (pi_tup (pv 2))) (fun _ _ _ _ _ => (pg_name (i := 4) scAllChoices.nd rfl (Or.inl rfl))) (fun _ _ _ _ _ => pts_nil) (fun _ _ _ _ _ => (pe_op (r := rCatA K) op_catA (pv 3) (pe_tup (pa_cons (pv 4) pa_nil)))))))
    (pss_one (ps_ret (pv 1))))), ?_⟩
    have st0 : L2.start ["rows", "choices", "row", "choice", "thing"] [V.ref p] = [some (V.ref p), none, none, none, none] := rfl
    rw [st0]
    walk_at "rds"
    rename_i pt m1 H1 g1 e1 t1 pl m2 H2 g2 e2 t2
    have s2 : Same H H2 := t1.trans t2
    have ep := s2 _ _ e
    have et := t2 _ _ e1
    clear g1 g2 e1 t1 t2 m1 m2
    refine ⟨⟨_, SqL.of ep⟩, for_list (K := K) (a := p) (xs := us) (fun i σ' H' => ∃ q ws u v w', σ' = [some (.ref p), some (.ref q), u, v, w'] ∧ H' q = some (.lst ws) ∧ TsA H' ws (chL (rows.take i)) ∧ Same H H') ⟨_, _, _, _, _, rfl, e2, .cons et .nil, s2⟩ (fun i σ' H' _ ⟨_, _, _, _, _, _, _, _, s⟩ => SqL.of (s _ _ e)) ?_ ?_⟩
    · rintro i x σ' H3 hx ⟨q, ws, u, v, w', rfl, eq, tq, s3⟩
      obtain ⟨pr, row, rfl, hr2, er⟩ := (ts.to s3).at hx
      have lw := tq.len
      have hn := chL_take hr2
      have lm := hl (i + 1)
      rw [hn, step_len] at lm
      have lc := hl i
      have hci := hc i
      generalize hC : chL (rows.take i) = C at *
      walk_at "rds"
      refine Rd.lc2 ?_
      walk_at "rds"
      refine ⟨⟨_, SqL.of eq⟩, fun D hD => ?_⟩
      refine walk_gen (walk_list (K := K) (a := q) (xs := ws)) (fun a H4 => ∃ acc, H4 D = some (.lst acc) ∧ TsA H4 acc (stepC (C.take a) row) ∧ Same H3 H4) ⟨[], upd_same, .nil, same_put hD (Same.refl _)⟩ (fun a H4 _ ⟨_, _, _, s4⟩ => SqL.of (s4 _ _ eq)) ?_ ?_
      · rintro a x H4 H5 ha ⟨acc, e4, t4, s4⟩ ⟨rfl, hxa⟩
        obtain ⟨pc, c, rfl, hc2, ec⟩ := (tq.to s4).at hxa
        have er4 := s4 _ _ er
        have a4 := t4.len
        rw [step_len, List.length_take] at a4
        walk_at "rds"
        refine ⟨⟨_, SqT.of er4⟩, ?_⟩
        refine walk_gen (walk_tup (K := K) (a := pr) (xs := row.map V.int)) (fun b H6 => ∃ acc, H6 D = some (.lst acc) ∧ TsA H6 acc (stepC (C.take a) row ++ (row.take b).map (fun x => c ++ [x])) ∧ Same H3 H6) ⟨acc, e4, by simpa using t4, s4⟩ (fun b H6 _ ⟨_, _, _, s6⟩ => SqT.of (s6 _ _ er)) ?_ ?_
        · rintro b x H6 H7 hb ⟨acc, e6, t6, s6⟩ ⟨rfl, hxb⟩
          obtain ⟨m, hm, rfl⟩ := int_at hxb
          have ec6 := s6 _ _ ((tq.to s4).at hxa |> fun _ => by
            obtain ⟨_, _, z1, z2, z3⟩ := tq.at hxa
            cases z1
            rw [hc2] at z2
            cases z2
            exact z3)
          have a6 := t6.len
          rw [List.length_append, step_len, List.length_take, List.length_map, List.length_take] at a6
          rw [List.length_map] at hb
          have rm := room (i := a) (a := C.length) (by omega) hb lm
          walk_at "rds"
          rename_i pz mz H8 gz ez sz
          refine catT1 (sz _ _ ec6) ez (by rw [List.length_map]; exact Nat.le_trans (hci c (List.mem_of_getElem? hc2)) (by decide)) fun rr J er7 sj => ?_
          walk_at "rds"
          have eD := sj _ _ (sz _ _ e6)
          refine ⟨acc, eD, ?_, acc ++ [.ref rr], upd_same, ?_, same_put hD ((s6.trans sz).trans sj)⟩
          · rw [sizeLine_eq]
            have : min a C.length = a := by omega
            rw [this] at a6
            omega
          · rw [step_take hc2 hm]
            exact (((t6.to sz).to sj).app (by rw [er7, List.map_append]; rfl)).put eD
        · rintro H6 ⟨acc, e6, t6, s6⟩
          rw [List.length_map, List.take_length, step_next hc2] at t6
          exact ⟨acc, e6, t6, s6⟩
      · rintro H4 ⟨acc, e4, t4, s4⟩
        rw [lw, List.take_length, ← hn] at t4
        walk_at "rds"
        exact ⟨D, acc, _, _, _, rfl, e4, t4, s3.trans s4⟩
    · rintro σ' H3 ⟨q, ws, u, v, w', rfl, eq, tq, s3⟩
      rw [ts.len, List.take_length] at tq
      walk_at "rds"
      exact kk q ws _ eq tq s3
end
end K17
end SecK3
section SecK4
set_option Elab.async false
set_option linter.all false
set_option maxRecDepth 100000
set_option maxHeartbeats 4000000
set_option pp.deepTerms false
local macro_rules | `(tactic| walk_at "tq") => `(tactic| first | assumption | (refine' Dt.Tq.to ?s0 ?h0; (case h0 => assumption); (case s0 => walk_at "same")))
local macro_rules | `(tactic| walk_at "same") => `(tactic| first | exact L2.Same.refl _ | assumption | (refine' L2.Same.trans ?s1 ?s2; (case s2 => assumption); (case s1 => walk_at "same")))
local macro_rules | `(tactic| walk_at "sam") => `(tactic| first | exact Dt.Sam.refl | assumption | exact Dt.Sam.of (by assumption) | (refine' Dt.Sam.trans ?s1 ?s2; (case s2 => first | assumption | exact Dt.Sam.of (by assumption)); (case s1 => walk_at "sam")))
local macro_rules | `(tactic| walk_at "tape") => `(tactic| first | assumption | (refine' Dt.Tape.mono ?h0 ?s0; (case h0 => assumption); (case s0 => walk_at "same")))
local macro_rules | `(tactic| walk_at "nt") => `(tactic| first | exact Dt.nt_tup | exact Dt.nt_ints | assumption | (intro a0 b0 c0 l0 z0; cases z0) | (intro a0 b0 c0 l0 z0; simp at z0))
local macro_rules | `(tactic| walk_at "heap") => `(tactic| first | assumption | exact L2.upd_same | (refine' Rd.at_to ?s0 ?h0; (case h0 => assumption); (case s0 => walk_at "same")) | (refine' Dt.at_sam ?n0 ?s0 ?h0; (case h0 => assumption); (case n0 => walk_at "nt"); (case s0 => walk_at "sam")))
local macro_rules | `(tactic| walk_at "rp") => `(tactic| first | exact Dt.Rp.int _ | exact Dt.Rp.bl _ | exact Dt.Rp.str _ | exact Dt.Rp.non | assumption | (refine' Dt.Rp.sm ?s0 ?h0; (case h0 => assumption); (case s0 => walk_at "sam")) | (refine' Dt.Rp.tup ?h1 ?h2 ?h3; (case h1 => walk_at "heap"); (case h2 => walk_at "rps"); (case h3 => first | assumption | (show _ ≤ 1000; decide) | (show _ ≤ 1000; simp) | (show _ ≤ 1000; omega))) | (refine' Dt.Rp.lst ?h1 ?h2 ?h3 ?h4; (case h1 => walk_at "heap"); (case h2 => walk_at "rps"); (case h3 => first | assumption | (show _ ≤ 1000; decide) | (show _ ≤ 1000; simp) | (show _ ≤ 1000; omega)); (case h4 => walk_at "nt")))
local macro_rules | `(tactic| walk_at "rps") => `(tactic| first | exact Dt.RpAll.nil | assumption | (refine' Dt.RpAll.cons ?h1 ?h2; (case h1 => walk_at "rp"); (case h2 => walk_at "rps")) | (refine' Dt.RpAll.sm ?s0 ?h0; (case h0 => assumption); (case s0 => walk_at "sam")))
local macro_rules | `(tactic| walk_at "rd") => `(tactic| first
  | with_reducible refine Rd.seq ?_ | with_reducible refine Rd.asg ?_ | with_reducible refine Rd.nm ?_ | with_reducible refine Rd.sub ?_ | with_reducible refine Rd.ret ?_ | with_reducible refine Rd.retN ?_
  | with_reducible refine Rd.drop ?_ | with_reducible refine Rd.ifs ?_ | with_reducible refine Rd.next ?_ | with_reducible refine Rd.cst ?_ | with_reducible refine Rd.op ?_ | with_reducible refine Rd.un ?_
  | with_reducible refine Rd.test ?_ | with_reducible refine Rd.tb' ?_ | with_reducible refine Rd.exb ?_ | with_reducible refine Rd.exi ?_ | with_reducible refine Rd.and2 ?_ | with_reducible refine Rd.or2 ?_ | with_reducible refine Rd.not1 ?_
  | with_reducible refine Rd.andV ?_ | with_reducible refine Rd.orV ?_ | with_reducible refine Rd.notV ?_ | with_reducible refine Rd.nil ?_ | with_reducible refine Rd.cons ?_ | with_reducible refine Rd.cb ?_
  | with_reducible refine Rd.i0 ?_ | with_reducible refine Rd.u1 ?_ | with_reducible refine Rd.call ?_ | with_reducible refine Rd.tup ?_ | with_reducible refine Rd.lst ?_ | with_reducible refine Rd.sl ?_ | with_reducible refine Rd.no ?_ | with_reducible refine Rd.part ?_ | with_reducible refine Rd.at_ ?_ | with_reducible refine Rd.yes ?_ | with_reducible refine Rd.fors ?_ | with_reducible refine Rd.m1 ?_ | with_reducible refine Rd.exs ?_ | with_reducible refine Rd.lc ?_ | with_reducible refine Rd.rng ?_
  | with_reducible refine Rd.mkv ?_ | with_reducible refine Rd.mko ?_ | with_reducible refine Rd.callB ?_ | with_reducible refine Rd.callS ?_ | with_reducible refine Rd.bm ?_ | with_reducible refine Rd.itl ?_ | with_reducible refine Rd.itt ?_
  | ((with_reducible refine' And.intro ?hl ?_); (case hl => ((with_reducible show List.length _ ≤ PySem.sizeLine); (show _ ≤ PySem.sizeLine); rw [PySem.sizeLine_eq]; simp)))
  | (intro p0 n0; generalize hK0 : L2.upd _ p0 _ = K0; obtain ⟨e0, t0⟩ := Dt.newK hK0 n0)
  | ((with_reducible refine' Rd.lenKL ?he ?_); (case he => walk_at "heap")) | ((with_reducible refine' Rd.lenKT ?he ?_); (case he => walk_at "heap"))
  | ((with_reducible refine' Rd.var ?hv ?_); (case hv => exact rfl))
  | ((with_reducible refine' Rd.ifT ?hv ?_); (case hv => first | exact rfl | assumption)) | ((with_reducible refine' Rd.ifF ?hv ?_); (case hv => first | exact rfl | assumption))
  | ((with_reducible refine' Rd.eq ?hv ?_); (case hv => exact rfl))
  | ((with_reducible refine' Rd.ne ?hv ?_); (case hv => exact rfl))
  | ((with_reducible refine' Dt.isi_int ?hr ?_); (case hr => walk_at "rp")) | ((with_reducible refine' Dt.isi_bool ?hr ?_); (case hr => walk_at "rp")) | ((with_reducible refine' Dt.isi_tuple ?hr ?_); (case hr => walk_at "rp")) | ((with_reducible refine' Dt.isi_str ?hr ?_); (case hr => walk_at "rp")) | ((with_reducible refine' Dt.isi_list ?hr ?_); (case hr => walk_at "rp"))
  | with_reducible refine ⟨rfl, ?_⟩ | with_reducible refine Or.inl ⟨_, rfl, ?_⟩ | with_reducible refine Or.inr ⟨_, rfl, ?_⟩ | with_reducible refine ⟨_, rfl, ?_⟩
  | ((with_reducible refine' Rd.ex2 ⟨rfl, ?hl, ?_⟩); (case hl => first | exact Or.inl ⟨_, L2.SqL.of (by walk_at "heap"), rfl⟩ | exact Or.inr ⟨_, L2.SqT.of (by walk_at "heap"), rfl⟩))
  | ((with_reducible refine' Rd.i1 ?hv ?_); (case hv => first | exact ⟨by decide, by decide, by decide⟩ | exact Or.inr ⟨by decide, by decide⟩ | exact Or.inl ⟨by decide, by decide⟩ | exact ⟨by decide, by decide⟩ | decide | assumption | (show _ ≠ _; omega) | (refine ⟨?_, ?_⟩ <;> omega) | (refine Or.inl ⟨?_, ?_⟩ <;> omega)))
  | ((with_reducible refine' Rd.ixL ?he ?hx ?_); (case he => walk_at "heap"); (case hx => rfl))
  | ((with_reducible refine' Rd.ixT ?he ?hx ?_); (case he => walk_at "heap"); (case hx => rfl))
  | ((with_reducible refine' Rd.setL ?he ?hx ?_); (case he => first | assumption | exact L2.upd_same); (case hx => rfl)))
local macro_rules | `(tactic| walk_at "rd") => `(tactic| first | with_reducible refine Rd.isT ?_ | with_reducible refine Rd.isnT ?_ | with_reducible refine Rd.ife ?_)
local macro_rules | `(tactic| walk_at "rd") => `(tactic| first | ((with_reducible refine' Rd.gtup ?he ?hl ?_); (case he => walk_at "heap"); (case hl => exact rfl)) | with_reducible refine Rd.brk ?_ | with_reducible refine Rd.callR ?_ | ((with_reducible refine' ⟨_, _, rfl, Or.inl ⟨L2.SqL.of ?hp, ?_⟩⟩); (case hp => walk_at "heap")) | ((with_reducible refine' ⟨_, _, rfl, Or.inl (L2.SqL.of ?hp), ?_⟩); (case hp => walk_at "heap")) | ((with_reducible refine' Rd.catL ?hp ?hq ?hl ?_); (case hp => walk_at "heap"); (case hq => walk_at "heap"); (case hl => (simp only [List.length_map, List.length_append, List.length_cons, List.length_nil]; omega)); (intro r0 J0 e0 t0 n0)) | with_reducible refine Rd.bits ?_ | with_reducible refine Rd.max2 ?_ | with_reducible refine Rd.gcons ?_ | with_reducible refine Rd.gnil ?_)
local macro_rules | `(tactic| walk_at "rds") => `(tactic| repeat (first | walk_at "rd" | assumption))
namespace K17
open PySem PySem.Spec PyProof.Rows L2 L2H Err Dt
open Bt
/-- whole numbers in tuples, m deep -/
def SD : Nat → PyData → Prop
  | _, .int _ => True
  | m + 1, .tuple ds => ∀ x ∈ ds, SD m x
  | _, _ => False
def spSame (m : Nat) : Sp := fun vs H Q _ => ∃ (u v : V) (d : PyData), vs = [u, v] ∧ Rp H u d ∧ Rp H v d ∧ SD m d ∧ ∀ H', Same H H' → Q (.bl true) H'
def spTruth : Sp := fun vs H Q _ => ∃ b c : Bool, vs = [.bl b, .bl c] ∧ Q (.bl (decide (b = c))) H
def spPower : Sp := fun vs H Q _ => ∃ m : Int, vs = [.int m] ∧ 0 ≤ m ∧ m ≤ 40 ∧ Q (.int (2 ^ m.toNat)) H
def spLay : Sp := fun vs H Q _ => ∃ (p : Addr) (r : Int) (ns : List Int), vs = [.int r, .ref p] ∧ Tup H p ns ∧ 0 ≤ r ∧ r ≤ 8 ∧ ns.length ≤ 900 ∧
  (∀ k : Nat, Gr ns k → (k : Int) < r → ∀ (q q2 : Addr) (H' : Hp), H' q = some (.tup [.int (2 ^ k), .ref q2]) → Tup H' q2 (opV ns k) → Same H H' → Q (.ref q) H') ∧
  (newL r ns = false → ∀ (q q2 : Addr) (H' : Hp), H' q = some (.tup [.int (2 ^ r.toNat), .ref q2]) → H' q2 = some (.tup []) → Same H H' → Q (.ref q) H')
theorem sd_ts {rs : List (List Int)} : SD 2 (.tuple (dTs rs)) := fun x hx => by
  obtain ⟨r, _, rfl⟩ := List.mem_map.mp hx
  intro y hy
  obtain ⟨i, _, rfl⟩ := List.mem_map.mp hy
  exact True.intro
theorem sd_row {m : Nat} {ns : List Int} : SD (m + 1) (.tuple (ns.map PyData.int)) := fun y hy => by
  obtain ⟨i, _, rfl⟩ := List.mem_map.mp hy
  cases m <;> exact True.intro
theorem pow_le {t : Nat} (h : t ≤ 40) : (2 : Int) ^ t ≤ 1099511627776 := by
  have : 2 ^ t ≤ 2 ^ 40 := Nat.pow_le_pow_right (by decide) h
  have e : ((2 ^ t : Nat) : Int) = 2 ^ t := by rw [Int.natCast_pow]; rfl
  rw [← e]
  have e2 : (2 : Nat) ^ 40 = 1099511627776 := by decide
  omega
theorem cmul_two {t : Nat} (h : t ≤ 40) : CMul (2 ^ t) 2 := by
  exact .inr ⟨by decide, by decide⟩
theorem cdiv_pow {t : Nat} (h : t ≤ 29) : CDiv x (2 ^ t) := by
  have h2 := pow_pos t
  have : 2 ^ t ≤ 2 ^ 29 := Nat.pow_le_pow_right (by decide) h
  have e : ((2 ^ t : Nat) : Int) = 2 ^ t := by rw [Int.natCast_pow]; rfl
  have e2 : (2 : Nat) ^ 29 = 536870912 := by decide
  exact ⟨h2, by omega⟩
theorem oddB {k : Nat} {x : Int} : decide (V.int (x / 2 ^ k % 2) = V.int 1) = odd k x := by
  unfold odd
  exact decide_eq_decide.mpr ⟨fun z => V.int.inj z, fun z => by rw [z]⟩
theorem all_dv {ns : List Int} {t : Nat} (h : ∀ n ∈ ns, n = 2 ^ t * (n / 2 ^ t)) (e : opL ns t = []) : ∀ n ∈ ns, n = 2 ^ (t + 1) * (n / 2 ^ (t + 1)) := by
  intro n hn
  obtain ⟨i, hi, rfl⟩ := List.mem_iff_getElem.mp hn
  have z : ¬ odd t (ns.getD i 0) = true := fun y => by
    have := (opL_mem (k := t) hi).mpr y
    rw [e] at this
    cases this
  rw [List.getD_eq_getElem?_getD, List.getElem?_eq_getElem hi] at z
  have z2 : ¬ ns[i] / 2 ^ t % 2 = 1 := fun y => z (decide_eq_true y)
  have hd := h _ hn
  have e2 : ns[i] / 2 ^ (t + 1) = ns[i] / 2 ^ t / 2 := by
    rw [Int.pow_succ, ← Int.ediv_ediv_of_nonneg (Int.le_of_lt (pow_pos t))]
  rw [e2, Int.pow_succ, Int.mul_assoc]
  conv => lhs; rw [hd]
  congr 1
  omega
theorem gr_op {ns : List Int} {t : Nat} (h : ∀ n ∈ ns, n = 2 ^ t * (n / 2 ^ t)) (e : opL ns t ≠ []) : Gr ns t := by
  obtain ⟨i, hi⟩ := List.exists_mem_of_ne_nil _ e
  have hl : i < ns.length := by
    unfold opL at hi
    exact List.mem_range.mp (List.mem_filter.mp hi).1
  have := (opL_mem (k := t) hl).mp hi
  exact ⟨h, _, getD_mem hl, of_decide_eq_true this⟩
theorem dv_new {ns : List Int} {r : Int} (h : ∀ n ∈ ns, n = 2 ^ r.toNat * (n / 2 ^ r.toNat)) : newL r ns = false := by
  rw [← Bool.not_eq_true]
  intro z
  obtain ⟨x, hx, e⟩ := newL_iff.mp z
  exact e (dv_iff.mpr (h x hx))
section
variable {P : Program} {w : World} {K : PySem.W.Frag} {mg : Str → Option Value} {base : Heap}
set_option pp.maxSteps 3000
abbrev sSeatCorners : Stmt := topS 29
theorem scSeatCorners : FnScope ["space", "point", "lows", "highs", "rows", "low", "high"] ["space", "point"] (defScope sSeatCorners) := ⟨rfl, rfl, rfl, by decide +kernel, rfl, by decide +kernel, by decide +kernel⟩
theorem okSeatCorners {f : Addr} {fd : FuncData} (F : Fun K "seat_corners" "seat_corners" sSeatCorners f fd) (T : Tx mg) {CN : Addr} (DDemand : Dn P w K mg base (L2N.CX P w) "demand" 3 ["fits", "word"] (spDemand CN)) (DIsNew : Dn P w K mg base CX0 "is_new" 4 ["space", "thing"] spIsNew) (DPointSeat : Dn P w K mg base CX0 "point_seat" 3 ["point"] spSeat) (DAllChoices : Dn P w K mg base CX0 "all_choices" 1 ["rows"] spChoices)  : FnOk P w K mg base (L2N.CX P w) 5 f fd ["space", "point"] (spNw CN pCor) := by
  refine okN F scSeatCorners (fun vs H Q E h => ?_) (fun cdv A outer s H vs Q E hr h => ?_)
  · obtain ⟨s, n, rr, v, d, rfl, _⟩ := h
    rfl
  · obtain ⟨s, n, rr, v, d, rfl, hS, r1, k1, kk⟩ := h
    refine ⟨_, (pss_cons (ps_expr (pe_dnX DDemand (hr.mono (by omega)) (L2N.takes_of rfl rfl rfl rfl) (pa_cons (pe_dn DIsNew (hr.mono (by omega)) (pa_cons (pv 0) (pa_cons (pv 1) pa_nil))) (pa_cons pe_str pa_nil))))
    (pss_cons (ps_asg (pe_dn DPointSeat (hr.mono (by omega)) (pa_cons (pv 1) pa_nil)) (pg_tup rfl (pgs_cons (pg_name (i := 2) scSeatCorners.nd rfl (Or.inl rfl)) (pgs_cons (pg_name (i := 3) scSeatCorners.nd rfl (Or.inl rfl)) pgs_nil))))
    (pss_cons (ps_setLc (i := 4) (own := [("low", 5), ("high", 6)]) (g := (gTup K 2 (gCons (gName 5) (gCons (gName 6) gNil)))) (by rfl) scSeatCorners.nd rfl rfl (sw_true rfl rfl rfl (by decide +kernel)) (RZ.pi_zipA rfl T.n_zip (pa_cons (pv 2) (pa_cons (pv 3) pa_nil))) (blkOk_by (own := [("low", 5), ("high", 6)]) (N := ["space", "point", "lows", "highs", "rows", "low", "high"]) (sc := defScope sSeatCorners) (by decide +kernel)) (fun _ _ _ _ _ => (pg_tup rfl (pgs_cons (pg_name (i := 5) scSeatCorners.nd rfl (Or.inl rfl)) (pgs_cons (pg_name (i := 6) scSeatCorners.nd rfl (Or.inl rfl)) pgs_nil)))) (fun _ _ _ _ _ => pts_nil) (fun _ _ _ _ _ => (pe_ifExp (pt_cmpR op_eq (pv 5) (pv 6) (nomark _)) (pe_tup (pa_cons (pv 5) pa_nil)) (pe_tup (pa_cons (pv 5) (pa_cons (pv 6) pa_nil))))))
    (pss_one (ps_ret (pe_callTy call_tuple_of (by rfl) T.n_tuple (by decide +kernel) (pa_cons (pe_dn DAllChoices (hr.mono (by omega)) (pa_cons (pv 4) pa_nil)) pa_nil))))))), ?_⟩
    have st0 : L2.start ["space", "point", "lows", "highs", "rows", "low", "high"] [V.ref s, v] = [some (V.ref s), some (v), none, none, none, none, none] := rfl
    rw [st0]
    have es := hS.1
    walk_at "rds"
    refine ⟨s, n, rr, v, d, rfl, hS, r1, fun H1 t1 => ?_⟩
    walk_at "rds"
    refine ⟨_, _, rfl, fun h => ?_, fun h => (k1 h).to t1⟩
    obtain ⟨ns, k, rfl, ln, G, hk⟩ := new_ex h
    obtain ⟨p, rfl, e, l⟩ := r1.row
    have hS1 := hS.to t1
    have es1 := hS1.1
    have e1 := t1 _ _ e
    have n3 := hS.2.2.1
    have q8 := hS.2.2.2
    have K0 := kk ns k rfl ln G hk
    walk_at "rds"
    refine ⟨p, ns, k, rfl, e1, by omega, G, fun q a b H2 eq ea eb t2 => ?_⟩
    walk_at "rds"
    unfold RZ.iZipA
    walk_at "rds"
    refine ⟨a, b, _, _, rfl, .inr ⟨SqT.of ea, SqT.of eb, fun d hd => ?_⟩⟩
    refine lc_it (walk_zipT (n := ns.length) (by rw [List.length_map, List.length_map]) (by rw [List.length_map, List.length_map])) (fun i H3 => ∃ acc, H3 d = some (.lst acc) ∧ TsA H3 acc ((ns.take i).map (endsOf k)) ∧ Same H2 H3) ⟨[], upd_same, .nil, same_put hd (Same.refl _)⟩ (fun i H3 _ ⟨_, _, _, s3⟩ => ⟨SqT.of (s3 _ _ ea), SqT.of (s3 _ _ eb)⟩) ?_ ?_
    · rintro i x H3 H4 hi ⟨acc, e3, t3, s3⟩ ⟨T3, u, v, rfl, hT, rfl, hu, hv⟩
      obtain ⟨_, rfl⟩ := map_at hu
      obtain ⟨_, rfl⟩ := map_at hv
      have s4 : Same H3 (upd H3 T3 (.tup [.int (lowOf k (ns.getD i 0)), .int (highOf k (ns.getD i 0))])) := same_put hT (Same.refl _)
      have e4 : upd H3 T3 (.tup [.int (lowOf k (ns.getD i 0)), .int (highOf k (ns.getD i 0))]) T3 = some (.tup [.int (lowOf k (ns.getD i 0)), .int (highOf k (ns.getD i 0))]) := upd_same
      generalize upd H3 T3 (.tup [.int (lowOf k (ns.getD i 0)), .int (highOf k (ns.getD i 0))]) = H4 at *
      have ei := ends_if k (ns.getD i 0)
      have al := t3.len
      rw [List.length_map, List.length_take] at al
      walk_at "rds"
      refine Rd.ifB (fun h => ?_) fun h => ?_
      · walk_at "rds"
        rename_i p5 m5 H5 g5 e5 s5
        have eD := s5 _ _ (s4 _ _ e3)
        rw [if_pos h] at ei
        refine ⟨acc, eD, by rw [sizeLine_eq]; omega, acc ++ [.ref p5], upd_same, ?_, same_put hd ((s3.trans s4).trans s5)⟩
        rw [ends_take hi, ← ei]
        exact (((t3.to s4).to s5).app e5).put eD
      · walk_at "rds"
        rename_i p5 m5 H5 g5 e5 s5
        have eD := s5 _ _ (s4 _ _ e3)
        rw [if_neg (by rw [h]; decide)] at ei
        refine ⟨acc, eD, by rw [sizeLine_eq]; omega, acc ++ [.ref p5], upd_same, ?_, same_put hd ((s3.trans s4).trans s5)⟩
        rw [ends_take hi, ← ei]
        exact (((t3.to s4).to s5).app e5).put eD
    rintro H5 ⟨acc, e5, t5, s5⟩
    rw [List.take_length] at t5
    walk_at "rds"
    refine ⟨d, acc, _, rfl, e5, t5, by rw [List.length_map]; omega, ch_len (by omega), ch_each (by omega), fun q6 ws H6 e6 t6 s6 => ?_⟩
    walk_at "rds"
    rename_i p7 m7 H7 g7 e7 s7
    exact K0 p7 ws _ e7 (t6.to s7) (by walk_at "same")
abbrev sTruthL : Stmt := topS 34
theorem scTruthL : FnScope ["got", "due"] ["got", "due"] (defScope sTruthL) := ⟨rfl, rfl, rfl, by decide +kernel, rfl, by decide +kernel, by decide +kernel⟩
theorem okTruthL {f : Addr} {fd : FuncData} (F : Fun K "_law_truth" "_law_truth" sTruthL f fd) (T : Tx mg)  : FnOk P w K mg base CX0 1 f fd ["got", "due"] spTruth := by
  refine F.ok scTruthL (fun vs H Q E h => ?_) (fun cdv A outer s H vs Q E hr h => ?_)
  · obtain ⟨b, c, rfl, _⟩ := h
    rfl
  · obtain ⟨b, c, rfl, kk⟩ := h
    refine ⟨_, (pss_one (ps_ret (pe_and (pe_callB call_isi (by rfl) T.n_isinstance (by decide +kernel) (pa_cons (pv 0) (pa_cons (pe_bltn (v := .ty "bool") (u := .type "bool") rfl T.n_bool (by decide +kernel) rfl) pa_nil))) (pe_one (pe_cmpR op_eq (pv 0) (pv 1) (nomark _)))))), ?_⟩
    have st0 : L2.start ["got", "due"] [V.bl b, V.bl c] = [some (V.bl b), some (V.bl c)] := rfl
    rw [st0]
    walk_at "rds"
    have ez : decide (V.bl b = V.bl c) = decide (b = c) := decide_eq_decide.mpr ⟨fun z => V.bl.inj z, fun z => by rw [z]⟩
    first | (rw [ez]; exact kk) | (show Q (.bl (decide (V.bl b = V.bl c))) H; rw [ez]; exact kk)
abbrev sPowerL : Stmt := topS 35
theorem scPowerL : FnScope ["many", "value", "turn"] ["many"] (defScope sPowerL) := ⟨rfl, rfl, rfl, by decide +kernel, rfl, by decide +kernel, by decide +kernel⟩
theorem okPowerL {f : Addr} {fd : FuncData} (F : Fun K "_law_power" "_law_power" sPowerL f fd) (T : Tx mg)  : FnOk P w K mg base CX0 1 f fd ["many"] spPower := by
  refine F.ok scPowerL (fun vs H Q E h => ?_) (fun cdv A outer s H vs Q E hr h => ?_)
  · obtain ⟨m, rfl, _⟩ := h
    rfl
  · obtain ⟨m, rfl, m0, m1, kk⟩ := h
    refine ⟨_, (pss_cons (ps_set (i := 1) scPowerL.nd rfl (Or.inl rfl) pe_int)
    (pss_cons (ps_for PassesOwn.never rfl (pi_range1 rfl T.n_range (pa_cons (pv 0) pa_nil)) (pg_name (i := 2) scPowerL.nd rfl (Or.inl rfl))
    (pss_one (ps_set (i := 1) scPowerL.nd rfl (Or.inl rfl) (pe_op op_mul (pv 1) pe_int))))
    (pss_one (ps_ret (pv 1))))), ?_⟩
    have st0 : L2.start ["many", "value", "turn"] [V.int m] = [some (V.int m), none, none] := rfl
    rw [st0]
    walk_at "rds"
    refine ⟨by omega, by omega, ?_⟩
    refine for_range (lo := 0) (n := m.toNat) (fun i σ' H' => H' = H ∧ ∃ u, σ' = [some (.int m), some (.int (2 ^ i)), u]) ⟨rfl, none, rfl⟩ ?_ ?_
    · rintro i σ' H' hi ⟨rfl, u, rfl⟩
      have cm := cmul_two (t := i) (by omega)
      walk_at "rds"
      exact ⟨_, by rw [Int.pow_succ]; rfl⟩
    · rintro σ' H' ⟨rfl, u, rfl⟩
      walk_at "rds"
abbrev sSameL : Stmt := topS 33
theorem scSameL : FnScope ["got", "due", "i"] ["got", "due"] (defScope sSameL) := ⟨rfl, rfl, rfl, by decide +kernel, rfl, by decide +kernel, by decide +kernel⟩
theorem okSameL {f : Addr} {fd : FuncData} (F : Fun K "_law_same" "_law_same" sSameL f fd) (T : Tx mg) {m j : Nat} {R : Sp} (DWholeL : Dn P w K mg base CX0 "_law_whole" 1 ["thing"] spIsInt) (DSameL : Dn P w K mg base CX0 "_law_same" (j + 1) ["got", "due"] R) (hR : ∀ i, m = i + 1 → R = spSame i) : FnOk P w K mg base CX0 (j + 2) f fd ["got", "due"] (spSame m) := by
  refine F.ok scSameL (fun vs H Q E h => ?_) (fun cdv A outer s H vs Q E hr h => ?_)
  · obtain ⟨u, v, d, rfl, _⟩ := h
    rfl
  · obtain ⟨u, v, d, rfl, r1, r2, sd, kk⟩ := h
    refine ⟨_, (pss_cons (ps_if (pt_val (pe_callB call_isi (by rfl) T.n_isinstance (by decide +kernel) (pa_cons (pv 1) (pa_cons (pe_bltn (v := .ty "tuple") (u := .type "tuple") rfl T.n_tuple (by decide +kernel) rfl) pa_nil))))
    (pss_cons (ps_if (PW.pt (pw_or (pt_not (pt_val (pe_callB call_isi (by rfl) T.n_isinstance (by decide +kernel) (pa_cons (pv 0) (pa_cons (pe_bltn (v := .ty "tuple") (u := .type "tuple") rfl T.n_tuple (by decide +kernel) rfl) pa_nil))))) (pw_or1 (pt_cmpR op_ne (pe_callB call_len (by rfl) T.n_len (by decide +kernel) (pa_cons (pv 0) pa_nil)) (pe_callB call_len (by rfl) T.n_len (by decide +kernel) (pa_cons (pv 1) pa_nil)) (nomark _)))))
      (pss_one (ps_ret pe_bl))
      pss_nil)
      (pss_one (ps_ret (pe_callB (cr_all rfl) (by rfl) T.n_all (by decide +kernel) (pa_cons (pe_lc (own := [("i", 2)]) (g := (gName 2)) (by rfl) scSameL.nd (pi_range1 rfl T.n_range (pa_cons (pe_callB call_len (by rfl) T.n_len (by decide +kernel) (pa_cons (pv 1) pa_nil)) pa_nil)) (blkOk_by (own := [("i", 2)]) (N := ["got", "due", "i"]) (sc := defScope sSameL) (by decide +kernel)) (fun _ _ _ _ _ => (pg_name (i := 2) scSameL.nd rfl (Or.inl rfl))) (fun _ _ _ _ _ => pts_nil) (fun _ _ _ _ _ => (pe_dn DSameL (hr.mono (by omega)) (pa_cons (pe_ix (r := rIxT K) ix_tup (pv 0) (pv 2) (fun _ _ => rfl)) (pa_cons (pe_ix (r := rIxT K) ix_tup (pv 1) (pv 2) (fun _ _ => rfl)) pa_nil))))) pa_nil)))))
    pss_nil)
    (pss_one (ps_ret (pe_and (pe_dn DWholeL (hr.mono (by omega)) (pa_cons (pv 0) pa_nil)) (pe_one (pe_cmpR op_eq (pv 0) (pv 1) (nomark _))))))), ?_⟩
    have st0 : L2.start ["got", "due", "i"] [u, v] = [some (u), some (v), none] := rfl
    rw [st0]
    walk_at "rds"
    cases r1 with
    | int i =>
      cases r2
      walk_at "rds"
      refine ⟨_, _, rfl, .int i, fun H1 t1 => ?_⟩
      walk_at "rds"
      rw [decide_eq_true rfl]
      exact kk _ t1
    | @tup p vs ds e a l =>
      cases m with
      | zero => exact sd.elim
      | succ i0 =>
      cases r2 with
      | @tup p2 vs2 _ e2 a2 l2 =>
      have h1 : vs.length = ds.length := a.len
      have h2 : vs2.length = ds.length := a2.len
      have hR' := hR i0 rfl
      subst hR'
      walk_at "rds"
      refine Rd.ifF (by rw [h1, h2]; simp) ?_
      walk_at "rds"
      refine ⟨by omega, by simp; omega, fun d hd => ?_⟩
      rw [show ((vs2.length : Nat) : Int).toNat = ds.length by rw [h2]; rfl]
      refine lc_range (lo := 0) (n := ds.length) (fun i H3 => H3 d = some (.lst ((List.replicate i true).map V.bl)) ∧ Same H H3) ⟨upd_same, same_put hd (Same.refl _)⟩ ?_ ?_
      · rintro i H3 hi ⟨e3, s3⟩
        have e' := s3 _ _ e
        have e2' := s3 _ _ e2
        have g1 : vs[i]? = some vs[i] := List.getElem?_eq_getElem (by omega)
        have g2 : vs2[i]? = some vs2[i] := List.getElem?_eq_getElem (by omega)
        obtain ⟨d1, hd1, q1⟩ := a.at g1
        obtain ⟨d2, hd2, q2⟩ := a2.at g2
        rw [hd1] at hd2
        cases hd2
        rw [Int.zero_add]
        refine ⟨rfl, ?_⟩
        walk_at "rds"
        refine Rd.ixT e' (atI_nat g1) ?_
        walk_at "rds"
        refine Rd.ixT e2' (atI_nat g2) ?_
        walk_at "rds"
        refine ⟨_, _, d1, rfl, q1.to s3, q2.to s3, sd _ (List.mem_of_getElem? hd1), fun H4 t4 => ?_⟩
        refine ⟨_, t4 _ _ e3, ?_, ?_, same_put hd (s3.trans t4)⟩
        · rw [List.length_map, List.length_replicate, sizeLine_eq]
          omega
        · rw [upd_same, List.replicate_succ', List.map_append]
          rfl
      · rintro H4 ⟨e4, s4⟩
        walk_at "rds"
        refine ⟨d, _, rfl, SqL.of e4, ?_⟩
        have ea : (List.replicate ds.length true).all id = true := by simp
        rw [ea]
        exact kk _ s4
    | non | bl | str | lst => cases m <;> exact sd.elim
abbrev sLayL : Stmt := topS 36
theorem scLayL : FnScope ["rounds", "point", "grain", "turn", "row", "i"] ["rounds", "point"] (defScope sLayL) := ⟨rfl, rfl, rfl, by decide +kernel, rfl, by decide +kernel, by decide +kernel⟩
theorem okLayL {f : Addr} {fd : FuncData} (F : Fun K "_law_lay" "_law_lay" sLayL f fd) (T : Tx mg)  : FnOk P w K mg base CX0 1 f fd ["rounds", "point"] spLay := by
  refine F.ok scLayL (fun vs H Q E h => ?_) (fun cdv A outer s H vs Q E hr h => ?_)
  · obtain ⟨p, r, ns, rfl, _⟩ := h
    rfl
  · obtain ⟨p, r, ns, rfl, e, r0, r8, hl, k1, k2⟩ := h
    refine ⟨_, (pss_cons (ps_set (i := 2) scLayL.nd rfl (Or.inr rfl) pe_int)
    (pss_cons (ps_for PassesOwn.never rfl (pi_range1 rfl T.n_range (pa_cons (pv 0) pa_nil)) (pg_name (i := 3) scLayL.nd rfl (Or.inl rfl))
    (pss_cons (ps_setLc (i := 4) (own := [("i", 5)]) (g := (gName 5)) (by rfl) scLayL.nd rfl rfl (sw_true rfl rfl rfl (by decide +kernel)) (pi_range1 rfl T.n_range (pa_cons (pe_callB call_len (by rfl) T.n_len (by decide +kernel) (pa_cons (pv 1) pa_nil)) pa_nil)) (blkOk_by (own := [("i", 5)]) (N := ["rounds", "point", "grain", "turn", "row", "i"]) (sc := defScope sLayL) (by decide +kernel)) (fun _ _ _ _ _ => (pg_name (i := 5) scLayL.nd rfl (Or.inl rfl))) (fun _ _ _ _ _ => (pts_one (pt_cmpR op_eq (pe_op op_mod (pe_callTy call_int1 (by rfl) T.n_int (by decide +kernel) (pa_cons (pe_op op_fdiv (pe_ix (r := rIxT K) ix_tup (pv 1) (pv 5) (fun _ _ => rfl)) (pv 2)) pa_nil)) pe_int) pe_int (nomark _)))) (fun _ _ _ _ _ => (pv 5)))
      (pss_cons (ps_if (pt_cmpR op_gt (pe_callB call_len (by rfl) T.n_len (by decide +kernel) (pa_cons (pv 4) pa_nil)) pe_int (nomark _))
      (pss_one (ps_ret (pe_tup (pa_cons (pv 2) (pa_cons (pe_callTy call_tuple_of (by rfl) T.n_tuple (by decide +kernel) (pa_cons (pv 4) pa_nil)) pa_nil)))))
      pss_nil)
      (pss_one (ps_set (i := 2) scLayL.nd rfl (Or.inr rfl) (pe_op op_mul (pv 2) pe_int))))))
    (pss_one (ps_ret (pe_tup (pa_cons (pv 2) (pa_cons (pe_tup pa_nil) pa_nil))))))), ?_⟩
    have st0 : L2.start ["rounds", "point", "grain", "turn", "row", "i"] [V.int r, V.ref p] = [some (V.int r), some (V.ref p), none, none, none, none] := rfl
    rw [st0]
    walk_at "rds"
    refine ⟨by omega, by omega, ?_⟩
    refine for_range (lo := 0) (n := r.toNat) (fun i σ' H' => ∃ u1 u2 u3, σ' = [some (.int r), some (.ref p), some (.int (2 ^ i)), u1, u2, u3] ∧ (∀ n ∈ ns, n = 2 ^ i * (n / 2 ^ i)) ∧ Same H H') ⟨none, none, none, rfl, (fun n _ => by simp), Same.refl _⟩ ?_ ?_
    · rintro t σ' H1 hi ⟨u1, u2, u3, rfl, hd, s1⟩
      have e1 := s1 _ _ e
      have cm := cmul_two (t := t) (by omega)
      walk_at "rds"
      refine ⟨by omega, by simp; omega, fun d hdn => ?_⟩
      rw [show (((ns.map V.int).length : Nat) : Int).toNat = ns.length by rw [List.length_map]; rfl]
      refine lc_range (lo := 0) (n := ns.length) (fun i H3 => H3 d = some (.lst ((((List.range i).filter fun i => odd t (ns.getD i 0)).map fun i : Nat => (i : Int)).map V.int)) ∧ Same H1 H3) ⟨upd_same, same_put hdn (Same.refl _)⟩ ?_ ?_
      · rintro i H3 hi2 ⟨e3, s3⟩
        have e' := s3 _ _ e1
        have cd := cdiv_pow (x := ns.getD i 0) (t := t) (by omega)
        rw [Int.zero_add]
        refine ⟨rfl, ?_⟩
        walk_at "rds"
        refine Rd.ixT e' (getD_int hi2) ?_
        walk_at "rds"
        rw [oddB]
        have nx := op_take (ns := ns) (k := t) (i := i)
        refine Rd.ifB (fun h => ?_) fun h => ?_
        · walk_at "rds"
          rw [if_pos h] at nx
          refine ⟨_, e3, ?_, ?_, same_put hdn s3⟩
          · rw [List.length_map, List.length_map, sizeLine_eq]
            have := List.length_filter_le (fun i => odd t (ns.getD i 0)) (List.range i)
            rw [List.length_range] at this
            omega
          · rw [upd_same, nx, List.map_append, List.map_append]
            rfl
        · walk_at "rds"
          rw [if_neg (by rw [h]; decide), List.append_nil] at nx
          rw [nx]
          exact ⟨e3, s3⟩
      rintro H4 ⟨e4, s4⟩
      have e4 : H4 d = some (.lst ((opV ns t).map V.int)) := e4
      walk_at "rds"
      refine Rd.ifB (fun h => ?_) fun h => ?_
      · have h := of_decide_eq_true h
        have gn : opL ns t ≠ [] := fun z => by
          rw [List.length_map, List.length_map, z] at h
          exact absurd h (by decide)
        walk_at "rds"
        rename_i p5 m5 H5 g5 e5 s5 p6 m6 H6 g6 e6 s6
        refine' k1 t (gr_op hd gn) (by omega) p6 p5 _ ?h1 ?h2 ?h3
        case h1 => walk_at "heap"
        case h2 => (show H6 p5 = _; walk_at "heap")
        case h3 => walk_at "same"
      · have h := of_decide_eq_false h
        have gn : opL ns t = [] := by
          rw [List.length_map, List.length_map] at h
          exact List.eq_nil_of_length_eq_zero (by omega)
        walk_at "rds"
        refine ⟨_, _, _, by rw [Int.pow_succ]; rfl, all_dv hd gn, s1.trans s4⟩
    · rintro σ' H1 ⟨u1, u2, u3, rfl, hd, s1⟩
      walk_at "rds"
      rename_i p5 m5 H5 g5 e5 s5 p6 m6 H6 g6 e6 s6
      refine' k2 (dv_new hd) p6 p5 _ ?h1 ?h2 ?h3
      case h1 => walk_at "heap"
      case h2 => walk_at "heap"
      case h3 => walk_at "same"
end
end K17
end SecK4
section SecK5
set_option Elab.async false
set_option linter.all false
set_option maxRecDepth 100000
set_option maxHeartbeats 4000000
set_option pp.deepTerms false
local macro_rules | `(tactic| walk_at "tq") => `(tactic| first | assumption | (refine' Dt.Tq.to ?s0 ?h0; (case h0 => assumption); (case s0 => walk_at "same")))
local macro_rules | `(tactic| walk_at "same") => `(tactic| first | exact L2.Same.refl _ | assumption | (refine' L2.Same.trans ?s1 ?s2; (case s2 => assumption); (case s1 => walk_at "same")))
local macro_rules | `(tactic| walk_at "sam") => `(tactic| first | exact Dt.Sam.refl | assumption | exact Dt.Sam.of (by assumption) | (refine' Dt.Sam.trans ?s1 ?s2; (case s2 => first | assumption | exact Dt.Sam.of (by assumption)); (case s1 => walk_at "sam")))
local macro_rules | `(tactic| walk_at "tape") => `(tactic| first | assumption | (refine' Dt.Tape.mono ?h0 ?s0; (case h0 => assumption); (case s0 => walk_at "same")))
local macro_rules | `(tactic| walk_at "nt") => `(tactic| first | exact Dt.nt_tup | exact Dt.nt_ints | assumption | (intro a0 b0 c0 l0 z0; cases z0) | (intro a0 b0 c0 l0 z0; simp at z0))
local macro_rules | `(tactic| walk_at "heap") => `(tactic| first | assumption | exact L2.upd_same | (refine' Rd.at_to ?s0 ?h0; (case h0 => assumption); (case s0 => walk_at "same")) | (refine' Dt.at_sam ?n0 ?s0 ?h0; (case h0 => assumption); (case n0 => walk_at "nt"); (case s0 => walk_at "sam")))
local macro_rules | `(tactic| walk_at "rp") => `(tactic| first | exact Dt.Rp.int _ | exact Dt.Rp.bl _ | exact Dt.Rp.str _ | exact Dt.Rp.non | assumption | (refine' Dt.Rp.sm ?s0 ?h0; (case h0 => assumption); (case s0 => walk_at "sam")) | (refine' Dt.Rp.tup ?h1 ?h2 ?h3; (case h1 => walk_at "heap"); (case h2 => walk_at "rps"); (case h3 => first | assumption | (show _ ≤ 1000; decide) | (show _ ≤ 1000; simp) | (show _ ≤ 1000; omega))) | (refine' Dt.Rp.lst ?h1 ?h2 ?h3 ?h4; (case h1 => walk_at "heap"); (case h2 => walk_at "rps"); (case h3 => first | assumption | (show _ ≤ 1000; decide) | (show _ ≤ 1000; simp) | (show _ ≤ 1000; omega)); (case h4 => walk_at "nt")))
local macro_rules | `(tactic| walk_at "rps") => `(tactic| first | exact Dt.RpAll.nil | assumption | (refine' Dt.RpAll.cons ?h1 ?h2; (case h1 => walk_at "rp"); (case h2 => walk_at "rps")) | (refine' Dt.RpAll.sm ?s0 ?h0; (case h0 => assumption); (case s0 => walk_at "sam")))
local macro_rules | `(tactic| walk_at "rd") => `(tactic| first
  | with_reducible refine Rd.seq ?_ | with_reducible refine Rd.asg ?_ | with_reducible refine Rd.nm ?_ | with_reducible refine Rd.sub ?_ | with_reducible refine Rd.ret ?_ | with_reducible refine Rd.retN ?_
  | with_reducible refine Rd.drop ?_ | with_reducible refine Rd.ifs ?_ | with_reducible refine Rd.next ?_ | with_reducible refine Rd.cst ?_ | with_reducible refine Rd.op ?_ | with_reducible refine Rd.un ?_
  | with_reducible refine Rd.test ?_ | with_reducible refine Rd.tb' ?_ | with_reducible refine Rd.exb ?_ | with_reducible refine Rd.exi ?_ | with_reducible refine Rd.and2 ?_ | with_reducible refine Rd.or2 ?_ | with_reducible refine Rd.not1 ?_
  | with_reducible refine Rd.andV ?_ | with_reducible refine Rd.orV ?_ | with_reducible refine Rd.notV ?_ | with_reducible refine Rd.nil ?_ | with_reducible refine Rd.cons ?_ | with_reducible refine Rd.cb ?_
  | with_reducible refine Rd.i0 ?_ | with_reducible refine Rd.u1 ?_ | with_reducible refine Rd.call ?_ | with_reducible refine Rd.tup ?_ | with_reducible refine Rd.lst ?_ | with_reducible refine Rd.sl ?_ | with_reducible refine Rd.no ?_ | with_reducible refine Rd.part ?_ | with_reducible refine Rd.at_ ?_ | with_reducible refine Rd.yes ?_ | with_reducible refine Rd.fors ?_ | with_reducible refine Rd.m1 ?_ | with_reducible refine Rd.exs ?_ | with_reducible refine Rd.lc ?_ | with_reducible refine Rd.rng ?_
  | with_reducible refine Rd.mkv ?_ | with_reducible refine Rd.mko ?_ | with_reducible refine Rd.callB ?_ | with_reducible refine Rd.callS ?_ | with_reducible refine Rd.bm ?_ | with_reducible refine Rd.itl ?_ | with_reducible refine Rd.itt ?_
  | ((with_reducible refine' And.intro ?hl ?_); (case hl => ((with_reducible show List.length _ ≤ PySem.sizeLine); (show _ ≤ PySem.sizeLine); rw [PySem.sizeLine_eq]; simp)))
  | (intro p0 n0; generalize hK0 : L2.upd _ p0 _ = K0; obtain ⟨e0, t0⟩ := Dt.newK hK0 n0)
  | ((with_reducible refine' Rd.lenKL ?he ?_); (case he => walk_at "heap")) | ((with_reducible refine' Rd.lenKT ?he ?_); (case he => walk_at "heap"))
  | ((with_reducible refine' Rd.var ?hv ?_); (case hv => exact rfl))
  | ((with_reducible refine' Rd.ifT ?hv ?_); (case hv => first | exact rfl | assumption)) | ((with_reducible refine' Rd.ifF ?hv ?_); (case hv => first | exact rfl | assumption))
  | ((with_reducible refine' Rd.eq ?hv ?_); (case hv => exact rfl))
  | ((with_reducible refine' Rd.ne ?hv ?_); (case hv => exact rfl))
  | ((with_reducible refine' Dt.isi_int ?hr ?_); (case hr => walk_at "rp")) | ((with_reducible refine' Dt.isi_bool ?hr ?_); (case hr => walk_at "rp")) | ((with_reducible refine' Dt.isi_tuple ?hr ?_); (case hr => walk_at "rp")) | ((with_reducible refine' Dt.isi_str ?hr ?_); (case hr => walk_at "rp")) | ((with_reducible refine' Dt.isi_list ?hr ?_); (case hr => walk_at "rp"))
  | with_reducible refine ⟨rfl, ?_⟩ | with_reducible refine Or.inl ⟨_, rfl, ?_⟩ | with_reducible refine Or.inr ⟨_, rfl, ?_⟩ | with_reducible refine ⟨_, rfl, ?_⟩
  | ((with_reducible refine' Rd.ex2 ⟨rfl, ?hl, ?_⟩); (case hl => first | exact Or.inl ⟨_, L2.SqL.of (by walk_at "heap"), rfl⟩ | exact Or.inr ⟨_, L2.SqT.of (by walk_at "heap"), rfl⟩))
  | ((with_reducible refine' Rd.i1 ?hv ?_); (case hv => first | exact ⟨by decide, by decide, by decide⟩ | exact Or.inr ⟨by decide, by decide⟩ | exact Or.inl ⟨by decide, by decide⟩ | exact ⟨by decide, by decide⟩ | decide | assumption | (show _ ≠ _; omega) | (refine ⟨?_, ?_⟩ <;> omega) | (refine Or.inl ⟨?_, ?_⟩ <;> omega)))
  | ((with_reducible refine' Rd.ixL ?he ?hx ?_); (case he => walk_at "heap"); (case hx => rfl))
  | ((with_reducible refine' Rd.ixT ?he ?hx ?_); (case he => walk_at "heap"); (case hx => rfl))
  | ((with_reducible refine' Rd.setL ?he ?hx ?_); (case he => first | assumption | exact L2.upd_same); (case hx => rfl)))
local macro_rules | `(tactic| walk_at "rd") => `(tactic| first | with_reducible refine Rd.isT ?_ | with_reducible refine Rd.isnT ?_ | with_reducible refine Rd.ife ?_)
local macro_rules | `(tactic| walk_at "rd") => `(tactic| first | ((with_reducible refine' Rd.gtup ?he ?hl ?_); (case he => walk_at "heap"); (case hl => exact rfl)) | with_reducible refine Rd.brk ?_ | with_reducible refine Rd.callR ?_ | ((with_reducible refine' ⟨_, _, rfl, Or.inl ⟨L2.SqL.of ?hp, ?_⟩⟩); (case hp => walk_at "heap")) | ((with_reducible refine' ⟨_, _, rfl, Or.inl (L2.SqL.of ?hp), ?_⟩); (case hp => walk_at "heap")) | ((with_reducible refine' Rd.catL ?hp ?hq ?hl ?_); (case hp => walk_at "heap"); (case hq => walk_at "heap"); (case hl => (simp only [List.length_map, List.length_append, List.length_cons, List.length_nil]; omega)); (intro r0 J0 e0 t0 n0)) | with_reducible refine Rd.bits ?_ | with_reducible refine Rd.max2 ?_ | with_reducible refine Rd.gcons ?_ | with_reducible refine Rd.gnil ?_)
local macro_rules | `(tactic| walk_at "rds") => `(tactic| repeat (first | walk_at "rd" | assumption))
namespace K17
open PySem PySem.Spec PyProof.Rows L2 L2H Err Dt
open Bt
def tipO (o : Int) (k : Nat) (x : Int) : Int := if o = 0 then tip0 k x else tip1 k x
def spCorners : Sp := fun vs H Q _ => ∃ (p rw : Addr) (ns : List Int) (k : Nat), vs = [.ref p, .int (2 ^ k), .ref rw] ∧ Tup H p ns ∧ Tup H rw (opV ns k) ∧ ns.length ≤ 3 ∧ ∀ (q : Addr) (ws : List V) (H' : Hp), H' q = some (.tup ws) → TsA H' ws (corL k ns) → Same H H' → Q (.ref q) H'
def spTipL : Sp := fun vs H Q _ => ∃ (p rw : Addr) (ns : List Int) (k : Nat) (o : Int), vs = [.ref p, .int (2 ^ k), .ref rw, .int o] ∧ (o = 0 ∨ o = 1) ∧ Tup H p ns ∧ Tup H rw (opV ns k) ∧ ns.length ≤ 3 ∧ k ≤ 20 ∧ ∀ (q : Addr) (H' : Hp), Tup H' q (ns.map (tipO o k)) → Same H H' → Q (.ref q) H'
theorem tipS {o : Int} {k : Nat} {x : Int} (ho : o = 0 ∨ o = 1) (h : odd k x = true) : (if (!decide (V.int ((x - 2 ^ k) / (2 * 2 ^ k) % 2) = V.int o)) = true then x - 2 ^ k + 2 * 2 ^ k else x - 2 ^ k) = tipO o k x := by
  unfold tipO tip1 tip0 lowOf highOf
  rw [if_pos h, if_pos h]
  have e : (2 : Int) ^ (k + 1) = 2 * 2 ^ k := by rw [Int.pow_succ, Int.mul_comm]
  rw [e]
  have z : decide (V.int ((x - 2 ^ k) / (2 * 2 ^ k) % 2) = V.int o) = decide ((x - 2 ^ k) / (2 * 2 ^ k) % 2 = o) := decide_eq_decide.mpr ⟨fun y => V.int.inj y, fun y => by rw [y]⟩
  rw [z]
  have hp := pow_pos k
  generalize (2 : Int) ^ k = g at *
  rcases (by omega : (x - g) / (2 * g) % 2 = 0 ∨ (x - g) / (2 * g) % 2 = 1) with q | q <;> rw [q] <;> rcases ho with rfl | rfl <;> simp <;> omega
theorem tipN {o : Int} {k : Nat} {x : Int} (h : odd k x = false) : x = tipO o k x := by
  unfold tipO tip1 tip0 lowOf highOf
  have h' : ¬ odd k x = true := by rw [h]; decide
  rw [if_neg h', if_neg h']
  split <;> split <;> omega
theorem ends_yes {k : Nat} {x : Int} (h : odd k x = true) : endsOf k x = [x - 2 ^ k, x + 2 ^ k] := by unfold endsOf; rw [if_pos h]
theorem ends_no {k : Nat} {x : Int} (h : odd k x = false) : endsOf k x = [x] := by unfold endsOf; rw [if_neg (by rw [h]; decide)]
theorem ends_at {ns : List Int} {k i : Nat} (h : i < ns.length) : (ns.map (endsOf k))[i]? = some (endsOf k (ns.getD i 0)) := by
  rw [List.getElem?_map, List.getElem?_eq_getElem h, List.getD_eq_getElem?_getD, List.getElem?_eq_getElem h]
  rfl
theorem TsA.lastA {H : Hp} {c : List Int} : ∀ {t : List (List Int)} {ws : List V}, TsA H ws (t ++ [c]) → ∃ (vs : List V) (p : Addr), ws = vs ++ [.ref p] ∧ H p = some (.tup (c.map V.int))
  | [], ws, h => by
    cases h with
    | cons e t' =>
      cases t'
      exact ⟨[], _, rfl, e⟩
  | a :: t, ws, h => by
    cases h with
    | cons e t' =>
      obtain ⟨vs, p, rfl, q⟩ := TsA.lastA t'
      exact ⟨_ :: vs, p, rfl, q⟩
theorem TsA.last {H : Hp} {ws : List V} {cs : List (List Int)} {c : List Int} (h : TsA H ws cs) (e : cs.getLast? = some c) : ∃ (vs : List V) (p : Addr), ws = vs ++ [.ref p] ∧ H p = some (.tup (c.map V.int)) := by
  obtain ⟨t, rfl⟩ := List.getLast?_eq_some_iff.mp e
  exact h.lastA
theorem cut_at {t u : TS} {D : Ends} {σ : L2.St} {H : Hp} (Mid : L2.St → Hp → Prop) (h1 : t { D with nx := Mid } σ H) (h2 : ∀ σ' H', Mid σ' H' → u D σ' H') : C8.tCut t u D σ H := ⟨Mid, h1, h2⟩
theorem TsA.first {H : Hp} {ws : List V} {cs : List (List Int)} {c : List Int} (h : TsA H ws cs) (e : cs.head? = some c) : ∃ p : Addr, ws[0]? = some (.ref p) ∧ H p = some (.tup (c.map V.int)) := h.get (i := 0) (by cases cs with
  | nil => cases e
  | cons a t => cases e; rfl)
def spSeated : Sp := fun vs H Q _ => ∃ (s p rw : Addr) (n r : Int) (ns : List Int) (k : Nat), vs = [.ref s, .ref p, .int (2 ^ k), .ref rw] ∧ Space H s n r ∧ Tup H p ns ∧ (ns.length : Int) = n ∧ Gr ns k ∧ (k : Int) < r ∧ Tup H rw (opV ns k) ∧ ∀ H', Same H H' → Q (.bl true) H'
theorem wide_k {k : Nat} (h : k ≤ 20) : CMulW 2 (2 ^ k) := by
  show (2 : Int).natAbs.log2 + ((2 : Int) ^ k).natAbs.log2 < 1000000
  have e : ((2 : Int) ^ k).natAbs = 2 ^ k := by rw [Int.natAbs_pow]; rfl
  rw [e, Nat.log2_two_pow]
  show (2 : Nat).log2 + k < 1000000
  have : (2 : Nat).log2 ≤ 2 := Nat.log2_le_self 2
  omega
theorem cdiv2 {k : Nat} {x : Int} (h : k ≤ 20) : CDiv x (2 * 2 ^ k) := by
  have := cdiv_pow (x := x) (t := k + 1) (by omega)
  rwa [Int.pow_succ, Int.mul_comm] at this
section
variable {P : Program} {w : World} {K : PySem.W.Frag} {mg : Str → Option Value} {base : Heap}
set_option pp.maxSteps 3000
abbrev sCornersL : Stmt := topS 37
theorem scCornersL : FnScope ["point", "grain", "row", "found", "i", "ends", "more", "corner", "x"] ["point", "grain", "row"] (defScope sCornersL) := ⟨rfl, rfl, rfl, by decide +kernel, rfl, by decide +kernel, by decide +kernel⟩
theorem okCornersL {f : Addr} {fd : FuncData} (F : Fun K "_law_corners" "_law_corners" sCornersL f fd) (T : Tx mg)  : FnOk P w K mg base CX0 1 f fd ["point", "grain", "row"] spCorners := by
  refine F.ok scCornersL (fun vs H Q E h => ?_) (fun cdv A outer s H vs Q E hr h => ?_)
  · obtain ⟨p, rw, ns, k, rfl, _⟩ := h
    rfl
  · obtain ⟨p, rw, ns, k, rfl, e, er, hl, kk⟩ := h
    refine ⟨_, (pss_cons (ps_set (i := 3) scCornersL.nd rfl (Or.inl rfl) (pe_lst (pa_cons (pe_tup pa_nil) pa_nil)))
    (pss_cons (ps_for PassesOwn.never rfl (pi_range1 rfl T.n_range (pa_cons (pe_callB call_len (by rfl) T.n_len (by decide +kernel) (pa_cons (pv 0) pa_nil)) pa_nil)) (pg_name (i := 4) scCornersL.nd rfl (Or.inl rfl))
    (pss_cons (ps_set (i := 5) scCornersL.nd rfl (Or.inl rfl) (pe_lst (pa_cons (pe_ix ix_tup (pv 0) (pv 4) (fun _ _ => rfl)) pa_nil)))
      (C8.pss_cut (ps_if (pt_cmpR op_in_seq (pv 4) (pv 2) (by rfl))
      (pss_one (ps_set (i := 5) scCornersL.nd rfl (Or.inl rfl) (pe_lst (pa_cons (pe_op op_sub (pe_ix ix_tup (pv 0) (pv 4) (fun _ _ => rfl)) (pv 1)) (pa_cons (pe_op op_add (pe_ix ix_tup (pv 0) (pv 4) (fun _ _ => rfl)) (pv 1)) pa_nil)))))
      pss_nil)
      (pss_cons (ps_set (i := 6) scCornersL.nd rfl (Or.inl rfl) (pe_lst pa_nil))
      (pss_cons (ps_for PassesOwn.never rfl (pi_list (pv 3)) (pg_name (i := 7) scCornersL.nd rfl (Or.inr rfl))
      (pss_one (ps_set (i := 6) scCornersL.nd rfl (Or.inl rfl) (pe_op op_cat (pv 6) (pe_lc (te := tOp (rCatA K) (tVar 7) (tTup (tCons (tVar 8) tNil))) (own := [("x", 8)]) (g := (gName 8)) (by rfl) scCornersL.nd (pi_list (pv 5)) (blkOk_by (own := [("x", 8)]) (N := ["point", "grain", "row", "found", "i", "ends", "more", "corner", "x"]) (sc := defScope sCornersL) (by decide +kernel)) (fun _ _ _ _ _ => (pg_name (i := 8) scCornersL.nd rfl (Or.inl rfl))) (fun _ _ _ _ _ => pts_nil) (fun _ _ _ _ _ => (pe_op (r := rCatA K) op_catA (pv 7) (pe_tup (pa_cons (pv 8) pa_nil)))))))))
      (pss_one (ps_set (i := 3) scCornersL.nd rfl (Or.inl rfl) (pv 6))))))))
    (pss_one (ps_ret (pe_callTy call_tuple_of (by rfl) T.n_tuple (by decide +kernel) (pa_cons (pv 3) pa_nil)))))), ?_⟩
    have st0 : L2.start ["point", "grain", "row", "found", "i", "ends", "more", "corner", "x"] [V.ref p, V.int (2 ^ k), V.ref rw] = [some (V.ref p), some (V.int (2 ^ k)), some (V.ref rw), none, none, none, none, none, none] := rfl
    rw [st0]
    walk_at "rds"
    rename_i pt m1 H1 g1 e1 t1 pl m2 H2 g2 e2 t2
    have s2 : Same H H2 := t1.trans t2
    have ep := s2 _ _ e
    have et := t2 _ _ e1
    clear g1 g2 e1 t1 t2 m1 m2
    refine ⟨by omega, by simp; omega, ?_⟩
    rw [show (((ns.map V.int).length : Nat) : Int).toNat = ns.length by rw [List.length_map]; rfl]
    refine for_range (lo := 0) (n := ns.length) (fun i σ' H' => ∃ q ws u1 u2 u3 u4 u5, σ' = [some (.ref p), some (.int (2 ^ k)), some (.ref rw), some (.ref q), u1, u2, u3, u4, u5] ∧ H' q = some (.lst ws) ∧ TsA H' ws (chL ((ns.map (endsOf k)).take i)) ∧ Same H H') ⟨_, _, _, _, _, _, _, rfl, e2, .cons et .nil, s2⟩ ?_ ?_
    · rintro i σ' H3 hi ⟨q, ws, u1, u2, u3, u4, u5, rfl, eq, tq, s3⟩
      have e3 := s3 _ _ e
      have er3 := s3 _ _ er
      rw [Int.zero_add]
      walk_at "rds"
      refine Rd.ixT e3 (getD_int hi) ?_
      walk_at "rds"
      rename_i p4 m4 H4 g4 e4 s4
      refine cut_at (fun σ' H' => ∃ pe, σ' = [some (.ref p), some (.int (2 ^ k)), some (.ref rw), some (.ref q), some (.int (i : Int)), some (.ref pe), u3, u4, u5] ∧ H' pe = some (.lst ((endsOf k (ns.getD i 0)).map V.int)) ∧ Same H3 H') ?_ ?_
      · walk_at "rds"
        refine ⟨_, _, rfl, .inr (SqT.of (s4 _ _ er3)), rfl, flat_ints, ?_⟩
        rw [if_neg (by decide), inV_op hi]
        walk_at "rds"
        refine Rd.ifB (fun h => ?_) fun h => ?_
        · walk_at "rds"
          refine Rd.ixT (s4 _ _ e3) (getD_int hi) ?_
          walk_at "rds"
          refine Rd.ixT (s4 _ _ e3) (getD_int hi) ?_
          walk_at "rds"
          rename_i p5 m5 H5 g5 e5 s5
          exact ⟨by rw [e5, ends_yes h]; rfl, s4.trans s5⟩
        · walk_at "rds"
          exact ⟨by rw [e4, ends_no h]; rfl, s4⟩
      clear e4 s4 g4 m4
      rintro _ H5 ⟨pe, rfl, epe, s5⟩
      have le := ends_len k (ns.getD i 0)
      have hr2 := ends_at (k := k) hi
      have hn := chL_take hr2
      have lm := ch_len (k := k) (ns := ns) hl (i + 1)
      rw [hn, step_len] at lm
      have lc := ch_len (k := k) (ns := ns) hl i
      have hci := ch_each (k := k) (ns := ns) hl i
      generalize hC : chL ((ns.map (endsOf k)).take i) = C at *
      generalize hE : endsOf k (ns.getD i 0) = E at *
      have tq5 := tq.to s5
      have eq5 := s5 _ _ eq
      have lw := tq5.len
      walk_at "rds"
      rename_i p6 m6 H6 g6 e6 s6
      have eq6 := s6 _ _ eq5
      refine ⟨⟨_, SqL.of eq6⟩, for_list (K := K) (a := q) (xs := ws) (fun a σ' H' => ∃ pm acc v4 v5, σ' = [some (.ref p), some (.int (2 ^ k)), some (.ref rw), some (.ref q), some (.int (i : Int)), some (.ref pe), some (.ref pm), v4, v5] ∧ H' pm = some (.lst acc) ∧ TsA H' acc (stepC (C.take a) E) ∧ Same H6 H') ⟨_, _, _, _, rfl, e6, .nil, Same.refl _⟩ (fun a σ' H' _ ⟨_, _, _, _, _, _, _, s⟩ => SqL.of (s _ _ eq6)) ?_ ?_⟩
      · rintro a x σ' H7 hx ⟨pm, acc, v4, v5, rfl, em, tm, s7⟩
        obtain ⟨pc, c, rfl, hc2, ec⟩ := ((tq5.to s6).to s7).at hx
        have epe7 := s7 _ _ (s6 _ _ epe)
        have am := tm.len
        rw [step_len, List.length_take] at am
        have al : acc.length ≤ 1000 := by
          have h1 : min a C.length * E.length ≤ C.length * E.length := Nat.mul_le_mul_right _ (by omega)
          omega
        walk_at "rds"
        refine ⟨⟨_, SqL.of epe7⟩, fun D hD => ?_⟩
        refine lc_list (K := K) (a := pe) (xs := E.map V.int) (fun b H8 => ∃ ad, H8 D = some (.lst ad) ∧ TsA H8 ad ((E.take b).map (fun x => c ++ [x])) ∧ Same H7 H8) ⟨[], upd_same, .nil, same_put hD (Same.refl _)⟩ (fun b H8 _ ⟨_, _, _, s8⟩ => SqL.of (s8 _ _ epe7)) ?_ ?_
        · rintro b x H8 hxb ⟨ad, e8, t8, s8⟩
          obtain ⟨m, hm, rfl⟩ := int_at hxb
          have ec8 := s8 _ _ ec
          have a8 := t8.len
          rw [List.length_map, List.length_take] at a8
          refine ⟨rfl, ?_⟩
          walk_at "rds"
          rename_i pz mz H9 gz ez sz
          refine catT1 (sz _ _ ec8) ez (by rw [List.length_map]; exact Nat.le_trans (hci c (List.mem_of_getElem? hc2)) (by decide)) fun rr J er7 sj => ?_
          have eD := sj _ _ (sz _ _ e8)
          refine ⟨ad, eD, by rw [sizeLine_eq]; omega, ad ++ [.ref rr], upd_same, ?_, same_put hD ((s8.trans sz).trans sj)⟩
          rw [List.take_succ, hm, List.map_append]
          exact (((t8.to sz).to sj).app (by rw [er7, List.map_append]; rfl)).put eD
        rintro H8 ⟨ad, e8, t8, s8⟩
        rw [List.length_map, List.take_length] at t8
        have a8 := t8.len
        rw [List.length_map] at a8
        have em8 := s8 _ _ em
        walk_at "rds"
        refine Rd.catL em8 e8 (by omega) fun p9 J9 e9 s9 m9 => ?_
        walk_at "rds"
        refine ⟨_, _, _, _, rfl, e9, ?_, (s7.trans s8).trans s9⟩
        rw [← step_next hc2]
        exact ((tm.to s8).cat t8).to s9
      · rintro σ' H7 ⟨pm, acc, v4, v5, rfl, em, tm, s7⟩
        rw [lw, List.take_length, ← hn] at tm
        walk_at "rds"
        exact ⟨_, _, _, _, _, _, _, rfl, em, tm, ((s3.trans s5).trans s6).trans s7⟩
    · rintro σ' H3 ⟨q, ws, u1, u2, u3, u4, u5, rfl, eq, tq, s3⟩
      rw [show (ns.map (endsOf k)).take ns.length = ns.map (endsOf k) by rw [← List.length_map (f := endsOf k) (as := ns), List.take_length]] at tq
      walk_at "rds"
      rename_i p7 m7 H7 g7 e7 s7
      exact kk p7 ws _ e7 (tq.to s7) (by walk_at "same")
abbrev sTipL : Stmt := topS 38
theorem scTipL : FnScope ["point", "grain", "row", "odd", "found", "i", "x"] ["point", "grain", "row", "odd"] (defScope sTipL) := ⟨rfl, rfl, rfl, by decide +kernel, rfl, by decide +kernel, by decide +kernel⟩
theorem okTipL {f : Addr} {fd : FuncData} (F : Fun K "_law_tip" "_law_tip" sTipL f fd) (T : Tx mg)  : FnOk P w K mg base CX0 1 f fd ["point", "grain", "row", "odd"] spTipL := by
  refine F.ok scTipL (fun vs H Q E h => ?_) (fun cdv A outer s H vs Q E hr h => ?_)
  · obtain ⟨p, rw, ns, k, o, rfl, _⟩ := h
    rfl
  · obtain ⟨p, rw, ns, k, o, rfl, ho, e, er, hl, hk, kk⟩ := h
    refine ⟨_, (pss_cons (ps_set (i := 4) scTipL.nd rfl (Or.inl rfl) (pe_lst pa_nil))
    (pss_cons (ps_for PassesOwn.never rfl (pi_range1 rfl T.n_range (pa_cons (pe_callB call_len (by rfl) T.n_len (by decide +kernel) (pa_cons (pv 0) pa_nil)) pa_nil)) (pg_name (i := 5) scTipL.nd rfl (Or.inl rfl))
    (pss_cons (ps_set (i := 6) scTipL.nd rfl (Or.inl rfl) (pe_ix ix_tup (pv 0) (pv 5) (fun _ _ => rfl)))
      (C8.pss_cut (ps_if (pt_cmpR op_in_seq (pv 5) (pv 2) (by rfl))
      (pss_cons (ps_set (i := 6) scTipL.nd rfl (Or.inl rfl) (pe_op op_sub (pv 6) (pv 1)))
        (pss_one (ps_if (pt_cmpR op_ne (pe_op op_mod (pe_callTy call_int1 (by rfl) T.n_int (by decide +kernel) (pa_cons (pe_op op_fdiv (pv 6) (pe_op op_mulW pe_int (pv 1))) pa_nil)) pe_int) (pv 3) (nomark _))
        (pss_one (ps_set (i := 6) scTipL.nd rfl (Or.inl rfl) (pe_op op_add (pv 6) (pe_op op_mulW pe_int (pv 1)))))
        pss_nil)))
      pss_nil)
      (pss_one (ps_expr (pe_bm PySem.F.plainAttrs_list PySem.F.slot_list_append PySem.F.type_list_append mt_append (pv 4) (pa_cons (pv 6) pa_nil)))))))
    (pss_one (ps_ret (pe_callTy call_tuple_of (by rfl) T.n_tuple (by decide +kernel) (pa_cons (pv 4) pa_nil)))))), ?_⟩
    have st0 : L2.start ["point", "grain", "row", "odd", "found", "i", "x"] [V.ref p, V.int (2 ^ k), V.ref rw, V.int o] = [some (V.ref p), some (V.int (2 ^ k)), some (V.ref rw), some (V.int o), none, none, none] := rfl
    rw [st0]
    walk_at "rds"
    rename_i d hd H1 g1 e1 s1
    have ep := s1 _ _ e
    refine ⟨by omega, by simp; omega, ?_⟩
    rw [show (((ns.map V.int).length : Nat) : Int).toNat = ns.length by rw [List.length_map]; rfl]
    refine for_range (lo := 0) (n := ns.length) (fun i σ' H' => ∃ u1 u2, σ' = [some (.ref p), some (.int (2 ^ k)), some (.ref rw), some (.int o), some (.ref d), u1, u2] ∧ H' d = some (.lst (((ns.take i).map (tipO o k)).map V.int)) ∧ Same H H') ⟨_, _, rfl, e1, s1⟩ ?_ ?_
    · rintro i σ' H3 hi ⟨u1, u2, rfl, eq, s3⟩
      have e3 := s3 _ _ e
      have er3 := s3 _ _ er
      rw [Int.zero_add]
      walk_at "rds"
      refine Rd.ixT e3 (getD_int hi) ?_
      walk_at "rds"
      refine cut_at (fun σ' H' => σ' = [some (.ref p), some (.int (2 ^ k)), some (.ref rw), some (.int o), some (.ref d), some (.int (i : Int)), some (.int (tipO o k (ns.getD i 0)))] ∧ H' = H3) ?_ ?_
      · walk_at "rds"
        refine ⟨_, _, rfl, .inr (SqT.of er3), rfl, flat_ints, ?_⟩
        rw [if_neg (by decide), inV_op hi]
        walk_at "rds"
        have w2 := wide_k hk
        have cd := cdiv2 (x := ns.getD i 0 - 2 ^ k) hk
        refine Rd.ifB (fun h => ?_) fun h => ?_
        · have ts := tipS (x := ns.getD i 0) ho h
          walk_at "rds"
          refine Rd.ifB (fun h2 => ?_) fun h2 => ?_
          · rw [if_pos h2] at ts
            walk_at "rds"
            rw [ts]
            exact ⟨rfl, rfl⟩
          · rw [if_neg (by rw [h2]; decide)] at ts
            walk_at "rds"
            rw [ts]
            exact ⟨rfl, rfl⟩
        · have tn := tipN (o := o) h
          walk_at "rds"
          rw [← tn]
          exact ⟨rfl, rfl⟩
      rintro _ _ ⟨rfl, rfl⟩
      have nx := map_take (f := tipO o k) hi
      walk_at "rds"
      refine ⟨.inl ⟨rfl, _, SqL.of eq⟩, ?_⟩
      walk_at "rds"
      refine Rd.app eq (by rw [List.length_map, List.length_map, List.length_take, sizeLine_eq]; omega) ?_
      walk_at "rds"
      exact ⟨_, _, rfl, by rw [upd_same, nx], same_put hd s3⟩
    · rintro σ' H3 ⟨u1, u2, rfl, eq, s3⟩
      rw [List.take_length] at eq
      walk_at "rds"
      rename_i p7 m7 H7 g7 e7 s7
      exact kk p7 _ e7 (by walk_at "same")
end
end K17
end SecK5
section SecK6
set_option Elab.async false
set_option linter.all false
set_option maxRecDepth 100000
set_option maxHeartbeats 4000000
set_option pp.deepTerms false
local macro_rules | `(tactic| walk_at "tq") => `(tactic| first | assumption | (refine' Dt.Tq.to ?s0 ?h0; (case h0 => assumption); (case s0 => walk_at "same")))
local macro_rules | `(tactic| walk_at "same") => `(tactic| first | exact L2.Same.refl _ | assumption | (refine' L2.Same.trans ?s1 ?s2; (case s2 => assumption); (case s1 => walk_at "same")))
local macro_rules | `(tactic| walk_at "sam") => `(tactic| first | exact Dt.Sam.refl | assumption | exact Dt.Sam.of (by assumption) | (refine' Dt.Sam.trans ?s1 ?s2; (case s2 => first | assumption | exact Dt.Sam.of (by assumption)); (case s1 => walk_at "sam")))
local macro_rules | `(tactic| walk_at "tape") => `(tactic| first | assumption | (refine' Dt.Tape.mono ?h0 ?s0; (case h0 => assumption); (case s0 => walk_at "same")))
local macro_rules | `(tactic| walk_at "nt") => `(tactic| first | exact Dt.nt_tup | exact Dt.nt_ints | assumption | (intro a0 b0 c0 l0 z0; cases z0) | (intro a0 b0 c0 l0 z0; simp at z0))
local macro_rules | `(tactic| walk_at "heap") => `(tactic| first | assumption | exact L2.upd_same | (refine' Rd.at_to ?s0 ?h0; (case h0 => assumption); (case s0 => walk_at "same")) | (refine' Dt.at_sam ?n0 ?s0 ?h0; (case h0 => assumption); (case n0 => walk_at "nt"); (case s0 => walk_at "sam")))
local macro_rules | `(tactic| walk_at "rp") => `(tactic| first | exact Dt.Rp.int _ | exact Dt.Rp.bl _ | exact Dt.Rp.str _ | exact Dt.Rp.non | assumption | (refine' Dt.Rp.sm ?s0 ?h0; (case h0 => assumption); (case s0 => walk_at "sam")) | (refine' Dt.Rp.tup ?h1 ?h2 ?h3; (case h1 => walk_at "heap"); (case h2 => walk_at "rps"); (case h3 => first | assumption | (show _ ≤ 1000; decide) | (show _ ≤ 1000; simp) | (show _ ≤ 1000; omega))) | (refine' Dt.Rp.lst ?h1 ?h2 ?h3 ?h4; (case h1 => walk_at "heap"); (case h2 => walk_at "rps"); (case h3 => first | assumption | (show _ ≤ 1000; decide) | (show _ ≤ 1000; simp) | (show _ ≤ 1000; omega)); (case h4 => walk_at "nt")))
local macro_rules | `(tactic| walk_at "rps") => `(tactic| first | exact Dt.RpAll.nil | assumption | (refine' Dt.RpAll.cons ?h1 ?h2; (case h1 => walk_at "rp"); (case h2 => walk_at "rps")) | (refine' Dt.RpAll.sm ?s0 ?h0; (case h0 => assumption); (case s0 => walk_at "sam")))
local macro_rules | `(tactic| walk_at "rd") => `(tactic| first
  | with_reducible refine Rd.seq ?_ | with_reducible refine Rd.asg ?_ | with_reducible refine Rd.nm ?_ | with_reducible refine Rd.sub ?_ | with_reducible refine Rd.ret ?_ | with_reducible refine Rd.retN ?_
  | with_reducible refine Rd.drop ?_ | with_reducible refine Rd.ifs ?_ | with_reducible refine Rd.next ?_ | with_reducible refine Rd.cst ?_ | with_reducible refine Rd.op ?_ | with_reducible refine Rd.un ?_
  | with_reducible refine Rd.test ?_ | with_reducible refine Rd.tb' ?_ | with_reducible refine Rd.exb ?_ | with_reducible refine Rd.exi ?_ | with_reducible refine Rd.and2 ?_ | with_reducible refine Rd.or2 ?_ | with_reducible refine Rd.not1 ?_
  | with_reducible refine Rd.andV ?_ | with_reducible refine Rd.orV ?_ | with_reducible refine Rd.notV ?_ | with_reducible refine Rd.nil ?_ | with_reducible refine Rd.cons ?_ | with_reducible refine Rd.cb ?_
  | with_reducible refine Rd.i0 ?_ | with_reducible refine Rd.u1 ?_ | with_reducible refine Rd.call ?_ | with_reducible refine Rd.tup ?_ | with_reducible refine Rd.lst ?_ | with_reducible refine Rd.sl ?_ | with_reducible refine Rd.no ?_ | with_reducible refine Rd.part ?_ | with_reducible refine Rd.at_ ?_ | with_reducible refine Rd.yes ?_ | with_reducible refine Rd.fors ?_ | with_reducible refine Rd.m1 ?_ | with_reducible refine Rd.exs ?_ | with_reducible refine Rd.lc ?_ | with_reducible refine Rd.rng ?_
  | with_reducible refine Rd.mkv ?_ | with_reducible refine Rd.mko ?_ | with_reducible refine Rd.callB ?_ | with_reducible refine Rd.callS ?_ | with_reducible refine Rd.bm ?_ | with_reducible refine Rd.itl ?_ | with_reducible refine Rd.itt ?_
  | ((with_reducible refine' And.intro ?hl ?_); (case hl => ((with_reducible show List.length _ ≤ PySem.sizeLine); (show _ ≤ PySem.sizeLine); rw [PySem.sizeLine_eq]; simp)))
  | (intro p0 n0; generalize hK0 : L2.upd _ p0 _ = K0; obtain ⟨e0, t0⟩ := Dt.newK hK0 n0)
  | ((with_reducible refine' Rd.lenKL ?he ?_); (case he => walk_at "heap")) | ((with_reducible refine' Rd.lenKT ?he ?_); (case he => walk_at "heap"))
  | ((with_reducible refine' Rd.var ?hv ?_); (case hv => exact rfl))
  | ((with_reducible refine' Rd.ifT ?hv ?_); (case hv => first | exact rfl | assumption)) | ((with_reducible refine' Rd.ifF ?hv ?_); (case hv => first | exact rfl | assumption))
  | ((with_reducible refine' Rd.eq ?hv ?_); (case hv => exact rfl))
  | ((with_reducible refine' Rd.ne ?hv ?_); (case hv => exact rfl))
  | ((with_reducible refine' Dt.isi_int ?hr ?_); (case hr => walk_at "rp")) | ((with_reducible refine' Dt.isi_bool ?hr ?_); (case hr => walk_at "rp")) | ((with_reducible refine' Dt.isi_tuple ?hr ?_); (case hr => walk_at "rp")) | ((with_reducible refine' Dt.isi_str ?hr ?_); (case hr => walk_at "rp")) | ((with_reducible refine' Dt.isi_list ?hr ?_); (case hr => walk_at "rp"))
  | with_reducible refine ⟨rfl, ?_⟩ | with_reducible refine Or.inl ⟨_, rfl, ?_⟩ | with_reducible refine Or.inr ⟨_, rfl, ?_⟩ | with_reducible refine ⟨_, rfl, ?_⟩
  | ((with_reducible refine' Rd.ex2 ⟨rfl, ?hl, ?_⟩); (case hl => first | exact Or.inl ⟨_, L2.SqL.of (by walk_at "heap"), rfl⟩ | exact Or.inr ⟨_, L2.SqT.of (by walk_at "heap"), rfl⟩))
  | ((with_reducible refine' Rd.i1 ?hv ?_); (case hv => first | exact ⟨by decide, by decide, by decide⟩ | exact Or.inr ⟨by decide, by decide⟩ | exact Or.inl ⟨by decide, by decide⟩ | exact ⟨by decide, by decide⟩ | decide | assumption | (show _ ≠ _; omega) | (refine ⟨?_, ?_⟩ <;> omega) | (refine Or.inl ⟨?_, ?_⟩ <;> omega)))
  | ((with_reducible refine' Rd.ixL ?he ?hx ?_); (case he => walk_at "heap"); (case hx => rfl))
  | ((with_reducible refine' Rd.ixT ?he ?hx ?_); (case he => walk_at "heap"); (case hx => rfl))
  | ((with_reducible refine' Rd.setL ?he ?hx ?_); (case he => first | assumption | exact L2.upd_same); (case hx => rfl)))
local macro_rules | `(tactic| walk_at "rd") => `(tactic| first | with_reducible refine Rd.isT ?_ | with_reducible refine Rd.isnT ?_ | with_reducible refine Rd.ife ?_)
local macro_rules | `(tactic| walk_at "rd") => `(tactic| first | ((with_reducible refine' Rd.gtup ?he ?hl ?_); (case he => walk_at "heap"); (case hl => exact rfl)) | with_reducible refine Rd.brk ?_ | with_reducible refine Rd.callR ?_ | ((with_reducible refine' ⟨_, _, rfl, Or.inl ⟨L2.SqL.of ?hp, ?_⟩⟩); (case hp => walk_at "heap")) | ((with_reducible refine' ⟨_, _, rfl, Or.inl (L2.SqL.of ?hp), ?_⟩); (case hp => walk_at "heap")) | ((with_reducible refine' Rd.catL ?hp ?hq ?hl ?_); (case hp => walk_at "heap"); (case hq => walk_at "heap"); (case hl => (simp only [List.length_map, List.length_append, List.length_cons, List.length_nil]; omega)); (intro r0 J0 e0 t0 n0)) | with_reducible refine Rd.bits ?_ | with_reducible refine Rd.max2 ?_ | with_reducible refine Rd.gcons ?_ | with_reducible refine Rd.gnil ?_)
local macro_rules | `(tactic| walk_at "rds") => `(tactic| repeat (first | walk_at "rd" | assumption))
namespace K17
open PySem PySem.Spec PyProof.Rows L2 L2H Err Dt
open Bt
theorem SD.up {m : Nat} : ∀ {d : PyData}, SD m d → SD (m + 1) d := by
  induction m with
  | zero =>
    intro d h
    cases d with
    | int i => exact True.intro
    | _ => exact h.elim
  | succ m ih =>
    intro d h
    cases d with
    | int i => exact True.intro
    | tuple ds => exact fun x hx => ih (h x hx)
    | _ => exact h.elim
theorem nw_of {CN : Addr} {post : Post} {s p : Addr} {n r : Int} {ns : List Int} {k : Nat} {H : Hp} {Q : VK} {E : XK} (hS : Space H s n r) (e : Tup H p ns) (ln : (ns.length : Int) = n) (G : Gr ns k) (hk : (k : Int) < r) (q : ∀ (ns' : List Int) (k' : Nat), ns' = ns → Gr ns k' → (k' : Int) < r → post n r ns k' H Q) : spNw CN post [.ref s, .ref p] H Q E := by
  have n3 := hS.2.2.1
  refine ⟨s, n, r, _, _, rfl, hS, rp_row e (by omega), fun z => ?_, fun ns' k' z1 _ g h => ?_⟩
  · unfold dNew at z
    rw [row_true ln, Bool.true_and] at z
    have : newL r (intsOf (ns.map PyData.int)) = false := z
    rw [intsOf_map, gr_newL G hk] at this
    cases this
  · have : ns = ns' := by
      injection z1 with z1
      have := congrArg intsOf z1
      rwa [intsOf_map, intsOf_map] at this
    subst this
    exact q ns k' rfl g h
/-- the power is told once -/
theorem gr_one {ns : List Int} {j k : Nat} (a : Gr ns j) (b : Gr ns k) : j = k := by
  have go : ∀ {i l : Nat}, Gr ns i → Gr ns l → ¬ i < l := fun {i l} a b h => by
    obtain ⟨x, hx, e⟩ := a.lt_new h
    exact e (dv_iff.mpr (b.dv x hx))
  have h1 := go a b
  have h2 := go b a
  omega
theorem gen_eq {n r : Int} {ns : List Int} {k : Nat} : genV n r ns k = n * (r - ((k + 1 : Nat) : Int) + 1) - (((opV ns k).map V.int).length : Int) := by
  unfold genV
  rw [List.length_map, List.length_map, Int.mul_add, Int.mul_one]
theorem pow_lt {a b : Nat} : (2 : Int) ^ a < 2 ^ b ↔ a < b := by
  have h : (2 : Nat) ^ a < 2 ^ b ↔ a < b := Nat.pow_lt_pow_iff_right (by decide)
  rw [← h]
  have e1 : ((2 ^ a : Nat) : Int) = 2 ^ a := by rw [Int.natCast_pow]; rfl
  have e2 : ((2 ^ b : Nat) : Int) = 2 ^ b := by rw [Int.natCast_pow]; rfl
  rw [← e1, ← e2]
  omega
section
variable {P : Program} {w : World} {K : PySem.W.Frag} {mg : Str → Option Value} {base : Heap}
set_option pp.maxSteps 3000
abbrev sSeatedL : Stmt := topS 39
theorem scSeatedL : FnScope ["space", "point", "grain", "row", "width", "level", "turn", "corners", "tips"] ["space", "point", "grain", "row"] (defScope sSeatedL) := ⟨rfl, rfl, rfl, by decide +kernel, rfl, by decide +kernel, by decide +kernel⟩
theorem okSeatedL {f : Addr} {fd : FuncData} (F : Fun K "_law_seated" "_law_seated" sSeatedL f fd) (T : Tx mg) {CN : Addr} (KDGrainOf : Dk P w K mg base (L2N.CX P w) "grain_of" 5 ["space", "point"] (spNw CN pGrain)) (KDOpenOf : Dk P w K mg base (L2N.CX P w) "open_of" 5 ["space", "point"] (spNw CN pOpen)) (KDLevelOf : Dk P w K mg base (L2N.CX P w) "level_of" 5 ["space", "point"] (spNw CN pLevel)) (KDGenerationOf : Dk P w K mg base (L2N.CX P w) "generation_of" 6 ["space", "point"] (spGenOf CN)) (KDSeatOf : Dk P w K mg base (L2N.CX P w) "seat_of" 5 ["space", "point"] (spNw CN pSeat)) (KDTipsOf : Dk P w K mg base (L2N.CX P w) "tips_of" 5 ["space", "point"] (spNw CN pTips)) (KDSeatCorners : Dk P w K mg base (L2N.CX P w) "seat_corners" 5 ["space", "point"] (spNw CN pCor)) (DPowerL : Dn P w K mg base CX0 "_law_power" 1 ["many"] spPower) (DCornersL : Dn P w K mg base CX0 "_law_corners" 1 ["point", "grain", "row"] spCorners) (DSameL : Dn P w K mg base CX0 "_law_same" 4 ["got", "due"] (spSame 2)) (DTipL : Dn P w K mg base CX0 "_law_tip" 1 ["point", "grain", "row", "odd"] spTipL) (DIsNew : Dn P w K mg base CX0 "is_new" 4 ["space", "thing"] spIsNew)  : FnOk P w K mg base CX0 7 f fd ["space", "point", "grain", "row"] spSeated := by
  refine F.ok scSeatedL (fun vs H Q E h => ?_) (fun cdv A outer s H vs Q E hr h => ?_)
  · obtain ⟨s, p, rw, n, r, ns, k, rfl, _⟩ := h
    rfl
  · obtain ⟨s, p, rw, n, r, ns, k, rfl, hS, e, ln, G, hk, er, kk⟩ := h
    refine ⟨_, (pss_cons (ps_set (i := 4) scSeatedL.nd rfl (Or.inl rfl) (pe_dn DPowerL (hr.mono (by omega)) (pa_cons (pe_ix ix_tup (pv 0) pe_int (fun _ _ => rfl)) pa_nil)))
    (pss_cons (ps_set (i := 5) scSeatedL.nd rfl (Or.inl rfl) pe_int)
    (C8.pss_cut (ps_for PassesOwn.never rfl (pi_range1 rfl T.n_range (pa_cons (pe_ix ix_tup (pv 0) pe_int (fun _ _ => rfl)) pa_nil)) (pg_name (i := 6) scSeatedL.nd rfl (Or.inl rfl))
    (pss_one (ps_if (pt_cmpR op_gt (pv 4) (pe_op op_mulW pe_int (pv 2)) (nomark _))
      (pss_cons (ps_set (i := 4) scSeatedL.nd rfl (Or.inl rfl) (pe_op op_fdiv (pv 4) pe_int))
        (pss_one (ps_set (i := 5) scSeatedL.nd rfl (Or.inl rfl) (pe_op op_add (pv 5) pe_int))))
      pss_nil)))
    (pss_cons (ps_set (i := 7) scSeatedL.nd rfl (Or.inl rfl) (pe_dn DCornersL (hr.mono (by omega)) (pa_cons (pv 1) (pa_cons (pv 2) (pa_cons (pv 3) pa_nil)))))
    (pss_cons (ps_if (pt_not (pt_val (pe_dn DSameL (hr.mono (by omega)) (pa_cons (pe_dnKx KDGrainOf (hr.mono (by omega)) passN0' (pk_cons (pv 1) (pk_cons (pv 0) pk_nil))) (pa_cons (pv 2) pa_nil)))))
    (pss_one (ps_ret pe_bl))
    pss_nil)
    (pss_cons (ps_if (pt_not (pt_val (pe_dn DSameL (hr.mono (by omega)) (pa_cons (pe_dnKx KDOpenOf (hr.mono (by omega)) passN0' (pk_cons (pv 1) (pk_cons (pv 0) pk_nil))) (pa_cons (pv 3) pa_nil)))))
    (pss_one (ps_ret pe_bl))
    pss_nil)
    (pss_cons (ps_if (pt_not (pt_val (pe_dn DSameL (hr.mono (by omega)) (pa_cons (pe_dnKx KDLevelOf (hr.mono (by omega)) passN0' (pk_cons (pv 1) (pk_cons (pv 0) pk_nil))) (pa_cons (pv 5) pa_nil)))))
    (pss_one (ps_ret pe_bl))
    pss_nil)
    (pss_cons (ps_if (pt_not (pt_val (pe_dn DSameL (hr.mono (by omega)) (pa_cons (pe_dnKx KDGenerationOf (hr.mono (by omega)) passN0' (pk_cons (pv 1) (pk_cons (pv 0) pk_nil))) (pa_cons (pe_op op_sub (pe_op op_mulW (pe_ix ix_tup (pv 0) pe_int (fun _ _ => rfl)) (pe_op op_add (pv 5) pe_int)) (pe_callB call_len (by rfl) T.n_len (by decide +kernel) (pa_cons (pv 3) pa_nil))) pa_nil)))))
    (pss_one (ps_ret pe_bl))
    pss_nil)
    (pss_cons (ps_if (pt_not (pt_val (pe_dn DSameL (hr.mono (by omega)) (pa_cons (pe_dnKx KDSeatOf (hr.mono (by omega)) passN0' (pk_cons (pv 1) (pk_cons (pv 0) pk_nil))) (pa_cons (pe_tup (pa_cons (pe_ix ix_tup (pv 7) pe_int (fun _ _ => rfl)) (pa_cons (pe_ix ix_tup (pv 7) (pe_un un_neg pe_int) (fun _ _ => rfl)) pa_nil))) pa_nil)))))
    (pss_one (ps_ret pe_bl))
    pss_nil)
    (pss_cons (ps_set (i := 8) scSeatedL.nd rfl (Or.inl rfl) (pe_tup (pa_cons (pe_dn DTipL (hr.mono (by omega)) (pa_cons (pv 1) (pa_cons (pv 2) (pa_cons (pv 3) (pa_cons pe_int pa_nil))))) (pa_cons (pe_dn DTipL (hr.mono (by omega)) (pa_cons (pv 1) (pa_cons (pv 2) (pa_cons (pv 3) (pa_cons pe_int pa_nil))))) pa_nil))))
    (pss_cons (ps_if (pt_not (pt_val (pe_dn DSameL (hr.mono (by omega)) (pa_cons (pe_dnKx KDTipsOf (hr.mono (by omega)) passN0' (pk_cons (pv 1) (pk_cons (pv 0) pk_nil))) (pa_cons (pv 8) pa_nil)))))
    (pss_one (ps_ret pe_bl))
    pss_nil)
    (pss_one (ps_ret (pe_and (pe_dn DSameL (hr.mono (by omega)) (pa_cons (pe_dnKx KDSeatCorners (hr.mono (by omega)) passN0' (pk_cons (pv 1) (pk_cons (pv 0) pk_nil))) (pa_cons (pv 7) pa_nil))) (pe_one (pe_cmpR op_is_bl (pe_dn DIsNew (hr.mono (by omega)) (pa_cons (pv 0) (pa_cons (pv 1) pa_nil))) pe_bl (nomark _))))))))))))))))), ?_⟩
    have st0 : L2.start ["space", "point", "grain", "row", "width", "level", "turn", "corners", "tips"] [V.ref s, V.ref p, V.int (2 ^ k), V.ref rw] = [some (V.ref s), some (V.ref p), some (V.int (2 ^ k)), some (V.ref rw), none, none, none, none, none] := rfl
    rw [st0]
    have es := hS.1
    have n2 := hS.2.1
    have n3 := hS.2.2.1
    have q8 := hS.2.2.2
    have wk := wide_k (k := k) (by omega)
    walk_at "rds"
    refine ⟨r, rfl, by omega, by omega, ?_⟩
    walk_at "rds"
    refine cut_at (fun σ' H' => H' = H ∧ ∃ u, σ' = [some (.ref s), some (.ref p), some (.int (2 ^ k)), some (.ref rw), some (.int (2 ^ (r.toNat - min r.toNat (r.toNat - (k + 1))))), some (.int ((min r.toNat (r.toNat - (k + 1)) : Nat) : Int)), u, none, none]) ?_ ?_
    · walk_at "rds"
      refine ⟨by omega, by omega, ?_⟩
      refine for_range (lo := 0) (n := r.toNat) (fun t σ' H' => H' = H ∧ ∃ u, σ' = [some (.ref s), some (.ref p), some (.int (2 ^ k)), some (.ref rw), some (.int (2 ^ (r.toNat - min t (r.toNat - (k + 1))))), some (.int ((min t (r.toNat - (k + 1)) : Nat) : Int)), u, none, none]) ⟨rfl, none, by simp⟩ ?_ (fun σ' H' h => h)
      rintro t σ' H' ht ⟨rfl, u, rfl⟩
      walk_at "rds"
      refine Rd.ifB (fun h => ?_) fun h => ?_
      · have h := of_decide_eq_true h
        rw [show (2 : Int) * 2 ^ k = 2 ^ (k + 1) by rw [Int.pow_succ, Int.mul_comm]] at h
        have h := pow_lt.mp h
        have h1 : min t (r.toNat - (k + 1)) = t := by omega
        have h2 : min (t + 1) (r.toNat - (k + 1)) = t + 1 := by omega
        rw [h1, h2]
        walk_at "rds"
        refine ⟨some (.int (0 + (t : Int))), ?_⟩
        have e2 : (2 : Int) ^ (r.toNat - t) / 2 = 2 ^ (r.toNat - (t + 1)) := by
          rw [show r.toNat - t = r.toNat - (t + 1) + 1 by omega, Int.pow_succ]
          exact Int.mul_ediv_cancel _ (by decide)
        rw [e2]
        rfl
      · have h := of_decide_eq_false h
        rw [show (2 : Int) * 2 ^ k = 2 ^ (k + 1) by rw [Int.pow_succ, Int.mul_comm]] at h
        have h : ¬ k + 1 < r.toNat - min t (r.toNat - (k + 1)) := fun z => h (pow_lt.mpr z)
        have h2 : min (t + 1) (r.toNat - (k + 1)) = min t (r.toNat - (k + 1)) := by omega
        rw [h2]
        walk_at "rds"
        exact ⟨_, rfl⟩
    rintro _ _ ⟨rfl, u, rfl⟩
    have lv : ((min r.toNat (r.toNat - (k + 1)) : Nat) : Int) = r - ((k + 1 : Nat) : Int) := by omega
    rw [lv]
    walk_at "rds"
    refine ⟨p, rw, ns, k, rfl, e, er, by omega, fun pc ws H1 ec tc t1 => ?_⟩
    have hS1 := hS.to t1
    have e1 := t1 _ _ e
    have er1 := t1 _ _ er
    walk_at "rds"
    refine nw_of hS1 e1 ln G hk fun ns' k' _ g _ H2 t2 => ?_
    rw [gr_one g G]
    walk_at "rds"
    refine ⟨_, _, .int (2 ^ k), rfl, .int _, .int _, True.intro, fun H3 t3 => ?_⟩
    have s3 := t2.trans t3
    have hS3 := hS1.to s3
    have e3 := s3 _ _ e1
    have er3 := s3 _ _ er1
    have ec3 := s3 _ _ ec
    have tc3 := tc.to s3
    clear ec tc t2 t3
    walk_at "rds"
    refine nw_of hS3 e3 ln G hk fun ns' k' _ g _ q4 H4 e4 t4 => ?_
    rw [gr_one g G] at e4
    walk_at "rds"
    have lo : (opV ns k).length ≤ 1000 := by have := op_len ns k; rw [List.length_map]; omega
    refine ⟨_, _, .tuple ((opV ns k).map PyData.int), rfl, rp_row e4 lo, rp_row (t4 _ _ er3) lo, sd_row, fun H5 t5 => ?_⟩
    have s5 := t4.trans t5
    have hS5 := hS3.to s5
    have e5 := s5 _ _ e3
    have er5 := s5 _ _ er3
    have ec5 := s5 _ _ ec3
    have tc5 := tc3.to s5
    clear e4 t4 t5 ec3 tc3
    walk_at "rds"
    refine nw_of hS5 e5 ln G hk fun ns' k' _ g _ H6 t6 => ?_
    rw [gr_one g G]
    walk_at "rds"
    refine ⟨_, _, .int (r - ((k + 1 : Nat) : Int)), rfl, .int _, .int _, True.intro, fun H7 t7 => ?_⟩
    have s7 := t6.trans t7
    have hS7 := hS5.to s7
    have e7 := s7 _ _ e5
    have er7 := s7 _ _ er5
    have ec7 := s7 _ _ ec5
    have tc7 := tc5.to s7
    have es7 := hS7.1
    clear t6 t7 ec5 tc5
    have wg : CMulW n (r - ((k + 1 : Nat) : Int) + 1) := by
      show n.natAbs.log2 + (r - ((k + 1 : Nat) : Int) + 1).natAbs.log2 < 1000000
      have l1 := Nat.log2_le_self n.natAbs
      have l2 := Nat.log2_le_self (r - ((k + 1 : Nat) : Int) + 1).natAbs
      omega
    walk_at "rds"
    refine ⟨s, n, r, _, _, rfl, hS7, rp_row e7 (by omega), (fun z => by rw [row_true ln] at z; cases z), fun ns' z1 _ => ⟨fun z => ?_, fun k' g _ H8 t8 => ?_⟩⟩
    · have : ns = ns' := by
        injection z1 with z1
        have := congrArg intsOf z1
        rwa [intsOf_map, intsOf_map] at this
      rw [← this, gr_newL G hk] at z
      cases z
    have : ns = ns' := by
      injection z1 with z1
      have := congrArg intsOf z1
      rwa [intsOf_map, intsOf_map] at this
    subst this
    rw [gr_one g G]
    have er8 := t8 _ _ er7
    have es8 := t8 _ _ es7
    walk_at "rds"
    rw [← gen_eq]
    refine ⟨_, _, .int (genV n r ns k), rfl, .int _, .int _, True.intro, fun H9 t9 => ?_⟩
    have s9 := t8.trans t9
    have hS9 := hS7.to s9
    have e9 := s9 _ _ e7
    have er9 := s9 _ _ er7
    have ec9 := s9 _ _ ec7
    have tc9 := tc7.to s9
    clear t8 t9 ec7 tc7 er8 es8 es7 z1
    obtain ⟨p0, w0, f0⟩ := tc9.first (cor_head k ns)
    obtain ⟨vs0, pl, w1, f1⟩ := tc9.last (cor_last k ns)
    have ll : (ns.map (lowOf k)).length ≤ 1000 := by rw [List.length_map]; omega
    have lh : (ns.map (highOf k)).length ≤ 1000 := by rw [List.length_map]; omega
    walk_at "rds"
    refine nw_of hS9 e9 ln G hk fun ns' k' z g _ q10 a10 b10 H10 e10 ea10 eb10 t10 => ?_
    subst z
    rw [gr_one g G] at ea10 eb10
    have ec10 := t10 _ _ ec9
    walk_at "rds"
    refine Rd.ixT ec10 (atI_nat (j := 0) w0) ?_
    walk_at "rds"
    refine Rd.ixT ec10 (by rw [w1]; exact atI_last _ _) ?_
    walk_at "rds"
    rename_i p11 m11 H11 g11 e11 t11
    refine ⟨_, _, .tuple [.tuple ((ns'.map (lowOf k)).map PyData.int), .tuple ((ns'.map (highOf k)).map PyData.int)], rfl, .tup (t11 _ _ e10) (.cons (rp_row (t11 _ _ ea10) ll) (.cons (rp_row (t11 _ _ eb10) lh) .nil)) (by show 2 ≤ 1000; decide), .tup e11 (.cons (rp_row (t11 _ _ (t10 _ _ f0)) ll) (.cons (rp_row (t11 _ _ (t10 _ _ f1)) lh) .nil)) (by show 2 ≤ 1000; decide), ?_, fun H12 t12 => ?_⟩
    · intro x hx
      rcases List.mem_cons.mp hx with rfl | hx
      · exact sd_row
      · rcases List.mem_cons.mp hx with rfl | hx
        · exact sd_row
        · cases hx
    have s12 := (t10.trans t11).trans t12
    have hS12 := hS9.to s12
    have e12 := s12 _ _ e9
    have er12 := s12 _ _ er9
    have ec12 := s12 _ _ ec9
    have tc12 := tc9.to s12
    clear t10 t11 t12 e10 ea10 eb10 e11 g11 m11 ec9 tc9 ec10 f0 f1
    walk_at "rds"
    refine ⟨p, rw, ns', k, 0, rfl, .inl rfl, e12, er12, by omega, by omega, fun q13 H13 e13 t13 => ?_⟩
    walk_at "rds"
    refine ⟨p, rw, ns', k, 1, rfl, .inr rfl, t13 _ _ e12, t13 _ _ er12, by omega, by omega, fun q14 H14 e14 t14 => ?_⟩
    walk_at "rds"
    rename_i p15 m15 H15 g15 e15 t15
    have s15 := (t13.trans t14).trans t15
    have hS15 := hS12.to s15
    have e15' := s15 _ _ e12
    have ec15 := s15 _ _ ec12
    have tc15 := tc12.to s15
    have e13' : Tup H15 q13 (ns'.map (tip0 k)) := t15 _ _ (t14 _ _ e13)
    have e14' : Tup H15 q14 (ns'.map (tip1 k)) := t15 _ _ e14
    have l0 : (ns'.map (tip0 k)).length ≤ 1000 := by rw [List.length_map]; omega
    have l1 : (ns'.map (tip1 k)).length ≤ 1000 := by rw [List.length_map]; omega
    clear t13 t14 t15 e13 e14 ec12 tc12 g15 m15
    refine nw_of hS15 e15' ln G hk fun ns'' k'' z g' _ q16 a16 b16 H16 e16 ea16 eb16 t16 => ?_
    subst z
    rw [gr_one g' G] at ea16 eb16
    walk_at "rds"
    refine ⟨_, _, .tuple [.tuple ((ns''.map (tip0 k)).map PyData.int), .tuple ((ns''.map (tip1 k)).map PyData.int)], rfl, .tup e16 (.cons (rp_row ea16 l0) (.cons (rp_row eb16 l1) .nil)) (by show 2 ≤ 1000; decide), .tup (t16 _ _ e15) (.cons (rp_row (t16 _ _ e13') l0) (.cons (rp_row (t16 _ _ e14') l1) .nil)) (by show 2 ≤ 1000; decide), ?_, fun H17 t17 => ?_⟩
    · intro x hx
      rcases List.mem_cons.mp hx with rfl | hx
      · exact sd_row
      · rcases List.mem_cons.mp hx with rfl | hx
        · exact sd_row
        · cases hx
    have s17 := t16.trans t17
    have hS17 := hS15.to s17
    have e17 := s17 _ _ e15'
    have ec17 := s17 _ _ ec15
    have tc17 := tc15.to s17
    clear t16 t17 e16 ea16 eb16 e15 e13' e14' ec15 tc15
    walk_at "rds"
    refine nw_of hS17 e17 ln G hk fun ns3 k3 z g' _ q18 w18 H18 e18 tc18 t18 => ?_
    subst z
    rw [gr_one g' G] at tc18
    have lc : ∀ c ∈ corL k ns3, c.length ≤ 1000 := fun c hc => by
      have := ch_each (k := k) (ns := ns3) (by omega) ns3.length c (by rw [show (ns3.map (endsOf k)).take ns3.length = ns3.map (endsOf k) by rw [← List.length_map (f := endsOf k) (as := ns3), List.take_length]]; exact hc)
      omega
    have lw : (dTs (corL k ns3)).length ≤ 1000 := by
      have := ch_len (k := k) (ns := ns3) (by omega) ns3.length
      rw [show (ns3.map (endsOf k)).take ns3.length = ns3.map (endsOf k) by rw [← List.length_map (f := endsOf k) (as := ns3), List.take_length]] at this
      unfold dTs
      rw [List.length_map]
      exact this
    walk_at "rds"
    refine ⟨_, _, .tuple (dTs (corL k ns3)), rfl, .tup e18 (tc18.rp lc) lw, .tup (t18 _ _ ec17) ((tc17.to t18).rp lc) lw, sd_ts, fun H19 t19 => ?_⟩
    have s19 := t18.trans t19
    walk_at "rds"
    refine ⟨s, n, r, _, _, rfl, hS17.to s19, rp_row (s19 _ _ e17) (by omega), fun H20 t20 => ?_⟩
    have dn : dNew n r (.tuple (ns3.map PyData.int)) = true := by
      unfold dNew
      rw [row_true ln, Bool.true_and]
      show newL r (intsOf (ns3.map PyData.int)) = _
      rw [intsOf_map, gr_newL G hk]
    rw [dn]
    walk_at "rds"
    exact kk _ (by walk_at "same")
end
end K17
end SecK6
section SecK7
set_option Elab.async false
set_option linter.all false
set_option maxRecDepth 100000
set_option maxHeartbeats 4000000
set_option pp.deepTerms false
local macro_rules | `(tactic| walk_at "tq") => `(tactic| first | assumption | (refine' Dt.Tq.to ?s0 ?h0; (case h0 => assumption); (case s0 => walk_at "same")))
local macro_rules | `(tactic| walk_at "same") => `(tactic| first | exact L2.Same.refl _ | assumption | (refine' L2.Same.trans ?s1 ?s2; (case s2 => assumption); (case s1 => walk_at "same")))
local macro_rules | `(tactic| walk_at "sam") => `(tactic| first | exact Dt.Sam.refl | assumption | exact Dt.Sam.of (by assumption) | (refine' Dt.Sam.trans ?s1 ?s2; (case s2 => first | assumption | exact Dt.Sam.of (by assumption)); (case s1 => walk_at "sam")))
local macro_rules | `(tactic| walk_at "tape") => `(tactic| first | assumption | (refine' Dt.Tape.mono ?h0 ?s0; (case h0 => assumption); (case s0 => walk_at "same")))
local macro_rules | `(tactic| walk_at "nt") => `(tactic| first | exact Dt.nt_tup | exact Dt.nt_ints | assumption | (intro a0 b0 c0 l0 z0; cases z0) | (intro a0 b0 c0 l0 z0; simp at z0))
local macro_rules | `(tactic| walk_at "heap") => `(tactic| first | assumption | exact L2.upd_same | (refine' Rd.at_to ?s0 ?h0; (case h0 => assumption); (case s0 => walk_at "same")) | (refine' Dt.at_sam ?n0 ?s0 ?h0; (case h0 => assumption); (case n0 => walk_at "nt"); (case s0 => walk_at "sam")))
local macro_rules | `(tactic| walk_at "rp") => `(tactic| first | exact Dt.Rp.int _ | exact Dt.Rp.bl _ | exact Dt.Rp.str _ | exact Dt.Rp.non | assumption | (refine' Dt.Rp.sm ?s0 ?h0; (case h0 => assumption); (case s0 => walk_at "sam")) | (refine' Dt.Rp.tup ?h1 ?h2 ?h3; (case h1 => walk_at "heap"); (case h2 => walk_at "rps"); (case h3 => first | assumption | (show _ ≤ 1000; decide) | (show _ ≤ 1000; simp) | (show _ ≤ 1000; omega))) | (refine' Dt.Rp.lst ?h1 ?h2 ?h3 ?h4; (case h1 => walk_at "heap"); (case h2 => walk_at "rps"); (case h3 => first | assumption | (show _ ≤ 1000; decide) | (show _ ≤ 1000; simp) | (show _ ≤ 1000; omega)); (case h4 => walk_at "nt")))
local macro_rules | `(tactic| walk_at "rps") => `(tactic| first | exact Dt.RpAll.nil | assumption | (refine' Dt.RpAll.cons ?h1 ?h2; (case h1 => walk_at "rp"); (case h2 => walk_at "rps")) | (refine' Dt.RpAll.sm ?s0 ?h0; (case h0 => assumption); (case s0 => walk_at "sam")))
local macro_rules | `(tactic| walk_at "rd") => `(tactic| first
  | with_reducible refine Rd.seq ?_ | with_reducible refine Rd.asg ?_ | with_reducible refine Rd.nm ?_ | with_reducible refine Rd.sub ?_ | with_reducible refine Rd.ret ?_ | with_reducible refine Rd.retN ?_
  | with_reducible refine Rd.drop ?_ | with_reducible refine Rd.ifs ?_ | with_reducible refine Rd.next ?_ | with_reducible refine Rd.cst ?_ | with_reducible refine Rd.op ?_ | with_reducible refine Rd.un ?_
  | with_reducible refine Rd.test ?_ | with_reducible refine Rd.tb' ?_ | with_reducible refine Rd.exb ?_ | with_reducible refine Rd.exi ?_ | with_reducible refine Rd.and2 ?_ | with_reducible refine Rd.or2 ?_ | with_reducible refine Rd.not1 ?_
  | with_reducible refine Rd.andV ?_ | with_reducible refine Rd.orV ?_ | with_reducible refine Rd.notV ?_ | with_reducible refine Rd.nil ?_ | with_reducible refine Rd.cons ?_ | with_reducible refine Rd.cb ?_
  | with_reducible refine Rd.i0 ?_ | with_reducible refine Rd.u1 ?_ | with_reducible refine Rd.call ?_ | with_reducible refine Rd.tup ?_ | with_reducible refine Rd.lst ?_ | with_reducible refine Rd.sl ?_ | with_reducible refine Rd.no ?_ | with_reducible refine Rd.part ?_ | with_reducible refine Rd.at_ ?_ | with_reducible refine Rd.yes ?_ | with_reducible refine Rd.fors ?_ | with_reducible refine Rd.m1 ?_ | with_reducible refine Rd.exs ?_ | with_reducible refine Rd.lc ?_ | with_reducible refine Rd.rng ?_
  | with_reducible refine Rd.mkv ?_ | with_reducible refine Rd.mko ?_ | with_reducible refine Rd.callB ?_ | with_reducible refine Rd.callS ?_ | with_reducible refine Rd.bm ?_ | with_reducible refine Rd.itl ?_ | with_reducible refine Rd.itt ?_
  | ((with_reducible refine' And.intro ?hl ?_); (case hl => ((with_reducible show List.length _ ≤ PySem.sizeLine); (show _ ≤ PySem.sizeLine); rw [PySem.sizeLine_eq]; simp)))
  | (intro p0 n0; generalize hK0 : L2.upd _ p0 _ = K0; obtain ⟨e0, t0⟩ := Dt.newK hK0 n0)
  | ((with_reducible refine' Rd.lenKL ?he ?_); (case he => walk_at "heap")) | ((with_reducible refine' Rd.lenKT ?he ?_); (case he => walk_at "heap"))
  | ((with_reducible refine' Rd.var ?hv ?_); (case hv => exact rfl))
  | ((with_reducible refine' Rd.ifT ?hv ?_); (case hv => first | exact rfl | assumption)) | ((with_reducible refine' Rd.ifF ?hv ?_); (case hv => first | exact rfl | assumption))
  | ((with_reducible refine' Rd.eq ?hv ?_); (case hv => exact rfl))
  | ((with_reducible refine' Rd.ne ?hv ?_); (case hv => exact rfl))
  | ((with_reducible refine' Dt.isi_int ?hr ?_); (case hr => walk_at "rp")) | ((with_reducible refine' Dt.isi_bool ?hr ?_); (case hr => walk_at "rp")) | ((with_reducible refine' Dt.isi_tuple ?hr ?_); (case hr => walk_at "rp")) | ((with_reducible refine' Dt.isi_str ?hr ?_); (case hr => walk_at "rp")) | ((with_reducible refine' Dt.isi_list ?hr ?_); (case hr => walk_at "rp"))
  | with_reducible refine ⟨rfl, ?_⟩ | with_reducible refine Or.inl ⟨_, rfl, ?_⟩ | with_reducible refine Or.inr ⟨_, rfl, ?_⟩ | with_reducible refine ⟨_, rfl, ?_⟩
  | ((with_reducible refine' Rd.ex2 ⟨rfl, ?hl, ?_⟩); (case hl => first | exact Or.inl ⟨_, L2.SqL.of (by walk_at "heap"), rfl⟩ | exact Or.inr ⟨_, L2.SqT.of (by walk_at "heap"), rfl⟩))
  | ((with_reducible refine' Rd.i1 ?hv ?_); (case hv => first | exact ⟨by decide, by decide, by decide⟩ | exact Or.inr ⟨by decide, by decide⟩ | exact Or.inl ⟨by decide, by decide⟩ | exact ⟨by decide, by decide⟩ | decide | assumption | (show _ ≠ _; omega) | (refine ⟨?_, ?_⟩ <;> omega) | (refine Or.inl ⟨?_, ?_⟩ <;> omega)))
  | ((with_reducible refine' Rd.ixL ?he ?hx ?_); (case he => walk_at "heap"); (case hx => rfl))
  | ((with_reducible refine' Rd.ixT ?he ?hx ?_); (case he => walk_at "heap"); (case hx => rfl))
  | ((with_reducible refine' Rd.setL ?he ?hx ?_); (case he => first | assumption | exact L2.upd_same); (case hx => rfl)))
local macro_rules | `(tactic| walk_at "rd") => `(tactic| first | with_reducible refine Rd.isT ?_ | with_reducible refine Rd.isnT ?_ | with_reducible refine Rd.ife ?_)
local macro_rules | `(tactic| walk_at "rd") => `(tactic| first | ((with_reducible refine' Rd.gtup ?he ?hl ?_); (case he => walk_at "heap"); (case hl => exact rfl)) | with_reducible refine Rd.brk ?_ | with_reducible refine Rd.callR ?_ | ((with_reducible refine' ⟨_, _, rfl, Or.inl ⟨L2.SqL.of ?hp, ?_⟩⟩); (case hp => walk_at "heap")) | ((with_reducible refine' ⟨_, _, rfl, Or.inl (L2.SqL.of ?hp), ?_⟩); (case hp => walk_at "heap")) | ((with_reducible refine' Rd.catL ?hp ?hq ?hl ?_); (case hp => walk_at "heap"); (case hq => walk_at "heap"); (case hl => (simp only [List.length_map, List.length_append, List.length_cons, List.length_nil]; omega)); (intro r0 J0 e0 t0 n0)) | with_reducible refine Rd.bits ?_ | with_reducible refine Rd.max2 ?_ | with_reducible refine Rd.gcons ?_ | with_reducible refine Rd.gnil ?_)
local macro_rules | `(tactic| walk_at "rds") => `(tactic| repeat (first | walk_at "rd" | assumption))
namespace K17
open PySem PySem.Spec PyProof.Rows L2 L2H Err Dt
open Bt
theorem huR {k : Nat} {A : Around} (r : Room k A) : A.units + 64 < cLine := by
  have := r.un
  omega
/-- the error's fields, as its dict has them -/
abbrev nuF (w : Str) (i : Int) : List (Str × V) := [(("at" : Str), .int i), (("word" : Str), .str w)]
structure Nk (P : Program) (w : World) (K : PySem.W.Frag) (mg : Str → Option Value) (base : Heap) (CN SH ME : Addr) : Prop where
  L : Kl P w K mg base "NotUsable" CN ["word", "at"]
  gS : mg "ShapeError" = some (.ref SH)
  gM : mg "MeshError" = some (.ref ME)
  kS : PySem.W.kitOne K (.ref CN) (.ref SH) = some true
  kV : PySem.W.kitOne K (.ref CN) (.type "ValueError") = some true
  xN : PySem.W.exmOne K (.ref CN) (.ref CN) = some true
/-- is it refused -/
def tR (i n r : Int) (d : PyData) : Bool := if i = 6 then !dRow n d else !dNew n r d
theorem new_true {n r : Int} {ns : List Int} {k : Nat} (ln : (ns.length : Int) = n) (G : Gr ns k) (hk : (k : Int) < r) : dNew n r (.tuple (ns.map PyData.int)) = true := by
  unfold dNew
  rw [row_true ln, Bool.true_and]
  show newL r (intsOf (ns.map PyData.int)) = _
  rw [intsOf_map, gr_newL G hk]
def spTold : Sp := fun vs H Q _ => ∃ (i : Int) (s : Addr) (n r : Int) (v : V) (d : PyData), vs = [.int i, .ref s, v] ∧ 0 ≤ i ∧ i ≤ 6 ∧ Space H s n r ∧ Rp H v d ∧
  (tR i n r d = true → ∀ (p : Addr) (H' : Hp), H' p = some (.tup [.str "point", .int (-1)]) → Same H H' → Q (.ref p) H') ∧
  (tR i n r d = false → ∀ (p : Addr) (H' : Hp), H' p = some (.tup [.str "let", .int 0]) → Same H H' → Q (.ref p) H')
section
variable {P : Program} {w : World} {K : PySem.W.Frag} {mg : Str → Option Value} {base : Heap}
set_option pp.maxSteps 3000
abbrev sToldL : Stmt := topS 40
theorem scToldL : FnScope ["which", "space", "thing", "e"] ["which", "space", "thing"] (defScope sToldL) := ⟨rfl, rfl, rfl, by decide +kernel, rfl, by decide +kernel, by decide +kernel⟩
theorem okToldL {f : Addr} {fd : FuncData} (F : Fun K "_law_told" "_law_told" sToldL f fd) (T : Tx mg) {CN SH ME : Addr} (C : Nk P w K mg base CN SH ME) (DWholeM : Dm P w K mg base "_law_whole" 1 ["thing"] (fun _ => spIsInt)) (DGrainOf : Dn P w K mg base (L2N.CX P w) "grain_of" 5 ["space", "point"] (spNw CN pGrain)) (DOpenOf : Dn P w K mg base (L2N.CX P w) "open_of" 5 ["space", "point"] (spNw CN pOpen)) (DLevelOf : Dn P w K mg base (L2N.CX P w) "level_of" 5 ["space", "point"] (spNw CN pLevel)) (DGenerationOf : Dn P w K mg base (L2N.CX P w) "generation_of" 6 ["space", "point"] (spGenOf CN)) (DSeatOf : Dn P w K mg base (L2N.CX P w) "seat_of" 5 ["space", "point"] (spNw CN pSeat)) (DTipsOf : Dn P w K mg base (L2N.CX P w) "tips_of" 5 ["space", "point"] (spNw CN pTips)) (DSeatCorners : Dn P w K mg base (L2N.CX P w) "seat_corners" 5 ["space", "point"] (spNw CN pCor))  : FnOk P w K mg base CX0 7 f fd ["which", "space", "thing"] spTold := by
  refine F.ok scToldL (fun vs H Q E h => ?_) (fun cdv A outer s H vs Q E hr h => ?_)
  · obtain ⟨i, s, n, r, v, d, rfl, _⟩ := h
    rfl
  · obtain ⟨i, s, n, r, v, d, rfl, i0, i6, hS, r1, k1, k2⟩ := h
    refine ⟨_, (pss_cons (ps_trys (Wout := fun _ _ _ _ => False) rfl rfl scToldL.nd takes0N
    (fun W pn xe tk _ => (pss_one (ps_if (pt_cmpR op_eq (pv 0) pe_int (nomark _))
      (pss_one (ps_expr (pe_dnS DGrainOf (hr.mono (by omega)) tk (pa_cons (pv 1) (pa_cons (pv 2) pa_nil)))))
      (pss_one (ps_if (pt_cmpR op_eq (pv 0) pe_int (nomark _))
        (pss_one (ps_expr (pe_dnS DOpenOf (hr.mono (by omega)) tk (pa_cons (pv 1) (pa_cons (pv 2) pa_nil)))))
        (pss_one (ps_if (pt_cmpR op_eq (pv 0) pe_int (nomark _))
          (pss_one (ps_expr (pe_dnS DLevelOf (hr.mono (by omega)) tk (pa_cons (pv 1) (pa_cons (pv 2) pa_nil)))))
          (pss_one (ps_if (pt_cmpR op_eq (pv 0) pe_int (nomark _))
            (pss_one (ps_expr (pe_dnS DSeatOf (hr.mono (by omega)) tk (pa_cons (pv 1) (pa_cons (pv 2) pa_nil)))))
            (pss_one (ps_if (pt_cmpR op_eq (pv 0) pe_int (nomark _))
              (pss_one (ps_expr (pe_dnS DTipsOf (hr.mono (by omega)) tk (pa_cons (pv 1) (pa_cons (pv 2) pa_nil)))))
              (pss_one (ps_if (pt_cmpR op_eq (pv 0) pe_int (nomark _))
                (pss_one (ps_expr (pe_dnS DSeatCorners (hr.mono (by omega)) tk (pa_cons (pv 1) (pa_cons (pv 2) pa_nil)))))
                (pss_one (ps_expr (pe_dnS DGenerationOf (hr.mono (by omega)) tk (pa_cons (pv 1) (pa_cons (pv 2) pa_nil))))))))))))))))))
    (ClOk.as (i := 3) (ts := (fun a cls d => tsAll cls d fun oe pn => _)) (tst_name ⟨rfl, by decide, .inl C.L.g⟩) rfl rfl (fun a oe cls d pn hz hf => pss_all (pn := pn) hz hf (pss_one (ps_if (PW.pt (pw_and (pt_val (pe_callB call_isA (by rfl) T.n_isinstance (by decide +kernel) (pa_cons (pv 3) (pa_cons (pe_cls C.gS) pa_nil)))) (pw_and (pt_val (pe_callB call_isA (by rfl) T.n_isinstance (by decide +kernel) (pa_cons (pv 3) (pa_cons (pe_bltn (v := .ty "ValueError") (u := .type "ValueError") rfl T.n_ValueError (by decide +kernel) rfl) pa_nil)))) (pw_and1 (pt_val (pe_dm DWholeM (roomH_mk (hr.mono (by omega)) _) (mood_suite hz hf) (pa_cons (pe_at (pv 3)) pa_nil)))))))
      (pss_one (ps_ret (pe_tup (pa_cons (pe_at (pv 3)) (pa_cons (pe_at (pv 3)) pa_nil)))))
      pss_nil)))
    (ClOk.only (ts := (fun a cls d => tsAll cls d fun oe pn => _)) (tst_name ⟨rfl, by decide, .inl C.gM⟩) (fun a oe cls d pn hz hf => pss_all (pn := pn) hz hf (pss_one (ps_ret (pe_tup (pa_cons pe_str (pa_cons pe_int pa_nil)))))) ClOk.nil)))
    (pss_one (ps_ret (pe_tup (pa_cons pe_str (pa_cons pe_int pa_nil)))))), ?_⟩
    have st0 : L2.start ["which", "space", "thing", "e"] [V.int i, V.ref s, v] = [some (V.int i), some (V.ref s), some (v), none] := rfl
    rw [st0]
    rcases (by omega : i = 0 ∨ i = 1 ∨ i = 2 ∨ i = 3 ∨ i = 4 ∨ i = 5 ∨ i = 6) with rfl | rfl | rfl | rfl | rfl | rfl | rfl
    · walk_at "rds"
      refine ⟨s, n, r, v, d, rfl, hS, r1, fun e1 => ?_, fun ns k e1 ln G hk => ?_⟩
      · skip
        intro dd H9 hd s9
        refine ⟨_, C.xN, fun _ a9 na => ?_, fun n => (by cases n)⟩
        intro oe pn hz hf
        have ec := C.L.ec
        have hE : ∀ {H'}, EAt ((a9, oe) :: pn) H' a9 CN (some dd) := fun {H'} => .inr ⟨oe, List.mem_cons_self, ⟨hz.1, hz.2.1⟩, hf⟩
        have hD : Err.Dk H9 dd (nuF "point" (-1)) := .inl hd
        have he : ErrX ((a9, oe) :: pn) H9 a9 CN (nuF "point" (-1)) := .inr ⟨dd, hE, hD⟩
        walk_at "rds"
        refine isA_of ec he (.own _) C.kS ?_
        walk_at "rds"
        refine isA_of ec he (.ty _) C.kV ?_
        walk_at "rds"
        refine ⟨a9, _, dd, _, .int (-1), rfl, ec, C.L.no _ (by exact List.mem_cons_of_mem _ List.mem_cons_self), EAt.seen hE, hD, by rfl, ?_⟩
        walk_at "rds"
        refine ⟨_, _, rfl, .int (-1), fun H10 t10 => ?_⟩
        have hD1 : Err.Dk H10 dd (nuF "point" (-1)) := .inl (t10 _ _ hd)
        walk_at "rds"
        refine ⟨a9, _, dd, _, .str "point", rfl, ec, C.L.no _ (by exact List.mem_cons_self), EAt.seen hE, hD1, by rfl, ?_⟩
        walk_at "rds"
        refine ⟨a9, _, dd, _, .int (-1), rfl, ec, C.L.no _ (by exact List.mem_cons_of_mem _ List.mem_cons_self), EAt.seen hE, hD1, by rfl, ?_⟩
        walk_at "rds"
        rename_i p11 m11 H11 g11 e11 t11
        exact k1 (by simp [tR, e1]) p11 _ e11 (by walk_at "same")
      · have dn := new_true (r := r) ln G hk
        rw [← e1] at dn
        intro H8 t8
        walk_at "rds"
        rename_i p11 m11 H11 g11 e11 t11
        exact k2 (by simp [tR, dn]) p11 _ e11 (by walk_at "same")
    · walk_at "rds"
      refine ⟨s, n, r, v, d, rfl, hS, r1, fun e1 => ?_, fun ns k e1 ln G hk => ?_⟩
      · skip
        intro dd H9 hd s9
        refine ⟨_, C.xN, fun _ a9 na => ?_, fun n => (by cases n)⟩
        intro oe pn hz hf
        have ec := C.L.ec
        have hE : ∀ {H'}, EAt ((a9, oe) :: pn) H' a9 CN (some dd) := fun {H'} => .inr ⟨oe, List.mem_cons_self, ⟨hz.1, hz.2.1⟩, hf⟩
        have hD : Err.Dk H9 dd (nuF "point" (-1)) := .inl hd
        have he : ErrX ((a9, oe) :: pn) H9 a9 CN (nuF "point" (-1)) := .inr ⟨dd, hE, hD⟩
        walk_at "rds"
        refine isA_of ec he (.own _) C.kS ?_
        walk_at "rds"
        refine isA_of ec he (.ty _) C.kV ?_
        walk_at "rds"
        refine ⟨a9, _, dd, _, .int (-1), rfl, ec, C.L.no _ (by exact List.mem_cons_of_mem _ List.mem_cons_self), EAt.seen hE, hD, by rfl, ?_⟩
        walk_at "rds"
        refine ⟨_, _, rfl, .int (-1), fun H10 t10 => ?_⟩
        have hD1 : Err.Dk H10 dd (nuF "point" (-1)) := .inl (t10 _ _ hd)
        walk_at "rds"
        refine ⟨a9, _, dd, _, .str "point", rfl, ec, C.L.no _ (by exact List.mem_cons_self), EAt.seen hE, hD1, by rfl, ?_⟩
        walk_at "rds"
        refine ⟨a9, _, dd, _, .int (-1), rfl, ec, C.L.no _ (by exact List.mem_cons_of_mem _ List.mem_cons_self), EAt.seen hE, hD1, by rfl, ?_⟩
        walk_at "rds"
        rename_i p11 m11 H11 g11 e11 t11
        exact k1 (by simp [tR, e1]) p11 _ e11 (by walk_at "same")
      · have dn := new_true (r := r) ln G hk
        rw [← e1] at dn
        intro q8 H8 e8 t8
        walk_at "rds"
        rename_i p11 m11 H11 g11 e11 t11
        exact k2 (by simp [tR, dn]) p11 _ e11 (by walk_at "same")
    · walk_at "rds"
      refine ⟨s, n, r, v, d, rfl, hS, r1, fun e1 => ?_, fun ns k e1 ln G hk => ?_⟩
      · skip
        intro dd H9 hd s9
        refine ⟨_, C.xN, fun _ a9 na => ?_, fun n => (by cases n)⟩
        intro oe pn hz hf
        have ec := C.L.ec
        have hE : ∀ {H'}, EAt ((a9, oe) :: pn) H' a9 CN (some dd) := fun {H'} => .inr ⟨oe, List.mem_cons_self, ⟨hz.1, hz.2.1⟩, hf⟩
        have hD : Err.Dk H9 dd (nuF "point" (-1)) := .inl hd
        have he : ErrX ((a9, oe) :: pn) H9 a9 CN (nuF "point" (-1)) := .inr ⟨dd, hE, hD⟩
        walk_at "rds"
        refine isA_of ec he (.own _) C.kS ?_
        walk_at "rds"
        refine isA_of ec he (.ty _) C.kV ?_
        walk_at "rds"
        refine ⟨a9, _, dd, _, .int (-1), rfl, ec, C.L.no _ (by exact List.mem_cons_of_mem _ List.mem_cons_self), EAt.seen hE, hD, by rfl, ?_⟩
        walk_at "rds"
        refine ⟨_, _, rfl, .int (-1), fun H10 t10 => ?_⟩
        have hD1 : Err.Dk H10 dd (nuF "point" (-1)) := .inl (t10 _ _ hd)
        walk_at "rds"
        refine ⟨a9, _, dd, _, .str "point", rfl, ec, C.L.no _ (by exact List.mem_cons_self), EAt.seen hE, hD1, by rfl, ?_⟩
        walk_at "rds"
        refine ⟨a9, _, dd, _, .int (-1), rfl, ec, C.L.no _ (by exact List.mem_cons_of_mem _ List.mem_cons_self), EAt.seen hE, hD1, by rfl, ?_⟩
        walk_at "rds"
        rename_i p11 m11 H11 g11 e11 t11
        exact k1 (by simp [tR, e1]) p11 _ e11 (by walk_at "same")
      · have dn := new_true (r := r) ln G hk
        rw [← e1] at dn
        intro H8 t8
        walk_at "rds"
        rename_i p11 m11 H11 g11 e11 t11
        exact k2 (by simp [tR, dn]) p11 _ e11 (by walk_at "same")
    · walk_at "rds"
      refine ⟨s, n, r, v, d, rfl, hS, r1, fun e1 => ?_, fun ns k e1 ln G hk => ?_⟩
      · skip
        intro dd H9 hd s9
        refine ⟨_, C.xN, fun _ a9 na => ?_, fun n => (by cases n)⟩
        intro oe pn hz hf
        have ec := C.L.ec
        have hE : ∀ {H'}, EAt ((a9, oe) :: pn) H' a9 CN (some dd) := fun {H'} => .inr ⟨oe, List.mem_cons_self, ⟨hz.1, hz.2.1⟩, hf⟩
        have hD : Err.Dk H9 dd (nuF "point" (-1)) := .inl hd
        have he : ErrX ((a9, oe) :: pn) H9 a9 CN (nuF "point" (-1)) := .inr ⟨dd, hE, hD⟩
        walk_at "rds"
        refine isA_of ec he (.own _) C.kS ?_
        walk_at "rds"
        refine isA_of ec he (.ty _) C.kV ?_
        walk_at "rds"
        refine ⟨a9, _, dd, _, .int (-1), rfl, ec, C.L.no _ (by exact List.mem_cons_of_mem _ List.mem_cons_self), EAt.seen hE, hD, by rfl, ?_⟩
        walk_at "rds"
        refine ⟨_, _, rfl, .int (-1), fun H10 t10 => ?_⟩
        have hD1 : Err.Dk H10 dd (nuF "point" (-1)) := .inl (t10 _ _ hd)
        walk_at "rds"
        refine ⟨a9, _, dd, _, .str "point", rfl, ec, C.L.no _ (by exact List.mem_cons_self), EAt.seen hE, hD1, by rfl, ?_⟩
        walk_at "rds"
        refine ⟨a9, _, dd, _, .int (-1), rfl, ec, C.L.no _ (by exact List.mem_cons_of_mem _ List.mem_cons_self), EAt.seen hE, hD1, by rfl, ?_⟩
        walk_at "rds"
        rename_i p11 m11 H11 g11 e11 t11
        exact k1 (by simp [tR, e1]) p11 _ e11 (by walk_at "same")
      · have dn := new_true (r := r) ln G hk
        rw [← e1] at dn
        intro q8 a8 b8 H8 e8 ea8 eb8 t8
        walk_at "rds"
        rename_i p11 m11 H11 g11 e11 t11
        exact k2 (by simp [tR, dn]) p11 _ e11 (by walk_at "same")
    · walk_at "rds"
      refine ⟨s, n, r, v, d, rfl, hS, r1, fun e1 => ?_, fun ns k e1 ln G hk => ?_⟩
      · skip
        intro dd H9 hd s9
        refine ⟨_, C.xN, fun _ a9 na => ?_, fun n => (by cases n)⟩
        intro oe pn hz hf
        have ec := C.L.ec
        have hE : ∀ {H'}, EAt ((a9, oe) :: pn) H' a9 CN (some dd) := fun {H'} => .inr ⟨oe, List.mem_cons_self, ⟨hz.1, hz.2.1⟩, hf⟩
        have hD : Err.Dk H9 dd (nuF "point" (-1)) := .inl hd
        have he : ErrX ((a9, oe) :: pn) H9 a9 CN (nuF "point" (-1)) := .inr ⟨dd, hE, hD⟩
        walk_at "rds"
        refine isA_of ec he (.own _) C.kS ?_
        walk_at "rds"
        refine isA_of ec he (.ty _) C.kV ?_
        walk_at "rds"
        refine ⟨a9, _, dd, _, .int (-1), rfl, ec, C.L.no _ (by exact List.mem_cons_of_mem _ List.mem_cons_self), EAt.seen hE, hD, by rfl, ?_⟩
        walk_at "rds"
        refine ⟨_, _, rfl, .int (-1), fun H10 t10 => ?_⟩
        have hD1 : Err.Dk H10 dd (nuF "point" (-1)) := .inl (t10 _ _ hd)
        walk_at "rds"
        refine ⟨a9, _, dd, _, .str "point", rfl, ec, C.L.no _ (by exact List.mem_cons_self), EAt.seen hE, hD1, by rfl, ?_⟩
        walk_at "rds"
        refine ⟨a9, _, dd, _, .int (-1), rfl, ec, C.L.no _ (by exact List.mem_cons_of_mem _ List.mem_cons_self), EAt.seen hE, hD1, by rfl, ?_⟩
        walk_at "rds"
        rename_i p11 m11 H11 g11 e11 t11
        exact k1 (by simp [tR, e1]) p11 _ e11 (by walk_at "same")
      · have dn := new_true (r := r) ln G hk
        rw [← e1] at dn
        intro q8 a8 b8 H8 e8 ea8 eb8 t8
        walk_at "rds"
        rename_i p11 m11 H11 g11 e11 t11
        exact k2 (by simp [tR, dn]) p11 _ e11 (by walk_at "same")
    · walk_at "rds"
      refine ⟨s, n, r, v, d, rfl, hS, r1, fun e1 => ?_, fun ns k e1 ln G hk => ?_⟩
      · skip
        intro dd H9 hd s9
        refine ⟨_, C.xN, fun _ a9 na => ?_, fun n => (by cases n)⟩
        intro oe pn hz hf
        have ec := C.L.ec
        have hE : ∀ {H'}, EAt ((a9, oe) :: pn) H' a9 CN (some dd) := fun {H'} => .inr ⟨oe, List.mem_cons_self, ⟨hz.1, hz.2.1⟩, hf⟩
        have hD : Err.Dk H9 dd (nuF "point" (-1)) := .inl hd
        have he : ErrX ((a9, oe) :: pn) H9 a9 CN (nuF "point" (-1)) := .inr ⟨dd, hE, hD⟩
        walk_at "rds"
        refine isA_of ec he (.own _) C.kS ?_
        walk_at "rds"
        refine isA_of ec he (.ty _) C.kV ?_
        walk_at "rds"
        refine ⟨a9, _, dd, _, .int (-1), rfl, ec, C.L.no _ (by exact List.mem_cons_of_mem _ List.mem_cons_self), EAt.seen hE, hD, by rfl, ?_⟩
        walk_at "rds"
        refine ⟨_, _, rfl, .int (-1), fun H10 t10 => ?_⟩
        have hD1 : Err.Dk H10 dd (nuF "point" (-1)) := .inl (t10 _ _ hd)
        walk_at "rds"
        refine ⟨a9, _, dd, _, .str "point", rfl, ec, C.L.no _ (by exact List.mem_cons_self), EAt.seen hE, hD1, by rfl, ?_⟩
        walk_at "rds"
        refine ⟨a9, _, dd, _, .int (-1), rfl, ec, C.L.no _ (by exact List.mem_cons_of_mem _ List.mem_cons_self), EAt.seen hE, hD1, by rfl, ?_⟩
        walk_at "rds"
        rename_i p11 m11 H11 g11 e11 t11
        exact k1 (by simp [tR, e1]) p11 _ e11 (by walk_at "same")
      · have dn := new_true (r := r) ln G hk
        rw [← e1] at dn
        intro q8 w8 H8 e8 f8 t8
        walk_at "rds"
        rename_i p11 m11 H11 g11 e11 t11
        exact k2 (by simp [tR, dn]) p11 _ e11 (by walk_at "same")
    · walk_at "rds"
      refine ⟨s, n, r, v, d, rfl, hS, r1, fun e1 => ?_, fun ns e1 ln => ⟨fun z => ?_, fun k G hk => ?_⟩⟩
      · skip
        intro dd H9 hd s9
        refine ⟨_, C.xN, fun _ a9 na => ?_, fun n => (by cases n)⟩
        intro oe pn hz hf
        have ec := C.L.ec
        have hE : ∀ {H'}, EAt ((a9, oe) :: pn) H' a9 CN (some dd) := fun {H'} => .inr ⟨oe, List.mem_cons_self, ⟨hz.1, hz.2.1⟩, hf⟩
        have hD : Err.Dk H9 dd (nuF "point" (-1)) := .inl hd
        have he : ErrX ((a9, oe) :: pn) H9 a9 CN (nuF "point" (-1)) := .inr ⟨dd, hE, hD⟩
        walk_at "rds"
        refine isA_of ec he (.own _) C.kS ?_
        walk_at "rds"
        refine isA_of ec he (.ty _) C.kV ?_
        walk_at "rds"
        refine ⟨a9, _, dd, _, .int (-1), rfl, ec, C.L.no _ (by exact List.mem_cons_of_mem _ List.mem_cons_self), EAt.seen hE, hD, by rfl, ?_⟩
        walk_at "rds"
        refine ⟨_, _, rfl, .int (-1), fun H10 t10 => ?_⟩
        have hD1 : Err.Dk H10 dd (nuF "point" (-1)) := .inl (t10 _ _ hd)
        walk_at "rds"
        refine ⟨a9, _, dd, _, .str "point", rfl, ec, C.L.no _ (by exact List.mem_cons_self), EAt.seen hE, hD1, by rfl, ?_⟩
        walk_at "rds"
        refine ⟨a9, _, dd, _, .int (-1), rfl, ec, C.L.no _ (by exact List.mem_cons_of_mem _ List.mem_cons_self), EAt.seen hE, hD1, by rfl, ?_⟩
        walk_at "rds"
        rename_i p11 m11 H11 g11 e11 t11
        exact k1 (by simp [tR, e1]) p11 _ e11 (by walk_at "same")
      · have dn := row_true ln
        rw [← e1] at dn
        intro H8 t8
        walk_at "rds"
        rename_i p11 m11 H11 g11 e11 t11
        exact k2 (by simp [tR, dn]) p11 _ e11 (by walk_at "same")
      · have dn := row_true ln
        rw [← e1] at dn
        intro H8 t8
        walk_at "rds"
        rename_i p11 m11 H11 g11 e11 t11
        exact k2 (by simp [tR, dn]) p11 _ e11 (by walk_at "same")
end
end K17
end SecK7
section SecK8
set_option Elab.async false
set_option linter.all false
set_option maxRecDepth 100000
set_option maxHeartbeats 4000000
set_option pp.deepTerms false
local macro_rules | `(tactic| walk_at "tq") => `(tactic| first | assumption | (refine' Dt.Tq.to ?s0 ?h0; (case h0 => assumption); (case s0 => walk_at "same")))
local macro_rules | `(tactic| walk_at "same") => `(tactic| first | exact L2.Same.refl _ | assumption | (refine' L2.Same.trans ?s1 ?s2; (case s2 => assumption); (case s1 => walk_at "same")))
local macro_rules | `(tactic| walk_at "sam") => `(tactic| first | exact Dt.Sam.refl | assumption | exact Dt.Sam.of (by assumption) | (refine' Dt.Sam.trans ?s1 ?s2; (case s2 => first | assumption | exact Dt.Sam.of (by assumption)); (case s1 => walk_at "sam")))
local macro_rules | `(tactic| walk_at "tape") => `(tactic| first | assumption | (refine' Dt.Tape.mono ?h0 ?s0; (case h0 => assumption); (case s0 => walk_at "same")))
local macro_rules | `(tactic| walk_at "nt") => `(tactic| first | exact Dt.nt_tup | exact Dt.nt_ints | assumption | (intro a0 b0 c0 l0 z0; cases z0) | (intro a0 b0 c0 l0 z0; simp at z0))
local macro_rules | `(tactic| walk_at "heap") => `(tactic| first | assumption | exact L2.upd_same | (refine' Rd.at_to ?s0 ?h0; (case h0 => assumption); (case s0 => walk_at "same")) | (refine' Dt.at_sam ?n0 ?s0 ?h0; (case h0 => assumption); (case n0 => walk_at "nt"); (case s0 => walk_at "sam")))
local macro_rules | `(tactic| walk_at "rp") => `(tactic| first | exact Dt.Rp.int _ | exact Dt.Rp.bl _ | exact Dt.Rp.str _ | exact Dt.Rp.non | assumption | (refine' Dt.Rp.sm ?s0 ?h0; (case h0 => assumption); (case s0 => walk_at "sam")) | (refine' Dt.Rp.tup ?h1 ?h2 ?h3; (case h1 => walk_at "heap"); (case h2 => walk_at "rps"); (case h3 => first | assumption | (show _ ≤ 1000; decide) | (show _ ≤ 1000; simp) | (show _ ≤ 1000; omega))) | (refine' Dt.Rp.lst ?h1 ?h2 ?h3 ?h4; (case h1 => walk_at "heap"); (case h2 => walk_at "rps"); (case h3 => first | assumption | (show _ ≤ 1000; decide) | (show _ ≤ 1000; simp) | (show _ ≤ 1000; omega)); (case h4 => walk_at "nt")))
local macro_rules | `(tactic| walk_at "rps") => `(tactic| first | exact Dt.RpAll.nil | assumption | (refine' Dt.RpAll.cons ?h1 ?h2; (case h1 => walk_at "rp"); (case h2 => walk_at "rps")) | (refine' Dt.RpAll.sm ?s0 ?h0; (case h0 => assumption); (case s0 => walk_at "sam")))
local macro_rules | `(tactic| walk_at "rd") => `(tactic| first
  | with_reducible refine Rd.seq ?_ | with_reducible refine Rd.asg ?_ | with_reducible refine Rd.nm ?_ | with_reducible refine Rd.sub ?_ | with_reducible refine Rd.ret ?_ | with_reducible refine Rd.retN ?_
  | with_reducible refine Rd.drop ?_ | with_reducible refine Rd.ifs ?_ | with_reducible refine Rd.next ?_ | with_reducible refine Rd.cst ?_ | with_reducible refine Rd.op ?_ | with_reducible refine Rd.un ?_
  | with_reducible refine Rd.test ?_ | with_reducible refine Rd.tb' ?_ | with_reducible refine Rd.exb ?_ | with_reducible refine Rd.exi ?_ | with_reducible refine Rd.and2 ?_ | with_reducible refine Rd.or2 ?_ | with_reducible refine Rd.not1 ?_
  | with_reducible refine Rd.andV ?_ | with_reducible refine Rd.orV ?_ | with_reducible refine Rd.notV ?_ | with_reducible refine Rd.nil ?_ | with_reducible refine Rd.cons ?_ | with_reducible refine Rd.cb ?_
  | with_reducible refine Rd.i0 ?_ | with_reducible refine Rd.u1 ?_ | with_reducible refine Rd.call ?_ | with_reducible refine Rd.tup ?_ | with_reducible refine Rd.lst ?_ | with_reducible refine Rd.sl ?_ | with_reducible refine Rd.no ?_ | with_reducible refine Rd.part ?_ | with_reducible refine Rd.at_ ?_ | with_reducible refine Rd.yes ?_ | with_reducible refine Rd.fors ?_ | with_reducible refine Rd.m1 ?_ | with_reducible refine Rd.exs ?_ | with_reducible refine Rd.lc ?_ | with_reducible refine Rd.rng ?_
  | with_reducible refine Rd.mkv ?_ | with_reducible refine Rd.mko ?_ | with_reducible refine Rd.callB ?_ | with_reducible refine Rd.callS ?_ | with_reducible refine Rd.bm ?_ | with_reducible refine Rd.itl ?_ | with_reducible refine Rd.itt ?_
  | ((with_reducible refine' And.intro ?hl ?_); (case hl => ((with_reducible show List.length _ ≤ PySem.sizeLine); (show _ ≤ PySem.sizeLine); rw [PySem.sizeLine_eq]; simp)))
  | (intro p0 n0; generalize hK0 : L2.upd _ p0 _ = K0; obtain ⟨e0, t0⟩ := Dt.newK hK0 n0)
  | ((with_reducible refine' Rd.lenKL ?he ?_); (case he => walk_at "heap")) | ((with_reducible refine' Rd.lenKT ?he ?_); (case he => walk_at "heap"))
  | ((with_reducible refine' Rd.var ?hv ?_); (case hv => exact rfl))
  | ((with_reducible refine' Rd.ifT ?hv ?_); (case hv => first | exact rfl | assumption)) | ((with_reducible refine' Rd.ifF ?hv ?_); (case hv => first | exact rfl | assumption))
  | ((with_reducible refine' Rd.eq ?hv ?_); (case hv => exact rfl))
  | ((with_reducible refine' Rd.ne ?hv ?_); (case hv => exact rfl))
  | ((with_reducible refine' Dt.isi_int ?hr ?_); (case hr => walk_at "rp")) | ((with_reducible refine' Dt.isi_bool ?hr ?_); (case hr => walk_at "rp")) | ((with_reducible refine' Dt.isi_tuple ?hr ?_); (case hr => walk_at "rp")) | ((with_reducible refine' Dt.isi_str ?hr ?_); (case hr => walk_at "rp")) | ((with_reducible refine' Dt.isi_list ?hr ?_); (case hr => walk_at "rp"))
  | with_reducible refine ⟨rfl, ?_⟩ | with_reducible refine Or.inl ⟨_, rfl, ?_⟩ | with_reducible refine Or.inr ⟨_, rfl, ?_⟩ | with_reducible refine ⟨_, rfl, ?_⟩
  | ((with_reducible refine' Rd.ex2 ⟨rfl, ?hl, ?_⟩); (case hl => first | exact Or.inl ⟨_, L2.SqL.of (by walk_at "heap"), rfl⟩ | exact Or.inr ⟨_, L2.SqT.of (by walk_at "heap"), rfl⟩))
  | ((with_reducible refine' Rd.i1 ?hv ?_); (case hv => first | exact ⟨by decide, by decide, by decide⟩ | exact Or.inr ⟨by decide, by decide⟩ | exact Or.inl ⟨by decide, by decide⟩ | exact ⟨by decide, by decide⟩ | decide | assumption | (show _ ≠ _; omega) | (refine ⟨?_, ?_⟩ <;> omega) | (refine Or.inl ⟨?_, ?_⟩ <;> omega)))
  | ((with_reducible refine' Rd.ixL ?he ?hx ?_); (case he => walk_at "heap"); (case hx => rfl))
  | ((with_reducible refine' Rd.ixT ?he ?hx ?_); (case he => walk_at "heap"); (case hx => rfl))
  | ((with_reducible refine' Rd.setL ?he ?hx ?_); (case he => first | assumption | exact L2.upd_same); (case hx => rfl)))
local macro_rules | `(tactic| walk_at "rd") => `(tactic| first | with_reducible refine Rd.isT ?_ | with_reducible refine Rd.isnT ?_ | with_reducible refine Rd.ife ?_)
local macro_rules | `(tactic| walk_at "rd") => `(tactic| first | ((with_reducible refine' Rd.gtup ?he ?hl ?_); (case he => walk_at "heap"); (case hl => exact rfl)) | with_reducible refine Rd.brk ?_ | with_reducible refine Rd.callR ?_ | ((with_reducible refine' ⟨_, _, rfl, Or.inl ⟨L2.SqL.of ?hp, ?_⟩⟩); (case hp => walk_at "heap")) | ((with_reducible refine' ⟨_, _, rfl, Or.inl (L2.SqL.of ?hp), ?_⟩); (case hp => walk_at "heap")) | ((with_reducible refine' Rd.catL ?hp ?hq ?hl ?_); (case hp => walk_at "heap"); (case hq => walk_at "heap"); (case hl => (simp only [List.length_map, List.length_append, List.length_cons, List.length_nil]; omega)); (intro r0 J0 e0 t0 n0)) | with_reducible refine Rd.bits ?_ | with_reducible refine Rd.max2 ?_ | with_reducible refine Rd.gcons ?_ | with_reducible refine Rd.gnil ?_)
local macro_rules | `(tactic| walk_at "rds") => `(tactic| repeat (first | walk_at "rd" | assumption))
namespace K17
open PySem PySem.Spec PyProof.Rows L2 L2H Err Dt
open Bt
def spDw : Sp := fun vs H Q _ => ∃ (t l : Addr) (m : Int), vs = [.ref t, .int m] ∧ Tq t l H ∧ 0 < m ∧ m < 1073741824 ∧ ∀ (v : Int) (H' : Hp), 0 ≤ v → v < m → Tq t l H' → Sam H H' → Q (.int v) H'
theorem dw_dr (vs : List V) (H : Hp) (Q : VK) (E : XK) (h : spDw vs H Q E) : spDr vs H Q E := by
  obtain ⟨t, l, m, rfl, ⟨ns, T, hl⟩, h0, h1, k⟩ := h
  exact ⟨t, l, ns, m, rfl, T, hl, h0, h1, fun v H' a b T' s => k v H' a b ⟨ns, T', hl⟩ s⟩
theorem fn_imp {P : Program} {w : World} {K : PySem.W.Frag} {mg : Str → Option Value} {base : Heap} {CX : CXT} {k : Nat} {f : Addr} {fd : FuncData} {ps : List Str} {sp sp' : Sp} (h : ∀ vs H Q E, sp' vs H Q E → sp vs H Q E) (F : FnOk P w K mg base CX k f fd ps sp) : FnOk P w K mg base CX k f fd ps sp' :=
  ⟨fun vs H Q E z => F.len vs H Q E (h _ _ _ _ z), fun A outer s H args us vs Q E hr e0 hb r z => F.run A outer s H args us vs Q E hr e0 hb r (h _ _ _ _ z)⟩
def spBased : Sp := fun vs H Q _ => ∃ (s p : Addr) (n r : Int) (ns : List Int), vs = [.ref s, .ref p] ∧ Space H s n r ∧ Tup H p ns ∧ (ns.length : Int) = n ∧ newL r ns = false ∧ ∀ H', Same H H' → Q (.bl true) H'
def spLooked : Sp := fun vs H Q _ => ∃ (s p : Addr) (n r : Int) (ns : List Int), vs = [.ref s, .ref p] ∧ Space H s n r ∧ Tup H p ns ∧ (ns.length : Int) = n ∧ ∀ H', Same H H' → Q (.bl true) H'
def spCoordK : Sp := fun vs H Q _ => ∃ (t l : Addr) (r : Int), vs = [.ref t, .int r] ∧ Tq t l H ∧ 0 ≤ r ∧ r ≤ 8 ∧ ∀ (i : Int) (H' : Hp), -1000000 ≤ i → i ≤ 1000000 → Tq t l H' → Sam H H' → Q (.int i) H'
def spPts : Sp := fun vs H Q _ => ∃ (t l s : Addr) (n r : Int), vs = [.ref t, .ref s] ∧ Space H s n r ∧ Tq t l H ∧ ∀ H', Tq t l H' → Sam H H' → Q (.bl true) H'
theorem told_eq {K : PySem.W.Frag} {H : Hp} {p q : Addr} {z : Str} {i : Int} {Q : VK} (hz : SeqAt.shaped (.tuple [.str z, .int i]) = true) (hp : H p = some (.tup [.str z, .int i])) (hq : H q = some (.tup [.str z, .int i])) (k : Q (.bl true) H) : rEqD K (.ref p) (.ref q) H Q := by
  refine ⟨_, _, .tup (SqT.of hp) (.cons (.str _) (.cons (.int _) .nil)), .tup (SqT.of hq) (.cons (.str _) (.cons (.int _) .nil)), hz, hz, ?_⟩
  rw [SeqAt.eqv_refl _ (SeqAt.canLay_of_shaped hz)]
  exact k
theorem dnew_row {n r : Int} {ns : List Int} (ln : (ns.length : Int) = n) : dNew n r (.tuple (ns.map PyData.int)) = newL r ns := by
  unfold dNew
  rw [row_true ln, Bool.true_and]
  show newL r (intsOf (ns.map PyData.int)) = _
  rw [intsOf_map]
theorem opl_ne {ns : List Int} {k : Nat} (G : Gr ns k) : opL ns k ≠ [] := fun z => by
  obtain ⟨x, hx, ho⟩ := G.od
  obtain ⟨i, hi, rfl⟩ := List.mem_iff_getElem.mp hx
  have : i ∈ opL ns k := (opL_mem hi).mpr (by
    rw [List.getD_eq_getElem?_getD, List.getElem?_eq_getElem hi]
    exact decide_eq_true ho)
  rw [z] at this
  cases this
theorem pow_cases {a : Int} (h0 : 0 ≤ a) (h1 : a < 10) : (1 : Int) ≤ 2 ^ a.toNat ∧ (2 : Int) ^ a.toNat ≤ 512 := by
  have h := pow_pos a.toNat
  have : (2 : Nat) ^ a.toNat ≤ 2 ^ 9 := Nat.pow_le_pow_right (by decide) (by omega)
  have e : ((2 ^ a.toNat : Nat) : Int) = 2 ^ a.toNat := by rw [Int.natCast_pow]; rfl
  omega
theorem wide_small {x y : Int} (h : x.natAbs < 2 ^ 64) (k : y.natAbs < 2 ^ 64) : CMulW x y := by
  show x.natAbs.log2 + y.natAbs.log2 < 1000000
  have h1 := Nat.log2_le_self x.natAbs
  have a : x.natAbs.log2 < 64 ∨ x.natAbs = 0 := by
    by_cases z : x.natAbs = 0
    · exact .inr z
    · exact .inl ((Nat.log2_lt z).mpr h)
  have b : y.natAbs.log2 < 64 ∨ y.natAbs = 0 := by
    by_cases z : y.natAbs = 0
    · exact .inr z
    · exact .inl ((Nat.log2_lt z).mpr k)
  have z0 : Nat.log2 0 = 0 := by decide
  rcases a with a | a <;> rcases b with b | b <;> (try rw [a]) <;> (try rw [b]) <;> (try rw [z0]) <;> omega
theorem lt64 {x : Int} (h0 : -1000000000 ≤ x) (h1 : x ≤ 1000000000) : x.natAbs < 2 ^ 64 := Nat.lt_of_le_of_lt (show x.natAbs ≤ 1000000000 by omega) (by decide)
theorem mul_le {a b : Int} (h0 : -20 ≤ a) (h1 : a ≤ 20) (k0 : 1 ≤ b) (k1 : b ≤ 512) : -1000000 ≤ a * b ∧ a * b ≤ 1000000 := by
  have h : (a * b).natAbs ≤ 20 * 512 := by
    rw [Int.natAbs_mul]
    exact Nat.mul_le_mul (by omega) (by omega)
  omega
section
variable {P : Program} {w : World} {K : PySem.W.Frag} {mg : Str → Option Value} {base : Heap}
set_option pp.maxSteps 3000
abbrev sBasedL : Stmt := topS 41
theorem scBasedL : FnScope ["space", "point", "which"] ["space", "point"] (defScope sBasedL) := ⟨rfl, rfl, rfl, by decide +kernel, rfl, by decide +kernel, by decide +kernel⟩
theorem okBasedL {f : Addr} {fd : FuncData} (F : Fun K "_law_based" "_law_based" sBasedL f fd) (T : Tx mg) {CN : Addr} (DIsNew : Dn P w K mg base CX0 "is_new" 4 ["space", "thing"] spIsNew) (DIsPoint : Dn P w K mg base CX0 "is_point" 3 ["space", "thing"] spIsPoint) (DSameL : Dn P w K mg base CX0 "_law_same" 4 ["got", "due"] (spSame 2)) (DGenerationOf : Dn P w K mg base (L2N.CX P w) "generation_of" 6 ["space", "point"] (spGenOf CN)) (DToldL : Dn P w K mg base CX0 "_law_told" 7 ["which", "space", "thing"] spTold)  : FnOk P w K mg base CX0 8 f fd ["space", "point"] spBased := by
  refine F.ok scBasedL (fun vs H Q E h => ?_) (fun cdv A outer s H vs Q E hr h => ?_)
  · obtain ⟨s, p, n, r, ns, rfl, _⟩ := h
    rfl
  · obtain ⟨s, p, n, r, ns, rfl, hS, e, ln, nw, kk⟩ := h
    refine ⟨_, (pss_cons (ps_if (PW.pt (pw_or (pt_cmpR op_isnot_bl (pe_dn DIsNew (hr.mono (by omega)) (pa_cons (pv 0) (pa_cons (pv 1) pa_nil))) pe_bl (nomark _)) (pw_or1 (pt_cmpR op_isnot_bl (pe_dn DIsPoint (hr.mono (by omega)) (pa_cons (pv 0) (pa_cons (pv 1) pa_nil))) pe_bl (nomark _)))))
    (pss_one (ps_ret pe_bl))
    pss_nil)
    (pss_cons (ps_if (pt_not (pt_val (pe_dn DSameL (hr.mono (by omega)) (pa_cons (pe_dn0 DGenerationOf (hr.mono (by omega)) (pa_cons (pv 0) (pa_cons (pv 1) pa_nil))) (pa_cons (pe_un un_neg pe_int) pa_nil)))))
    (pss_one (ps_ret pe_bl))
    pss_nil)
    (pss_one (ps_ret (pe_callB (cr_all rfl) (by rfl) T.n_all (by decide +kernel) (pa_cons (pe_lc (own := [("which", 2)]) (g := (gName 2)) (by rfl) scBasedL.nd (pi_range1 rfl T.n_range (pa_cons pe_int pa_nil)) (blkOk_by (own := [("which", 2)]) (N := ["space", "point", "which"]) (sc := defScope sBasedL) (by decide +kernel)) (fun _ _ _ _ _ => (pg_name (i := 2) scBasedL.nd rfl (Or.inl rfl))) (fun _ _ _ _ _ => pts_nil) (fun _ _ _ _ _ => (pe_cmpR (r := rEqD K) (op_eqD (huR hr)) (pe_dn DToldL (hr.mono (by omega)) (pa_cons (pv 2) (pa_cons (pv 0) (pa_cons (pv 1) pa_nil)))) (pe_tup (pa_cons pe_str (pa_cons (pe_un un_neg pe_int) pa_nil))) (nomark _)))) pa_nil)))))), ?_⟩
    have st0 : L2.start ["space", "point", "which"] [V.ref s, V.ref p] = [some (V.ref s), some (V.ref p), none] := rfl
    rw [st0]
    have n3 := hS.2.2.1
    walk_at "rds"
    refine ⟨s, n, r, _, _, rfl, hS, rp_row e (by omega), fun H1 t1 => ?_⟩
    rw [dnew_row ln, nw]
    have hS1 := hS.to t1
    have e1 := t1 _ _ e
    walk_at "rds"
    refine ⟨s, n, r, _, _, rfl, hS1, rp_row e1 (by omega), fun H2 t2 => ?_⟩
    rw [row_true ln]
    have hS2 := hS1.to t2
    have e2 := t2 _ _ e1
    walk_at "rds"
    refine ⟨s, n, r, _, _, rfl, hS2, rp_row e2 (by omega), (fun z => by rw [row_true ln] at z; cases z), fun ns' z1 _ => ⟨fun z H3 t3 => ?_, fun k G hk => ?_⟩⟩
    case refine_2 =>
      have : ns = ns' := by
        injection z1 with z1
        have := congrArg intsOf z1
        rwa [intsOf_map, intsOf_map] at this
      rw [← this] at G
      rw [gr_newL G hk] at nw
      cases nw
    walk_at "rds"
    refine ⟨_, _, .int (-1), rfl, .int _, .int _, True.intro, fun H4 t4 => ?_⟩
    have hS4 := (hS2.to t3).to t4
    have e4 := t4 _ _ (t3 _ _ e2)
    walk_at "rds"
    refine ⟨by decide, by decide, fun d hd => ?_⟩
    refine lc_range (lo := 0) (n := 6) (fun i H5 => H5 d = some (.lst ((List.replicate i true).map V.bl)) ∧ Same H4 H5) ⟨upd_same, same_put hd (Same.refl _)⟩ ?_ ?_
    · rintro i H5 hi ⟨e5, s5⟩
      refine ⟨rfl, ?_⟩
      walk_at "rds"
      refine ⟨_, s, n, r, _, .tuple (ns.map PyData.int), rfl, by omega, by omega, hS4.to s5, rp_row (s5 _ _ e4) (by omega), fun _ p6 H6 e6 t6 => ?_, fun z => ?_⟩
      · walk_at "rds"
        rename_i p7 m7 H7 g7 e7 t7
        refine told_eq (z := "point") (i := -1) (by decide +kernel) (t7 _ _ e6) e7 ?_
        refine ⟨_, t7 _ _ (t6 _ _ e5), ?_, ?_, same_put hd ((s5.trans t6).trans t7)⟩
        · rw [List.length_map, List.length_replicate, sizeLine_eq]
          omega
        · rw [upd_same, List.replicate_succ', List.map_append]
          rfl
      · exfalso
        unfold tR at z
        rw [if_neg (by omega), dnew_row ln, nw] at z
        cases z
    · rintro H5 ⟨e5, s5⟩
      walk_at "rds"
      refine ⟨d, _, rfl, SqL.of e5, ?_⟩
      have ea : (List.replicate 6 true).all id = true := by decide
      rw [ea]
      exact kk _ (by walk_at "same")
abbrev sLookedL : Stmt := topS 42
theorem scLookedL : FnScope ["space", "point", "lay"] ["space", "point"] (defScope sLookedL) := ⟨rfl, rfl, rfl, by decide +kernel, rfl, by decide +kernel, by decide +kernel⟩
theorem okLookedL {f : Addr} {fd : FuncData} (F : Fun K "_law_looked" "_law_looked" sLookedL f fd) (T : Tx mg) (DLayL : Dn P w K mg base CX0 "_law_lay" 1 ["rounds", "point"] spLay) (DBasedL : Dn P w K mg base CX0 "_law_based" 8 ["space", "point"] spBased) (DSeatedL : Dn P w K mg base CX0 "_law_seated" 7 ["space", "point", "grain", "row"] spSeated)  : FnOk P w K mg base CX0 9 f fd ["space", "point"] spLooked := by
  refine F.ok scLookedL (fun vs H Q E h => ?_) (fun cdv A outer s H vs Q E hr h => ?_)
  · obtain ⟨s, p, n, r, ns, rfl, _⟩ := h
    rfl
  · obtain ⟨s, p, n, r, ns, rfl, hS, e, ln, kk⟩ := h
    refine ⟨_, (pss_cons (ps_set (i := 2) scLookedL.nd rfl (Or.inl rfl) (pe_dn DLayL (hr.mono (by omega)) (pa_cons (pe_ix ix_tup (pv 0) pe_int (fun _ _ => rfl)) (pa_cons (pv 1) pa_nil))))
    (pss_cons (ps_if (pt_cmpR op_eq (pe_callB call_len (by rfl) T.n_len (by decide +kernel) (pa_cons (pe_ix ix_tup (pv 2) pe_int (fun _ _ => rfl)) pa_nil)) pe_int (nomark _))
    (pss_one (ps_ret (pe_dn DBasedL (hr.mono (by omega)) (pa_cons (pv 0) (pa_cons (pv 1) pa_nil)))))
    pss_nil)
    (pss_one (ps_ret (pe_dn DSeatedL (hr.mono (by omega)) (pa_cons (pv 0) (pa_cons (pv 1) (pa_cons (pe_ix ix_tup (pv 2) pe_int (fun _ _ => rfl)) (pa_cons (pe_ix ix_tup (pv 2) pe_int (fun _ _ => rfl)) pa_nil))))))))), ?_⟩
    have st0 : L2.start ["space", "point", "lay"] [V.ref s, V.ref p] = [some (V.ref s), some (V.ref p), none] := rfl
    rw [st0]
    have es := hS.1
    have n3 := hS.2.2.1
    have q8 := hS.2.2.2
    walk_at "rds"
    refine ⟨p, r, ns, rfl, e, by omega, by omega, by omega, fun k G hk q q2 H1 e1 e2 t1 => ?_, fun nw q q2 H1 e1 e2 t1 => ?_⟩
    · have on := opl_ne G
      walk_at "rds"
      refine Rd.ifF (decide_eq_false fun z => on ?_) ?_
      · rw [List.length_map, List.length_map] at z
        exact List.eq_nil_of_length_eq_zero (by have := V.int.inj z; omega)
      walk_at "rds"
      refine ⟨s, p, q2, n, r, ns, k, rfl, hS.to t1, t1 _ _ e, ln, G, hk, e2, fun H2 t2 => ?_⟩
      walk_at "rds"
      exact kk _ (t1.trans t2)
    · walk_at "rds"
      refine ⟨s, p, n, r, ns, rfl, hS.to t1, t1 _ _ e, ln, nw, fun H2 t2 => ?_⟩
      walk_at "rds"
      exact kk _ (t1.trans t2)
abbrev sCoordinateL : Stmt := topS 43
theorem scCoordinateL : FnScope ["tape", "rounds", "kind"] ["tape", "rounds"] (defScope sCoordinateL) := ⟨rfl, rfl, rfl, by decide +kernel, rfl, by decide +kernel, by decide +kernel⟩
theorem okCoordinateL {f : Addr} {fd : FuncData} (F : Fun K "_law_coordinate" "_law_coordinate" sCoordinateL f fd) (T : Tx mg) (DDrawL : Dn P w K mg base CX0 "_law_draw" 1 ["tape", "many"] spDw) (DPowerL : Dn P w K mg base CX0 "_law_power" 1 ["many"] spPower)  : FnOk P w K mg base CX0 2 f fd ["tape", "rounds"] spCoordK := by
  refine F.ok scCoordinateL (fun vs H Q E h => ?_) (fun cdv A outer s H vs Q E hr h => ?_)
  · obtain ⟨t, l, r, rfl, _⟩ := h
    rfl
  · obtain ⟨t, l, r, rfl, Tt, r0, r8, kk⟩ := h
    refine ⟨_, (pss_cons (ps_set (i := 2) scCoordinateL.nd rfl (Or.inl rfl) (pe_dn DDrawL (hr.mono (by omega)) (pa_cons (pv 0) (pa_cons pe_int pa_nil))))
    (pss_cons (ps_if (pt_cmpR op_eq (pv 2) pe_int (nomark _))
    (pss_one (ps_ret pe_int))
    pss_nil)
    (pss_cons (ps_if (pt_cmpR op_eq (pv 2) pe_int (nomark _))
    (pss_one (ps_ret (pe_op op_sub (pe_dn DDrawL (hr.mono (by omega)) (pa_cons (pv 0) (pa_cons pe_int pa_nil))) pe_int)))
    pss_nil)
    (pss_one (ps_ret (pe_op op_mulW (pe_op op_sub (pe_dn DDrawL (hr.mono (by omega)) (pa_cons (pv 0) (pa_cons pe_int pa_nil))) pe_int) (pe_dn DPowerL (hr.mono (by omega)) (pa_cons (pe_dn DDrawL (hr.mono (by omega)) (pa_cons (pv 0) (pa_cons (pe_op op_add (pv 1) pe_int) pa_nil))) pa_nil)))))))), ?_⟩
    have st0 : L2.start ["tape", "rounds", "kind"] [V.ref t, V.int r] = [some (V.ref t), some (V.int r), none] := rfl
    rw [st0]
    walk_at "rds"
    refine ⟨t, l, 6, rfl, by walk_at "tq", by decide, by decide, fun v1 H1 a1 b1 T1 s1 => ?_⟩
    walk_at "rds"
    refine Rd.ifB (fun h => ?_) fun h => ?_
    · walk_at "rds"
      exact kk 0 _ (by decide) (by decide) T1 s1
    · walk_at "rds"
      refine Rd.ifB (fun h => ?_) fun h => ?_
      · walk_at "rds"
        refine ⟨t, l, 2000001, rfl, by walk_at "tq", by decide, by decide, fun v2 H2 a2 b2 T2 s2 => ?_⟩
        walk_at "rds"
        exact kk _ _ (by omega) (by omega) T2 (s1.trans s2)
      · walk_at "rds"
        refine ⟨t, l, 41, rfl, by walk_at "tq", by decide, by decide, fun v3 H3 a3 b3 T3 s3 => ?_⟩
        walk_at "rds"
        refine ⟨t, l, r + 2, rfl, by walk_at "tq", by omega, by omega, fun v4 H4 a4 b4 T4 s4 => ?_⟩
        walk_at "rds"
        refine ⟨v4, rfl, a4, by omega, ?_⟩
        have pc := pow_cases a4 (by omega)
        have ml := mul_le (a := v3 - 20) (by omega) (by omega) pc.1 pc.2
        have cw : CMulW (v3 - 20) (2 ^ v4.toNat) := wide_small (lt64 (by omega) (by omega)) (lt64 (by omega) (by omega))
        walk_at "rds"
        exact kk _ _ ml.1 ml.2 T4 (by walk_at "sam")
end
end K17
end SecK8
section SecK9
set_option Elab.async false
set_option linter.all false
set_option maxRecDepth 100000
set_option maxHeartbeats 4000000
set_option pp.deepTerms false
local macro_rules | `(tactic| walk_at "tq") => `(tactic| first | assumption | (refine' Dt.Tq.to ?s0 ?h0; (case h0 => assumption); (case s0 => walk_at "same")))
local macro_rules | `(tactic| walk_at "same") => `(tactic| first | exact L2.Same.refl _ | assumption | (refine' L2.Same.trans ?s1 ?s2; (case s2 => assumption); (case s1 => walk_at "same")))
local macro_rules | `(tactic| walk_at "sam") => `(tactic| first | exact Dt.Sam.refl | assumption | exact Dt.Sam.of (by assumption) | (refine' Dt.Sam.trans ?s1 ?s2; (case s2 => first | assumption | exact Dt.Sam.of (by assumption)); (case s1 => walk_at "sam")))
local macro_rules | `(tactic| walk_at "tape") => `(tactic| first | assumption | (refine' Dt.Tape.mono ?h0 ?s0; (case h0 => assumption); (case s0 => walk_at "same")))
local macro_rules | `(tactic| walk_at "nt") => `(tactic| first | exact Dt.nt_tup | exact Dt.nt_ints | assumption | (intro a0 b0 c0 l0 z0; cases z0) | (intro a0 b0 c0 l0 z0; simp at z0))
local macro_rules | `(tactic| walk_at "heap") => `(tactic| first | assumption | exact L2.upd_same | (refine' Rd.at_to ?s0 ?h0; (case h0 => assumption); (case s0 => walk_at "same")) | (refine' Dt.at_sam ?n0 ?s0 ?h0; (case h0 => assumption); (case n0 => walk_at "nt"); (case s0 => walk_at "sam")))
local macro_rules | `(tactic| walk_at "rp") => `(tactic| first | exact Dt.Rp.int _ | exact Dt.Rp.bl _ | exact Dt.Rp.str _ | exact Dt.Rp.non | assumption | (refine' Dt.Rp.sm ?s0 ?h0; (case h0 => assumption); (case s0 => walk_at "sam")) | (refine' Dt.Rp.tup ?h1 ?h2 ?h3; (case h1 => walk_at "heap"); (case h2 => walk_at "rps"); (case h3 => first | assumption | (show _ ≤ 1000; decide) | (show _ ≤ 1000; simp) | (show _ ≤ 1000; omega))) | (refine' Dt.Rp.lst ?h1 ?h2 ?h3 ?h4; (case h1 => walk_at "heap"); (case h2 => walk_at "rps"); (case h3 => first | assumption | (show _ ≤ 1000; decide) | (show _ ≤ 1000; simp) | (show _ ≤ 1000; omega)); (case h4 => walk_at "nt")))
local macro_rules | `(tactic| walk_at "rps") => `(tactic| first | exact Dt.RpAll.nil | assumption | (refine' Dt.RpAll.cons ?h1 ?h2; (case h1 => walk_at "rp"); (case h2 => walk_at "rps")) | (refine' Dt.RpAll.sm ?s0 ?h0; (case h0 => assumption); (case s0 => walk_at "sam")))
local macro_rules | `(tactic| walk_at "rd") => `(tactic| first
  | with_reducible refine Rd.seq ?_ | with_reducible refine Rd.asg ?_ | with_reducible refine Rd.nm ?_ | with_reducible refine Rd.sub ?_ | with_reducible refine Rd.ret ?_ | with_reducible refine Rd.retN ?_
  | with_reducible refine Rd.drop ?_ | with_reducible refine Rd.ifs ?_ | with_reducible refine Rd.next ?_ | with_reducible refine Rd.cst ?_ | with_reducible refine Rd.op ?_ | with_reducible refine Rd.un ?_
  | with_reducible refine Rd.test ?_ | with_reducible refine Rd.tb' ?_ | with_reducible refine Rd.exb ?_ | with_reducible refine Rd.exi ?_ | with_reducible refine Rd.and2 ?_ | with_reducible refine Rd.or2 ?_ | with_reducible refine Rd.not1 ?_
  | with_reducible refine Rd.andV ?_ | with_reducible refine Rd.orV ?_ | with_reducible refine Rd.notV ?_ | with_reducible refine Rd.nil ?_ | with_reducible refine Rd.cons ?_ | with_reducible refine Rd.cb ?_
  | with_reducible refine Rd.i0 ?_ | with_reducible refine Rd.u1 ?_ | with_reducible refine Rd.call ?_ | with_reducible refine Rd.tup ?_ | with_reducible refine Rd.lst ?_ | with_reducible refine Rd.sl ?_ | with_reducible refine Rd.no ?_ | with_reducible refine Rd.part ?_ | with_reducible refine Rd.at_ ?_ | with_reducible refine Rd.yes ?_ | with_reducible refine Rd.fors ?_ | with_reducible refine Rd.m1 ?_ | with_reducible refine Rd.exs ?_ | with_reducible refine Rd.lc ?_ | with_reducible refine Rd.rng ?_
  | with_reducible refine Rd.mkv ?_ | with_reducible refine Rd.mko ?_ | with_reducible refine Rd.callB ?_ | with_reducible refine Rd.callS ?_ | with_reducible refine Rd.bm ?_ | with_reducible refine Rd.itl ?_ | with_reducible refine Rd.itt ?_
  | ((with_reducible refine' And.intro ?hl ?_); (case hl => ((with_reducible show List.length _ ≤ PySem.sizeLine); (show _ ≤ PySem.sizeLine); rw [PySem.sizeLine_eq]; simp)))
  | (intro p0 n0; generalize hK0 : L2.upd _ p0 _ = K0; obtain ⟨e0, t0⟩ := Dt.newK hK0 n0)
  | ((with_reducible refine' Rd.lenKL ?he ?_); (case he => walk_at "heap")) | ((with_reducible refine' Rd.lenKT ?he ?_); (case he => walk_at "heap"))
  | ((with_reducible refine' Rd.var ?hv ?_); (case hv => exact rfl))
  | ((with_reducible refine' Rd.ifT ?hv ?_); (case hv => first | exact rfl | assumption)) | ((with_reducible refine' Rd.ifF ?hv ?_); (case hv => first | exact rfl | assumption))
  | ((with_reducible refine' Rd.eq ?hv ?_); (case hv => exact rfl))
  | ((with_reducible refine' Rd.ne ?hv ?_); (case hv => exact rfl))
  | ((with_reducible refine' Dt.isi_int ?hr ?_); (case hr => walk_at "rp")) | ((with_reducible refine' Dt.isi_bool ?hr ?_); (case hr => walk_at "rp")) | ((with_reducible refine' Dt.isi_tuple ?hr ?_); (case hr => walk_at "rp")) | ((with_reducible refine' Dt.isi_str ?hr ?_); (case hr => walk_at "rp")) | ((with_reducible refine' Dt.isi_list ?hr ?_); (case hr => walk_at "rp"))
  | with_reducible refine ⟨rfl, ?_⟩ | with_reducible refine Or.inl ⟨_, rfl, ?_⟩ | with_reducible refine Or.inr ⟨_, rfl, ?_⟩ | with_reducible refine ⟨_, rfl, ?_⟩
  | ((with_reducible refine' Rd.ex2 ⟨rfl, ?hl, ?_⟩); (case hl => first | exact Or.inl ⟨_, L2.SqL.of (by walk_at "heap"), rfl⟩ | exact Or.inr ⟨_, L2.SqT.of (by walk_at "heap"), rfl⟩))
  | ((with_reducible refine' Rd.i1 ?hv ?_); (case hv => first | exact ⟨by decide, by decide, by decide⟩ | exact Or.inr ⟨by decide, by decide⟩ | exact Or.inl ⟨by decide, by decide⟩ | exact ⟨by decide, by decide⟩ | decide | assumption | (show _ ≠ _; omega) | (refine ⟨?_, ?_⟩ <;> omega) | (refine Or.inl ⟨?_, ?_⟩ <;> omega)))
  | ((with_reducible refine' Rd.ixL ?he ?hx ?_); (case he => walk_at "heap"); (case hx => rfl))
  | ((with_reducible refine' Rd.ixT ?he ?hx ?_); (case he => walk_at "heap"); (case hx => rfl))
  | ((with_reducible refine' Rd.setL ?he ?hx ?_); (case he => first | assumption | exact L2.upd_same); (case hx => rfl)))
local macro_rules | `(tactic| walk_at "rd") => `(tactic| first | with_reducible refine Rd.isT ?_ | with_reducible refine Rd.isnT ?_ | with_reducible refine Rd.ife ?_)
local macro_rules | `(tactic| walk_at "rd") => `(tactic| first | ((with_reducible refine' Rd.gtup ?he ?hl ?_); (case he => walk_at "heap"); (case hl => exact rfl)) | with_reducible refine Rd.brk ?_ | with_reducible refine Rd.callR ?_ | ((with_reducible refine' ⟨_, _, rfl, Or.inl ⟨L2.SqL.of ?hp, ?_⟩⟩); (case hp => walk_at "heap")) | ((with_reducible refine' ⟨_, _, rfl, Or.inl (L2.SqL.of ?hp), ?_⟩); (case hp => walk_at "heap")) | ((with_reducible refine' Rd.catL ?hp ?hq ?hl ?_); (case hp => walk_at "heap"); (case hq => walk_at "heap"); (case hl => (simp only [List.length_map, List.length_append, List.length_cons, List.length_nil]; omega)); (intro r0 J0 e0 t0 n0)) | with_reducible refine Rd.bits ?_ | with_reducible refine Rd.max2 ?_ | with_reducible refine Rd.gcons ?_ | with_reducible refine Rd.gnil ?_)
local macro_rules | `(tactic| walk_at "rds") => `(tactic| repeat (first | walk_at "rd" | assumption))
namespace K17
open PySem PySem.Spec PyProof.Rows L2 L2H Err Dt
open Bt
/-- the figures of a mask -/
def mrow (n : Nat) (mask : Int) : List Nat := (List.range n).filter fun i => decide (mask / 2 ^ i % 2 = 1)
def mkPt (cs : List Int) (k : Nat) (mask : Int) : List Int := (List.range cs.length).map fun i => cs.getD i 0 * 2 ^ (k + 1) + 2 ^ k * (mask / 2 ^ i % 2)
theorem mk_at {cs : List Int} {k i : Nat} {mask : Int} (h : i < cs.length) : (mkPt cs k mask).getD i 0 = cs.getD i 0 * 2 ^ (k + 1) + 2 ^ k * (mask / 2 ^ i % 2) := by
  unfold mkPt
  rw [List.getD_eq_getElem?_getD, List.getElem?_map, List.getElem?_range h]
  rfl
theorem mk_quo {c b : Int} {k : Nat} : (c * 2 ^ (k + 1) + 2 ^ k * b) = 2 ^ k * (2 * c + b) := by
  rw [Int.pow_succ]
  generalize (2 : Int) ^ k = g
  grind
theorem mk_odd {cs : List Int} {k i : Nat} {mask : Int} (h : i < cs.length) : odd k ((mkPt cs k mask).getD i 0) = decide (mask / 2 ^ i % 2 = 1) := by
  rw [mk_at h, mk_quo]
  unfold odd
  rw [Int.mul_ediv_cancel_left _ (by have := pow_pos k; omega)]
  exact decide_eq_decide.mpr ⟨fun z => by omega, fun z => by omega⟩
theorem mk_gr {cs : List Int} {k : Nat} {mask : Int} (h : ∃ i, i < cs.length ∧ mask / 2 ^ i % 2 = 1) : Gr (mkPt cs k mask) k := by
  constructor
  · intro n hn
    obtain ⟨i, hi, rfl⟩ := List.mem_map.mp hn
    rw [mk_quo, Int.mul_ediv_cancel_left _ (by have := pow_pos k; omega)]
  · obtain ⟨i, hi, hm⟩ := h
    refine ⟨_, List.mem_map.mpr ⟨i, List.mem_range.mpr hi, rfl⟩, ?_⟩
    rw [mk_quo, Int.mul_ediv_cancel_left _ (by have := pow_pos k; omega)]
    omega
theorem mk_len {cs : List Int} {k : Nat} {mask : Int} : (mkPt cs k mask).length = cs.length := by unfold mkPt; rw [List.length_map, List.length_range]
theorem mk_op {cs : List Int} {k : Nat} {mask : Int} : opL (mkPt cs k mask) k = mrow cs.length mask := by
  unfold opL mrow
  rw [mk_len]
  apply List.filter_congr
  intro i hi
  exact mk_odd (List.mem_range.mp hi)
theorem mask_bit {n : Nat} {mask : Int} (hn : n = 2 ∨ n = 3) (h0 : 1 ≤ mask) (h1 : mask < 2 ^ n) : ∃ i, i < n ∧ mask / 2 ^ i % 2 = 1 := by
  rcases hn with rfl | rfl
  · have : mask < 4 := h1
    rcases (by omega : mask = 1 ∨ mask = 2 ∨ mask = 3) with rfl | rfl | rfl
    · exact ⟨0, by decide, by decide⟩
    · exact ⟨1, by decide, by decide⟩
    · exact ⟨0, by decide, by decide⟩
  · have : mask < 8 := h1
    rcases (by omega : mask = 1 ∨ mask = 2 ∨ mask = 3 ∨ mask = 4 ∨ mask = 5 ∨ mask = 6 ∨ mask = 7) with rfl | rfl | rfl | rfl | rfl | rfl | rfl
    · exact ⟨0, by decide, by decide⟩
    · exact ⟨1, by decide, by decide⟩
    · exact ⟨0, by decide, by decide⟩
    · exact ⟨2, by decide, by decide⟩
    · exact ⟨0, by decide, by decide⟩
    · exact ⟨1, by decide, by decide⟩
    · exact ⟨0, by decide, by decide⟩
theorem maskB {mask : Int} {i : Nat} : decide (V.int (mask / 2 ^ i % 2) = V.int 1) = decide (mask / 2 ^ i % 2 = 1) := decide_eq_decide.mpr ⟨fun z => V.int.inj z, fun z => by rw [z]⟩
theorem mrow_take {mask : Int} {i : Nat} : mrow (i + 1) mask = mrow i mask ++ if decide (mask / 2 ^ i % 2 = 1) = true then [i] else [] := by
  unfold mrow
  rw [List.range_succ, List.filter_append]
  congr 1
  split <;> rename_i h
  · exact List.filter_cons_of_pos (p := fun i => decide (mask / 2 ^ i % 2 = 1)) h
  · exact List.filter_cons_of_neg (p := fun i => decide (mask / 2 ^ i % 2 = 1)) h
theorem mrow_len (n : Nat) (mask : Int) : (mrow n mask).length ≤ n := by
  unfold mrow
  refine Nat.le_trans (List.length_filter_le _ _) ?_
  rw [List.length_range]
  exact Nat.le_refl _
abbrev mrowV (n : Nat) (mask : Int) : List Int := (mrow n mask).map fun i : Nat => (i : Int)
theorem inV_m {n i : Nat} {mask : Int} (h : i < n) : inV (.int (i : Int)) ((mrowV n mask).map V.int) = decide (mask / 2 ^ i % 2 = 1) := by
  rw [inV_ints]
  apply decide_eq_decide.mpr
  constructor
  · intro z
    obtain ⟨j, hj, e⟩ := List.mem_map.mp z
    have e : j = i := by omega
    subst e
    unfold mrow at hj
    exact of_decide_eq_true (List.mem_filter.mp hj).2
  · intro z
    refine List.mem_map.mpr ⟨i, ?_, rfl⟩
    unfold mrow
    exact List.mem_filter.mpr ⟨List.mem_range.mpr h, decide_eq_true z⟩
theorem bitI {mask : Int} {i : Nat} : (if decide (mask / 2 ^ i % 2 = 1) = true then (1 : Int) else 0) = mask / 2 ^ i % 2 := by
  by_cases h : mask / 2 ^ i % 2 = 1
  · rw [if_pos (decide_eq_true h), h]
  · rw [if_neg (by rw [decide_eq_false h]; decide)]
    omega
theorem mk_take {cs : List Int} {k i : Nat} {mask : Int} (h : i < cs.length) : ((mkPt cs k mask).take (i + 1)).map V.int = ((mkPt cs k mask).take i).map V.int ++ [.int (cs.getD i 0 * 2 ^ (k + 1) + 2 ^ k * (mask / 2 ^ i % 2))] := by
  have e : (mkPt cs k mask)[i]? = some (cs.getD i 0 * 2 ^ (k + 1) + 2 ^ k * (mask / 2 ^ i % 2)) := by
    unfold mkPt
    rw [List.getElem?_map, List.getElem?_range h]
    rfl
  rw [List.take_succ, e, List.map_append]
  rfl
theorem pow_sub {a b : Nat} (h : b ≤ a) : (2 : Int) ^ a / 2 ^ b = 2 ^ (a - b) := by
  have e : (2 : Int) ^ a = 2 ^ (a - b) * 2 ^ b := by rw [← Int.pow_add]; congr 1; omega
  rw [e, Int.mul_ediv_cancel _ (by have := pow_pos b; omega)]
section
variable {P : Program} {w : World} {K : PySem.W.Frag} {mg : Str → Option Value} {base : Heap}
set_option pp.maxSteps 3000
abbrev sPointsL : Stmt := topS 44
theorem scPointsL : FnScope ["tape", "space", "turn", "point", "i", "unit", "width", "mask", "row", "low"] ["tape", "space"] (defScope sPointsL) := ⟨rfl, rfl, rfl, by decide +kernel, rfl, by decide +kernel, by decide +kernel⟩
theorem okPointsL {f : Addr} {fd : FuncData} (F : Fun K "_law_points" "_law_points" sPointsL f fd) (T : Tx mg) (DDrawL : Dn P w K mg base CX0 "_law_draw" 1 ["tape", "many"] spDw) (DPowerL : Dn P w K mg base CX0 "_law_power" 1 ["many"] spPower) (DCoordinateL : Dn P w K mg base CX0 "_law_coordinate" 2 ["tape", "rounds"] spCoordK) (DLookedL : Dn P w K mg base CX0 "_law_looked" 9 ["space", "point"] spLooked) (DSeatedL : Dn P w K mg base CX0 "_law_seated" 7 ["space", "point", "grain", "row"] spSeated)  : FnOk P w K mg base CX0 10 f fd ["tape", "space"] spPts := by
  refine F.ok scPointsL (fun vs H Q E h => ?_) (fun cdv A outer s H vs Q E hr h => ?_)
  · obtain ⟨t, l, s, n, r, rfl, _⟩ := h
    rfl
  · obtain ⟨t, l, s, n, r, rfl, hS, Tt, kk⟩ := h
    refine ⟨_, (C8.pss_cut (ps_for PassesOwn.never rfl (pi_range1 rfl T.n_range (pa_cons pe_int pa_nil)) (pg_name (i := 2) scPointsL.nd rfl (Or.inl rfl))
    (pss_cons (ps_set (i := 3) scPointsL.nd rfl (Or.inl rfl) (pe_callTy call_tuple_of (by rfl) T.n_tuple (by decide +kernel) (pa_cons (pe_lc (own := [("i", 4)]) (g := (gName 4)) (by rfl) scPointsL.nd (pi_range1 rfl T.n_range (pa_cons (pe_ix ix_tup (pv 1) pe_int (fun _ _ => rfl)) pa_nil)) (blkOk_by (own := [("i", 4)]) (N := ["tape", "space", "turn", "point", "i", "unit", "width", "mask", "row", "low"]) (sc := defScope sPointsL) (by decide +kernel)) (fun _ _ _ _ _ => (pg_name (i := 4) scPointsL.nd rfl (Or.inl rfl))) (fun _ _ _ _ _ => pts_nil) (fun _ _ _ _ _ => (pe_dn DCoordinateL (hr.mono (by omega)) (pa_cons (pv 0) (pa_cons (pe_ix (r := rIxT K) ix_tup (pv 1) pe_int (fun _ _ => rfl)) pa_nil))))) pa_nil)))
      (pss_one (ps_if (pt_not (pt_val (pe_dn DLookedL (hr.mono (by omega)) (pa_cons (pv 1) (pa_cons (pv 3) pa_nil)))))
      (pss_one (ps_ret pe_bl))
      pss_nil))))
    (pss_cons (ps_set (i := 5) scPointsL.nd rfl (Or.inl rfl) (pe_dn DPowerL (hr.mono (by omega)) (pa_cons (pe_ix ix_tup (pv 1) pe_int (fun _ _ => rfl)) pa_nil)))
    (pss_cons (ps_for PassesOwn.never rfl (pi_range1 rfl T.n_range (pa_cons pe_int pa_nil)) (pg_name (i := 2) scPointsL.nd rfl (Or.inl rfl))
    (pss_one (ps_if (pt_cmpR op_gt (pe_ix ix_tup (pv 1) pe_int (fun _ _ => rfl)) pe_int (nomark _))
      (pss_cons (ps_set (i := 6) scPointsL.nd rfl (Or.inr rfl) (pe_op op_fdiv (pv 5) (pe_dn DPowerL (hr.mono (by omega)) (pa_cons (pe_dn DDrawL (hr.mono (by omega)) (pa_cons (pv 0) (pa_cons (pe_ix ix_tup (pv 1) pe_int (fun _ _ => rfl)) pa_nil))) pa_nil))))
        (pss_cons (ps_set (i := 7) scPointsL.nd rfl (Or.inr rfl) (pe_op op_add pe_int (pe_dn DDrawL (hr.mono (by omega)) (pa_cons (pv 0) (pa_cons (pe_op op_sub (pe_dn DPowerL (hr.mono (by omega)) (pa_cons (pe_ix ix_tup (pv 1) pe_int (fun _ _ => rfl)) pa_nil)) pe_int) pa_nil)))))
        (pss_cons (ps_set (i := 8) scPointsL.nd rfl (Or.inr rfl) (pe_lc (own := [("i", 4)]) (g := (gName 4)) (by rfl) scPointsL.nd (pi_range1 rfl T.n_range (pa_cons (pe_ix ix_tup (pv 1) pe_int (fun _ _ => rfl)) pa_nil)) (blkOk_by (own := [("i", 4)]) (N := ["tape", "space", "turn", "point", "i", "unit", "width", "mask", "row", "low"]) (sc := defScope sPointsL) (by decide +kernel)) (fun _ _ _ _ _ => (pg_name (i := 4) scPointsL.nd rfl (Or.inl rfl))) (fun _ _ _ _ _ => (pts_one (pt_cmpR op_eq (pe_op op_mod (pe_callTy call_int1 (by rfl) T.n_int (by decide +kernel) (pa_cons (pe_op op_fdiv (pv 7) (pe_dn DPowerL (hr.mono (by omega)) (pa_cons (pv 4) pa_nil))) pa_nil)) pe_int) pe_int (nomark _)))) (fun _ _ _ _ _ => (pv 4))))
        (pss_cons (ps_set (i := 9) scPointsL.nd rfl (Or.inr rfl) (pe_lc (own := [("i", 4)]) (g := (gName 4)) (by rfl) scPointsL.nd (pi_range1 rfl T.n_range (pa_cons (pe_ix ix_tup (pv 1) pe_int (fun _ _ => rfl)) pa_nil)) (blkOk_by (own := [("i", 4)]) (N := ["tape", "space", "turn", "point", "i", "unit", "width", "mask", "row", "low"]) (sc := defScope sPointsL) (by decide +kernel)) (fun _ _ _ _ _ => (pg_name (i := 4) scPointsL.nd rfl (Or.inl rfl))) (fun _ _ _ _ _ => pts_nil) (fun _ _ _ _ _ => (pe_op op_mulW (pe_op op_sub (pe_dn DDrawL (hr.mono (by omega)) (pa_cons (pv 0) (pa_cons pe_int pa_nil))) pe_int) (pv 6)))))
        (pss_cons (ps_set (i := 3) scPointsL.nd rfl (Or.inl rfl) (pe_callTy call_tuple_of (by rfl) T.n_tuple (by decide +kernel) (pa_cons (pe_lc (own := [("i", 4)]) (g := (gName 4)) (by rfl) scPointsL.nd (pi_range1 rfl T.n_range (pa_cons (pe_ix ix_tup (pv 1) pe_int (fun _ _ => rfl)) pa_nil)) (blkOk_by (own := [("i", 4)]) (N := ["tape", "space", "turn", "point", "i", "unit", "width", "mask", "row", "low"]) (sc := defScope sPointsL) (by decide +kernel)) (fun _ _ _ _ _ => (pg_name (i := 4) scPointsL.nd rfl (Or.inl rfl))) (fun _ _ _ _ _ => pts_nil) (fun _ _ _ _ _ => (pe_op op_add (pe_ix (r := rIxL K) ix_list (pv 9) (pv 4) (fun _ _ => rfl)) (pe_op op_mulW (pe_op op_fdiv (pv 6) pe_int) (pe_callTy call_int1 (by rfl) T.n_int (by decide +kernel) (pa_cons (pe_cmpR (r := rIn K false) op_in_seq (pv 4) (pv 8) (by rfl)) pa_nil)))))) pa_nil)))
        (pss_one (ps_if (pt_not (pt_val (pe_dn DSeatedL (hr.mono (by omega)) (pa_cons (pv 1) (pa_cons (pv 3) (pa_cons (pe_op op_fdiv (pv 6) pe_int) (pa_cons (pe_callTy call_tuple_of (by rfl) T.n_tuple (by decide +kernel) (pa_cons (pv 8) pa_nil)) pa_nil)))))))
        (pss_one (ps_ret pe_bl))
        pss_nil)))))))
      pss_nil)))
    (pss_one (ps_ret pe_bl))))), ?_⟩
    have st0 : L2.start ["tape", "space", "turn", "point", "i", "unit", "width", "mask", "row", "low"] [V.ref t, V.ref s] = [some (V.ref t), some (V.ref s), none, none, none, none, none, none, none, none] := rfl
    rw [st0]
    have n2 := hS.2.1
    have n3 := hS.2.2.1
    have q8 := hS.2.2.2
    have hn := show n.toNat = 2 ∨ n.toNat = 3 by omega
    walk_at "rds"
    refine cut_at (fun σ' H' => ∃ u1 u2 u3, σ' = [some (.ref t), some (.ref s), u1, u2, u3, none, none, none, none, none] ∧ Tq t l H' ∧ Sam H H') ?_ ?_
    · walk_at "rds"
      refine ⟨by decide, by decide, ?_⟩
      refine for_range (lo := 0) (n := 5) (fun i σ' H' => ∃ u1 u2 u3, σ' = [some (.ref t), some (.ref s), u1, u2, u3, none, none, none, none, none] ∧ Tq t l H' ∧ Sam H H') ⟨_, _, _, rfl, Tt, Sam.refl⟩ ?_ (fun σ' H' h => h)
      rintro i σ' H1 hi ⟨u1, u2, u3, rfl, T1, s1⟩
      have es1 := s1 _ _ nt_tup hS.1
      walk_at "rds"
      refine ⟨by omega, by omega, fun d hd => ?_⟩
      have nd := T1.ne hd
      refine lc_range (lo := 0) (n := n.toNat) (fun i H4 => ∃ ms : List Int, ms.length = i ∧ H4 d = some (.lst (ms.map V.int)) ∧ Tq t l H4 ∧ Sam H1 H4) ⟨[], rfl, upd_same, T1.to (same_put hd (Same.refl _)), Sam.of (same_put hd (Same.refl _))⟩ ?_ ?_
      · rintro i H4 hi ⟨ms, lm, e4, T4, s4⟩
        have es4 := s4 _ _ nt_tup es1
        refine ⟨rfl, ?_⟩
        walk_at "rds"
        refine ⟨t, l, r, rfl, T4, by omega, by omega, fun c H5 a5 b5 T5 s5 => ?_⟩
        refine ⟨_, s5 _ _ nt_ints e4, ?_, ms ++ [c], by rw [List.length_append, lm]; rfl, by rw [upd_same, List.map_append]; rfl, T5.put nd, sam_put hd (s4.trans s5)⟩
        rw [List.length_map, lm, sizeLine_eq]
        omega
      rintro H4 ⟨ms, lm, e4, T4, s4⟩
      walk_at "rds"
      rename_i p6 m6 H6 g6 e6 t6
      refine ⟨s, p6, n, r, ms, rfl, ⟨t6 _ _ (s4 _ _ nt_tup es1), hS.2⟩, e6, by omega, fun H7 t7 => ?_⟩
      walk_at "rds"
      exact ⟨_, _, _, rfl, (T4.to t6).to t7, ((s1.trans s4).trans (Sam.of t6)).trans (Sam.of t7)⟩
    rintro _ H1 ⟨u1, u2, u3, rfl, T1, s1⟩
    have es1 := s1 _ _ nt_tup hS.1
    walk_at "rds"
    refine ⟨r, rfl, by omega, by omega, ?_⟩
    walk_at "rds"
    refine ⟨by decide, by decide, ?_⟩
    refine for_range (lo := 0) (n := 3) (fun i σ' H' => ∃ u1 u2 u3 u4 u5 u6 u7, σ' = [some (.ref t), some (.ref s), u1, u2, u3, some (.int (2 ^ r.toNat)), u4, u5, u6, u7] ∧ Tq t l H' ∧ Sam H H') ⟨_, _, _, _, _, _, _, rfl, T1, s1⟩ ?_ ?_
    · rintro i σ' H1 hi ⟨u1, u2, u3, u4, u5, u6, u7, rfl, T1, s1⟩
      have es1 := s1 _ _ nt_tup hS.1
      walk_at "rds"
      refine Rd.ifB (fun h => ?_) fun h => ?_
      · have r0 := of_decide_eq_true h
        walk_at "rds"
        refine ⟨t, l, r, rfl, T1, by omega, by omega, fun v2 H2 a2 b2 T2 s2 => ?_⟩
        walk_at "rds"
        refine ⟨v2, rfl, a2, by omega, ?_⟩
        have cd2 := cdiv_pow (x := 2 ^ r.toNat) (t := v2.toNat) (by omega)
        walk_at "rds"
        rw [pow_sub (show v2.toNat ≤ r.toNat by omega)]
        obtain ⟨k, hk⟩ : ∃ k : Nat, r.toNat - v2.toNat = k + 1 := ⟨r.toNat - v2.toNat - 1, by omega⟩
        rw [hk]
        have es2 := s2 _ _ nt_tup es1
        walk_at "rds"
        refine ⟨n, rfl, by omega, by omega, ?_⟩
        have pn : (2 : Int) ^ n.toNat = 4 ∨ (2 : Int) ^ n.toNat = 8 := by
          rcases hn with z | z <;> rw [z]
          · exact .inl rfl
          · exact .inr rfl
        walk_at "rds"
        refine ⟨t, l, _, rfl, T2, by omega, by omega, fun v3 H3 a3 b3 T3 s3 => ?_⟩
        have mb := mask_bit (mask := 1 + v3) hn (by omega) (by rcases hn with z | z <;> rw [z] at b3 ⊢ <;> (have e1 : (2 : Int) ^ 2 = 4 := rfl) <;> (have e2 : (2 : Int) ^ 3 = 8 := rfl) <;> omega)
        have es3 := s3 _ _ nt_tup es2
        walk_at "rds"
        generalize hm : 1 + v3 = mask at *
        refine ⟨by omega, by omega, fun d hd => ?_⟩
        refine lc_range (lo := 0) (n := n.toNat) (fun i H4 => H4 d = some (.lst ((mrowV i mask).map V.int)) ∧ Same H3 H4) ⟨upd_same, same_put hd (Same.refl _)⟩ ?_ ?_
        · rintro i H4 hi ⟨e4, s4⟩
          rw [Int.zero_add]
          refine ⟨rfl, ?_⟩
          walk_at "rds"
          refine ⟨(i : Int), rfl, by omega, by omega, ?_⟩
          have cd4 := cdiv_pow (x := mask) (t := i) (by omega)
          rw [show ((i : Int)).toNat = i from rfl]
          walk_at "rds"
          rw [maskB]
          have nx := mrow_take (mask := mask) (i := i)
          refine Rd.ifB (fun h => ?_) fun h => ?_
          · walk_at "rds"
            rw [if_pos h] at nx
            refine ⟨_, e4, ?_, ?_, same_put hd s4⟩
            · rw [List.length_map, List.length_map, sizeLine_eq]
              have := mrow_len i mask
              omega
            · rw [upd_same]
              unfold mrowV
              rw [nx, List.map_append, List.map_append]
              rfl
          · walk_at "rds"
            rw [if_neg (by rw [h]; decide), List.append_nil] at nx
            unfold mrowV
            rw [nx]
            exact ⟨e4, s4⟩
        rintro H4 ⟨e4, s4⟩
        have T4 := T3.to s4
        have es4 := s4 _ _ es3
        walk_at "rds"
        refine ⟨by omega, by omega, fun d5 hd5 => ?_⟩
        have nd5 := T4.ne hd5
        refine lc_range (lo := 0) (n := n.toNat) (fun i H5 => ∃ cs : List Int, cs.length = i ∧ (∀ c ∈ cs, -30 ≤ c ∧ c ≤ 30) ∧ H5 d5 = some (.lst ((cs.map fun c => c * 2 ^ (k + 1)).map V.int)) ∧ Tq t l H5 ∧ Sam H4 H5) ⟨[], rfl, (fun c hc => by cases hc), upd_same, T4.to (same_put hd5 (Same.refl _)), Sam.of (same_put hd5 (Same.refl _))⟩ ?_ ?_
        · rintro i H5 hi ⟨cs, lc, bc, e5, T5, s5⟩
          refine ⟨rfl, ?_⟩
          walk_at "rds"
          refine ⟨t, l, 61, rfl, T5, by decide, by decide, fun v6 H6 a6 b6 T6 s6 => ?_⟩
          have pc := pow_cases (a := ((k + 1 : Nat) : Int)) (by omega) (by omega)
          rw [show (((k + 1 : Nat) : Int)).toNat = k + 1 from rfl] at pc
          have cw : CMulW (v6 - 30) (2 ^ (k + 1)) := wide_small (lt64 (by omega) (by omega)) (lt64 (by omega) (by omega))
          walk_at "rds"
          refine ⟨_, s6 _ _ nt_ints e5, ?_, cs ++ [v6 - 30], by rw [List.length_append, lc]; rfl, fun c hc => ?_, by rw [upd_same, List.map_append, List.map_append]; rfl, T6.put nd5, sam_put hd5 (s5.trans s6)⟩
          · rw [List.length_map, List.length_map, lc, sizeLine_eq]
            omega
          · rcases List.mem_append.mp hc with h | h
            · exact bc c h
            · rw [List.mem_singleton.mp h]; omega
        rintro H5 ⟨cs, lc, bc, e5, T5, s5⟩
        have er5 := s5 _ _ nt_ints e4
        have es5 := s5 _ _ nt_tup es4
        walk_at "rds"
        have pd : (2 : Int) ^ (k + 1) / 2 = 2 ^ k := by rw [Int.pow_succ]; exact Int.mul_ediv_cancel _ (by decide)
        refine ⟨by omega, by omega, fun d7 hd7 => ?_⟩
        refine lc_range (lo := 0) (n := n.toNat) (fun i H7 => H7 d7 = some (.lst (((mkPt cs k mask).take i).map V.int)) ∧ Same H5 H7) ⟨upd_same, same_put hd7 (Same.refl _)⟩ ?_ ?_
        · rintro i H7 hi ⟨e7, s7⟩
          rw [Int.zero_add]
          refine ⟨rfl, ?_⟩
          have el7 := s7 _ _ e5
          have er7 := s7 _ _ er5
          have pc := pow_cases (a := (k : Int)) (by omega) (by omega)
          rw [show ((k : Int)).toNat = k from rfl] at pc
          have cw : CMulW ((2 : Int) ^ (k + 1) / 2) (mask / 2 ^ i % 2) := by rw [pd]; exact wide_small (lt64 (by omega) (by omega)) (lt64 (by omega) (by omega))
          have hic : i < cs.length := by omega
          walk_at "rds"
          refine Rd.ixL el7 (v := .int (cs.getD i 0 * 2 ^ (k + 1))) (atI_nat (by rw [List.getElem?_map, List.getElem?_map, List.getElem?_eq_getElem hic, List.getD_eq_getElem?_getD, List.getElem?_eq_getElem hic]; rfl)) ?_
          walk_at "rds"
          refine ⟨_, _, rfl, .inl (SqL.of er7), rfl, flat_ints, ?_⟩
          rw [if_neg (by decide), inV_m hi]
          walk_at "rds"
          change rI CMulW _ _ _ _ _
          rw [bitI]
          walk_at "rds"
          rw [pd]
          refine ⟨_, e7, ?_, by rw [upd_same, mk_take hic], same_put hd7 s7⟩
          rw [List.length_map, List.length_take, sizeLine_eq]
          omega
        rintro H7 ⟨e7, s7⟩
        have tk : (mkPt cs k mask).take n.toNat = mkPt cs k mask := List.take_of_length_le (by rw [mk_len, lc]; exact Nat.le_refl _)
        rw [tk] at e7
        walk_at "rds"
        rename_i pp np J1 hJ1 f1 w1 pr nr J2 hJ2 f2 w2
        rw [pd]
        have gg : Gr (mkPt cs k mask) k := mk_gr (by rw [lc]; exact mb)
        have es7 : J2 s = some (HO.tup [V.int n, V.int r]) := w2 _ _ (w1 _ _ (s7 _ _ es5))
        refine ⟨s, pp, pr, n, r, mkPt cs k mask, k, rfl, ⟨es7, hS.2⟩, w2 _ _ f1, by rw [mk_len]; omega, gg, by omega, ?_, fun J3 w3 => ?_⟩
        · unfold opV
          rw [mk_op, lc]
          exact f2
        walk_at "rds"
        exact ⟨_, _, _, _, _, _, _, rfl, (((T5.to s7).to w1).to w2).to w3, s1.trans (s2.trans (s3.trans ((Sam.of s4).trans (s5.trans (Sam.of (s7.trans (w1.trans (w2.trans w3))))))))⟩
      · walk_at "rds"
        exact ⟨_, _, _, _, _, _, _, rfl, T1, s1⟩
    · rintro σ' H1 ⟨u1, u2, u3, u4, u5, u6, u7, rfl, T1, s1⟩
      walk_at "rds"
      exact kk _ T1 s1
end
end K17
end SecK9
section SecK10
set_option Elab.async false
set_option linter.all false
set_option maxRecDepth 100000
set_option maxHeartbeats 4000000
set_option pp.deepTerms false
local macro_rules | `(tactic| walk_at "tq") => `(tactic| first | assumption | (refine' Dt.Tq.to ?s0 ?h0; (case h0 => assumption); (case s0 => walk_at "same")))
local macro_rules | `(tactic| walk_at "same") => `(tactic| first | exact L2.Same.refl _ | assumption | (refine' L2.Same.trans ?s1 ?s2; (case s2 => assumption); (case s1 => walk_at "same")))
local macro_rules | `(tactic| walk_at "sam") => `(tactic| first | exact Dt.Sam.refl | assumption | exact Dt.Sam.of (by assumption) | (refine' Dt.Sam.trans ?s1 ?s2; (case s2 => first | assumption | exact Dt.Sam.of (by assumption)); (case s1 => walk_at "sam")))
local macro_rules | `(tactic| walk_at "tape") => `(tactic| first | assumption | (refine' Dt.Tape.mono ?h0 ?s0; (case h0 => assumption); (case s0 => walk_at "same")))
local macro_rules | `(tactic| walk_at "nt") => `(tactic| first | exact Dt.nt_tup | exact Dt.nt_ints | assumption | (intro a0 b0 c0 l0 z0; cases z0) | (intro a0 b0 c0 l0 z0; simp at z0))
local macro_rules | `(tactic| walk_at "heap") => `(tactic| first | assumption | exact L2.upd_same | (refine' Rd.at_to ?s0 ?h0; (case h0 => assumption); (case s0 => walk_at "same")) | (refine' Dt.at_sam ?n0 ?s0 ?h0; (case h0 => assumption); (case n0 => walk_at "nt"); (case s0 => walk_at "sam")))
local macro_rules | `(tactic| walk_at "rp") => `(tactic| first | exact Dt.Rp.int _ | exact Dt.Rp.bl _ | exact Dt.Rp.str _ | exact Dt.Rp.non | assumption | (refine' Dt.Rp.sm ?s0 ?h0; (case h0 => assumption); (case s0 => walk_at "sam")) | (refine' Dt.Rp.tup ?h1 ?h2 ?h3; (case h1 => walk_at "heap"); (case h2 => walk_at "rps"); (case h3 => first | assumption | (show _ ≤ 1000; decide) | (show _ ≤ 1000; simp) | (show _ ≤ 1000; omega))) | (refine' Dt.Rp.lst ?h1 ?h2 ?h3 ?h4; (case h1 => walk_at "heap"); (case h2 => walk_at "rps"); (case h3 => first | assumption | (show _ ≤ 1000; decide) | (show _ ≤ 1000; simp) | (show _ ≤ 1000; omega)); (case h4 => walk_at "nt")))
local macro_rules | `(tactic| walk_at "rps") => `(tactic| first | exact Dt.RpAll.nil | assumption | (refine' Dt.RpAll.cons ?h1 ?h2; (case h1 => walk_at "rp"); (case h2 => walk_at "rps")) | (refine' Dt.RpAll.sm ?s0 ?h0; (case h0 => assumption); (case s0 => walk_at "sam")))
local macro_rules | `(tactic| walk_at "rd") => `(tactic| first
  | with_reducible refine Rd.seq ?_ | with_reducible refine Rd.asg ?_ | with_reducible refine Rd.nm ?_ | with_reducible refine Rd.sub ?_ | with_reducible refine Rd.ret ?_ | with_reducible refine Rd.retN ?_
  | with_reducible refine Rd.drop ?_ | with_reducible refine Rd.ifs ?_ | with_reducible refine Rd.next ?_ | with_reducible refine Rd.cst ?_ | with_reducible refine Rd.op ?_ | with_reducible refine Rd.un ?_
  | with_reducible refine Rd.test ?_ | with_reducible refine Rd.tb' ?_ | with_reducible refine Rd.exb ?_ | with_reducible refine Rd.exi ?_ | with_reducible refine Rd.and2 ?_ | with_reducible refine Rd.or2 ?_ | with_reducible refine Rd.not1 ?_
  | with_reducible refine Rd.andV ?_ | with_reducible refine Rd.orV ?_ | with_reducible refine Rd.notV ?_ | with_reducible refine Rd.nil ?_ | with_reducible refine Rd.cons ?_ | with_reducible refine Rd.cb ?_
  | with_reducible refine Rd.i0 ?_ | with_reducible refine Rd.u1 ?_ | with_reducible refine Rd.call ?_ | with_reducible refine Rd.tup ?_ | with_reducible refine Rd.lst ?_ | with_reducible refine Rd.sl ?_ | with_reducible refine Rd.no ?_ | with_reducible refine Rd.part ?_ | with_reducible refine Rd.at_ ?_ | with_reducible refine Rd.yes ?_ | with_reducible refine Rd.fors ?_ | with_reducible refine Rd.m1 ?_ | with_reducible refine Rd.exs ?_ | with_reducible refine Rd.lc ?_ | with_reducible refine Rd.rng ?_
  | with_reducible refine Rd.mkv ?_ | with_reducible refine Rd.mko ?_ | with_reducible refine Rd.callB ?_ | with_reducible refine Rd.callS ?_ | with_reducible refine Rd.bm ?_ | with_reducible refine Rd.itl ?_ | with_reducible refine Rd.itt ?_
  | ((with_reducible refine' And.intro ?hl ?_); (case hl => ((with_reducible show List.length _ ≤ PySem.sizeLine); (show _ ≤ PySem.sizeLine); rw [PySem.sizeLine_eq]; simp)))
  | (intro p0 n0; generalize hK0 : L2.upd _ p0 _ = K0; obtain ⟨e0, t0⟩ := Dt.newK hK0 n0)
  | ((with_reducible refine' Rd.lenKL ?he ?_); (case he => walk_at "heap")) | ((with_reducible refine' Rd.lenKT ?he ?_); (case he => walk_at "heap"))
  | ((with_reducible refine' Rd.var ?hv ?_); (case hv => exact rfl))
  | ((with_reducible refine' Rd.ifT ?hv ?_); (case hv => first | exact rfl | assumption)) | ((with_reducible refine' Rd.ifF ?hv ?_); (case hv => first | exact rfl | assumption))
  | ((with_reducible refine' Rd.eq ?hv ?_); (case hv => exact rfl))
  | ((with_reducible refine' Rd.ne ?hv ?_); (case hv => exact rfl))
  | ((with_reducible refine' Dt.isi_int ?hr ?_); (case hr => walk_at "rp")) | ((with_reducible refine' Dt.isi_bool ?hr ?_); (case hr => walk_at "rp")) | ((with_reducible refine' Dt.isi_tuple ?hr ?_); (case hr => walk_at "rp")) | ((with_reducible refine' Dt.isi_str ?hr ?_); (case hr => walk_at "rp")) | ((with_reducible refine' Dt.isi_list ?hr ?_); (case hr => walk_at "rp"))
  | with_reducible refine ⟨rfl, ?_⟩ | with_reducible refine Or.inl ⟨_, rfl, ?_⟩ | with_reducible refine Or.inr ⟨_, rfl, ?_⟩ | with_reducible refine ⟨_, rfl, ?_⟩
  | ((with_reducible refine' Rd.ex2 ⟨rfl, ?hl, ?_⟩); (case hl => first | exact Or.inl ⟨_, L2.SqL.of (by walk_at "heap"), rfl⟩ | exact Or.inr ⟨_, L2.SqT.of (by walk_at "heap"), rfl⟩))
  | ((with_reducible refine' Rd.i1 ?hv ?_); (case hv => first | exact ⟨by decide, by decide, by decide⟩ | exact Or.inr ⟨by decide, by decide⟩ | exact Or.inl ⟨by decide, by decide⟩ | exact ⟨by decide, by decide⟩ | decide | assumption | (show _ ≠ _; omega) | (refine ⟨?_, ?_⟩ <;> omega) | (refine Or.inl ⟨?_, ?_⟩ <;> omega)))
  | ((with_reducible refine' Rd.ixL ?he ?hx ?_); (case he => walk_at "heap"); (case hx => rfl))
  | ((with_reducible refine' Rd.ixT ?he ?hx ?_); (case he => walk_at "heap"); (case hx => rfl))
  | ((with_reducible refine' Rd.setL ?he ?hx ?_); (case he => first | assumption | exact L2.upd_same); (case hx => rfl)))
local macro_rules | `(tactic| walk_at "rd") => `(tactic| first | with_reducible refine Rd.isT ?_ | with_reducible refine Rd.isnT ?_ | with_reducible refine Rd.ife ?_)
local macro_rules | `(tactic| walk_at "rd") => `(tactic| first | ((with_reducible refine' Rd.gtup ?he ?hl ?_); (case he => walk_at "heap"); (case hl => exact rfl)) | with_reducible refine Rd.brk ?_ | with_reducible refine Rd.callR ?_ | ((with_reducible refine' ⟨_, _, rfl, Or.inl ⟨L2.SqL.of ?hp, ?_⟩⟩); (case hp => walk_at "heap")) | ((with_reducible refine' ⟨_, _, rfl, Or.inl (L2.SqL.of ?hp), ?_⟩); (case hp => walk_at "heap")) | ((with_reducible refine' Rd.catL ?hp ?hq ?hl ?_); (case hp => walk_at "heap"); (case hq => walk_at "heap"); (case hl => (simp only [List.length_map, List.length_append, List.length_cons, List.length_nil]; omega)); (intro r0 J0 e0 t0 n0)) | with_reducible refine Rd.bits ?_ | with_reducible refine Rd.max2 ?_ | with_reducible refine Rd.gcons ?_ | with_reducible refine Rd.gnil ?_)
local macro_rules | `(tactic| walk_at "rds") => `(tactic| repeat (first | walk_at "rd" | assumption))
namespace K17
open PySem PySem.Spec PyProof.Rows L2 L2H Err Dt
open Bt
def spPointed : Sp := fun vs H Q _ => ∃ (s : Addr) (n r : Int) (v : V) (d : PyData), vs = [.ref s, v] ∧ Space H s n r ∧ Rp H v d ∧ ∀ H', Same H H' → Q (.bl (dRow n d)) H'
theorem dspace_row {d : PyData} (h : dSpace d = true) : dRow 2 d = true := by
  unfold dSpace at h
  split at h
  · rfl
  · cases h
def pl1 : PyData → Bool | .tuple ds => ds.all dInt | .list _ => false | _ => true
/-- lists of integers alone, within tuples none -/
def pl : PyData → Bool | .list ds => ds.all dInt | .tuple ds => ds.all pl1 | _ => true
/-- what is looked at, and is no body -/
def Th (H : Hp) (n : Int) (v : V) : Prop := ∃ d, Rp H v d ∧ dBody n d = false ∧ pl d = true
theorem Th.to {H H' : Hp} {n : Int} {v : V} (s : Sam H H') (h : Th H n v) : Th H' n v := by
  obtain ⟨d, r, b⟩ := h
  exact ⟨d, r.sm s, b⟩
theorem nb_int {n : Int} {ds : List PyData} (hn : 2 ≤ n) (h : ∀ d ∈ ds, dRow n d = false ∧ pl1 d = true) : dBody n (.tuple ds) = false ∧ pl (.tuple ds) = true := by
  constructor
  · show (decide ((ds.length : Int) = n + 1) && ds.all (dRow n)) = false
    cases ds with
    | nil => rw [decide_eq_false (show ¬ ((([] : List PyData).length : Int) = n + 1) by simp; omega), Bool.false_and]
    | cons d ds => rw [List.all_cons, (h d (List.mem_cons_self ..)).1, Bool.false_and, Bool.and_false]
  · exact List.all_eq_true.mpr fun d hd => (h d hd).2
theorem nr_ints {n : Int} {ms : List Int} : ∀ d ∈ ms.map PyData.int, dRow n d = false ∧ pl1 d = true := fun d hd => by
  obtain ⟨m, _, rfl⟩ := List.mem_map.mp hd
  exact ⟨rfl, rfl⟩
theorem nt_cut {ms : List Int} {lo hi : Option Int} : NotTape (.lst (cutV (ms.map V.int) lo hi)) := by
  obtain ⟨qs, eq, _⟩ := cut_ints (ns := ms) lo hi
  rw [eq]
  exact nt_ints
theorem all_ints {ms : List Int} : (ms.map PyData.int).all dInt = true := List.all_eq_true.mpr fun d hd => by
  obtain ⟨m, _, rfl⟩ := List.mem_map.mp hd
  rfl
theorem th_row {H : Hp} {n : Int} {p : Addr} {ms : List Int} (hn : 2 ≤ n) (e : H p = some (.tup (ms.map V.int))) (l : ms.length ≤ 1000) : Th H n (.ref p) := ⟨_, rp_row e l, nb_int hn nr_ints⟩
theorem th_rowL {H : Hp} {n : Int} {p : Addr} {ms : List Int} (e : H p = some (.lst (ms.map V.int))) (l : ms.length ≤ 1000) : Th H n (.ref p) := ⟨_, .lst e (rp_ints ms) (by rw [List.length_map]; exact l) nt_ints, rfl, all_ints⟩
theorem th_mid {H : Hp} {n : Int} {p : Addr} {ms : List Int} {c : V} {dc : PyData} {lo1 hi1 lo2 hi2 : Option Int} (hn : 2 ≤ n) (e : H p = some (.tup (cutV (ms.map V.int) lo1 hi1 ++ [c] ++ cutV (ms.map V.int) lo2 hi2))) (l : ms.length ≤ 400) (r : Rp H c dc) (rc : dRow n dc = false ∧ pl1 dc = true) : Th H n (.ref p) := by
  obtain ⟨qs, eq, eq2⟩ := cut_ints (ns := ms) lo1 hi1
  obtain ⟨us, eu, eu2⟩ := cut_ints (ns := ms) lo2 hi2
  rw [eq, eu] at e
  have lq : qs.length ≤ ms.length := by rw [eq2, List.length_take, List.length_drop]; omega
  have lu : us.length ≤ ms.length := by rw [eu2, List.length_take, List.length_drop]; omega
  refine ⟨_, .tup e (((rp_ints qs).app (.cons r .nil)).app (rp_ints us)) (by simp; omega), nb_int hn fun d hd => ?_⟩
  rcases List.mem_append.mp hd with h | h
  · rcases List.mem_append.mp h with h | h
    · exact nr_ints d h
    · rw [List.mem_singleton.mp h]
      exact rc
  · exact nr_ints d h
theorem th_cut {H : Hp} {n : Int} {p : Addr} {ms : List Int} {lo hi : Option Int} (hn : 2 ≤ n) (e : H p = some (.tup (cutV (ms.map V.int) lo hi))) (l : ms.length ≤ 400) : Th H n (.ref p) := by
  obtain ⟨qs, eq, eq2⟩ := cut_ints (ns := ms) lo hi
  rw [eq] at e
  have lq : qs.length ≤ ms.length := by rw [eq2, List.length_take, List.length_drop]; omega
  exact th_row hn e (by omega)
theorem slL {K : PySem.W.Frag} {H : Hp} {p : Addr} {xs : List V} {lo hi : Option Int} {Q : VK} (e : H p = some (.lst xs)) (q : ∀ p', H p' = none → Q (.ref p') (upd H p' (.lst (cutV xs lo hi)))) : rSlL K (.ref p) lo hi H Q := ⟨p, xs, rfl, SqL.of e, q⟩
def spThing : Sp := fun vs H Q _ => ∃ (t l s : Addr) (n r : Int), vs = [.ref t, .ref s] ∧ Space H s n r ∧ Tq t l H ∧ ∀ (v : V) (H' : Hp), Th H' n v → Tq t l H' → Sam H H' → Q v H'
theorem ix_pr {K : PySem.W.Frag} {H : Hp} {p : Addr} {k : Int} {xs : List V} {R : V → Prop} {Q : VK} (e : H p = some (.lst xs)) (h : ∀ v ∈ xs, R v) (h0 : 0 ≤ k) (h1 : k < (xs.length : Int)) (q : ∀ v, R v → Q v H) : rIxL K (.ref p) (.int k) H Q := by
  have hk : k.toNat < xs.length := by omega
  have e2 := atI_nat (List.getElem?_eq_getElem hk)
  rw [show ((k.toNat : Nat) : Int) = k by omega] at e2
  exact ⟨p, xs, k, _, rfl, rfl, SqL.of e, e2, q _ (h _ (List.getElem_mem hk))⟩
theorem all_nil {R : V → Prop} : ∀ v ∈ ([] : List V), R v := fun _ h => by cases h
theorem all_cons {R : V → Prop} {v : V} {vs : List V} (h : R v) (t : ∀ u ∈ vs, R u) : ∀ u ∈ v :: vs, R u := fun u hu => by
  rcases List.mem_cons.mp hu with rfl | hu
  · exact h
  · exact t u hu
theorem all_app {R : V → Prop} {L M : List V} (h1 : ∀ v ∈ L, R v) (h2 : ∀ v ∈ M, R v) : ∀ v ∈ L ++ M, R v := fun v hv => by
  rcases List.mem_append.mp hv with h | h
  · exact h1 v h
  · exact h2 v h
local macro_rules | `(tactic| walk_at "rd") => `(tactic| ((with_reducible refine' slL ?e0 ?_); (case e0 => walk_at "heap")))
local macro_rules | `(tactic| walk_at "ths") => `(tactic| first | exact all_nil | (refine' all_cons ?h0 ?t0; (case h0 => walk_at "th"); (case t0 => walk_at "ths")))
local macro_rules | `(tactic| walk_at "th") => `(tactic| (refine' ⟨_, ?r0, ?b0⟩; (case r0 => walk_at "rp"); (case b0 => (refine' And.intro ?b1 ?b2; (case b1 => first | rfl | (simp [dBody, dRow]; done) | (simp [dBody, dRow]; omega)); (case b2 => rfl)))))
section
variable {P : Program} {w : World} {K : PySem.W.Frag} {mg : Str → Option Value} {base : Heap}
set_option pp.maxSteps 3000
abbrev sIsSpace : Stmt := topS 11
theorem scIsSpace : FnScope ["thing"] ["thing"] (defScope sIsSpace) := ⟨rfl, rfl, rfl, by decide +kernel, rfl, by decide +kernel, by decide +kernel⟩
theorem okIsSpace {f : Addr} {fd : FuncData} (F : Fun K "is_space" "is_space" sIsSpace f fd) (T : Tx mg) (DIsRow : Dn P w K mg base CX0 "is_row" 2 ["many", "thing"] spIsRow)  : FnOk P w K mg base CX0 3 f fd ["thing"] spIsSpace := by
  refine F.ok scIsSpace (fun vs H Q E h => ?_) (fun cdv A outer s H vs Q E hr h => ?_)
  · obtain ⟨v, d, rfl, _⟩ := h
    rfl
  · obtain ⟨v, d, rfl, r, kk⟩ := h
    refine ⟨_, (pss_one (ps_ret (pe_and (pe_dn DIsRow (hr.mono (by omega)) (pa_cons pe_int (pa_cons (pv 0) pa_nil))) (pe_and (pe_cmpR op_in_seq (pe_ix ix_tup (pv 0) pe_int (fun _ _ => rfl)) (pe_tup (pa_cons pe_int (pa_cons pe_int pa_nil))) (by rfl)) (pe_one (pe_cmpR op_ge (pe_ix ix_tup (pv 0) pe_int (fun _ _ => rfl)) pe_int (nomark _))))))), ?_⟩
    have st0 : L2.start ["thing"] [v] = [some (v)] := rfl
    rw [st0]
    walk_at "rds"
    refine ⟨2, v, d, rfl, r, fun H1 t1 => ?_⟩
    walk_at "rds"
    refine Rd.ifB (fun h => ?_) fun h => ?_
    · obtain ⟨ns, rfl, ln⟩ := row_ints h
      obtain ⟨p, rfl, e, l⟩ := r.row
      have e1 := t1 _ _ e
      obtain ⟨a, b, rfl⟩ : ∃ a b, ns = [a, b] := by
        match ns, ln with
        | [a, b], _ => exact ⟨a, b, rfl⟩
        | [], h => simp at h
        | [_], h => simp at h
        | _ :: _ :: _ :: _, h => simp at h; omega
      walk_at "rds"
      rename_i p3 m3 H3 g3 e3 t3
      refine ⟨_, _, rfl, .inr (SqT.of e3), rfl, flat_ints (ns := [2, 3]), ?_⟩
      rw [if_neg (by decide), show inV (.int a) [.int 2, .int 3] = decide (a ∈ [(2 : Int), 3]) from inV_ints (ns := [2, 3])]
      have e4 := t3 _ _ e1
      have k := kk H3 (t1.trans t3)
      have ez : dSpace (.tuple ([a, b].map PyData.int)) = ((decide (a = 2) || decide (a = 3)) && decide (0 ≤ b)) := rfl
      have em : decide (a ∈ [(2 : Int), 3]) = (decide (a = 2) || decide (a = 3)) := by
        rw [← Bool.decide_or]
        exact decide_eq_decide.mpr (by simp)
      rw [ez, ← em] at k
      refine ⟨_, rfl, ?_⟩
      refine Rd.ifB (fun h2 => ?_) fun h2 => ?_
      · rw [h2, Bool.true_and] at k
        walk_at "rds"
      · rw [h2, Bool.false_and] at k
        walk_at "rds"
    · walk_at "rds"
      have ez : dSpace d = false := by
        cases z : dSpace d with
        | false => rfl
        | true => rw [dspace_row z] at h; cases h
      have k := kk H1 t1
      rw [ez] at k
      exact k
abbrev sPointedL : Stmt := topS 48
theorem scPointedL : FnScope ["space", "thing", "x"] ["space", "thing"] (defScope sPointedL) := ⟨rfl, rfl, rfl, by decide +kernel, rfl, by decide +kernel, by decide +kernel⟩
theorem okPointedL {f : Addr} {fd : FuncData} (F : Fun K "_law_pointed" "_law_pointed" sPointedL f fd) (T : Tx mg) (DWholeL : Dn P w K mg base CX0 "_law_whole" 1 ["thing"] spIsInt)  : FnOk P w K mg base CX0 2 f fd ["space", "thing"] spPointed := by
  refine F.ok scPointedL (fun vs H Q E h => ?_) (fun cdv A outer s H vs Q E hr h => ?_)
  · obtain ⟨s, n, rr, v, d, rfl, _⟩ := h
    rfl
  · obtain ⟨s, n, rr, v, d, rfl, hS, r, kk⟩ := h
    refine ⟨_, (pss_cons (ps_if (PW.pt (pw_or (pt_not (pt_val (pe_callB call_isi (by rfl) T.n_isinstance (by decide +kernel) (pa_cons (pv 1) (pa_cons (pe_bltn (v := .ty "tuple") (u := .type "tuple") rfl T.n_tuple (by decide +kernel) rfl) pa_nil))))) (pw_or1 (pt_cmpR op_ne (pe_callB call_len (by rfl) T.n_len (by decide +kernel) (pa_cons (pv 1) pa_nil)) (pe_ix ix_tup (pv 0) pe_int (fun _ _ => rfl)) (nomark _)))))
    (pss_one (ps_ret pe_bl))
    pss_nil)
    (pss_one (ps_ret (pe_callB (cr_all rfl) (by rfl) T.n_all (by decide +kernel) (pa_cons (pe_lc (own := [("x", 2)]) (g := (gName 2)) (by rfl) scPointedL.nd (pi_tup (pv 1)) (blkOk_by (own := [("x", 2)]) (N := ["space", "thing", "x"]) (sc := defScope sPointedL) (by decide +kernel)) (fun _ _ _ _ _ => (pg_name (i := 2) scPointedL.nd rfl (Or.inl rfl))) (fun _ _ _ _ _ => pts_nil) (fun _ _ _ _ _ => (pe_dn DWholeL (hr.mono (by omega)) (pa_cons (pv 2) pa_nil)))) pa_nil))))), ?_⟩
    have st0 : L2.start ["space", "thing", "x"] [V.ref s, v] = [some (V.ref s), some (v), none] := rfl
    rw [st0]
    have es := hS.1
    cases r with
    | @tup p vs ds e a l =>
      walk_at "rds"
      have hl : vs.length = ds.length := a.len
      refine Rd.ifB (fun h => ?_) fun h => ?_
      · walk_at "rds"
        have ez : dRow n (.tuple ds) = false := by
          show (decide ((ds.length : Int) = n) && ds.all dInt) = _
          have h' : ¬ (ds.length : Int) = n := fun z => by
            rw [← hl] at z
            rw [z] at h
            exact absurd h (by simp)
          rw [decide_eq_false h', Bool.false_and]
        rw [← ez]
        exact kk _ (Same.refl _)
      · walk_at "rds"
        refine ⟨⟨_, SqT.of e⟩, fun d hd => lc_tup (K := K) (a := p) (xs := vs) (fun i H3 => H3 d = some (.lst (((ds.take i).map dInt).map V.bl)) ∧ Same H H3) ⟨upd_same, same_put hd (Same.refl _)⟩ (fun i H3 _ ⟨_, s3⟩ => SqT.of (s3 _ _ e)) ?_ ?_⟩
        · rintro i x H3 hx ⟨e3, s3⟩
          refine ⟨rfl, ?_⟩
          walk_at "rds"
          obtain ⟨d1, h1, r1⟩ := a.at hx
          refine ⟨x, d1, rfl, r1.to s3, fun H4 t4 => ⟨_, t4 _ _ e3, ?_, ?_, same_put hd (s3.trans t4)⟩⟩
          · rw [List.length_map, List.length_map, List.length_take, sizeLine_eq]
            omega
          · rw [upd_same, List.take_succ, h1, List.map_append, List.map_append]
            rfl
        · rintro H4 ⟨e4, s4⟩
          walk_at "rds"
          refine ⟨d, _, rfl, SqL.of e4, ?_⟩
          rw [hl, List.take_length]
          have ez : dRow n (.tuple ds) = (ds.map dInt).all id := by
            show (decide ((ds.length : Int) = n) && ds.all dInt) = _
            have h' : (ds.length : Int) = n := by
              rcases Decidable.em ((ds.length : Int) = n) with z | z
              · exact z
              · exfalso
                rw [hl] at h
                rw [decide_eq_false (fun y => z (V.int.inj y))] at h
                cases h
            rw [decide_eq_true h', Bool.true_and, List.all_map]
            rfl
          rw [← ez]
          exact kk _ s4
    | non | bl | int | str | lst =>
      walk_at "rds"
      exact kk _ (Same.refl _)
abbrev sThingL : Stmt := topS 49
theorem scThingL : FnScope ["tape", "space", "row", "i", "kind", "at"] ["tape", "space"] (defScope sThingL) := ⟨rfl, rfl, rfl, by decide +kernel, rfl, by decide +kernel, by decide +kernel⟩
theorem okThingL {f : Addr} {fd : FuncData} (F : Fun K "_law_thing" "_law_thing" sThingL f fd) (T : Tx mg) (DDrawL : Dn P w K mg base CX0 "_law_draw" 1 ["tape", "many"] spDw) (DCoordinateL : Dn P w K mg base CX0 "_law_coordinate" 2 ["tape", "rounds"] spCoordK)  : FnOk P w K mg base CX0 3 f fd ["tape", "space"] spThing := by
  refine F.ok scThingL (fun vs H Q E h => ?_) (fun cdv A outer s H vs Q E hr h => ?_)
  · obtain ⟨t, l, s, n, r, rfl, _⟩ := h
    rfl
  · obtain ⟨t, l, s, n, r, rfl, hS, Tt, kk⟩ := h
    refine ⟨_, (pss_cons (ps_setLc (i := 2) (own := [("i", 3)]) (g := (gName 3)) (by rfl) scThingL.nd rfl rfl (sw_true rfl rfl rfl (by decide +kernel)) (pi_range1 rfl T.n_range (pa_cons (pe_ix ix_tup (pv 1) pe_int (fun _ _ => rfl)) pa_nil)) (blkOk_by (own := [("i", 3)]) (N := ["tape", "space", "row", "i", "kind", "at"]) (sc := defScope sThingL) (by decide +kernel)) (fun _ _ _ _ _ => (pg_name (i := 3) scThingL.nd rfl (Or.inl rfl))) (fun _ _ _ _ _ => pts_nil) (fun _ _ _ _ _ => (pe_dn DCoordinateL (hr.mono (by omega)) (pa_cons (pv 0) (pa_cons (pe_ix (r := rIxT K) ix_tup (pv 1) pe_int (fun _ _ => rfl)) pa_nil)))))
    (pss_cons (ps_set (i := 4) scThingL.nd rfl (Or.inl rfl) (pe_dn DDrawL (hr.mono (by omega)) (pa_cons (pv 0) (pa_cons pe_int pa_nil))))
    (pss_cons (ps_set (i := 5) scThingL.nd rfl (Or.inl rfl) (pe_dn DDrawL (hr.mono (by omega)) (pa_cons (pv 0) (pa_cons (pe_ix ix_tup (pv 1) pe_int (fun _ _ => rfl)) pa_nil))))
    (pss_cons (ps_if (pt_cmpR op_eq (pv 4) pe_int (nomark _))
    (pss_one (ps_ret (pe_callTy call_tuple_of (by rfl) T.n_tuple (by decide +kernel) (pa_cons (pe_op op_cat (pe_op op_cat (pe_slice sl_list (pv 2) po_none (po_some (pv 5))) (pe_lst (pa_cons pe_bl pa_nil))) (pe_slice sl_list (pv 2) (po_some (pe_op op_add (pv 5) pe_int)) po_none)) pa_nil))))
    pss_nil)
    (pss_cons (ps_if (pt_cmpR op_eq (pv 4) pe_int (nomark _))
    (pss_one (ps_ret (pe_callTy call_list_of (by rfl) T.n_list (by decide +kernel) (pa_cons (pv 2) pa_nil))))
    pss_nil)
    (pss_cons (ps_if (pt_cmpR op_eq (pv 4) pe_int (nomark _))
    (pss_one (ps_ret (pe_callTy call_tuple_of (by rfl) T.n_tuple (by decide +kernel) (pa_cons (pe_slice sl_list (pv 2) (po_some pe_int) po_none) pa_nil))))
    pss_nil)
    (pss_cons (ps_if (pt_cmpR op_eq (pv 4) pe_int (nomark _))
    (pss_one (ps_ret (pe_callTy call_tuple_of (by rfl) T.n_tuple (by decide +kernel) (pa_cons (pe_op op_cat (pv 2) (pe_lst (pa_cons pe_int pa_nil))) pa_nil))))
    pss_nil)
    (pss_cons (ps_if (pt_cmpR op_eq (pv 4) pe_int (nomark _))
    (pss_one (ps_ret (pe_callTy call_tuple_of (by rfl) T.n_tuple (by decide +kernel) (pa_cons (pe_op op_cat (pe_op op_cat (pe_slice sl_list (pv 2) po_none (po_some (pv 5))) (pe_lst (pa_cons pe_non pa_nil))) (pe_slice sl_list (pv 2) (po_some (pe_op op_add (pv 5) pe_int)) po_none)) pa_nil))))
    pss_nil)
    (pss_cons (ps_if (pt_cmpR op_eq (pv 4) pe_int (nomark _))
    (pss_one (ps_ret (pe_ix ix_list (pe_lst (pa_cons pe_non (pa_cons pe_int (pa_cons pe_bl (pa_cons pe_str (pa_cons (pe_tup pa_nil) (pa_cons (pe_lst pa_nil) (pa_cons (pe_tup (pa_cons (pe_tup (pa_cons pe_int (pa_cons pe_int pa_nil))) (pa_cons (pe_tup (pa_cons pe_int (pa_cons pe_int pa_nil))) pa_nil))) (pa_cons (pe_tup (pa_cons pe_str (pa_cons pe_str pa_nil))) pa_nil))))))))) (pe_dn DDrawL (hr.mono (by omega)) (pa_cons (pv 0) (pa_cons pe_int pa_nil))) (fun _ _ => rfl))))
    pss_nil)
    (pss_cons (ps_if (pt_cmpR op_eq (pv 4) pe_int (nomark _))
    (pss_one (ps_ret (pe_callTy call_tuple_of (by rfl) T.n_tuple (by decide +kernel) (pa_cons (pe_op op_cat (pe_op op_cat (pe_slice sl_list (pv 2) po_none (po_some (pv 5))) (pe_lst (pa_cons (pe_op op_add (pe_op op_pow pe_int pe_int) (pe_dn DDrawL (hr.mono (by omega)) (pa_cons (pv 0) (pa_cons pe_int pa_nil)))) pa_nil))) (pe_slice sl_list (pv 2) (po_some (pe_op op_add (pv 5) pe_int)) po_none)) pa_nil))))
    pss_nil)
    (pss_one (ps_ret (pe_callTy call_tuple_of (by rfl) T.n_tuple (by decide +kernel) (pa_cons (pv 2) pa_nil)))))))))))))), ?_⟩
    have st0 : L2.start ["tape", "space", "row", "i", "kind", "at"] [V.ref t, V.ref s] = [some (V.ref t), some (V.ref s), none, none, none, none] := rfl
    rw [st0]
    have n2 := hS.2.1
    have n3 := hS.2.2.1
    have q8 := hS.2.2.2
    have es := hS.1
    walk_at "rds"
    refine ⟨by omega, by omega, fun d hd => ?_⟩
    have nd := Tt.ne hd
    refine lc_range (lo := 0) (n := n.toNat) (fun i H4 => ∃ ms : List Int, ms.length = i ∧ H4 d = some (.lst (ms.map V.int)) ∧ Tq t l H4 ∧ Sam H H4) ⟨[], rfl, upd_same, Tt.to (same_put hd (Same.refl _)), Sam.of (same_put hd (Same.refl _))⟩ ?_ ?_
    · rintro i H4 hi ⟨ms, lm, e4, T4, s4⟩
      have es4 := s4 _ _ nt_tup es
      refine ⟨rfl, ?_⟩
      walk_at "rds"
      refine ⟨t, l, r, rfl, T4, by omega, by omega, fun c H5 a5 b5 T5 s5 => ?_⟩
      refine ⟨_, s5 _ _ nt_ints e4, ?_, ms ++ [c], by rw [List.length_append, lm]; rfl, by rw [upd_same, List.map_append]; rfl, T5.put nd, sam_put hd (s4.trans s5)⟩
      rw [List.length_map, lm, sizeLine_eq]
      omega
    rintro H4 ⟨ms, lm, e4, T4, s4⟩
    have es4 := s4 _ _ nt_tup es
    walk_at "rds"
    refine ⟨t, l, 9, rfl, T4, by decide, by decide, fun v5 H5 a5 b5 T5 s5 => ?_⟩
    have es5 := s5 _ _ nt_tup es4
    have e5 := s5 _ _ nt_ints e4
    walk_at "rds"
    refine ⟨t, l, n, rfl, T5, by omega, by omega, fun at_ H6 a6 b6 T6 s6 => ?_⟩
    have es6 := s6 _ _ nt_tup es5
    have e6 := s6 _ _ nt_ints e5
    have s06 : Sam H H6 := (s4.trans s5).trans s6
    clear es es4 es5 e4 e5 s4 s5 s6 T4 T5 Tt hd
    walk_at "rds"
    refine Rd.ifB (fun h => ?_) fun h => ?_
    · walk_at "rds"
      refine' Rd.catL ?a1u1 ?a2u2 ?a3u3 ?_
      case a1u1 => walk_at "heap"
      case a2u2 => walk_at "heap"
      case a3u3 => (have z := cutV_length (ms.map V.int) none (some at_); rw [List.length_map] at z; simp only [List.length_append, List.length_cons, List.length_nil]; omega)
      intro rA JA eA tA nA
      walk_at "rds"
      refine' Rd.catL ?c1u4 ?c2u5 ?c3u6 ?_
      case c1u4 => walk_at "heap"
      case c2u5 => walk_at "heap"
      case c3u6 => (have z := cutV_length (ms.map V.int) none (some at_); have z2 := cutV_length (ms.map V.int) (some (at_ + 1)) none; rw [List.length_map] at z z2; simp only [List.length_append, List.length_cons, List.length_nil]; omega)
      intro rB JB eB tB nB
      walk_at "rds"
      refine kk _ _ ?_ ?_ ?_
      · refine' th_mid (ms := ms) (lo1 := none) (hi1 := some at_) (lo2 := some (at_ + 1)) (hi2 := none) n2 ?e1u7 (by omega) (.bl true) ⟨rfl, rfl⟩
        case e1u7 => (walk_at "heap")
      · walk_at "tq"
      · walk_at "sam"
    walk_at "rds"
    refine Rd.ifB (fun h => ?_) fun h => ?_
    · walk_at "rds"
      refine kk _ _ ?_ ?_ ?_
      · refine' th_rowL (ms := ms) ?e1u10 (by omega)
        case e1u10 => (walk_at "heap")
      · walk_at "tq"
      · walk_at "sam"
    walk_at "rds"
    refine Rd.ifB (fun h => ?_) fun h => ?_
    · walk_at "rds"
      refine kk _ _ ?_ ?_ ?_
      · refine' th_cut (ms := ms) (lo := some 1) (hi := none) n2 ?e1u13 (by omega)
        case e1u13 => (walk_at "heap")
      · walk_at "tq"
      · walk_at "sam"
    walk_at "rds"
    refine Rd.ifB (fun h => ?_) fun h => ?_
    · walk_at "rds"
      refine kk _ _ ?_ ?_ ?_
      · refine' th_row (ms := ms ++ [0]) n2 ?e1u16 (by simp; omega)
        case e1u16 => (rw [List.map_append]; walk_at "heap")
      · walk_at "tq"
      · walk_at "sam"
    walk_at "rds"
    refine Rd.ifB (fun h => ?_) fun h => ?_
    · walk_at "rds"
      refine' Rd.catL ?a1u19 ?a2u20 ?a3u21 ?_
      case a1u19 => walk_at "heap"
      case a2u20 => walk_at "heap"
      case a3u21 => (have z := cutV_length (ms.map V.int) none (some at_); rw [List.length_map] at z; simp only [List.length_append, List.length_cons, List.length_nil]; omega)
      intro rA JA eA tA nA
      walk_at "rds"
      refine' Rd.catL ?c1u22 ?c2u23 ?c3u24 ?_
      case c1u22 => walk_at "heap"
      case c2u23 => walk_at "heap"
      case c3u24 => (have z := cutV_length (ms.map V.int) none (some at_); have z2 := cutV_length (ms.map V.int) (some (at_ + 1)) none; rw [List.length_map] at z z2; simp only [List.length_append, List.length_cons, List.length_nil]; omega)
      intro rB JB eB tB nB
      walk_at "rds"
      refine kk _ _ ?_ ?_ ?_
      · refine' th_mid (ms := ms) (lo1 := none) (hi1 := some at_) (lo2 := some (at_ + 1)) (hi2 := none) n2 ?e1u25 (by omega) .non ⟨rfl, rfl⟩
        case e1u25 => (walk_at "heap")
      · walk_at "tq"
      · walk_at "sam"
    walk_at "rds"
    refine Rd.ifB (fun h => ?_) fun h => ?_
    · walk_at "rds"
      refine' ⟨t, l, 8, rfl, ?q1u28, by decide, by decide, fun v7 H7 a7 b7 T7 s7 => ?_⟩
      case q1u28 => walk_at "tq"
      refine' ix_pr (R := Th H7 n) ?e9u29 ?h9u30 a7 ?l9u31 ?_
      case e9u29 => walk_at "heap"
      case l9u31 => exact b7
      case h9u30 => walk_at "ths"
      intro tv Ts
      refine' kk _ _ Ts ?q2u32 ?m2u33
      case q2u32 => walk_at "tq"
      case m2u33 => walk_at "sam"
    walk_at "rds"
    refine Rd.ifB (fun h => ?_) fun h => ?_
    · walk_at "rds"
      rename_i p7 m7 J7 g7 e7 t7
      refine ⟨t, l, 4, rfl, T6.to t7, by decide, by decide, fun v8 H8 a8 b8 T8 s8 => ?_⟩
      have e78 := s8 _ _ nt_cut e7
      walk_at "rds"
      refine' Rd.catL ?a1z ?a2z ?a3z ?_
      case a1z => walk_at "heap"
      case a2z => walk_at "heap"
      case a3z => (have z := cutV_length (ms.map V.int) none (some at_); rw [List.length_map] at z; simp only [List.length_append, List.length_cons, List.length_nil]; omega)
      intro rA JA eA tA nA
      walk_at "rds"
      refine' Rd.catL ?c1z ?c2z ?c3z ?_
      case c1z => walk_at "heap"
      case c2z => walk_at "heap"
      case c3z => (have z := cutV_length (ms.map V.int) none (some at_); have z2 := cutV_length (ms.map V.int) (some (at_ + 1)) none; rw [List.length_map] at z z2; simp only [List.length_append, List.length_cons, List.length_nil]; omega)
      intro rB JB eB tB nB
      walk_at "rds"
      refine kk _ _ ?_ ?_ ?_
      · refine' th_mid (ms := ms) (lo1 := none) (hi1 := some at_) (lo2 := some (at_ + 1)) (hi2 := none) n2 ?e1z (by omega) (.int _) ⟨rfl, rfl⟩
        case e1z => walk_at "heap"
      · walk_at "tq"
      · walk_at "sam"
    walk_at "rds"
    refine kk _ _ ?_ ?_ ?_
    · refine' th_row (ms := ms) n2 ?e1u34 (by omega)
      case e1u34 => (walk_at "heap")
    · walk_at "tq"
    · walk_at "sam"
end
end K17
end SecK10
section SecK11
set_option Elab.async false
set_option linter.all false
set_option maxRecDepth 100000
set_option maxHeartbeats 4000000
set_option pp.deepTerms false
local macro_rules | `(tactic| walk_at "tq") => `(tactic| first | assumption | (refine' Dt.Tq.to ?s0 ?h0; (case h0 => assumption); (case s0 => walk_at "same")))
local macro_rules | `(tactic| walk_at "same") => `(tactic| first | exact L2.Same.refl _ | assumption | (refine' L2.Same.trans ?s1 ?s2; (case s2 => assumption); (case s1 => walk_at "same")))
local macro_rules | `(tactic| walk_at "sam") => `(tactic| first | exact Dt.Sam.refl | assumption | exact Dt.Sam.of (by assumption) | (refine' Dt.Sam.trans ?s1 ?s2; (case s2 => first | assumption | exact Dt.Sam.of (by assumption)); (case s1 => walk_at "sam")))
local macro_rules | `(tactic| walk_at "tape") => `(tactic| first | assumption | (refine' Dt.Tape.mono ?h0 ?s0; (case h0 => assumption); (case s0 => walk_at "same")))
local macro_rules | `(tactic| walk_at "nt") => `(tactic| first | exact Dt.nt_tup | exact Dt.nt_ints | assumption | (intro a0 b0 c0 l0 z0; cases z0) | (intro a0 b0 c0 l0 z0; simp at z0))
local macro_rules | `(tactic| walk_at "heap") => `(tactic| first | assumption | exact L2.upd_same | (refine' Rd.at_to ?s0 ?h0; (case h0 => assumption); (case s0 => walk_at "same")) | (refine' Dt.at_sam ?n0 ?s0 ?h0; (case h0 => assumption); (case n0 => walk_at "nt"); (case s0 => walk_at "sam")))
local macro_rules | `(tactic| walk_at "rp") => `(tactic| first | exact Dt.Rp.int _ | exact Dt.Rp.bl _ | exact Dt.Rp.str _ | exact Dt.Rp.non | assumption | (refine' Dt.Rp.sm ?s0 ?h0; (case h0 => assumption); (case s0 => walk_at "sam")) | (refine' Dt.Rp.tup ?h1 ?h2 ?h3; (case h1 => walk_at "heap"); (case h2 => walk_at "rps"); (case h3 => first | assumption | (show _ ≤ 1000; decide) | (show _ ≤ 1000; simp) | (show _ ≤ 1000; omega))) | (refine' Dt.Rp.lst ?h1 ?h2 ?h3 ?h4; (case h1 => walk_at "heap"); (case h2 => walk_at "rps"); (case h3 => first | assumption | (show _ ≤ 1000; decide) | (show _ ≤ 1000; simp) | (show _ ≤ 1000; omega)); (case h4 => walk_at "nt")))
local macro_rules | `(tactic| walk_at "rps") => `(tactic| first | exact Dt.RpAll.nil | assumption | (refine' Dt.RpAll.cons ?h1 ?h2; (case h1 => walk_at "rp"); (case h2 => walk_at "rps")) | (refine' Dt.RpAll.sm ?s0 ?h0; (case h0 => assumption); (case s0 => walk_at "sam")))
local macro_rules | `(tactic| walk_at "rd") => `(tactic| first
  | with_reducible refine Rd.seq ?_ | with_reducible refine Rd.asg ?_ | with_reducible refine Rd.nm ?_ | with_reducible refine Rd.sub ?_ | with_reducible refine Rd.ret ?_ | with_reducible refine Rd.retN ?_
  | with_reducible refine Rd.drop ?_ | with_reducible refine Rd.ifs ?_ | with_reducible refine Rd.next ?_ | with_reducible refine Rd.cst ?_ | with_reducible refine Rd.op ?_ | with_reducible refine Rd.un ?_
  | with_reducible refine Rd.test ?_ | with_reducible refine Rd.tb' ?_ | with_reducible refine Rd.exb ?_ | with_reducible refine Rd.exi ?_ | with_reducible refine Rd.and2 ?_ | with_reducible refine Rd.or2 ?_ | with_reducible refine Rd.not1 ?_
  | with_reducible refine Rd.andV ?_ | with_reducible refine Rd.orV ?_ | with_reducible refine Rd.notV ?_ | with_reducible refine Rd.nil ?_ | with_reducible refine Rd.cons ?_ | with_reducible refine Rd.cb ?_
  | with_reducible refine Rd.i0 ?_ | with_reducible refine Rd.u1 ?_ | with_reducible refine Rd.call ?_ | with_reducible refine Rd.tup ?_ | with_reducible refine Rd.lst ?_ | with_reducible refine Rd.sl ?_ | with_reducible refine Rd.no ?_ | with_reducible refine Rd.part ?_ | with_reducible refine Rd.at_ ?_ | with_reducible refine Rd.yes ?_ | with_reducible refine Rd.fors ?_ | with_reducible refine Rd.m1 ?_ | with_reducible refine Rd.exs ?_ | with_reducible refine Rd.lc ?_ | with_reducible refine Rd.rng ?_
  | with_reducible refine Rd.mkv ?_ | with_reducible refine Rd.mko ?_ | with_reducible refine Rd.callB ?_ | with_reducible refine Rd.callS ?_ | with_reducible refine Rd.bm ?_ | with_reducible refine Rd.itl ?_ | with_reducible refine Rd.itt ?_
  | ((with_reducible refine' And.intro ?hl ?_); (case hl => ((with_reducible show List.length _ ≤ PySem.sizeLine); (show _ ≤ PySem.sizeLine); rw [PySem.sizeLine_eq]; simp)))
  | (intro p0 n0; generalize hK0 : L2.upd _ p0 _ = K0; obtain ⟨e0, t0⟩ := Dt.newK hK0 n0)
  | ((with_reducible refine' Rd.lenKL ?he ?_); (case he => walk_at "heap")) | ((with_reducible refine' Rd.lenKT ?he ?_); (case he => walk_at "heap"))
  | ((with_reducible refine' Rd.var ?hv ?_); (case hv => exact rfl))
  | ((with_reducible refine' Rd.ifT ?hv ?_); (case hv => first | exact rfl | assumption)) | ((with_reducible refine' Rd.ifF ?hv ?_); (case hv => first | exact rfl | assumption))
  | ((with_reducible refine' Rd.eq ?hv ?_); (case hv => exact rfl))
  | ((with_reducible refine' Rd.ne ?hv ?_); (case hv => exact rfl))
  | ((with_reducible refine' Dt.isi_int ?hr ?_); (case hr => walk_at "rp")) | ((with_reducible refine' Dt.isi_bool ?hr ?_); (case hr => walk_at "rp")) | ((with_reducible refine' Dt.isi_tuple ?hr ?_); (case hr => walk_at "rp")) | ((with_reducible refine' Dt.isi_str ?hr ?_); (case hr => walk_at "rp")) | ((with_reducible refine' Dt.isi_list ?hr ?_); (case hr => walk_at "rp"))
  | with_reducible refine ⟨rfl, ?_⟩ | with_reducible refine Or.inl ⟨_, rfl, ?_⟩ | with_reducible refine Or.inr ⟨_, rfl, ?_⟩ | with_reducible refine ⟨_, rfl, ?_⟩
  | ((with_reducible refine' Rd.ex2 ⟨rfl, ?hl, ?_⟩); (case hl => first | exact Or.inl ⟨_, L2.SqL.of (by walk_at "heap"), rfl⟩ | exact Or.inr ⟨_, L2.SqT.of (by walk_at "heap"), rfl⟩))
  | ((with_reducible refine' Rd.i1 ?hv ?_); (case hv => first | exact ⟨by decide, by decide, by decide⟩ | exact Or.inr ⟨by decide, by decide⟩ | exact Or.inl ⟨by decide, by decide⟩ | exact ⟨by decide, by decide⟩ | decide | assumption | (show _ ≠ _; omega) | (refine ⟨?_, ?_⟩ <;> omega) | (refine Or.inl ⟨?_, ?_⟩ <;> omega)))
  | ((with_reducible refine' Rd.ixL ?he ?hx ?_); (case he => walk_at "heap"); (case hx => rfl))
  | ((with_reducible refine' Rd.ixT ?he ?hx ?_); (case he => walk_at "heap"); (case hx => rfl))
  | ((with_reducible refine' Rd.setL ?he ?hx ?_); (case he => first | assumption | exact L2.upd_same); (case hx => rfl)))
local macro_rules | `(tactic| walk_at "rd") => `(tactic| first | with_reducible refine Rd.isT ?_ | with_reducible refine Rd.isnT ?_ | with_reducible refine Rd.ife ?_)
local macro_rules | `(tactic| walk_at "rd") => `(tactic| first | ((with_reducible refine' Rd.gtup ?he ?hl ?_); (case he => walk_at "heap"); (case hl => exact rfl)) | with_reducible refine Rd.brk ?_ | with_reducible refine Rd.callR ?_ | ((with_reducible refine' ⟨_, _, rfl, Or.inl ⟨L2.SqL.of ?hp, ?_⟩⟩); (case hp => walk_at "heap")) | ((with_reducible refine' ⟨_, _, rfl, Or.inl (L2.SqL.of ?hp), ?_⟩); (case hp => walk_at "heap")) | ((with_reducible refine' Rd.catL ?hp ?hq ?hl ?_); (case hp => walk_at "heap"); (case hq => walk_at "heap"); (case hl => (simp only [List.length_map, List.length_append, List.length_cons, List.length_nil]; omega)); (intro r0 J0 e0 t0 n0)) | with_reducible refine Rd.bits ?_ | with_reducible refine Rd.max2 ?_ | with_reducible refine Rd.gcons ?_ | with_reducible refine Rd.gnil ?_)
local macro_rules | `(tactic| walk_at "rds") => `(tactic| repeat (first | walk_at "rd" | assumption))
namespace K17
open PySem PySem.Spec PyProof.Rows L2 L2H Err Dt
open Bt
abbrev rTupOf (K : PySem.W.Frag) : List V → Hp → VK → Prop := fun xs H Q => ∃ p ys, xs = [.ref p] ∧ ((SqL K H p ys ∧ ∀ l, H l = none → Q (.ref l) (upd H l (.tup ys))) ∨ (SqT K H p ys ∧ Q (.ref p) H))
def spKinds : Sp := fun vs H Q _ => ∃ (t l s : Addr) (n r : Int), vs = [.ref t, .ref s] ∧ Space H s n r ∧ Tq t l H ∧ ∀ H', Tq t l H' → Sam H H' → Q (.bl true) H'
def Rw (H : Hp) (n : Int) (v : V) : Prop := ∃ (p : Addr) (ms : List Int), v = .ref p ∧ H p = some (.tup (ms.map V.int)) ∧ ((ms.length : Nat) : Int) = n
theorem Rw.to {H H' : Hp} {n : Int} {v : V} (s : Sam H H') (h : Rw H n v) : Rw H' n v := by
  obtain ⟨p, ms, rfl, e, l⟩ := h
  exact ⟨p, ms, rfl, s _ _ nt_tup e, l⟩
def Ct (H : Hp) (v : V) : Prop := ∃ d, Rp H v d ∧ pl d = true
theorem Ct.to {H H' : Hp} {v : V} (s : Sam H H') (h : Ct H v) : Ct H' v := by
  obtain ⟨d, r, b⟩ := h
  exact ⟨d, r.sm s, b⟩
theorem ints_of : ∀ {ds : List PyData}, ds.all dInt = true → ∃ ms : List Int, ds = ms.map PyData.int
  | [], _ => ⟨[], rfl⟩
  | d :: ds, h => by
    rw [List.all_cons, Bool.and_eq_true] at h
    obtain ⟨ms, rfl⟩ := ints_of h.2
    cases d with
    | int i => exact ⟨i :: ms, rfl⟩
    | _ => exact absurd h.1 (by simp [dInt])
theorem ne_lt {H : Hp} {a p : Addr} {vs us : List V} (ha : H a = some (.lst vs)) (e : H p = some (.tup us)) : p ≠ a := fun z => by
  subst z
  rw [e] at ha
  cases ha
theorem keep1 {H : Hp} {a : Addr} {vs ws : List V} (ha : H a = some (.lst vs)) {v : V} {d : PyData} (r : Rp H v d) (h : pl1 d = true) : Rp (upd H a (.lst ws)) v d := by
  cases r with
  | non => exact .non
  | bl b => exact .bl b
  | int i => exact .int i
  | str z => exact .str z
  | lst e a2 l nt => exact absurd h (by simp [pl1])
  | tup e a2 l =>
    obtain ⟨ms, rfl⟩ := ints_of h
    have := a2.ints ms
    subst this
    exact .tup (by rw [upd_ne (ne_lt ha e)]; exact e) (rp_ints ms) l
theorem keep_all {H : Hp} {a : Addr} {vs ws : List V} (ha : H a = some (.lst vs)) : ∀ {us : List V} {ds : List PyData}, RpAll H us ds → ds.all pl1 = true → RpAll (upd H a (.lst ws)) us ds
  | _, _, .nil, _ => .nil
  | _, _, .cons r t, h => by
    rw [List.all_cons, Bool.and_eq_true] at h
    exact .cons (keep1 ha r h.1) (keep_all ha t h.2)
theorem keep_pl {H : Hp} {a : Addr} {vs ws : List V} (ha : H a = some (.lst vs)) (hv : ∃ q, V.ref q ∈ vs) {v : V} {d : PyData} (r : Rp H v d) (h : pl d = true) : Rp (upd H a (.lst ws)) v d := by
  cases r with
  | non => exact .non
  | bl b => exact .bl b
  | int i => exact .int i
  | str z => exact .str z
  | @lst p us ds e a2 l nt =>
    obtain ⟨ms, rfl⟩ := ints_of h
    have := a2.ints ms
    subst this
    refine .lst ?_ (rp_ints ms) l nt
    rw [upd_ne ?_]
    · exact e
    · intro z
      subst z
      rw [e] at ha
      injection ha with ha
      injection ha with ha
      obtain ⟨q, hq⟩ := hv
      rw [← ha] at hq
      obtain ⟨m, _, z⟩ := List.mem_map.mp hq
      cases z
  | tup e a2 l => exact .tup (by rw [upd_ne (ne_lt ha e)]; exact e) (keep_all ha a2 h) l
theorem ct_keep {H : Hp} {a : Addr} {vs ws : List V} (ha : H a = some (.lst vs)) (hv : ∃ q, V.ref q ∈ vs) {v : V} (h : Ct H v) : Ct (upd H a (.lst ws)) v := by
  obtain ⟨d, r, b⟩ := h
  exact ⟨d, keep_pl ha hv r b, b⟩
theorem sam_upd {H H' : Hp} {d : Addr} {o : HO} (f : ∀ o, NotTape o → H d ≠ some o) (s : Sam H H') : Sam H (upd H' d o) := fun b u n e => by
  rw [upd_ne (show b ≠ d from fun z => f u n (z ▸ e))]
  exact s b u n e
theorem ixn {n : Nat} {a : Int} (h0 : 0 ≤ a) (h1 : a < n) : ixN n a = some a.toNat := by
  unfold ixN
  rw [if_pos h0, if_pos h1]
theorem rw_upd {H : Hp} {n : Int} {d : Addr} {vs ws : List V} {v : V} (e : H d = some (.lst vs)) (h : Rw H n v) : Rw (upd H d (.lst ws)) n v := by
  obtain ⟨p, ms, rfl, e2, l⟩ := h
  exact ⟨p, ms, rfl, by rw [upd_ne (ne_lt e e2)]; exact e2, l⟩
theorem rw_ct {H : Hp} {n : Int} {v : V} (hn : n ≤ 3) (h : Rw H n v) : Ct H v := by
  obtain ⟨p, ms, rfl, e, l⟩ := h
  exact ⟨_, rp_row e (by omega), List.all_eq_true.mpr fun d hd => (nr_ints (n := n) d hd).2⟩
/-- all but one are addresses -/
def Rf (vs : List V) (i0 : Nat) : Prop := ∀ (i : Nat) (v : V), vs[i]? = some v → i ≠ i0 → ∃ q, v = .ref q
theorem Rf.nt {vs : List V} {i0 : Nat} (h : Rf vs i0) : NotTape (.lst vs) := fun a b c l z => by
  injection z with z
  subst z
  by_cases e : i0 = 0
  · obtain ⟨q, hq⟩ := h 1 (.int b) rfl (by omega)
    cases hq
  · obtain ⟨q, hq⟩ := h 0 (.int a) rfl (by omega)
    cases hq
theorem Rf.some {vs : List V} {i0 : Nat} (h : Rf vs i0) (l : 2 ≤ vs.length) : ∃ q, V.ref q ∈ vs := by
  by_cases e : i0 = 0
  · obtain ⟨q, hq⟩ := h 1 _ (List.getElem?_eq_getElem (by omega)) (by omega)
    exact ⟨q, hq ▸ List.getElem_mem _⟩
  · obtain ⟨q, hq⟩ := h 0 _ (List.getElem?_eq_getElem (by omega)) (by omega)
    exact ⟨q, hq ▸ List.getElem_mem _⟩
theorem rw_rf {H : Hp} {n : Int} {vs : List V} (h : ∀ v ∈ vs, Rw H n v) (i0 : Nat) : Rf vs i0 := fun i v hv _ => by
  obtain ⟨p, _, e, _⟩ := h v (List.mem_of_getElem? hv)
  exact ⟨p, e⟩
theorem Rf.set {vs : List V} {i0 : Nat} {H : Hp} {n : Int} {v : V} (h : ∀ v ∈ vs, Rw H n v) : Rf (vs.set i0 v) i0 := fun i u hu hi => by
  rw [List.getElem?_set_ne (Ne.symm hi)] at hu
  exact rw_rf h (i + 1) i u hu (by omega)
theorem nt_ends {vs : List V} {i0 : Nat} (h : Rf vs i0) (l : 2 ≤ vs.length) (x : V) (hx : vs[vs.length - 1]? = some x) : NotTape (.lst (vs.set 0 x)) := fun a b c l2 z => by
  injection z with z
  have z0 : (vs.set 0 x)[0]? = some (.int a) := by rw [z]; rfl
  have z3 : (vs.set 0 x)[3]? = some (.ref l2) := by rw [z]; rfl
  have zl : vs.length = 4 := by rw [← List.length_set (as := vs) (i := 0) (a := x), z]; rfl
  rw [zl] at hx
  rw [List.getElem?_set_ne (by omega)] at z3
  have : x = .ref l2 := by
    have y := hx.symm.trans z3
    exact Option.some.inj y
  subst this
  rw [List.getElem?_set_self (by omega)] at z0
  cases z0
theorem rp_all {H : Hp} : ∀ {vs : List V}, (∀ v ∈ vs, Ct H v) → ∃ ds, RpAll H vs ds
  | [], _ => ⟨[], .nil⟩
  | v :: vs, h => by
    obtain ⟨d, r, _⟩ := h v (List.mem_cons_self ..)
    obtain ⟨ds, t⟩ := rp_all fun u hu => h u (List.mem_cons_of_mem _ hu)
    exact ⟨d :: ds, .cons r t⟩
/-- no space -/
def Ns (H : Hp) (v : V) : Prop := ∃ d, Rp H v d ∧ dSpace d = false
theorem Ns.to {H H' : Hp} {v : V} (s : Sam H H') (h : Ns H v) : Ns H' v := by
  obtain ⟨d, r, b⟩ := h
  exact ⟨d, r.sm s, b⟩
theorem ifQ {Q : VK} {H : Hp} (q : Q (.bl true) H) : Q (.bl (decide (V.bl false = V.bl false))) H := by
  rw [decide_eq_true rfl]
  exact q
def IntV (v : V) : Prop := ∃ j : Int, v = .int j ∧ 0 ≤ j ∧ j ≤ 2
def NatV (v : V) : Prop := ∃ j : Int, v = .int j ∧ 0 ≤ j
local macro_rules | `(tactic| walk_at "rd") => `(tactic| ((with_reducible refine' slL ?e0 ?_); (case e0 => walk_at "heap")))
local macro_rules | `(tactic| walk_at "ths") => `(tactic| first | exact all_nil | (refine' all_cons ?h0 ?t0; (case h0 => walk_at "th"); (case t0 => walk_at "ths")))
local macro_rules | `(tactic| walk_at "th") => `(tactic| (refine' ⟨_, ?r0, ?b0⟩; (case r0 => walk_at "rp"); (case b0 => first | rfl | (simp [dSpace]; done) | (simp [dSpace]; omega))))
section
variable {P : Program} {w : World} {K : PySem.W.Frag} {mg : Str → Option Value} {base : Heap}
set_option pp.maxSteps 3000
abbrev sKindsL : Stmt := topS 50
theorem scKindsL : FnScope ["tape", "space", "unit", "turn", "thing", "pointed", "new", "x", "many", "corners", "i", "k", "body", "due", "number", "bads"] ["tape", "space"] (defScope sKindsL) := ⟨rfl, rfl, rfl, by decide +kernel, rfl, by decide +kernel, by decide +kernel⟩
theorem okKindsL {f : Addr} {fd : FuncData} (F : Fun K "_law_kinds" "_law_kinds" sKindsL f fd) (T : Tx mg) (DDrawL : Dn P w K mg base CX0 "_law_draw" 1 ["tape", "many"] spDw) (DPowerL : Dn P w K mg base CX0 "_law_power" 1 ["many"] spPower) (DCoordinateL : Dn P w K mg base CX0 "_law_coordinate" 2 ["tape", "rounds"] spCoordK) (DThingL : Dn P w K mg base CX0 "_law_thing" 3 ["tape", "space"] spThing) (DPointedL : Dn P w K mg base CX0 "_law_pointed" 2 ["space", "thing"] spPointed) (DTruthL : Dn P w K mg base CX0 "_law_truth" 1 ["got", "due"] spTruth) (KDIsPoint : Dk P w K mg base CX0 "is_point" 3 ["space", "thing"] spIsPoint) (KDIsNew : Dk P w K mg base CX0 "is_new" 4 ["space", "thing"] spIsNew) (KDIsBody : Dk P w K mg base CX0 "is_body" 5 ["space", "thing"] spIsBody) (KDIsSpace : Dk P w K mg base CX0 "is_space" 3 ["thing"] spIsSpace) (DIsBody : Dn P w K mg base CX0 "is_body" 5 ["space", "thing"] spIsBody) (DIsSpace : Dn P w K mg base CX0 "is_space" 3 ["thing"] spIsSpace)  : FnOk P w K mg base CX0 6 f fd ["tape", "space"] spKinds := by
  refine F.ok scKindsL (fun vs H Q E h => ?_) (fun cdv A outer s H vs Q E hr h => ?_)
  · obtain ⟨t, l, s, n, r, rfl, _⟩ := h
    rfl
  · obtain ⟨t, l, s, n, r, rfl, hS, Tt, kk⟩ := h
    refine ⟨_, (pss_cons (ps_set (i := 2) scKindsL.nd rfl (Or.inr rfl) (pe_dn DPowerL (hr.mono (by omega)) (pa_cons (pe_ix ix_tup (pv 1) pe_int (fun _ _ => rfl)) pa_nil)))
    (C8.pss_cut (ps_for PassesOwn.never rfl (pi_range1 rfl T.n_range (pa_cons pe_int pa_nil)) (pg_name (i := 3) scKindsL.nd rfl (Or.inl rfl))
    (pss_cons (ps_set (i := 4) scKindsL.nd rfl (Or.inl rfl) (pe_dn DThingL (hr.mono (by omega)) (pa_cons (pv 0) (pa_cons (pv 1) pa_nil))))
      (pss_cons (ps_set (i := 5) scKindsL.nd rfl (Or.inl rfl) (pe_dn DPointedL (hr.mono (by omega)) (pa_cons (pv 1) (pa_cons (pv 4) pa_nil))))
      (pss_cons (ps_set (i := 6) scKindsL.nd rfl (Or.inl rfl) pe_bl)
      (C8.pss_cut (ps_if (pt_val (pv 5))
      (pss_one (ps_set (i := 6) scKindsL.nd rfl (Or.inl rfl) (pe_callB (cr_any rfl) (by rfl) T.n_any (by decide +kernel) (pa_cons (pe_lc (own := [("x", 7)]) (g := (gName 7)) (by rfl) scKindsL.nd (pi_tup (pv 4)) (blkOk_by (own := [("x", 7)]) (N := ["tape", "space", "unit", "turn", "thing", "pointed", "new", "x", "many", "corners", "i", "k", "body", "due", "number", "bads"]) (sc := defScope sKindsL) (by decide +kernel)) (fun _ _ _ _ _ => (pg_name (i := 7) scKindsL.nd rfl (Or.inl rfl))) (fun _ _ _ _ _ => pts_nil) (fun _ _ _ _ _ => (pe_cmpR op_ne (pe_op op_mod (pe_callTy call_int1 (by rfl) T.n_int (by decide +kernel) (pa_cons (pv 7) pa_nil)) (pv 2)) pe_int (nomark _)))) pa_nil))))
      pss_nil)
      (pss_cons (ps_if (pt_not (pt_val (pe_dn DTruthL (hr.mono (by omega)) (pa_cons (pe_dnKx KDIsPoint (hr.mono (by omega)) pass0 (pk_cons (pv 4) (pk_cons (pv 1) pk_nil))) (pa_cons (pv 5) pa_nil)))))
      (pss_one (ps_ret pe_bl))
      pss_nil)
      (pss_one (ps_if (pt_not (pt_val (pe_dn DTruthL (hr.mono (by omega)) (pa_cons (pe_dnKx KDIsNew (hr.mono (by omega)) pass0 (pk_cons (pv 4) (pk_cons (pv 1) pk_nil))) (pa_cons (pv 6) pa_nil)))))
      (pss_one (ps_ret pe_bl))
      pss_nil))))))))
    (pss_cons (ps_set (i := 8) scKindsL.nd rfl (Or.inl rfl) (pe_op op_add (pe_ix ix_tup (pv 1) pe_int (fun _ _ => rfl)) (pe_ix ix_list (pe_lst (pa_cons pe_int (pa_cons pe_int (pa_cons pe_int (pa_cons pe_int (pa_cons pe_int pa_nil)))))) (pe_dn DDrawL (hr.mono (by omega)) (pa_cons (pv 0) (pa_cons pe_int pa_nil))) (fun _ _ => rfl))))
    (C8.pss_cut (ps_setLc (i := 9) (own := [("k", 11)]) (g := (gName 11)) (by rfl) scKindsL.nd rfl rfl (sw_true rfl rfl rfl (by decide +kernel)) (pi_range1 rfl T.n_range (pa_cons (pv 8) pa_nil)) (blkOk_by (own := [("k", 11)]) (N := ["tape", "space", "unit", "turn", "thing", "pointed", "new", "x", "many", "corners", "i", "k", "body", "due", "number", "bads"]) (sc := defScope sKindsL) (by decide +kernel)) (fun _ _ _ _ _ => (pg_name (i := 11) scKindsL.nd rfl (Or.inl rfl))) (fun _ _ _ _ _ => pts_nil) (fun _ _ _ _ _ => (pe_callTy (r := rTupOf K) call_tuple_of (by rfl) T.n_tuple (by decide +kernel) (pa_cons (pe_lc (own := [("i", 10)]) (g := (gName 10)) (by rfl) scKindsL.nd (pi_range1 rfl T.n_range (pa_cons (pe_ix (r := rIxT K) ix_tup (pv 1) pe_int (fun _ _ => rfl)) pa_nil)) (blkOk_by (own := [("i", 10)]) (N := ["tape", "space", "unit", "turn", "thing", "pointed", "new", "x", "many", "corners", "i", "k", "body", "due", "number", "bads"]) (by first | rfl | kernel_rfl)) (fun _ _ _ _ _ => (pg_name (i := 10) scKindsL.nd rfl (Or.inl rfl))) (fun _ _ _ _ _ => pts_nil) (fun _ _ _ _ _ => (pe_dn DCoordinateL (hr.mono (by omega)) (pa_cons (pv 0) (pa_cons (pe_ix (r := rIxT K) ix_tup (pv 1) pe_int (fun _ _ => rfl)) pa_nil))))) pa_nil))))
    (C8.pss_cut (ps_if (pt_cmpR op_eq (pe_dn DDrawL (hr.mono (by omega)) (pa_cons (pv 0) (pa_cons pe_int pa_nil))) pe_int (nomark _))
    (pss_one (ps_asg (pe_dn DThingL (hr.mono (by omega)) (pa_cons (pv 0) (pa_cons (pv 1) pa_nil))) (pg_sub (pv 9) (pe_dn DDrawL (hr.mono (by omega)) (pa_cons (pv 0) (pa_cons (pv 8) pa_nil))) set_list)))
    pss_nil)
    (C8.pss_cut (ps_if (pt_cmpR op_eq (pe_dn DDrawL (hr.mono (by omega)) (pa_cons (pv 0) (pa_cons pe_int pa_nil))) pe_int (nomark _))
    (pss_one (ps_asg (pe_ix ix_list (pv 9) (pe_op op_sub (pv 8) pe_int) (fun _ _ => rfl)) (pg_sub (pv 9) pe_int set_list)))
    pss_nil)
    (pss_cons (ps_set (i := 12) scKindsL.nd rfl (Or.inl rfl) (pe_callTy call_tuple_of (by rfl) T.n_tuple (by decide +kernel) (pa_cons (pv 9) pa_nil)))
    (C8.pss_cut (ps_set (i := 13) scKindsL.nd rfl (Or.inl rfl) (pe_and (pe_cmpR op_eq (pv 8) (pe_op op_add (pe_ix ix_tup (pv 1) pe_int (fun _ _ => rfl)) pe_int) (nomark _)) (pe_one (pe_callB (cr_all rfl) (by rfl) T.n_all (by decide +kernel) (pa_cons (pe_lc (own := [("x", 7)]) (g := (gName 7)) (by rfl) scKindsL.nd (pi_list (pv 9)) (blkOk_by (own := [("x", 7)]) (N := ["tape", "space", "unit", "turn", "thing", "pointed", "new", "x", "many", "corners", "i", "k", "body", "due", "number", "bads"]) (sc := defScope sKindsL) (by decide +kernel)) (fun _ _ _ _ _ => (pg_name (i := 7) scKindsL.nd rfl (Or.inl rfl))) (fun _ _ _ _ _ => pts_nil) (fun _ _ _ _ _ => (pe_dn DPointedL (hr.mono (by omega)) (pa_cons (pv 1) (pa_cons (pv 7) pa_nil))))) pa_nil)))))
    (C8.pss_cut (ps_if (PW.pt (pw_or (pt_not (pt_val (pe_dn DTruthL (hr.mono (by omega)) (pa_cons (pe_dnKx KDIsBody (hr.mono (by omega)) pass0 (pk_cons (pv 12) (pk_cons (pv 1) pk_nil))) (pa_cons (pv 13) pa_nil))))) (pw_or1 (pt_not (pt_val (pe_dn DTruthL (hr.mono (by omega)) (pa_cons (pe_dn DIsBody (hr.mono (by omega)) (pa_cons (pv 1) (pa_cons (pv 9) pa_nil))) (pa_cons pe_bl pa_nil))))))))
    (pss_one (ps_ret pe_bl))
    pss_nil)
    (C8.pss_cut (ps_if (pt_not (pt_val (pe_dn DTruthL (hr.mono (by omega)) (pa_cons (pe_dn DIsBody (hr.mono (by omega)) (pa_cons (pv 1) (pa_cons (pe_dn DThingL (hr.mono (by omega)) (pa_cons (pv 0) (pa_cons (pv 1) pa_nil))) pa_nil))) (pa_cons pe_bl pa_nil)))))
    (pss_one (ps_ret pe_bl))
    pss_nil)
    (C8.pss_cut (ps_set (i := 14) scKindsL.nd rfl (Or.inl rfl) (pe_ix ix_list (pe_lst (pa_cons pe_int (pa_cons pe_int (pa_cons pe_int (pa_cons pe_int (pa_cons (pe_op op_pow pe_int pe_int) (pa_cons (pe_dn DDrawL (hr.mono (by omega)) (pa_cons (pv 0) (pa_cons pe_int pa_nil))) pa_nil))))))) (pe_dn DDrawL (hr.mono (by omega)) (pa_cons (pv 0) (pa_cons pe_int pa_nil))) (fun _ _ => rfl)))
    (C8.pss_cut (ps_if (PW.pt (pw_or (pt_cmpR op_isnot_bl (pe_dn DIsSpace (hr.mono (by omega)) (pa_cons (pe_tup (pa_cons pe_int (pa_cons (pv 14) pa_nil))) pa_nil)) pe_bl (nomark _)) (pw_or1 (pt_cmpR op_isnot_bl (pe_dnKx KDIsSpace (hr.mono (by omega)) pass0 (pk_cons (pe_tup (pa_cons pe_int (pa_cons (pv 14) pa_nil))) pk_nil)) pe_bl (nomark _)))))
    (pss_one (ps_ret pe_bl))
    pss_nil)
    (C8.pss_cut (ps_set (i := 15) scKindsL.nd rfl (Or.inl rfl) (pe_lst (pa_cons (pe_tup (pa_cons pe_int (pa_cons (pe_un un_neg pe_int) pa_nil))) (pa_cons (pe_tup (pa_cons pe_int (pa_cons pe_int pa_nil))) (pa_cons (pe_tup (pa_cons pe_int (pa_cons pe_int pa_nil))) (pa_cons (pe_tup (pa_cons pe_int (pa_cons pe_int pa_nil))) (pa_cons (pe_tup (pa_cons pe_bl (pa_cons pe_int pa_nil))) (pa_cons (pe_tup (pa_cons pe_int (pa_cons pe_bl pa_nil))) (pa_cons (pe_tup (pa_cons pe_int (pa_cons pe_bl pa_nil))) (pa_cons (pe_lst (pa_cons pe_int (pa_cons pe_int pa_nil))) (pa_cons (pe_tup (pa_cons pe_int pa_nil)) (pa_cons (pe_tup (pa_cons pe_int (pa_cons pe_int (pa_cons pe_int pa_nil)))) (pa_cons pe_non pa_nil)))))))))))))
    (C8.pss_cut (ps_set (i := 15) scKindsL.nd rfl (Or.inl rfl) (pe_op op_cat (pv 15) (pe_lst (pa_cons pe_int (pa_cons (pe_tup (pa_cons pe_str (pa_cons pe_int pa_nil))) (pa_cons (pe_tup (pa_cons pe_int (pa_cons pe_non pa_nil))) (pa_cons (pe_tup (pa_cons (pe_tup (pa_cons pe_int pa_nil)) (pa_cons pe_int pa_nil))) (pa_cons (pe_tup pa_nil) (pa_cons pe_str (pa_cons pe_bl (pa_cons (pe_tup (pa_cons pe_int (pa_cons (pe_op op_sub (pe_un un_neg (pv 14)) pe_int) pa_nil))) (pa_cons (pe_tup (pa_cons (pe_op op_add pe_int (pv 14)) (pa_cons pe_int pa_nil))) pa_nil))))))))))))
    (pss_cons (ps_set (i := 15) scKindsL.nd rfl (Or.inl rfl) (pe_op op_cat (pv 15) (pe_lst (pa_cons (pe_tup (pa_cons (pe_un un_neg pe_int) (pa_cons pe_int pa_nil))) (pa_cons (pe_tup (pa_cons pe_int (pa_cons pe_str pa_nil))) pa_nil)))))
    (pss_one (ps_ret (pe_cmpR op_is_bl (pe_dn DIsSpace (hr.mono (by omega)) (pa_cons (pe_ix ix_list (pv 15) (pe_dn DDrawL (hr.mono (by omega)) (pa_cons (pv 0) (pa_cons pe_int pa_nil))) (fun _ _ => rfl)) pa_nil)) pe_bl (nomark _))))))))))))))))))), ?_⟩
    have st0 : L2.start ["tape", "space", "unit", "turn", "thing", "pointed", "new", "x", "many", "corners", "i", "k", "body", "due", "number", "bads"] [V.ref t, V.ref s] = [some (V.ref t), some (V.ref s), none, none, none, none, none, none, none, none, none, none, none, none, none, none] := rfl
    rw [st0]
    have n2 := hS.2.1
    have n3 := hS.2.2.1
    have q8 := hS.2.2.2
    have es := hS.1
    walk_at "rds"
    refine ⟨r, rfl, by omega, by omega, ?_⟩
    walk_at "rds"
    refine cut_at (fun σ' H' => ∃ u1 u2 u3 u4 u5, σ' = [some (.ref t), some (.ref s), some (.int (2 ^ r.toNat)), u1, u2, u3, u4, u5, none, none, none, none, none, none, none, none] ∧ Tq t l H' ∧ Sam H H') ?_ ?_
    · walk_at "rds"
      refine ⟨by decide, by decide, ?_⟩
      refine for_range (lo := 0) (n := 3) (fun i σ' H' => ∃ u1 u2 u3 u4 u5, σ' = [some (.ref t), some (.ref s), some (.int (2 ^ r.toNat)), u1, u2, u3, u4, u5, none, none, none, none, none, none, none, none] ∧ Tq t l H' ∧ Sam H H') ⟨_, _, _, _, _, rfl, Tt, Sam.refl⟩ ?_ (fun σ' H' h => h)
      rintro i σ' H1 hi ⟨u1, u2, u3, u4, u5, rfl, T1, s1⟩
      have es1 := s1 _ _ nt_tup es
      walk_at "rds"
      refine ⟨t, l, s, n, r, rfl, ⟨es1, hS.2⟩, T1, fun v H2 ⟨d, rv, nb, _⟩ T2 s2 => ?_⟩
      have es2 := s2 _ _ nt_tup es1
      walk_at "rds"
      refine ⟨s, n, r, v, d, rfl, ⟨es2, hS.2⟩, rv, fun H3 t3 => ?_⟩
      have es3 := t3 _ _ es2
      have rv3 := rv.to t3
      have T3 := T2.to t3
      have s3 : Sam H H3 := (s1.trans s2).trans (Sam.of t3)
      walk_at "rds"
      refine cut_at (fun σ' H' => ∃ u6, σ' = [some (.ref t), some (.ref s), some (.int (2 ^ r.toNat)), some (.int (0 + (i : Int))), some v, some (.bl (dRow n d)), some (.bl (dNew n r d)), u6, none, none, none, none, none, none, none, none] ∧ Same H3 H') ?_ ?_
      · walk_at "rds"
        refine Rd.ifB (fun h => ?_) fun h => ?_
        · obtain ⟨ns, rfl, ln⟩ := row_ints h
          obtain ⟨p, rfl, e, lp⟩ := rv3.row
          walk_at "rds"
          refine ⟨⟨_, SqT.of e⟩, fun d4 hd => lc_tup (K := K) (a := p) (xs := ns.map V.int) (fun i H4 => H4 d4 = some (.lst (((ns.take i).map fun x => !decide (x % 2 ^ r.toNat = 0)).map V.bl)) ∧ Same H3 H4) ⟨upd_same, same_put hd (Same.refl _)⟩ (fun i H4 _ ⟨_, s4⟩ => SqT.of (s4 _ _ e)) ?_ ?_⟩
          · rintro i x H4 hx ⟨e4, s4⟩
            refine ⟨rfl, ?_⟩
            obtain ⟨m, hm, rfl⟩ := int_at hx
            have up := unit_pos r
            walk_at "rds"
            refine ⟨_, e4, ?_, ?_, same_put hd s4⟩
            · rw [List.length_map, List.length_map, List.length_take, sizeLine_eq]
              omega
            · rw [upd_same, List.take_succ, hm, List.map_append, List.map_append]
              simp
          · rintro H4 ⟨e4, s4⟩
            rw [List.length_map, List.take_length] at e4
            walk_at "rds"
            refine ⟨d4, _, rfl, SqL.of e4, ?_⟩
            refine ⟨u5, ?_, s4⟩
            rw [dnew_row ln, List.any_map]
            rfl
        · walk_at "rds"
          refine ⟨u5, ?_, Same.refl _⟩
          have ez : dNew n r d = false := by unfold dNew; rw [h, Bool.false_and]
          rw [ez]
          rfl
      rintro _ H4 ⟨u6, rfl, t4⟩
      have rv4 := rv3.to t4
      have es4 := t4 _ _ es3
      walk_at "rds"
      refine ⟨s, n, r, v, d, rfl, ⟨es4, hS.2⟩, rv4, fun H5 t5 => ?_⟩
      walk_at "rds"
      refine ⟨_, _, rfl, ?_⟩
      walk_at "rds"
      refine Rd.ifF (by simp) ?_
      walk_at "rds"
      refine ⟨s, n, r, v, d, rfl, ⟨t5 _ _ es4, hS.2⟩, rv4.to t5, fun H6 t6 => ?_⟩
      walk_at "rds"
      refine ⟨_, _, rfl, ?_⟩
      walk_at "rds"
      refine Rd.ifF (by simp) ?_
      walk_at "rds"
      exact ⟨_, _, _, _, _, rfl, ((T3.to t4).to t5).to t6, ((s3.trans (Sam.of t4)).trans (Sam.of t5)).trans (Sam.of t6)⟩
    rintro _ H1 ⟨u1, u2, u3, u4, u5, rfl, T1, s1⟩
    have es1 := s1 _ _ nt_tup es
    walk_at "rds"
    rename_i p2 m2 H2 g2 e2 t2
    refine ⟨t, l, 5, rfl, T1.to t2, by decide, by decide, fun v3 H3 a3 b3 T3 s3 => ?_⟩
    refine' ix_pr (R := IntV) ?f1 ?f2 a3 ?f3 ?_
    case f1 => exact s3 _ _ (fun _ _ _ _ z => by simp at z) e2
    case f3 => exact b3
    case f2 => exact all_cons ⟨1, rfl, by decide, by decide⟩ (all_cons ⟨1, rfl, by decide, by decide⟩ (all_cons ⟨1, rfl, by decide, by decide⟩ (all_cons ⟨0, rfl, by decide, by decide⟩ (all_cons ⟨2, rfl, by decide, by decide⟩ all_nil))))
    rintro v ⟨j, rfl, j0, j2⟩
    have es3 := s3 _ _ nt_tup (t2 _ _ es1)
    have s03 : Sam H H3 := (s1.trans (Sam.of t2)).trans s3
    clear s1 t2 s3 T1 e2 g2 es1
    walk_at "rds"
    generalize hm : n + j = m
    have m2' : 2 ≤ m := by omega
    have m5 : m ≤ 5 := by omega
    refine cut_at (fun σ' H' => ∃ (d : Addr) (vs : List V), σ' = [some (.ref t), some (.ref s), some (.int (2 ^ r.toNat)), u1, u2, u3, u4, u5, some (.int m), some (.ref d), none, none, none, none, none, none] ∧ H' d = some (.lst vs) ∧ vs.length = m.toNat ∧ (∀ v ∈ vs, Rw H' n v) ∧ (d ≠ t ∧ d ≠ l) ∧ (∀ o, NotTape o → H d ≠ some o) ∧ Tq t l H' ∧ Sam H H') ?_ ?_
    · walk_at "rds"
      refine ⟨by omega, by omega, fun d hd => ?_⟩
      have nd := T3.ne hd
      refine lc_range (lo := 0) (n := m.toNat) (fun i H4 => ∃ vs : List V, vs.length = i ∧ (∀ v ∈ vs, Rw H4 n v) ∧ H4 d = some (.lst vs) ∧ Tq t l H4 ∧ Sam H3 H4) ⟨[], rfl, all_nil, upd_same, T3.to (same_put hd (Same.refl _)), Sam.of (same_put hd (Same.refl _))⟩ ?_ ?_
      · rintro i H4 hi ⟨vs, lv, hv, e4, T4, s4⟩
        have es4 := s4 _ _ nt_tup es3
        refine ⟨rfl, ?_⟩
        walk_at "rds"
        refine ⟨by omega, by omega, fun d5 hd5 => ?_⟩
        have nd5 := T4.ne hd5
        refine lc_range (lo := 0) (n := n.toNat) (fun i H5 => ∃ ms : List Int, ms.length = i ∧ H5 d5 = some (.lst (ms.map V.int)) ∧ Tq t l H5 ∧ Sam H4 H5) ⟨[], rfl, upd_same, T4.to (same_put hd5 (Same.refl _)), Sam.of (same_put hd5 (Same.refl _))⟩ ?_ ?_
        · rintro i H5 hi ⟨ms, lm, e5, T5, s5⟩
          have es5 := s5 _ _ nt_tup es4
          refine ⟨rfl, ?_⟩
          walk_at "rds"
          refine ⟨t, l, r, rfl, T5, by omega, by omega, fun c H6 a6 b6 T6 s6 => ?_⟩
          refine ⟨_, s6 _ _ nt_ints e5, ?_, ms ++ [c], by rw [List.length_append, lm]; rfl, by rw [upd_same, List.map_append]; rfl, T6.put nd5, sam_put hd5 (s5.trans s6)⟩
          rw [List.length_map, lm, sizeLine_eq]
          omega
        rintro H5 ⟨ms, lm, e5, T5, s5⟩
        walk_at "rds"
        rename_i p6 m6 H6 g6 e6 t6
        have e4d := t6 _ _ (s5 _ _ (rw_rf hv 0).nt e4)
        refine ⟨_, e4d, ?_, vs ++ [.ref p6], by rw [List.length_append, lv]; rfl, all_app (fun v h => rw_upd e4d ((hv v h).to (s5.trans (Sam.of t6)))) (all_cons (rw_upd e4d ⟨p6, ms, rfl, e6, by omega⟩) all_nil), upd_same, (T5.to t6).put nd, sam_put hd (s4.trans (s5.trans (Sam.of t6)))⟩
        rw [lv, sizeLine_eq]
        omega
      rintro H4 ⟨vs, lv, hv, e4, T4, s4⟩
      exact ⟨d, vs, rfl, e4, lv, hv, nd, (fun o no z => by have y := s03 _ _ no z; rw [hd] at y; cases y), T4, s03.trans s4⟩
    clear s03 T3 es3
    rintro _ H4 ⟨d, vs, rfl, ed, lv, hv, nd, fd, T4, s4⟩
    walk_at "rds"
    refine cut_at (fun σ' H' => ∃ (ws : List V) (i0 : Nat), σ' = [some (.ref t), some (.ref s), some (.int (2 ^ r.toNat)), u1, u2, u3, u4, u5, some (.int m), some (.ref d), none, none, none, none, none, none] ∧ H' d = some (.lst ws) ∧ ws.length = m.toNat ∧ (∀ v ∈ ws, Ct H' v) ∧ Rf ws i0 ∧ Tq t l H' ∧ Sam H H') ?_ ?_
    · walk_at "rds"
      refine ⟨t, l, 3, rfl, T4, by decide, by decide, fun v5 H5 a5 b5 T5 s5 => ?_⟩
      have s05 := s4.trans s5
      have hv5 : ∀ v ∈ vs, Rw H5 n v := fun v h => (hv v h).to s5
      have ed5 := s5 _ _ (rw_rf hv 0).nt ed
      walk_at "rds"
      refine Rd.ifB (fun h => ?_) fun h => ?_
      · have es5 := s05 _ _ nt_tup es
        walk_at "rds"
        refine ⟨t, l, s, n, r, rfl, ⟨es5, hS.2⟩, T5, fun v H6 ⟨dd, rv, _, pv⟩ T6 s6 => ?_⟩
        have hv6 : ∀ v ∈ vs, Rw H6 n v := fun v h => (hv5 v h).to s6
        have ed6 := s6 _ _ (rw_rf hv 0).nt ed5
        walk_at "rds"
        refine ⟨t, l, m, rfl, T6, by omega, by omega, fun v7 H7 a7 b7 T7 s7 => ?_⟩
        have hv7 : ∀ v ∈ vs, Rw H7 n v := fun v h => (hv6 v h).to s7
        have ed7 := s7 _ _ (rw_rf hv 0).nt ed6
        have ix7 : ixN vs.length v7 = some v7.toNat := by
          exact ixn a7 (by omega)
        refine Rd.setL ed7 ix7 ?_
        have hr := (rw_rf hv7 0).some (by omega)
        refine ⟨vs.set v7.toNat v, v7.toNat, rfl, upd_same, by rw [List.length_set]; exact lv, fun u hu => ?_, Rf.set hv7, T7.put nd, sam_upd fd ((s05.trans s6).trans s7)⟩
        rcases List.mem_or_eq_of_mem_set hu with h | h
        · exact ct_keep ed7 hr (rw_ct n3 (hv7 u h))
        · rw [h]
          exact ct_keep ed7 hr ⟨dd, rv.sm s7, pv⟩
      · walk_at "rds"
        exact ⟨vs, 0, rfl, ed5, lv, fun u hu => rw_ct n3 (hv5 u hu), rw_rf hv 0, T5, s05⟩
    clear hv lv ed T4 s4
    rintro _ H4 ⟨ws, i0, rfl, ed, lw, hw, rf, T4, s4⟩
    walk_at "rds"
    refine cut_at (fun σ' H' => ∃ (ws : List V), σ' = [some (.ref t), some (.ref s), some (.int (2 ^ r.toNat)), u1, u2, u3, u4, u5, some (.int m), some (.ref d), none, none, none, none, none, none] ∧ H' d = some (.lst ws) ∧ ws.length = m.toNat ∧ (∀ v ∈ ws, Ct H' v) ∧ NotTape (.lst ws) ∧ Tq t l H' ∧ Sam H H') ?_ ?_
    · walk_at "rds"
      refine ⟨t, l, 4, rfl, T4, by decide, by decide, fun v5 H5 a5 b5 T5 s5 => ?_⟩
      have s05 := s4.trans s5
      have hw5 : ∀ v ∈ ws, Ct H5 v := fun v h => (hw v h).to s5
      have ed5 := s5 _ _ rf.nt ed
      walk_at "rds"
      refine Rd.ifB (fun h => ?_) fun h => ?_
      · walk_at "rds"
        have hk : m.toNat - 1 < ws.length := by omega
        have e2 := atI_nat (List.getElem?_eq_getElem hk)
        rw [show ((m.toNat - 1 : Nat) : Int) = m - 1 by omega] at e2
        refine Rd.ixL ed5 e2 ?_
        walk_at "rds"
        have ix0 : ixN ws.length 0 = some 0 := ixn (by decide) (by omega)
        refine Rd.setL ed5 ix0 ?_
        have hr := rf.some (by omega)
        refine ⟨_, rfl, upd_same, by rw [List.length_set]; exact lw, fun u hu => ?_, nt_ends rf (by omega) _ (by rw [lw]; exact List.getElem?_eq_getElem hk), T5.put nd, sam_upd fd s05⟩
        rcases List.mem_or_eq_of_mem_set hu with h | h
        · exact ct_keep ed5 hr (hw5 u h)
        · rw [h]
          exact ct_keep ed5 hr (hw5 _ (List.getElem_mem _))
      · walk_at "rds"
        exact ⟨ws, rfl, ed5, lw, hw5, rf.nt, T5, s05⟩
    clear hw lw ed T4 s4 rf
    rintro _ H4 ⟨ws, rfl, ed, lw, hw, nw, T4, s4⟩
    have es4 := s4 _ _ nt_tup es
    obtain ⟨ds, rds⟩ := rp_all hw
    have lds := rds.len
    walk_at "rds"
    rename_i p6 m6 H6 g6 e6 t6
    have T6 := T4.to t6
    have s6 := s4.trans (Sam.of t6)
    have ed6 := t6 _ _ ed
    have es6 := t6 _ _ es4
    have rd6 := rds.to t6
    clear T4 s4 es4 rds t6 g6 ed hw
    walk_at "rds"
    refine cut_at (fun σ' H' => ∃ u7, σ' = [some (.ref t), some (.ref s), some (.int (2 ^ r.toNat)), u1, u2, u3, u4, u7, some (.int m), some (.ref d), none, none, some (.ref p6), some (.bl (dBody n (.tuple ds))), none, none] ∧ Same H6 H') ?_ ?_
    · walk_at "rds"
      have ez : dBody n (.tuple ds) = (decide ((ds.length : Int) = n + 1) && ds.all (dRow n)) := rfl
      refine Rd.ifB (fun h => ?_) fun h => ?_
      · have h' : m = n + 1 := V.int.inj (of_decide_eq_true h)
        walk_at "rds"
        refine ⟨⟨_, SqL.of ed6⟩, fun d4 hd => lc_list (K := K) (a := d) (xs := ws) (fun i H4 => H4 d4 = some (.lst (((ds.take i).map (dRow n)).map V.bl)) ∧ Same H6 H4) ⟨upd_same, same_put hd (Same.refl _)⟩ (fun i H4 _ ⟨_, s4⟩ => SqL.of (s4 _ _ ed6)) ?_ ?_⟩
        · rintro i x H4 hx ⟨e4, s4⟩
          refine ⟨rfl, ?_⟩
          walk_at "rds"
          obtain ⟨d1, h1, r1⟩ := rd6.at hx
          refine ⟨s, n, r, x, d1, rfl, ⟨s4 _ _ es6, hS.2⟩, r1.to s4, fun H5 t5 => ⟨_, t5 _ _ e4, ?_, ?_, same_put hd (s4.trans t5)⟩⟩
          · rw [List.length_map, List.length_map, List.length_take, sizeLine_eq]
            omega
          · rw [upd_same, List.take_succ, h1, List.map_append, List.map_append]
            rfl
        · rintro H4 ⟨e4, s4⟩
          rw [lds, List.take_length] at e4
          walk_at "rds"
          refine ⟨d4, _, rfl, SqL.of e4, ?_⟩
          refine ⟨u5, ?_, s4⟩
          rw [ez, decide_eq_true (show (ds.length : Int) = n + 1 by omega), Bool.true_and, List.all_map]
          rfl
      · walk_at "rds"
        refine ⟨u5, ?_, Same.refl _⟩
        have h' : ¬ m = n + 1 := fun z => by rw [z] at h; exact absurd h (by simp)
        rw [ez, decide_eq_false (show ¬ (ds.length : Int) = n + 1 by omega), Bool.false_and]
        rfl
    rintro _ H7 ⟨u7, rfl, t7⟩
    have e7 := t7 _ _ e6
    have ed7 := t7 _ _ ed6
    have es7 := t7 _ _ es6
    have rd7 := rd6.to t7
    have T7 := T6.to t7
    have s7 := s6.trans (Sam.of t7)
    clear t7 e6 ed6 es6 rd6 T6 s6
    walk_at "rds"
    refine cut_at (fun σ' H' => True ∧ σ' = [some (.ref t), some (.ref s), some (.int (2 ^ r.toNat)), u1, u2, u3, u4, u7, some (.int m), some (.ref d), none, none, some (.ref p6), some (.bl (dBody n (.tuple ds))), none, none] ∧ Same H7 H') ?_ ?_
    · walk_at "rds"
      refine ⟨s, n, r, _, .tuple ds, rfl, ⟨es7, hS.2⟩, .tup e7 rd7 (by omega), fun H8 t8 => ?_⟩
      walk_at "rds"
      refine ⟨_, _, rfl, ?_⟩
      walk_at "rds"
      refine Rd.ifF (by simp) ?_
      walk_at "rds"
      refine ⟨s, n, r, _, .list ds, rfl, ⟨t8 _ _ es7, hS.2⟩, .lst (t8 _ _ ed7) (rd7.to t8) (by omega) nw, fun H9 t9 => ?_⟩
      walk_at "rds"
      refine ⟨_, _, rfl, ?_⟩
      walk_at "rds"
      try (refine Rd.ifF (by first | rfl | simp [dBody]) ?_)
      walk_at "rds"
      exact ⟨True.intro, rfl, t8.trans t9⟩
    rintro _ H8 ⟨_, rfl, t8⟩
    have es8 := t8 _ _ es7
    have T8 := T7.to t8
    have s8 := s7.trans (Sam.of t8)
    clear t8 es7 T7 s7 e7 ed7 rd7
    walk_at "rds"
    refine cut_at (fun σ' H' => True ∧ σ' = [some (.ref t), some (.ref s), some (.int (2 ^ r.toNat)), u1, u2, u3, u4, u7, some (.int m), some (.ref d), none, none, some (.ref p6), some (.bl (dBody n (.tuple ds))), none, none] ∧ Tq t l H' ∧ Sam H H') ?_ ?_
    · walk_at "rds"
      refine ⟨t, l, s, n, r, rfl, ⟨es8, hS.2⟩, T8, fun v H9 ⟨dd, rv, nb, pv⟩ T9 s9 => ?_⟩
      walk_at "rds"
      refine ⟨s, n, r, v, dd, rfl, ⟨s9 _ _ nt_tup es8, hS.2⟩, rv, fun J1 w1 => ?_⟩
      walk_at "rds"
      refine ⟨_, _, rfl, ?_⟩
      walk_at "rds"
      rw [nb]
      try (refine Rd.ifF (by first | rfl | simp) ?_)
      walk_at "rds"
      exact ⟨True.intro, rfl, T9.to w1, (s8.trans s9).trans (Sam.of w1)⟩
    clear es8 T8 s8
    rintro _ H8 ⟨_, rfl, T8, s8⟩
    walk_at "rds"
    refine cut_at (fun σ' H' => ∃ num : Int, 0 ≤ num ∧ σ' = [some (.ref t), some (.ref s), some (.int (2 ^ r.toNat)), u1, u2, u3, u4, u7, some (.int m), some (.ref d), none, none, some (.ref p6), some (.bl (dBody n (.tuple ds))), some (.int num), none] ∧ Tq t l H' ∧ Sam H H') ?_ ?_
    · walk_at "rds"
      refine ⟨t, l, 300, rfl, T8, by decide, by decide, fun v9 H9 a9 b9 T9 s9 => ?_⟩
      walk_at "rds"
      rename_i p3 m3 J3 g3 e3 t3
      refine ⟨t, l, 6, rfl, T9.to t3, by decide, by decide, fun v4 J4 a4 b4 Z4 z4 => ?_⟩
      refine' ix_pr (R := NatV) ?x1 ?x2 a4 ?x3 ?_
      case x1 => exact z4 _ _ (fun _ _ _ _ z => by simp at z) e3
      case x3 => exact b4
      case x2 => exact all_cons ⟨0, rfl, by decide⟩ (all_cons ⟨1, rfl, by decide⟩ (all_cons ⟨8, rfl, by decide⟩ (all_cons ⟨40, rfl, by decide⟩ (all_cons ⟨_, rfl, by decide⟩ (all_cons ⟨v9, rfl, a9⟩ all_nil)))))
      rintro v ⟨num, rfl, hnum⟩
      exact ⟨num, hnum, rfl, Z4, ((s8.trans s9).trans (Sam.of t3)).trans z4⟩
    clear T8 s8
    rintro _ H8 ⟨num, hnum, rfl, T8, s8⟩
    walk_at "rds"
    have sp2 : dSpace (.tuple [.int 2, .int num]) = true := by show ((decide ((2 : Int) = 2) || decide ((2 : Int) = 3)) && decide (0 ≤ num)) = true; rw [decide_eq_true hnum]; rfl
    have sp3 : dSpace (.tuple [.int 3, .int num]) = true := by show ((decide ((3 : Int) = 2) || decide ((3 : Int) = 3)) && decide (0 ≤ num)) = true; rw [decide_eq_true hnum]; rfl
    refine cut_at (fun σ' H' => True ∧ σ' = [some (.ref t), some (.ref s), some (.int (2 ^ r.toNat)), u1, u2, u3, u4, u7, some (.int m), some (.ref d), none, none, some (.ref p6), some (.bl (dBody n (.tuple ds))), some (.int num), none] ∧ Tq t l H' ∧ Sam H H') ?_ ?_
    · walk_at "rds"
      rename_i p3 m3 J3 g3 e3 t3
      refine ⟨_, _, rfl, .tup e3 (.cons (.int 2) (.cons (.int num) .nil)) (by show 2 ≤ 1000; decide), fun J4 t4 => ?_⟩
      rw [sp2]
      walk_at "rds"
      try (refine Rd.ifF (by first | rfl | simp) ?_)
      walk_at "rds"
      rename_i p5 m5 J5 g5 e5 t5
      refine ⟨_, _, rfl, .tup e5 (.cons (.int 3) (.cons (.int num) .nil)) (by show 2 ≤ 1000; decide), fun J6 t6 => ?_⟩
      rw [sp3]
      walk_at "rds"
      try (refine Rd.ifF (by first | rfl | simp) ?_)
      walk_at "rds"
      exact ⟨True.intro, rfl, (((T8.to t3).to t4).to t5).to t6, (((s8.trans (Sam.of t3)).trans (Sam.of t4)).trans (Sam.of t5)).trans (Sam.of t6)⟩
    clear T8 s8
    rintro _ H8 ⟨_, rfl, T8, s8⟩
    walk_at "rds"
    refine cut_at (fun σ' H' => ∃ (p : Addr) (L : List V), σ' = [some (.ref t), some (.ref s), some (.int (2 ^ r.toNat)), u1, u2, u3, u4, u7, some (.int m), some (.ref d), none, none, some (.ref p6), some (.bl (dBody n (.tuple ds))), some (.int num), some (.ref p)] ∧ H' p = some (.lst L) ∧ L.length = 11 ∧ (∀ v ∈ L, Ns H' v) ∧ Tq t l H' ∧ Sam H H') ?_ ?_
    · walk_at "rds"
      refine' ⟨?p0, ?l0, ?g09, ?g00, ?g01, ?g02, ?g03, ?g04⟩
      case g09 => exact rfl
      case g00 =>
        walk_at "heap"
      case g01 =>
        first | exact rfl | (simp only [List.length_append, List.length_cons, List.length_nil]; omega)
      case g02 =>
        walk_at "ths"
      case g03 =>
        walk_at "tq"
      case g04 =>
        walk_at "sam"
    clear T8 s8
    rintro _ H8 ⟨p, L, rfl, eL, lL, hL, T8, s8⟩
    walk_at "rds"
    refine cut_at (fun σ' H' => ∃ (p : Addr) (L : List V), σ' = [some (.ref t), some (.ref s), some (.int (2 ^ r.toNat)), u1, u2, u3, u4, u7, some (.int m), some (.ref d), none, none, some (.ref p6), some (.bl (dBody n (.tuple ds))), some (.int num), some (.ref p)] ∧ H' p = some (.lst L) ∧ L.length = 20 ∧ (∀ v ∈ L, Ns H' v) ∧ Tq t l H' ∧ Sam H H') ?_ ?_
    · walk_at "rds"
      refine' ⟨?p1, ?l1, ?g19, ?g10, ?g11, ?g12, ?g13, ?g14⟩
      case g19 => exact rfl
      case g10 =>
        walk_at "heap"
      case g11 =>
        first | exact rfl | (simp only [List.length_append, List.length_cons, List.length_nil]; omega)
      case g12 =>
        refine all_app ?_ ?_
        · intro v hv
          refine' (hL v hv).to ?s020
          case s020 => walk_at "sam"
        · walk_at "ths"
      case g13 =>
        walk_at "tq"
      case g14 =>
        walk_at "sam"
    clear T8 s8 hL eL lL
    rintro _ H8 ⟨p, L, rfl, eL, lL, hL, T8, s8⟩
    walk_at "rds"
    rename_i pr Jr er tr nr
    refine' ⟨t, l, 22, rfl, ?q9, by decide, by decide, fun v9 H9 a9 b9 T9 s9 => ?_⟩
    case q9 => walk_at "tq"
    refine' ix_pr (R := Ns H9) ?x1 ?x2 a9 ?x3 ?_
    case x1 => exact s9 _ _ (fun _ _ _ _ z => by injection z with z; have y := congrArg List.length z; simp only [List.length_append, List.length_cons, List.length_nil] at y; omega) er
    case x3 => (simp only [List.length_append, List.length_cons, List.length_nil]; omega)
    case x2 =>
      intro v hv
      refine Ns.to s9 ?_
      revert v
      refine all_app ?_ ?_
      · intro v hv
        refine' (hL v hv).to ?s9
        case s9 => walk_at "sam"
      · walk_at "ths"
    rintro v ⟨dd, rv, hd⟩
    walk_at "rds"
    refine ⟨v, dd, rfl, rv, fun J9 w9 => ?_⟩
    rw [hd]
    walk_at "rds"
    refine' ifQ (kk J9 ?q8 ?q7)
    case q8 => exact T9.to w9
    case q7 =>
      refine' Sam.trans ?q6 (Sam.of w9)
      case q6 => walk_at "sam"

end
end K17
end SecK11
section SecK12
set_option Elab.async false
set_option linter.all false
set_option maxRecDepth 100000
set_option maxHeartbeats 4000000
set_option pp.deepTerms false
local macro_rules | `(tactic| walk_at "tq") => `(tactic| first | assumption | (refine' Dt.Tq.to ?s0 ?h0; (case h0 => assumption); (case s0 => walk_at "same")))
local macro_rules | `(tactic| walk_at "same") => `(tactic| first | exact L2.Same.refl _ | assumption | (refine' L2.Same.trans ?s1 ?s2; (case s2 => assumption); (case s1 => walk_at "same")))
local macro_rules | `(tactic| walk_at "sam") => `(tactic| first | exact Dt.Sam.refl | assumption | exact Dt.Sam.of (by assumption) | (refine' Dt.Sam.trans ?s1 ?s2; (case s2 => first | assumption | exact Dt.Sam.of (by assumption)); (case s1 => walk_at "sam")))
local macro_rules | `(tactic| walk_at "tape") => `(tactic| first | assumption | (refine' Dt.Tape.mono ?h0 ?s0; (case h0 => assumption); (case s0 => walk_at "same")))
local macro_rules | `(tactic| walk_at "nt") => `(tactic| first | exact Dt.nt_tup | exact Dt.nt_ints | assumption | (intro a0 b0 c0 l0 z0; cases z0) | (intro a0 b0 c0 l0 z0; simp at z0))
local macro_rules | `(tactic| walk_at "heap") => `(tactic| first | assumption | exact L2.upd_same | (refine' Rd.at_to ?s0 ?h0; (case h0 => assumption); (case s0 => walk_at "same")) | (refine' Dt.at_sam ?n0 ?s0 ?h0; (case h0 => assumption); (case n0 => walk_at "nt"); (case s0 => walk_at "sam")))
local macro_rules | `(tactic| walk_at "rp") => `(tactic| first | exact Dt.Rp.int _ | exact Dt.Rp.bl _ | exact Dt.Rp.str _ | exact Dt.Rp.non | assumption | (refine' Dt.Rp.sm ?s0 ?h0; (case h0 => assumption); (case s0 => walk_at "sam")) | (refine' Dt.Rp.tup ?h1 ?h2 ?h3; (case h1 => walk_at "heap"); (case h2 => walk_at "rps"); (case h3 => first | assumption | (show _ ≤ 1000; decide) | (show _ ≤ 1000; simp) | (show _ ≤ 1000; omega))) | (refine' Dt.Rp.lst ?h1 ?h2 ?h3 ?h4; (case h1 => walk_at "heap"); (case h2 => walk_at "rps"); (case h3 => first | assumption | (show _ ≤ 1000; decide) | (show _ ≤ 1000; simp) | (show _ ≤ 1000; omega)); (case h4 => walk_at "nt")))
local macro_rules | `(tactic| walk_at "rps") => `(tactic| first | exact Dt.RpAll.nil | assumption | (refine' Dt.RpAll.cons ?h1 ?h2; (case h1 => walk_at "rp"); (case h2 => walk_at "rps")) | (refine' Dt.RpAll.sm ?s0 ?h0; (case h0 => assumption); (case s0 => walk_at "sam")))
local macro_rules | `(tactic| walk_at "rd") => `(tactic| first
  | with_reducible refine Rd.seq ?_ | with_reducible refine Rd.asg ?_ | with_reducible refine Rd.nm ?_ | with_reducible refine Rd.sub ?_ | with_reducible refine Rd.ret ?_ | with_reducible refine Rd.retN ?_
  | with_reducible refine Rd.drop ?_ | with_reducible refine Rd.ifs ?_ | with_reducible refine Rd.next ?_ | with_reducible refine Rd.cst ?_ | with_reducible refine Rd.op ?_ | with_reducible refine Rd.un ?_
  | with_reducible refine Rd.test ?_ | with_reducible refine Rd.tb' ?_ | with_reducible refine Rd.exb ?_ | with_reducible refine Rd.exi ?_ | with_reducible refine Rd.and2 ?_ | with_reducible refine Rd.or2 ?_ | with_reducible refine Rd.not1 ?_
  | with_reducible refine Rd.andV ?_ | with_reducible refine Rd.orV ?_ | with_reducible refine Rd.notV ?_ | with_reducible refine Rd.nil ?_ | with_reducible refine Rd.cons ?_ | with_reducible refine Rd.cb ?_
  | with_reducible refine Rd.i0 ?_ | with_reducible refine Rd.u1 ?_ | with_reducible refine Rd.call ?_ | with_reducible refine Rd.tup ?_ | with_reducible refine Rd.lst ?_ | with_reducible refine Rd.sl ?_ | with_reducible refine Rd.no ?_ | with_reducible refine Rd.part ?_ | with_reducible refine Rd.at_ ?_ | with_reducible refine Rd.yes ?_ | with_reducible refine Rd.fors ?_ | with_reducible refine Rd.m1 ?_ | with_reducible refine Rd.exs ?_ | with_reducible refine Rd.lc ?_ | with_reducible refine Rd.rng ?_
  | with_reducible refine Rd.mkv ?_ | with_reducible refine Rd.mko ?_ | with_reducible refine Rd.callB ?_ | with_reducible refine Rd.callS ?_ | with_reducible refine Rd.bm ?_ | with_reducible refine Rd.itl ?_ | with_reducible refine Rd.itt ?_
  | ((with_reducible refine' And.intro ?hl ?_); (case hl => ((with_reducible show List.length _ ≤ PySem.sizeLine); (show _ ≤ PySem.sizeLine); rw [PySem.sizeLine_eq]; simp)))
  | (intro p0 n0; generalize hK0 : L2.upd _ p0 _ = K0; obtain ⟨e0, t0⟩ := Dt.newK hK0 n0)
  | ((with_reducible refine' Rd.lenKL ?he ?_); (case he => walk_at "heap")) | ((with_reducible refine' Rd.lenKT ?he ?_); (case he => walk_at "heap"))
  | ((with_reducible refine' Rd.var ?hv ?_); (case hv => exact rfl))
  | ((with_reducible refine' Rd.ifT ?hv ?_); (case hv => first | exact rfl | assumption)) | ((with_reducible refine' Rd.ifF ?hv ?_); (case hv => first | exact rfl | assumption))
  | ((with_reducible refine' Rd.eq ?hv ?_); (case hv => exact rfl))
  | ((with_reducible refine' Rd.ne ?hv ?_); (case hv => exact rfl))
  | ((with_reducible refine' Dt.isi_int ?hr ?_); (case hr => walk_at "rp")) | ((with_reducible refine' Dt.isi_bool ?hr ?_); (case hr => walk_at "rp")) | ((with_reducible refine' Dt.isi_tuple ?hr ?_); (case hr => walk_at "rp")) | ((with_reducible refine' Dt.isi_str ?hr ?_); (case hr => walk_at "rp")) | ((with_reducible refine' Dt.isi_list ?hr ?_); (case hr => walk_at "rp"))
  | with_reducible refine ⟨rfl, ?_⟩ | with_reducible refine Or.inl ⟨_, rfl, ?_⟩ | with_reducible refine Or.inr ⟨_, rfl, ?_⟩ | with_reducible refine ⟨_, rfl, ?_⟩
  | ((with_reducible refine' Rd.ex2 ⟨rfl, ?hl, ?_⟩); (case hl => first | exact Or.inl ⟨_, L2.SqL.of (by walk_at "heap"), rfl⟩ | exact Or.inr ⟨_, L2.SqT.of (by walk_at "heap"), rfl⟩))
  | ((with_reducible refine' Rd.i1 ?hv ?_); (case hv => first | exact ⟨by decide, by decide, by decide⟩ | exact Or.inr ⟨by decide, by decide⟩ | exact Or.inl ⟨by decide, by decide⟩ | exact ⟨by decide, by decide⟩ | decide | assumption | (show _ ≠ _; omega) | (refine ⟨?_, ?_⟩ <;> omega) | (refine Or.inl ⟨?_, ?_⟩ <;> omega)))
  | ((with_reducible refine' Rd.ixL ?he ?hx ?_); (case he => walk_at "heap"); (case hx => rfl))
  | ((with_reducible refine' Rd.ixT ?he ?hx ?_); (case he => walk_at "heap"); (case hx => rfl))
  | ((with_reducible refine' Rd.setL ?he ?hx ?_); (case he => first | assumption | exact L2.upd_same); (case hx => rfl)))
local macro_rules | `(tactic| walk_at "rd") => `(tactic| first | with_reducible refine Rd.isT ?_ | with_reducible refine Rd.isnT ?_ | with_reducible refine Rd.ife ?_)
local macro_rules | `(tactic| walk_at "rd") => `(tactic| first | ((with_reducible refine' Rd.gtup ?he ?hl ?_); (case he => walk_at "heap"); (case hl => exact rfl)) | with_reducible refine Rd.brk ?_ | with_reducible refine Rd.callR ?_ | ((with_reducible refine' ⟨_, _, rfl, Or.inl ⟨L2.SqL.of ?hp, ?_⟩⟩); (case hp => walk_at "heap")) | ((with_reducible refine' ⟨_, _, rfl, Or.inl (L2.SqL.of ?hp), ?_⟩); (case hp => walk_at "heap")) | ((with_reducible refine' Rd.catL ?hp ?hq ?hl ?_); (case hp => walk_at "heap"); (case hq => walk_at "heap"); (case hl => (simp only [List.length_map, List.length_append, List.length_cons, List.length_nil]; omega)); (intro r0 J0 e0 t0 n0)) | with_reducible refine Rd.bits ?_ | with_reducible refine Rd.max2 ?_ | with_reducible refine Rd.gcons ?_ | with_reducible refine Rd.gnil ?_)
local macro_rules | `(tactic| walk_at "rds") => `(tactic| repeat (first | walk_at "rd" | assumption))
namespace K17
open PySem PySem.Spec PyProof.Rows L2 L2H Err Dt
open Bt
theorem told_ne {K : PySem.W.Frag} {H : Hp} {p q : Addr} {z : Str} {i : Int} {Q : VK} (hz : SeqAt.shaped (.tuple [.str z, .int i]) = true) (hp : H p = some (.tup [.str z, .int i])) (hq : H q = some (.tup [.str z, .int i])) (k : Q (.bl false) H) : rNeD K (.ref p) (.ref q) H Q := by
  refine ⟨_, _, .tup (SqT.of hp) (.cons (.str _) (.cons (.int _) .nil)), .tup (SqT.of hq) (.cons (.str _) (.cons (.int _) .nil)), hz, hz, ?_⟩
  rw [SeqAt.eqv_refl _ (SeqAt.canLay_of_shaped hz)]
  exact k
def dueW (b : Bool) : Str := if b then "point" else "let"
def dueI (b : Bool) : Int := if b then -1 else 0
theorem tR_no {i n r : Int} {d : PyData} (h : dRow n d = false) : tR i n r d = true := by
  unfold tR
  split
  · rw [h]; rfl
  · unfold dNew
    rw [h]; rfl
theorem tR_yes {i n r : Int} {ms : List Int} (ln : (ms.length : Int) = n) (h : newL r ms = true) : tR i n r (.tuple (ms.map PyData.int)) = false := by
  unfold tR
  split
  · rw [row_true ln]; rfl
  · rw [dnew_row ln, h]; rfl
theorem tR_base {i n r : Int} {ms : List Int} (hi : i ≠ 6) (ln : (ms.length : Int) = n) (h : newL r ms = false) : tR i n r (.tuple (ms.map PyData.int)) = true := by
  unfold tR
  rw [if_neg hi, dnew_row ln, h]
  rfl
theorem tR_six {n r : Int} {ms : List Int} (ln : (ms.length : Int) = n) : tR 6 n r (.tuple (ms.map PyData.int)) = false := by
  unfold tR
  rw [if_pos rfl, row_true ln]
  rfl
section
variable {P : Program} {w : World} {K : PySem.W.Frag} {mg : Str → Option Value} {base : Heap}
set_option pp.maxSteps 3000
abbrev sRefusedL : Stmt := topS 51
theorem scRefusedL : FnScope ["tape", "space", "which", "thing", "due", "small", "x"] ["tape", "space"] (defScope sRefusedL) := ⟨rfl, rfl, rfl, by decide +kernel, rfl, by decide +kernel, by decide +kernel⟩
theorem okRefusedL {f : Addr} {fd : FuncData} (F : Fun K "_law_refused" "_law_refused" sRefusedL f fd) (T : Tx mg) (DThingL : Dn P w K mg base CX0 "_law_thing" 3 ["tape", "space"] spThing) (DPointedL : Dn P w K mg base CX0 "_law_pointed" 2 ["space", "thing"] spPointed) (DLayL : Dn P w K mg base CX0 "_law_lay" 1 ["rounds", "point"] spLay) (DToldL : Dn P w K mg base CX0 "_law_told" 7 ["which", "space", "thing"] spTold)  : FnOk P w K mg base CX0 8 f fd ["tape", "space"] spKinds := by
  refine F.ok scRefusedL (fun vs H Q E h => ?_) (fun cdv A outer s H vs Q E hr h => ?_)
  · obtain ⟨t, l, s, n, r, rfl, _⟩ := h
    rfl
  · obtain ⟨t, l, s, n, r, rfl, hS, Tt, kk⟩ := h
    refine ⟨_, (pss_cons (ps_for PassesOwn.never rfl (pi_range1 rfl T.n_range (pa_cons pe_int pa_nil)) (pg_name (i := 2) scRefusedL.nd rfl (Or.inl rfl))
    (pss_cons (ps_set (i := 3) scRefusedL.nd rfl (Or.inl rfl) (pe_dn DThingL (hr.mono (by omega)) (pa_cons (pv 0) (pa_cons (pv 1) pa_nil))))
      (pss_cons (ps_set (i := 4) scRefusedL.nd rfl (Or.inl rfl) (pe_tup (pa_cons pe_str (pa_cons pe_int pa_nil))))
      (C8.pss_cut (ps_if (pt_not (pt_val (pe_dn DPointedL (hr.mono (by omega)) (pa_cons (pv 1) (pa_cons (pv 3) pa_nil)))))
      (pss_one (ps_set (i := 4) scRefusedL.nd rfl (Or.inl rfl) (pe_tup (pa_cons pe_str (pa_cons (pe_un un_neg pe_int) pa_nil)))))
      (pss_cons (ps_set (i := 5) scRefusedL.nd rfl (Or.inl rfl) (pe_callTy call_tuple_of (by rfl) T.n_tuple (by decide +kernel) (pa_cons (pe_lc (own := [("x", 6)]) (g := (gName 6)) (by rfl) scRefusedL.nd (pi_tup (pv 3)) (blkOk_by (own := [("x", 6)]) (N := ["tape", "space", "which", "thing", "due", "small", "x"]) (sc := defScope sRefusedL) (by decide +kernel)) (fun _ _ _ _ _ => (pg_name (i := 6) scRefusedL.nd rfl (Or.inl rfl))) (fun _ _ _ _ _ => pts_nil) (fun _ _ _ _ _ => (pe_op op_sub (pe_op op_mod (pe_callTy call_int1 (by rfl) T.n_int (by decide +kernel) (pa_cons (pv 6) pa_nil)) pe_int) pe_int))) pa_nil)))
        (pss_cons (ps_if (PW.pt (pw_and (pt_cmpR op_lt (pv 2) pe_int (nomark _)) (pw_and1 (pt_cmpR op_eq (pe_callB call_len (by rfl) T.n_len (by decide +kernel) (pa_cons (pe_ix ix_tup (pe_dn DLayL (hr.mono (by omega)) (pa_cons (pe_ix ix_tup (pv 1) pe_int (fun _ _ => rfl)) (pa_cons (pv 5) pa_nil))) pe_int (fun _ _ => rfl)) pa_nil)) pe_int (nomark _)))))
        (pss_one (ps_set (i := 4) scRefusedL.nd rfl (Or.inl rfl) (pe_tup (pa_cons pe_str (pa_cons (pe_un un_neg pe_int) pa_nil)))))
        pss_nil)
        (pss_one (ps_set (i := 3) scRefusedL.nd rfl (Or.inl rfl) (pv 5))))))
      (pss_one (ps_if (pt_cmpR (op_neD (huR hr)) (pe_dn DToldL (hr.mono (by omega)) (pa_cons (pv 2) (pa_cons (pv 1) (pa_cons (pv 3) pa_nil)))) (pv 4) (nomark _))
      (pss_one (ps_ret pe_bl))
      pss_nil))))))
    (pss_one (ps_ret pe_bl))), ?_⟩
    have st0 : L2.start ["tape", "space", "which", "thing", "due", "small", "x"] [V.ref t, V.ref s] = [some (V.ref t), some (V.ref s), none, none, none, none, none] := rfl
    rw [st0]
    have n2 := hS.2.1
    have n3 := hS.2.2.1
    have q8 := hS.2.2.2
    have es := hS.1
    walk_at "rds"
    refine ⟨by decide, by decide, ?_⟩
    refine for_range (lo := 0) (n := 7) (fun i σ' H' => ∃ u2 u3 u4 u5 u6, σ' = [some (.ref t), some (.ref s), u2, u3, u4, u5, u6] ∧ Tq t l H' ∧ Sam H H') ⟨_, _, _, _, _, rfl, Tt, Sam.refl⟩ ?_ ?_
    · rintro i σ' H1 hi ⟨u2, u3, u4, u5, u6, rfl, T1, s1⟩
      have es1 := s1 _ _ nt_tup es
      walk_at "rds"
      refine ⟨t, l, s, n, r, rfl, ⟨es1, hS.2⟩, T1, fun v H2 ⟨d, rv, nb, _⟩ T2 s2 => ?_⟩
      have es2 := s2 _ _ nt_tup es1
      walk_at "rds"
      rename_i p3 m3 H3 g3 e3 t3
      have es3 := t3 _ _ es2
      have rv3 := rv.to t3
      have T3 := T2.to t3
      have s3 : Sam H H3 := (s1.trans s2).trans (Sam.of t3)
      clear s1 s2 t3 T1 T2 es1 es2 rv g3
      refine cut_at (fun σ' H' => ∃ (v' : V) (dd : PyData) (q : Addr) (u5 u6 : Option V), σ' = [some (.ref t), some (.ref s), some (.int (0 + (i : Int))), some v', some (.ref q), u5, u6] ∧ Rp H' v' dd ∧ H' q = some (.tup [.str (dueW (tR (i : Int) n r dd)), .int (dueI (tR (i : Int) n r dd))]) ∧ Same H3 H') ?_ ?_
      · walk_at "rds"
        refine ⟨s, n, r, v, d, rfl, ⟨es3, hS.2⟩, rv3, fun H4 t4 => ?_⟩
        have es4 := t4 _ _ es3
        have rv4 := rv3.to t4
        have e4 := t4 _ _ e3
        walk_at "rds"
        refine Rd.ifB (fun h => ?_) fun h => ?_
        · have hd : dRow n d = false := by simpa using h
          walk_at "rds"
          rename_i p5 m5 H5 g5 e5 t5
          refine ⟨v, d, p5, _, _, rfl, rv4.to t5, ?_, t4.trans t5⟩
          rw [tR_no hd]
          exact e5
        · have hd : dRow n d = true := by simpa using h
          obtain ⟨ns, rfl, ln⟩ := row_ints hd
          obtain ⟨p, rfl, e, lp⟩ := rv4.row
          walk_at "rds"
          refine ⟨⟨_, SqT.of e⟩, fun d5 hd5 => lc_tup (K := K) (a := p) (xs := ns.map V.int) (fun i H5 => H5 d5 = some (.lst (((ns.take i).map fun x => x % 1000003 - 500001).map V.int)) ∧ Same H4 H5) ⟨upd_same, same_put hd5 (Same.refl _)⟩ (fun i H5 _ ⟨_, s5⟩ => SqT.of (s5 _ _ e)) ?_ ?_⟩
          · rintro i x H5 hx ⟨e5, s5⟩
            refine ⟨rfl, ?_⟩
            obtain ⟨m, hm, rfl⟩ := int_at hx
            walk_at "rds"
            refine ⟨_, e5, ?_, ?_, same_put hd5 s5⟩
            · rw [List.length_map, List.length_map, List.length_take, sizeLine_eq]
              omega
            · rw [upd_same, List.take_succ, hm, List.map_append, List.map_append]
              rfl
          rintro H5 ⟨e5, s5⟩
          rw [List.length_map, List.take_length] at e5
          walk_at "rds"
          rename_i p6 m6 H6 g6 e6 t6
          generalize hms : ns.map (fun x => x % 1000003 - 500001) = ms at *
          have lms : (ms.length : Int) = n := by rw [← hms, List.length_map]; exact ln
          have e46 := t6 _ _ (s5 _ _ e4)
          have es6 := t6 _ _ (s5 _ _ es4)
          have s36 : Same H3 H6 := t4.trans (s5.trans t6)
          clear e4 es4 s5 t6 g6 e5
          walk_at "rds"
          refine Rd.ifB (fun h6 => ?_) fun h6 => ?_
          · have h6 := of_decide_eq_true h6
            walk_at "rds"
            refine ⟨p6, r, ms, rfl, e6, by omega, by omega, by omega, fun k G hk q q2 H7 e7 e8 t7 => ?_, fun nw q q2 H7 e7 e8 t7 => ?_⟩
            · have on := opl_ne G
              walk_at "rds"
              refine Rd.ifF (decide_eq_false fun z => on ?_) ?_
              · rw [List.length_map, List.length_map] at z
                exact List.eq_nil_of_length_eq_zero (by have := V.int.inj z; omega)
              walk_at "rds"
              refine ⟨.ref p6, .tuple (ms.map PyData.int), p3, _, _, rfl, rp_row (t7 _ _ e6) (by omega), ?_, s36.trans t7⟩
              rw [tR_yes lms (gr_newL G hk)]
              exact t7 _ _ e46
            · walk_at "rds"
              rename_i p8 m8 H8 g8 e9 t8
              refine ⟨.ref p6, .tuple (ms.map PyData.int), p8, _, _, rfl, rp_row (t8 _ _ (t7 _ _ e6)) (by omega), ?_, s36.trans (t7.trans t8)⟩
              rw [tR_base (by omega) lms nw]
              exact e9
          · have h6 := of_decide_eq_false h6
            have hi6 : (i : Int) = 6 := by omega
            walk_at "rds"
            refine ⟨.ref p6, .tuple (ms.map PyData.int), p3, _, _, rfl, rp_row e6 (by omega), ?_, s36⟩
            rw [hi6, tR_six lms]
            exact e46
      rintro _ H4 ⟨v', dd, q, u5, u6, rfl, rv4, e4, t4⟩
      have es4 := t4 _ _ es3
      walk_at "rds"
      rw [show (0 : Int) + (i : Int) = (i : Int) by omega]
      refine ⟨(i : Int), s, n, r, v', dd, rfl, by omega, by omega, ⟨es4, hS.2⟩, rv4, fun z p5 H5 e5 t5 => ?_, fun z p5 H5 e5 t5 => ?_⟩
      · rw [z] at e4
        walk_at "rds"
        refine told_ne (z := "point") (i := -1) (by decide +kernel) e5 (t5 _ _ e4) ?_
        walk_at "rds"
        exact ⟨_, _, _, _, _, rfl, (T3.to t4).to t5, (s3.trans (Sam.of t4)).trans (Sam.of t5)⟩
      · rw [z] at e4
        walk_at "rds"
        refine told_ne (z := "let") (i := 0) (by decide +kernel) e5 (t5 _ _ e4) ?_
        walk_at "rds"
        exact ⟨_, _, _, _, _, rfl, (T3.to t4).to t5, (s3.trans (Sam.of t4)).trans (Sam.of t5)⟩
    · rintro σ' H1 ⟨u2, u3, u4, u5, u6, rfl, T1, s1⟩
      walk_at "rds"
      exact kk _ T1 s1
end
end K17
end SecK12
section SecK13
set_option Elab.async false
set_option linter.all false
set_option maxRecDepth 100000
set_option maxHeartbeats 4000000
set_option pp.deepTerms false
local macro_rules | `(tactic| walk_at "tq") => `(tactic| first | assumption | (refine' Dt.Tq.to ?s0 ?h0; (case h0 => assumption); (case s0 => walk_at "same")))
local macro_rules | `(tactic| walk_at "same") => `(tactic| first | exact L2.Same.refl _ | assumption | (refine' L2.Same.trans ?s1 ?s2; (case s2 => assumption); (case s1 => walk_at "same")))
local macro_rules | `(tactic| walk_at "sam") => `(tactic| first | exact Dt.Sam.refl | assumption | exact Dt.Sam.of (by assumption) | (refine' Dt.Sam.trans ?s1 ?s2; (case s2 => first | assumption | exact Dt.Sam.of (by assumption)); (case s1 => walk_at "sam")))
local macro_rules | `(tactic| walk_at "tape") => `(tactic| first | assumption | (refine' Dt.Tape.mono ?h0 ?s0; (case h0 => assumption); (case s0 => walk_at "same")))
local macro_rules | `(tactic| walk_at "nt") => `(tactic| first | exact Dt.nt_tup | exact Dt.nt_ints | assumption | (intro a0 b0 c0 l0 z0; cases z0) | (intro a0 b0 c0 l0 z0; simp at z0))
local macro_rules | `(tactic| walk_at "heap") => `(tactic| first | assumption | exact L2.upd_same | (refine' Rd.at_to ?s0 ?h0; (case h0 => assumption); (case s0 => walk_at "same")) | (refine' Dt.at_sam ?n0 ?s0 ?h0; (case h0 => assumption); (case n0 => walk_at "nt"); (case s0 => walk_at "sam")))
local macro_rules | `(tactic| walk_at "rp") => `(tactic| first | exact Dt.Rp.int _ | exact Dt.Rp.bl _ | exact Dt.Rp.str _ | exact Dt.Rp.non | assumption | (refine' Dt.Rp.sm ?s0 ?h0; (case h0 => assumption); (case s0 => walk_at "sam")) | (refine' Dt.Rp.tup ?h1 ?h2 ?h3; (case h1 => walk_at "heap"); (case h2 => walk_at "rps"); (case h3 => first | assumption | (show _ ≤ 1000; decide) | (show _ ≤ 1000; simp) | (show _ ≤ 1000; omega))) | (refine' Dt.Rp.lst ?h1 ?h2 ?h3 ?h4; (case h1 => walk_at "heap"); (case h2 => walk_at "rps"); (case h3 => first | assumption | (show _ ≤ 1000; decide) | (show _ ≤ 1000; simp) | (show _ ≤ 1000; omega)); (case h4 => walk_at "nt")))
local macro_rules | `(tactic| walk_at "rps") => `(tactic| first | exact Dt.RpAll.nil | assumption | (refine' Dt.RpAll.cons ?h1 ?h2; (case h1 => walk_at "rp"); (case h2 => walk_at "rps")) | (refine' Dt.RpAll.sm ?s0 ?h0; (case h0 => assumption); (case s0 => walk_at "sam")))
local macro_rules | `(tactic| walk_at "rd") => `(tactic| first
  | with_reducible refine Rd.seq ?_ | with_reducible refine Rd.asg ?_ | with_reducible refine Rd.nm ?_ | with_reducible refine Rd.sub ?_ | with_reducible refine Rd.ret ?_ | with_reducible refine Rd.retN ?_
  | with_reducible refine Rd.drop ?_ | with_reducible refine Rd.ifs ?_ | with_reducible refine Rd.next ?_ | with_reducible refine Rd.cst ?_ | with_reducible refine Rd.op ?_ | with_reducible refine Rd.un ?_
  | with_reducible refine Rd.test ?_ | with_reducible refine Rd.tb' ?_ | with_reducible refine Rd.exb ?_ | with_reducible refine Rd.exi ?_ | with_reducible refine Rd.and2 ?_ | with_reducible refine Rd.or2 ?_ | with_reducible refine Rd.not1 ?_
  | with_reducible refine Rd.andV ?_ | with_reducible refine Rd.orV ?_ | with_reducible refine Rd.notV ?_ | with_reducible refine Rd.nil ?_ | with_reducible refine Rd.cons ?_ | with_reducible refine Rd.cb ?_
  | with_reducible refine Rd.i0 ?_ | with_reducible refine Rd.u1 ?_ | with_reducible refine Rd.call ?_ | with_reducible refine Rd.tup ?_ | with_reducible refine Rd.lst ?_ | with_reducible refine Rd.sl ?_ | with_reducible refine Rd.no ?_ | with_reducible refine Rd.part ?_ | with_reducible refine Rd.at_ ?_ | with_reducible refine Rd.yes ?_ | with_reducible refine Rd.fors ?_ | with_reducible refine Rd.m1 ?_ | with_reducible refine Rd.exs ?_ | with_reducible refine Rd.lc ?_ | with_reducible refine Rd.rng ?_
  | with_reducible refine Rd.mkv ?_ | with_reducible refine Rd.mko ?_ | with_reducible refine Rd.callB ?_ | with_reducible refine Rd.callS ?_ | with_reducible refine Rd.bm ?_ | with_reducible refine Rd.itl ?_ | with_reducible refine Rd.itt ?_
  | ((with_reducible refine' And.intro ?hl ?_); (case hl => ((with_reducible show List.length _ ≤ PySem.sizeLine); (show _ ≤ PySem.sizeLine); rw [PySem.sizeLine_eq]; simp)))
  | (intro p0 n0; generalize hK0 : L2.upd _ p0 _ = K0; obtain ⟨e0, t0⟩ := Dt.newK hK0 n0)
  | ((with_reducible refine' Rd.lenKL ?he ?_); (case he => walk_at "heap")) | ((with_reducible refine' Rd.lenKT ?he ?_); (case he => walk_at "heap"))
  | ((with_reducible refine' Rd.var ?hv ?_); (case hv => exact rfl))
  | ((with_reducible refine' Rd.ifT ?hv ?_); (case hv => first | exact rfl | assumption)) | ((with_reducible refine' Rd.ifF ?hv ?_); (case hv => first | exact rfl | assumption))
  | ((with_reducible refine' Rd.eq ?hv ?_); (case hv => exact rfl))
  | ((with_reducible refine' Rd.ne ?hv ?_); (case hv => exact rfl))
  | ((with_reducible refine' Dt.isi_int ?hr ?_); (case hr => walk_at "rp")) | ((with_reducible refine' Dt.isi_bool ?hr ?_); (case hr => walk_at "rp")) | ((with_reducible refine' Dt.isi_tuple ?hr ?_); (case hr => walk_at "rp")) | ((with_reducible refine' Dt.isi_str ?hr ?_); (case hr => walk_at "rp")) | ((with_reducible refine' Dt.isi_list ?hr ?_); (case hr => walk_at "rp"))
  | with_reducible refine ⟨rfl, ?_⟩ | with_reducible refine Or.inl ⟨_, rfl, ?_⟩ | with_reducible refine Or.inr ⟨_, rfl, ?_⟩ | with_reducible refine ⟨_, rfl, ?_⟩
  | ((with_reducible refine' Rd.ex2 ⟨rfl, ?hl, ?_⟩); (case hl => first | exact Or.inl ⟨_, L2.SqL.of (by walk_at "heap"), rfl⟩ | exact Or.inr ⟨_, L2.SqT.of (by walk_at "heap"), rfl⟩))
  | ((with_reducible refine' Rd.i1 ?hv ?_); (case hv => first | exact ⟨by decide, by decide, by decide⟩ | exact Or.inr ⟨by decide, by decide⟩ | exact Or.inl ⟨by decide, by decide⟩ | exact ⟨by decide, by decide⟩ | decide | assumption | (show _ ≠ _; omega) | (refine ⟨?_, ?_⟩ <;> omega) | (refine Or.inl ⟨?_, ?_⟩ <;> omega)))
  | ((with_reducible refine' Rd.ixL ?he ?hx ?_); (case he => walk_at "heap"); (case hx => rfl))
  | ((with_reducible refine' Rd.ixT ?he ?hx ?_); (case he => walk_at "heap"); (case hx => rfl))
  | ((with_reducible refine' Rd.setL ?he ?hx ?_); (case he => first | assumption | exact L2.upd_same); (case hx => rfl)))
local macro_rules | `(tactic| walk_at "rd") => `(tactic| first | with_reducible refine Rd.isT ?_ | with_reducible refine Rd.isnT ?_ | with_reducible refine Rd.ife ?_)
local macro_rules | `(tactic| walk_at "rd") => `(tactic| first | ((with_reducible refine' Rd.gtup ?he ?hl ?_); (case he => walk_at "heap"); (case hl => exact rfl)) | with_reducible refine Rd.brk ?_ | with_reducible refine Rd.callR ?_ | ((with_reducible refine' ⟨_, _, rfl, Or.inl ⟨L2.SqL.of ?hp, ?_⟩⟩); (case hp => walk_at "heap")) | ((with_reducible refine' ⟨_, _, rfl, Or.inl (L2.SqL.of ?hp), ?_⟩); (case hp => walk_at "heap")) | ((with_reducible refine' Rd.catL ?hp ?hq ?hl ?_); (case hp => walk_at "heap"); (case hq => walk_at "heap"); (case hl => (simp only [List.length_map, List.length_append, List.length_cons, List.length_nil]; omega)); (intro r0 J0 e0 t0 n0)) | with_reducible refine Rd.bits ?_ | with_reducible refine Rd.max2 ?_ | with_reducible refine Rd.gcons ?_ | with_reducible refine Rd.gnil ?_)
local macro_rules | `(tactic| walk_at "rds") => `(tactic| repeat (first | walk_at "rd" | assumption))
namespace K17
open PySem PySem.Spec PyProof.Rows L2 L2H Err Dt
open Bt
theorem rng2 {tl : TA} {σ : L2.St} {H : Hp} {R : It → Hp → Prop} (q : tl σ H fun vs H1 => ∃ i j : Int, vs = [.int i, .int j] ∧ (-(2 ^ 62) ≤ i ∧ i < 2 ^ 62 ∧ -(2 ^ 62) ≤ j ∧ j < 2 ^ 62) ∧ R (Itr i (j - i).toNat) H1) : iRng2 tl σ H R := q
local macro_rules | `(tactic| walk_at "rd") => `(tactic| with_reducible refine rng2 ?_)
def endsW (lo un w : Int) (b : Bool) : List Int := (List.range (un / w + 1 - (if b = true then 1 else 0)).toNat).map fun k : Nat => lo + (k : Int) * w
def rowsW (n : Nat) (low : List Int) (un w mask : Int) : List (List Int) := (List.range n).map fun i : Nat => endsW (low.getD i 0) un w (decide (mask / 2 ^ i % 2 = 1))
abbrev Seat := List Int × Nat × Int
def seatsAt (n R : Nat) (low : List Int) (k : Nat) (mask : Int) : List Seat := (chL (rowsW n low (2 ^ R) (2 ^ (k + 1)) mask)).map fun st => (st, k, mask)
def seatsL (n R : Nat) (low : List Int) (k j : Nat) : List Seat := (List.range j).flatMap fun m : Nat => seatsAt n R low k (1 + (m : Int))
def seatsU (n R : Nat) (low : List Int) (i : Nat) : List Seat := (List.range i).flatMap fun lev : Nat => seatsL n R low (R - lev - 1) (2 ^ n - 1)
/-- a seat stands at v -/
def St (n : Nat) (H : Hp) (v : V) (s : Seat) : Prop := ∃ p a b : Addr, v = .ref p ∧ H p = some (.tup [.ref a, .int (2 ^ (s.2.1 + 1)), .ref b]) ∧ H a = some (.tup (s.1.map V.int)) ∧ H b = some (.tup ((mrowV n s.2.2).map V.int))
inductive StA (n : Nat) (H : Hp) : List V → List Seat → Prop
  | nil : StA n H [] []
  | cons {v : V} {s : Seat} {vs : List V} {ss : List Seat} (e : St n H v s) (t : StA n H vs ss) : StA n H (v :: vs) (s :: ss)
theorem St.mono {n : Nat} {H H' : Hp} (s : ∀ (p : Addr) (us : List V), H p = some (.tup us) → H' p = some (.tup us)) {v : V} {x : Seat} (h : St n H v x) : St n H' v x := by
  obtain ⟨p, a, b, e, e1, e2, e3⟩ := h
  exact ⟨p, a, b, e, s _ _ e1, s _ _ e2, s _ _ e3⟩
theorem StA.mono {n : Nat} {H H' : Hp} (s : ∀ (p : Addr) (us : List V), H p = some (.tup us) → H' p = some (.tup us)) {vs : List V} {ss : List Seat} (h : StA n H vs ss) : StA n H' vs ss := by
  induction h with
  | nil => exact .nil
  | cons e t ih => exact .cons (e.mono s) ih
theorem StA.to {n : Nat} {H H' : Hp} (s : Same H H') {vs : List V} {ss : List Seat} (h : StA n H vs ss) : StA n H' vs ss := h.mono fun p us e => s _ _ e
theorem StA.cat {n : Nat} {H : Hp} {vs us : List V} {rs qs : List Seat} (h : StA n H vs rs) (k : StA n H us qs) : StA n H (vs ++ us) (rs ++ qs) := by
  induction h with
  | nil => exact k
  | cons e t ih => exact .cons e ih
theorem StA.put {n : Nat} {H : Hp} {d : Addr} {us : List V} {o : HO} (hd : H d = some (.lst us)) {vs : List V} {rs : List Seat} (h : StA n H vs rs) : StA n (upd H d o) vs rs := h.mono fun p us e => by
  rw [upd_ne (ne_lt hd e)]
  exact e
theorem StA.len {n : Nat} {H : Hp} {vs : List V} {rs : List Seat} (h : StA n H vs rs) : vs.length = rs.length := by
  induction h with
  | nil => rfl
  | cons e t ih => rw [List.length_cons, List.length_cons, ih]
theorem StA.at {n : Nat} {H : Hp} {vs : List V} {rs : List Seat} (h : StA n H vs rs) : ∀ {i : Nat} {v : V}, vs[i]? = some v → ∃ s, rs[i]? = some s ∧ St n H v s := by
  induction h with
  | nil => intro i v e; cases e
  | cons e t ih =>
    intro i v q
    cases i with
    | zero =>
      cases q
      exact ⟨_, rfl, e⟩
    | succ i => exact ih q
theorem foldG_len {b : Nat} : ∀ (rows : List (List Int)) (acc : List (List Int)), (∀ r ∈ rows, r.length ≤ b) → (rows.foldl stepC acc).length ≤ acc.length * b ^ rows.length
  | [], acc, _ => by simp
  | r :: rows, acc, h => by
    have ih := foldG_len rows (stepC acc r) fun x hx => h x (List.mem_cons_of_mem _ hx)
    rw [step_len] at ih
    rw [List.foldl_cons]
    refine Nat.le_trans ih ?_
    rw [List.length_cons, Nat.pow_succ, Nat.mul_comm (b ^ _) b, ← Nat.mul_assoc]
    exact Nat.mul_le_mul_right _ (Nat.mul_le_mul_left _ (h r (List.mem_cons_self ..)))
theorem foldG_each : ∀ (rows : List (List Int)) (acc : List (List Int)) (m : Nat), (∀ a ∈ acc, a.length = m) → ∀ c ∈ rows.foldl stepC acc, c.length = m + rows.length
  | [], acc, m, h, c, hc => h c hc
  | r :: rows, acc, m, h, c, hc => by
    have := foldG_each rows (stepC acc r) (m + 1) (fun a ha => by
      obtain ⟨x, hx, hy⟩ := List.mem_flatMap.mp ha
      obtain ⟨y, _, rfl⟩ := List.mem_map.mp hy
      rw [List.length_append, h x hx]
      rfl) c hc
    rw [this, List.length_cons]
    omega
theorem chG_len {rows : List (List Int)} (h : ∀ r ∈ rows, r.length ≤ 5) (l : rows.length ≤ 3) (i : Nat) : (chL (rows.take i)).length ≤ 125 := by
  have z := foldG_len (b := 5) (rows.take i) [[]] fun r hr => h r (List.mem_of_mem_take hr)
  have l2 : (rows.take i).length ≤ 3 := by rw [List.length_take]; omega
  have p : 5 ^ (rows.take i).length ≤ 5 ^ 3 := Nat.pow_le_pow_right (by decide) l2
  refine Nat.le_trans z ?_
  show 1 * _ ≤ 125
  omega
theorem chG_each {rows : List (List Int)} (l : rows.length ≤ 3) (i : Nat) : ∀ c ∈ chL (rows.take i), c.length ≤ 3 := fun c hc => by
  have := foldG_each (rows.take i) [[]] 0 (fun a ha => by rw [List.mem_singleton.mp ha]; rfl) c hc
  rw [this, List.length_take]
  omega
theorem endsW_len {lo un w : Int} {b : Bool} (h : un / w ≤ 4) : (endsW lo un w b).length ≤ 5 := by
  unfold endsW
  rw [List.length_map, List.length_range]
  split <;> omega
theorem flat_len {α β : Type} {f : α → List β} {b : Nat} : ∀ (l : List α), (∀ x ∈ l, (f x).length ≤ b) → (l.flatMap f).length ≤ l.length * b
  | [], _ => Nat.zero_le _
  | x :: l, h => by
    rw [List.flatMap_cons, List.length_append, List.length_cons, Nat.succ_mul]
    have h1 := h x (List.mem_cons_self ..)
    have h2 := flat_len l fun y hy => h y (List.mem_cons_of_mem _ hy)
    omega
theorem pow_le4 {R : Nat} (h : R ≤ 2) (k : Nat) : (2 : Int) ^ R / 2 ^ k ≤ 4 := by
  have h1 : (2 : Int) ^ R ≤ 4 := by rcases (by omega : R = 0 ∨ R = 1 ∨ R = 2) with rfl | rfl | rfl <;> decide
  have h2 : (2 : Int) ^ R / 2 ^ k ≤ 2 ^ R := Int.ediv_le_self _ (Int.le_of_lt (pow_pos R))
  omega
theorem at_len {n R : Nat} {low : List Int} {k : Nat} {mask : Int} (hR : R ≤ 2) (hn : n ≤ 3) : (seatsAt n R low k mask).length ≤ 125 := by
  unfold seatsAt
  rw [List.length_map]
  have z := chG_len (rows := rowsW n low (2 ^ R) (2 ^ (k + 1)) mask) (fun x hx => by
    obtain ⟨a, _, rfl⟩ := List.mem_map.mp hx
    exact endsW_len (pow_le4 hR _)) (by unfold rowsW; rw [List.length_map, List.length_range]; exact hn) n
  rwa [List.take_of_length_le (by unfold rowsW; rw [List.length_map, List.length_range]; exact Nat.le_refl _)] at z
theorem sl_len {n R : Nat} {low : List Int} {k j : Nat} (hR : R ≤ 2) (hn : n ≤ 3) : (seatsL n R low k j).length ≤ j * 125 := by
  have := flat_len (f := fun m : Nat => seatsAt n R low k (1 + (m : Int))) (b := 125) (List.range j) fun m _ => at_len hR hn
  rwa [List.length_range] at this
theorem su_len {n R : Nat} {low : List Int} {i : Nat} (hR : R ≤ 2) (hn : n ≤ 3) : (seatsU n R low i).length ≤ i * 1000 := by
  have hp : 2 ^ n - 1 ≤ 7 := by
    have : 2 ^ n ≤ 2 ^ 3 := Nat.pow_le_pow_right (by decide) hn
    omega
  have := flat_len (f := fun lev : Nat => seatsL n R low (R - lev - 1) (2 ^ n - 1)) (b := 1000) (List.range i) fun m _ => Nat.le_trans (sl_len hR hn) (by omega)
  rwa [List.length_range] at this
theorem sl_next {n R : Nat} {low : List Int} {k j : Nat} : seatsL n R low k (j + 1) = seatsL n R low k j ++ seatsAt n R low k (1 + (j : Int)) := by
  unfold seatsL
  rw [List.range_succ, List.flatMap_append, List.flatMap_cons, List.flatMap_nil, List.append_nil]
theorem su_next {n R : Nat} {low : List Int} {i : Nat} : seatsU n R low (i + 1) = seatsU n R low i ++ seatsL n R low (R - i - 1) (2 ^ n - 1) := by
  unfold seatsU
  rw [List.range_succ, List.flatMap_append, List.flatMap_cons, List.flatMap_nil, List.append_nil]
def spEnds : Sp := fun vs H Q _ => ∃ (lo un w : Int) (b : Bool), vs = [.int lo, .int un, .int w, .bl b] ∧ 0 < w ∧ w ≤ 1000 ∧ CDiv un w ∧ 1 ≤ un / w ∧ un / w ≤ 4 ∧ ∀ (q : Addr) (H' : Hp), H' q = some (.lst ((endsW lo un w b).map V.int)) → Same H H' → Q (.ref q) H'
def spSeats : Sp := fun vs H Q _ => ∃ (s p : Addr) (n r : Int) (low : List Int), vs = [.ref s, .ref p] ∧ Space H s n r ∧ 1 ≤ r ∧ r ≤ 2 ∧ Tup H p low ∧ (low.length : Int) = n ∧ ∀ (q : Addr) (ws : List V) (H' : Hp), H' q = some (.lst ws) → StA n.toNat H' ws (seatsU n.toNat r.toNat low r.toNat) → Same H H' → Q (.ref q) H'
section
variable {P : Program} {w : World} {K : PySem.W.Frag} {mg : Str → Option Value} {base : Heap}
set_option pp.maxSteps 3000
abbrev sEndsL : Stmt := topS 45
theorem scEndsL : FnScope ["low", "unit", "width", "is_open", "k"] ["low", "unit", "width", "is_open"] (defScope sEndsL) := ⟨rfl, rfl, rfl, by decide +kernel, rfl, by decide +kernel, by decide +kernel⟩
theorem okEndsL {f : Addr} {fd : FuncData} (F : Fun K "_law_ends" "_law_ends" sEndsL f fd) (T : Tx mg)  : FnOk P w K mg base CX0 1 f fd ["low", "unit", "width", "is_open"] spEnds := by
  refine F.ok scEndsL (fun vs H Q E h => ?_) (fun cdv A outer s H vs Q E hr h => ?_)
  · obtain ⟨lo, un, wd, b, rfl, _⟩ := h
    rfl
  · obtain ⟨lo, un, wd, b, rfl, w0, w1, cd, q0, q4, kk⟩ := h
    refine ⟨_, (pss_one (ps_ret (pe_lc (own := [("k", 4)]) (g := (gName 4)) (by rfl) scEndsL.nd (pi_range1 rfl T.n_range (pa_cons (pe_op op_sub (pe_op op_add (pe_op op_fdiv (pv 1) (pv 2)) pe_int) (pe_callTy call_int1 (by rfl) T.n_int (by decide +kernel) (pa_cons (pv 3) pa_nil))) pa_nil)) (blkOk_by (own := [("k", 4)]) (N := ["low", "unit", "width", "is_open", "k"]) (sc := defScope sEndsL) (by decide +kernel)) (fun _ _ _ _ _ => (pg_name (i := 4) scEndsL.nd rfl (Or.inl rfl))) (fun _ _ _ _ _ => pts_nil) (fun _ _ _ _ _ => (pe_op op_add (pv 0) (pe_op op_mulW (pv 4) (pv 2))))))), ?_⟩
    have st0 : L2.start ["low", "unit", "width", "is_open", "k"] [V.int lo, V.int un, V.int wd, V.bl b] = [some (V.int lo), some (V.int un), some (V.int wd), some (V.bl b), none] := rfl
    rw [st0]
    walk_at "rds"
    have bb : 0 ≤ (un / wd + 1 - if b = true then 1 else 0) ∧ (un / wd + 1 - if b = true then 1 else 0) ≤ 5 := by split <;> omega
    refine ⟨by omega, by omega, fun d hd => ?_⟩
    refine lc_range (lo := 0) (n := (un / wd + 1 - if b = true then 1 else 0).toNat) (fun i H3 => H3 d = some (.lst (((List.range i).map fun k : Nat => lo + (k : Int) * wd).map V.int)) ∧ Same H H3) ⟨upd_same, same_put hd (Same.refl _)⟩ ?_ ?_
    · rintro i H3 hi ⟨e3, s3⟩
      rw [Int.zero_add]
      refine ⟨rfl, ?_⟩
      have cw : CMulW (i : Int) wd := wide_small (lt64 (by omega) (by omega)) (lt64 (by omega) (by omega))
      walk_at "rds"
      refine ⟨_, e3, ?_, by rw [upd_same, List.range_succ, List.map_append, List.map_append]; rfl, same_put hd s3⟩
      rw [List.length_map, List.length_map, List.length_range, sizeLine_eq]
      omega
    · rintro H3 ⟨e3, s3⟩
      exact kk _ _ e3 s3
abbrev sSeatsL : Stmt := topS 46
theorem scSeatsL : FnScope ["space", "low", "unit", "found", "level", "width", "mask", "row", "i", "starts", "more", "start", "x"] ["space", "low"] (defScope sSeatsL) := ⟨rfl, rfl, rfl, by decide +kernel, rfl, by decide +kernel, by decide +kernel⟩
theorem okSeatsL {f : Addr} {fd : FuncData} (F : Fun K "_law_seats" "_law_seats" sSeatsL f fd) (T : Tx mg) (DPowerL : Dn P w K mg base CX0 "_law_power" 1 ["many"] spPower) (DEndsL : Dn P w K mg base CX0 "_law_ends" 1 ["low", "unit", "width", "is_open"] spEnds)  : FnOk P w K mg base CX0 2 f fd ["space", "low"] spSeats := by
  refine F.ok scSeatsL (fun vs H Q E h => ?_) (fun cdv A outer s H vs Q E hr h => ?_)
  · obtain ⟨s, p, n, r, low, rfl, _⟩ := h
    rfl
  · obtain ⟨s, p, n, r, low, rfl, hS, r1, r2, ep, ln, kk⟩ := h
    refine ⟨_, (pss_cons (ps_set (i := 2) scSeatsL.nd rfl (Or.inl rfl) (pe_dn DPowerL (hr.mono (by omega)) (pa_cons (pe_ix ix_tup (pv 0) pe_int (fun _ _ => rfl)) pa_nil)))
    (pss_cons (ps_set (i := 3) scSeatsL.nd rfl (Or.inl rfl) (pe_lst pa_nil))
    (pss_cons (ps_for PassesOwn.never rfl (pi_range1 rfl T.n_range (pa_cons (pe_ix ix_tup (pv 0) pe_int (fun _ _ => rfl)) pa_nil)) (pg_name (i := 4) scSeatsL.nd rfl (Or.inl rfl))
    (pss_cons (ps_set (i := 5) scSeatsL.nd rfl (Or.inr rfl) (pe_op op_fdiv (pv 2) (pe_dn DPowerL (hr.mono (by omega)) (pa_cons (pv 4) pa_nil))))
      (pss_one (ps_for PassesOwn.never rfl (pi_range2 rfl T.n_range (pa_cons pe_int (pa_cons (pe_dn DPowerL (hr.mono (by omega)) (pa_cons (pe_ix ix_tup (pv 0) pe_int (fun _ _ => rfl)) pa_nil)) pa_nil))) (pg_name (i := 6) scSeatsL.nd rfl (Or.inr rfl))
      (pss_cons (ps_set (i := 7) scSeatsL.nd rfl (Or.inr rfl) (pe_lc (own := [("i", 8)]) (g := (gName 8)) (by rfl) scSeatsL.nd (pi_range1 rfl T.n_range (pa_cons (pe_ix ix_tup (pv 0) pe_int (fun _ _ => rfl)) pa_nil)) (blkOk_by (own := [("i", 8)]) (N := ["space", "low", "unit", "found", "level", "width", "mask", "row", "i", "starts", "more", "start", "x"]) (sc := defScope sSeatsL) (by decide +kernel)) (fun _ _ _ _ _ => (pg_name (i := 8) scSeatsL.nd rfl (Or.inl rfl))) (fun _ _ _ _ _ => (pts_one (pt_cmpR op_eq (pe_op op_mod (pe_callTy call_int1 (by rfl) T.n_int (by decide +kernel) (pa_cons (pe_op op_fdiv (pv 6) (pe_dn DPowerL (hr.mono (by omega)) (pa_cons (pv 8) pa_nil))) pa_nil)) pe_int) pe_int (nomark _)))) (fun _ _ _ _ _ => (pv 8))))
        (pss_cons (ps_set (i := 9) scSeatsL.nd rfl (Or.inl rfl) (pe_lst (pa_cons (pe_tup pa_nil) pa_nil)))
        (pss_cons (ps_for PassesOwn.never rfl (pi_range1 rfl T.n_range (pa_cons (pe_ix ix_tup (pv 0) pe_int (fun _ _ => rfl)) pa_nil)) (pg_name (i := 8) scSeatsL.nd rfl (Or.inl rfl))
        (pss_cons (ps_set (i := 10) scSeatsL.nd rfl (Or.inl rfl) (pe_lst pa_nil))
          (pss_cons (ps_for PassesOwn.never rfl (pi_list (pv 9)) (pg_name (i := 11) scSeatsL.nd rfl (Or.inr rfl))
          (pss_one (ps_set (i := 10) scSeatsL.nd rfl (Or.inl rfl) (pe_op op_cat (pv 10) (pe_lc (te := tOp (rCatA K) (tVar 11) (tTup (tCons (tVar 12) tNil))) (own := [("x", 12)]) (g := (gName 12)) (by rfl) scSeatsL.nd (pi_list (pe_dn DEndsL (hr.mono (by omega)) (pa_cons (pe_ix ix_tup (pv 1) (pv 8) (fun _ _ => rfl)) (pa_cons (pv 2) (pa_cons (pv 5) (pa_cons (pe_cmpR op_in_seq (pv 8) (pv 7) (by rfl)) pa_nil)))))) (blkOk_by (own := [("x", 12)]) (N := ["space", "low", "unit", "found", "level", "width", "mask", "row", "i", "starts", "more", "start", "x"]) (sc := defScope sSeatsL) (by decide +kernel)) (fun _ _ _ _ _ => (pg_name (i := 12) scSeatsL.nd rfl (Or.inl rfl))) (fun _ _ _ _ _ => pts_nil) (fun _ _ _ _ _ => (pe_op (r := rCatA K) op_catA (pv 11) (pe_tup (pa_cons (pv 12) pa_nil)))))))))
          (pss_one (ps_set (i := 9) scSeatsL.nd rfl (Or.inl rfl) (pv 10))))))
        (pss_one (ps_set (i := 3) scSeatsL.nd rfl (Or.inl rfl) (pe_op op_cat (pv 3) (pe_lc (own := [("start", 11)]) (g := (gName 11)) (by rfl) scSeatsL.nd (pi_list (pv 9)) (blkOk_by (own := [("start", 11)]) (N := ["space", "low", "unit", "found", "level", "width", "mask", "row", "i", "starts", "more", "start", "x"]) (sc := defScope sSeatsL) (by decide +kernel)) (fun _ _ _ _ _ => (pg_name (i := 11) scSeatsL.nd rfl (Or.inl rfl))) (fun _ _ _ _ _ => pts_nil) (fun _ _ _ _ _ => (pe_tup (pa_cons (pv 11) (pa_cons (pv 5) (pa_cons (pe_callTy (r := rTupOf K) call_tuple_of (by rfl) T.n_tuple (by decide +kernel) (pa_cons (pv 7) pa_nil)) pa_nil))))))))))))))))
    (pss_one (ps_ret (pv 3)))))), ?_⟩
    have st0 : L2.start ["space", "low", "unit", "found", "level", "width", "mask", "row", "i", "starts", "more", "start", "x"] [V.ref s, V.ref p] = [some (V.ref s), some (V.ref p), none, none, none, none, none, none, none, none, none, none, none] := rfl
    rw [st0]
    have n2 := hS.2.1
    have n3 := hS.2.2.1
    have es := hS.1
    have hn : n.toNat = 2 ∨ n.toNat = 3 := by omega
    have ll : low.length = n.toNat := by omega
    have pn : (2 : Int) ^ n.toNat = 4 ∨ (2 : Int) ^ n.toNat = 8 := by
      rcases hn with z | z <;> rw [z]
      · exact .inl rfl
      · exact .inr rfl
    have pnn : ((2 ^ n.toNat : Nat) : Int) = 2 ^ n.toNat := by rw [Int.natCast_pow]; rfl
    walk_at "rds"
    refine ⟨r, rfl, by omega, by omega, ?_⟩
    walk_at "rds"
    rename_i pf mf H1 gf ef tf
    refine ⟨by omega, by omega, ?_⟩
    refine for_range (lo := 0) (n := r.toNat) (fun i σ' H' => ∃ q ws u4 u5 u6 u7 u8 u9 u10 u11 u12, σ' = [some (.ref s), some (.ref p), some (.int (2 ^ r.toNat)), some (.ref q), u4, u5, u6, u7, u8, u9, u10, u11, u12] ∧ H' q = some (.lst ws) ∧ StA n.toNat H' ws (seatsU n.toNat r.toNat low i) ∧ Same H H') ⟨_, _, _, _, _, _, _, _, _, _, _, rfl, ef, .nil, tf⟩ ?_ ?_
    · rintro i σ' H2 hi ⟨q, ws, u4, u5, u6, u7, u8, u9, u10, u11, u12, rfl, eq, tq, s2⟩
      have es2 := s2 _ _ es
      have ep2 := s2 _ _ ep
      rw [Int.zero_add]
      walk_at "rds"
      refine ⟨(i : Int), rfl, by omega, by omega, ?_⟩
      rw [show ((i : Int)).toNat = i from rfl]
      have cd2 := cdiv_pow (x := 2 ^ r.toNat) (t := i) (by omega)
      walk_at "rds"
      rw [pow_sub (show i ≤ r.toNat by omega)]
      obtain ⟨k, hk⟩ : ∃ k : Nat, r.toNat - i = k + 1 := ⟨r.toNat - i - 1, by omega⟩
      rw [hk]
      walk_at "rds"
      refine ⟨n, rfl, by omega, by omega, ?_⟩
      walk_at "rds"
      refine ⟨1, _, rfl, ⟨by decide, by decide, by omega, by omega⟩, ?_⟩
      rw [show ((2 : Int) ^ n.toNat - 1).toNat = 2 ^ n.toNat - 1 by omega]
      refine for_range (lo := 1) (n := 2 ^ n.toNat - 1) (fun j σ' H' => ∃ q ws u6 u7 u8 u9 u10 u11 u12, σ' = [some (.ref s), some (.ref p), some (.int (2 ^ r.toNat)), some (.ref q), some (.int (i : Int)), some (.int (2 ^ (k + 1))), u6, u7, u8, u9, u10, u11, u12] ∧ H' q = some (.lst ws) ∧ StA n.toNat H' ws (seatsU n.toNat r.toNat low i ++ seatsL n.toNat r.toNat low k j) ∧ Same H H') ⟨_, _, _, _, _, _, _, _, _, rfl, eq, by show StA _ _ _ (_ ++ []); rw [List.append_nil]; exact tq, s2⟩ ?_ ?_
      · rintro j σ' H3 hj ⟨q, ws, u6, u7, u8, u9, u10, u11, u12, rfl, eq, tq, s3⟩
        have es3 := s3 _ _ es
        have ep3 := s3 _ _ ep
        generalize hm : 1 + (j : Int) = mask at *
        have q4 : (2 : Int) ^ r.toNat / 2 ^ (k + 1) = 2 ^ i := by rw [pow_sub (by omega)]; congr 1; omega
        have qi : (1 : Int) ≤ 2 ^ i ∧ (2 : Int) ^ i ≤ 4 := by rcases (by omega : i = 0 ∨ i = 1) with rfl | rfl <;> decide
        have wk := pow_cases (a := ((k + 1 : Nat) : Int)) (by omega) (by omega)
        rw [show (((k + 1 : Nat) : Int)).toNat = k + 1 from rfl] at wk
        have cdw := cdiv_pow (x := 2 ^ r.toNat) (t := k + 1) (by omega)
        walk_at "rds"
        refine ⟨by omega, by omega, fun d hd => ?_⟩
        refine lc_range (lo := 0) (n := n.toNat) (fun i H4 => H4 d = some (.lst ((mrowV i mask).map V.int)) ∧ Same H3 H4) ⟨upd_same, same_put hd (Same.refl _)⟩ ?_ ?_
        · rintro i H4 hi ⟨e4, s4⟩
          rw [Int.zero_add]
          refine ⟨rfl, ?_⟩
          walk_at "rds"
          refine ⟨(i : Int), rfl, by omega, by omega, ?_⟩
          have cd4 := cdiv_pow (x := mask) (t := i) (by omega)
          rw [show ((i : Int)).toNat = i from rfl]
          walk_at "rds"
          rw [maskB]
          have nx := mrow_take (mask := mask) (i := i)
          refine Rd.ifB (fun h => ?_) fun h => ?_
          · walk_at "rds"
            rw [if_pos h] at nx
            refine ⟨_, e4, ?_, ?_, same_put hd s4⟩
            · rw [List.length_map, List.length_map, sizeLine_eq]
              have := mrow_len i mask
              omega
            · rw [upd_same]
              unfold mrowV
              rw [nx, List.map_append, List.map_append]
              rfl
          · walk_at "rds"
            rw [if_neg (by rw [h]; decide), List.append_nil] at nx
            unfold mrowV
            rw [nx]
            exact ⟨e4, s4⟩
        rintro H4 ⟨e4, s4⟩
        walk_at "rds"
        rename_i pt m1 H5 g5 e5 t5 pl m2 H6 g6 e6 t6
        have s46 : Same H4 H6 := t5.trans t6
        have s36 : Same H3 H6 := s4.trans s46
        have es6 := s36 _ _ es3
        have ep6 := s36 _ _ ep3
        have ed6 := s46 _ _ e4
        have eq6 := s36 _ _ eq
        have tq6 := tq.to s36
        have s06 := s3.trans s36
        have et6 := t6 _ _ e5
        clear g5 g6 e5 t5 t6 s4 s46 s36 es3 ep3 eq tq s3 e4 hd
        refine ⟨by omega, by omega, ?_⟩
        have lR : (rowsW n.toNat low (2 ^ r.toNat) (2 ^ (k + 1)) mask).length = n.toNat := by unfold rowsW; rw [List.length_map, List.length_range]
        have rR : ∀ a, a < n.toNat → (rowsW n.toNat low (2 ^ r.toNat) (2 ^ (k + 1)) mask)[a]? = some (endsW (low.getD a 0) (2 ^ r.toNat) (2 ^ (k + 1)) (decide (mask / 2 ^ a % 2 = 1))) := fun a ha => by
          unfold rowsW
          rw [List.getElem?_map, List.getElem?_range ha]
          rfl
        have rL : ∀ x ∈ rowsW n.toNat low (2 ^ r.toNat) (2 ^ (k + 1)) mask, x.length ≤ 5 := fun x hx => by
          obtain ⟨a, _, rfl⟩ := List.mem_map.mp hx
          exact endsW_len (by omega)
        have cl := chG_len rL (by omega)
        have ce := chG_each (rows := rowsW n.toNat low (2 ^ r.toNat) (2 ^ (k + 1)) mask) (by omega)
        generalize hRows : rowsW n.toNat low (2 ^ r.toNat) (2 ^ (k + 1)) mask = Rows at *
        refine for_range (lo := 0) (n := n.toNat) (fun a σ' H' => ∃ sq ss u8 u10 u11 u12, σ' = [some (.ref s), some (.ref p), some (.int (2 ^ r.toNat)), some (.ref q), some (.int (i : Int)), some (.int (2 ^ (k + 1))), some (.int mask), some (.ref d), u8, some (.ref sq), u10, u11, u12] ∧ H' sq = some (.lst ss) ∧ TsA H' ss (chL (Rows.take a)) ∧ Same H6 H') ⟨_, _, _, _, _, _, rfl, e6, .cons et6 .nil, Same.refl _⟩ ?_ ?_
        · rintro a σ' H7 ha ⟨sq, ss, u8, u10, u11, u12, rfl, esq, ts, s7⟩
          have es7 := s7 _ _ es6
          have ep7 := s7 _ _ ep6
          have ed7 := s7 _ _ ed6
          rw [Int.zero_add]
          walk_at "rds"
          rename_i pm mm H8 g8 e8 t8
          have hr2 := rR a ha
          have hcn := chL_take hr2
          have lm := cl (a + 1)
          rw [hcn, step_len] at lm
          have lc := cl a
          have hci := ce a
          have leE : (endsW (low.getD a 0) (2 ^ r.toNat) (2 ^ (k + 1)) (decide (mask / 2 ^ a % 2 = 1))).length ≤ 5 := endsW_len (by omega)
          generalize hE : endsW (low.getD a 0) (2 ^ r.toNat) (2 ^ (k + 1)) (decide (mask / 2 ^ a % 2 = 1)) = E at *
          generalize hC : chL (Rows.take a) = C at *
          have ts8 := ts.to t8
          have esq8 := t8 _ _ esq
          have es8 := t8 _ _ es7
          have ep8 := t8 _ _ ep7
          have ed8 := t8 _ _ ed7
          have lw := ts8.len
          have s68 := s7.trans t8
          clear ts esq es7 ep7 ed7 t8 s7 g8
          refine ⟨⟨_, SqL.of esq8⟩, for_list (K := K) (a := sq) (xs := ss) (fun b σ' H' => ∃ pm acc u11 u12, σ' = [some (.ref s), some (.ref p), some (.int (2 ^ r.toNat)), some (.ref q), some (.int (i : Int)), some (.int (2 ^ (k + 1))), some (.int mask), some (.ref d), some (.int (a : Int)), some (.ref sq), some (.ref pm), u11, u12] ∧ H' pm = some (.lst acc) ∧ TsA H' acc (stepC (C.take b) E) ∧ Same H8 H') ⟨_, _, _, _, rfl, e8, .nil, Same.refl _⟩ (fun b σ' H' _ ⟨_, _, _, _, _, _, _, s⟩ => SqL.of (s _ _ esq8)) ?_ ?_⟩
          · rintro b x σ' H9 hx ⟨pm, acc, u11, u12, rfl, em, tm, s9⟩
            obtain ⟨pc, c, rfl, hc2, ec⟩ := (ts8.to s9).at hx
            have am := tm.len
            rw [step_len, List.length_take] at am
            have al : acc.length ≤ 1000 := by
              have h1 : min b C.length * E.length ≤ C.length * E.length := Nat.mul_le_mul_right _ (by omega)
              omega
            walk_at "rds"
            refine Rd.ixT (s9 _ _ ep8) (getD_int (by omega)) ?_
            walk_at "rds"
            refine ⟨_, _, rfl, .inl (SqL.of (s9 _ _ ed8)), rfl, flat_ints, ?_⟩
            rw [if_neg (by decide), inV_m ha]
            walk_at "rds"
            refine ⟨low.getD a 0, _, _, _, rfl, by omega, by omega, cdw, by omega, by omega, fun pe I1 epe i1 => ?_⟩
            rw [hE] at epe
            have ec1 := i1 _ _ ec
            have em1 := i1 _ _ em
            have tm1 := tm.to i1
            walk_at "rds"
            refine ⟨⟨_, SqL.of epe⟩, fun D hD => ?_⟩
            refine lc_list (K := K) (a := pe) (xs := E.map V.int) (fun z I2 => ∃ ad, I2 D = some (.lst ad) ∧ TsA I2 ad ((E.take z).map (fun x => c ++ [x])) ∧ Same I1 I2) ⟨[], upd_same, .nil, same_put hD (Same.refl _)⟩ (fun z I2 _ ⟨_, _, _, i2⟩ => SqL.of (i2 _ _ epe)) ?_ ?_
            · rintro z x I2 hxb ⟨ad, f2, t2, i2⟩
              obtain ⟨m, hm, rfl⟩ := int_at hxb
              have ec2 := i2 _ _ ec1
              have a2 := t2.len
              rw [List.length_map, List.length_take] at a2
              refine ⟨rfl, ?_⟩
              walk_at "rds"
              rename_i pz mz I3 gz ez i3
              refine catT1 (i3 _ _ ec2) ez (by rw [List.length_map]; exact Nat.le_trans (hci c (List.mem_of_getElem? hc2)) (by decide)) fun rr J er7 sj => ?_
              have eD := sj _ _ (i3 _ _ f2)
              refine ⟨ad, eD, by rw [sizeLine_eq]; omega, ad ++ [.ref rr], upd_same, ?_, same_put hD ((i2.trans i3).trans sj)⟩
              rw [List.take_succ, hm, List.map_append]
              exact (((t2.to i3).to sj).app (by rw [er7, List.map_append]; rfl)).put eD
            rintro I2 ⟨ad, f2, t2, i2⟩
            rw [List.length_map, List.take_length] at t2
            have a8 := t2.len
            rw [List.length_map] at a8
            have em2 := i2 _ _ em1
            walk_at "rds"
            refine Rd.catL em2 f2 (by omega) fun p9 J9 e9 i9 m9 => ?_
            walk_at "rds"
            refine ⟨_, _, _, _, rfl, e9, ?_, ((s9.trans i1).trans i2).trans i9⟩
            rw [← step_next hc2]
            exact ((tm1.to i2).cat t2).to i9
          · rintro σ' H9 ⟨pm, acc, u11, u12, rfl, em, tm, s9⟩
            rw [lw, List.take_length, ← hcn] at tm
            walk_at "rds"
            exact ⟨_, _, _, _, _, _, rfl, em, tm, s68.trans s9⟩
        · rintro σ' H7 ⟨sq, ss, u8, u10, u11, u12, rfl, esq, ts, s7⟩
          rw [show Rows.take n.toNat = Rows from List.take_of_length_le (by omega)] at ts
          walk_at "rds"
          have eq7 := s7 _ _ eq6
          have tq7 := tq6.to s7
          have ed7 := s7 _ _ ed6
          have cl3 := cl n.toNat
          rw [show Rows.take n.toNat = Rows from List.take_of_length_le (by omega)] at cl3
          have ls := ts.len
          have lws := tq7.len
          rw [List.length_append] at lws
          have lu := su_len (low := low) (i := i) (show r.toNat ≤ 2 by omega) (show n.toNat ≤ 3 by omega)
          have ll2 := sl_len (low := low) (k := k) (j := j) (show r.toNat ≤ 2 by omega) (show n.toNat ≤ 3 by omega)
          have pn8 : 2 ^ n.toNat ≤ 8 := by omega
          refine ⟨⟨_, SqL.of esq⟩, fun D hD => ?_⟩
          refine lc_list (K := K) (a := sq) (xs := ss) (fun z I2 => ∃ ad, I2 D = some (.lst ad) ∧ StA n.toNat I2 ad (((chL Rows).take z).map (fun st => (st, k, mask))) ∧ Same H7 I2) ⟨[], upd_same, .nil, same_put hD (Same.refl _)⟩ (fun z I2 _ ⟨_, _, _, i2⟩ => SqL.of (i2 _ _ esq)) ?_ ?_
          · rintro z x I2 hxb ⟨ad, f2, t2, i2⟩
            obtain ⟨pc, c, rfl, hc2, ec⟩ := (ts.to i2).at hxb
            have a2 := t2.len
            rw [List.length_map, List.length_take] at a2
            refine ⟨rfl, ?_⟩
            walk_at "rds"
            rename_i pr mr J1 gr er tr pz mz J2 gz ez tz
            have f3 := tz _ _ (tr _ _ f2)
            refine ⟨_, f3, by rw [sizeLine_eq]; omega, ad ++ [.ref pz], upd_same, ?_, same_put hD ((i2.trans tr).trans tz)⟩
            rw [List.take_succ, hc2, List.map_append]
            refine StA.put f3 ?_
            exact ((t2.to tr).to tz).cat (.cons ⟨pz, pc, pr, rfl, ez, tz _ _ (tr _ _ ec), tz _ _ er⟩ .nil)
          rintro I2 ⟨ad, f2, t2, i2⟩
          rw [ls, List.take_length] at t2
          have a8 := t2.len
          rw [List.length_map] at a8
          walk_at "rds"
          refine Rd.catL (i2 _ _ eq7) f2 (by omega) fun p9 J9 e9 i9 m9 => ?_
          walk_at "rds"
          refine ⟨_, _, _, _, _, _, _, _, _, rfl, e9, ?_, ((s06.trans s7).trans i2).trans i9⟩
          rw [sl_next, ← List.append_assoc]
          have eA : seatsAt n.toNat r.toNat low k (1 + (j : Int)) = (chL Rows).map fun st => (st, k, mask) := by
            unfold seatsAt
            rw [hm, hRows]
          rw [eA]
          exact ((tq7.to i2).cat t2).to i9
      · rintro σ' H3 ⟨q, ws, u6, u7, u8, u9, u10, u11, u12, rfl, eq, tq, s3⟩
        refine ⟨_, _, _, _, _, _, _, _, _, _, _, rfl, eq, ?_, s3⟩
        rw [su_next, show r.toNat - i - 1 = k by omega]
        exact tq
    · rintro σ' H3 ⟨q, ws, u4, u5, u6, u7, u8, u9, u10, u11, u12, rfl, eq, tq, s3⟩
      walk_at "rds"
      exact kk _ _ _ eq tq s3
end
end K17
end SecK13
section SecK14
set_option Elab.async false
set_option linter.all false
set_option maxRecDepth 100000
set_option maxHeartbeats 4000000
set_option pp.deepTerms false
local macro_rules | `(tactic| walk_at "tq") => `(tactic| first | assumption | (refine' Dt.Tq.to ?s0 ?h0; (case h0 => assumption); (case s0 => walk_at "same")))
local macro_rules | `(tactic| walk_at "same") => `(tactic| first | exact L2.Same.refl _ | assumption | (refine' L2.Same.trans ?s1 ?s2; (case s2 => assumption); (case s1 => walk_at "same")))
local macro_rules | `(tactic| walk_at "sam") => `(tactic| first | exact Dt.Sam.refl | assumption | exact Dt.Sam.of (by assumption) | (refine' Dt.Sam.trans ?s1 ?s2; (case s2 => first | assumption | exact Dt.Sam.of (by assumption)); (case s1 => walk_at "sam")))
local macro_rules | `(tactic| walk_at "tape") => `(tactic| first | assumption | (refine' Dt.Tape.mono ?h0 ?s0; (case h0 => assumption); (case s0 => walk_at "same")))
local macro_rules | `(tactic| walk_at "nt") => `(tactic| first | exact Dt.nt_tup | exact Dt.nt_ints | assumption | (intro a0 b0 c0 l0 z0; cases z0) | (intro a0 b0 c0 l0 z0; simp at z0))
local macro_rules | `(tactic| walk_at "heap") => `(tactic| first | assumption | exact L2.upd_same | (refine' Rd.at_to ?s0 ?h0; (case h0 => assumption); (case s0 => walk_at "same")) | (refine' Dt.at_sam ?n0 ?s0 ?h0; (case h0 => assumption); (case n0 => walk_at "nt"); (case s0 => walk_at "sam")))
local macro_rules | `(tactic| walk_at "rp") => `(tactic| first | exact Dt.Rp.int _ | exact Dt.Rp.bl _ | exact Dt.Rp.str _ | exact Dt.Rp.non | assumption | (refine' Dt.Rp.sm ?s0 ?h0; (case h0 => assumption); (case s0 => walk_at "sam")) | (refine' Dt.Rp.tup ?h1 ?h2 ?h3; (case h1 => walk_at "heap"); (case h2 => walk_at "rps"); (case h3 => first | assumption | (show _ ≤ 1000; decide) | (show _ ≤ 1000; simp) | (show _ ≤ 1000; omega))) | (refine' Dt.Rp.lst ?h1 ?h2 ?h3 ?h4; (case h1 => walk_at "heap"); (case h2 => walk_at "rps"); (case h3 => first | assumption | (show _ ≤ 1000; decide) | (show _ ≤ 1000; simp) | (show _ ≤ 1000; omega)); (case h4 => walk_at "nt")))
local macro_rules | `(tactic| walk_at "rps") => `(tactic| first | exact Dt.RpAll.nil | assumption | (refine' Dt.RpAll.cons ?h1 ?h2; (case h1 => walk_at "rp"); (case h2 => walk_at "rps")) | (refine' Dt.RpAll.sm ?s0 ?h0; (case h0 => assumption); (case s0 => walk_at "sam")))
local macro_rules | `(tactic| walk_at "rd") => `(tactic| first
  | with_reducible refine Rd.seq ?_ | with_reducible refine Rd.asg ?_ | with_reducible refine Rd.nm ?_ | with_reducible refine Rd.sub ?_ | with_reducible refine Rd.ret ?_ | with_reducible refine Rd.retN ?_
  | with_reducible refine Rd.drop ?_ | with_reducible refine Rd.ifs ?_ | with_reducible refine Rd.next ?_ | with_reducible refine Rd.cst ?_ | with_reducible refine Rd.op ?_ | with_reducible refine Rd.un ?_
  | with_reducible refine Rd.test ?_ | with_reducible refine Rd.tb' ?_ | with_reducible refine Rd.exb ?_ | with_reducible refine Rd.exi ?_ | with_reducible refine Rd.and2 ?_ | with_reducible refine Rd.or2 ?_ | with_reducible refine Rd.not1 ?_
  | with_reducible refine Rd.andV ?_ | with_reducible refine Rd.orV ?_ | with_reducible refine Rd.notV ?_ | with_reducible refine Rd.nil ?_ | with_reducible refine Rd.cons ?_ | with_reducible refine Rd.cb ?_
  | with_reducible refine Rd.i0 ?_ | with_reducible refine Rd.u1 ?_ | with_reducible refine Rd.call ?_ | with_reducible refine Rd.tup ?_ | with_reducible refine Rd.lst ?_ | with_reducible refine Rd.sl ?_ | with_reducible refine Rd.no ?_ | with_reducible refine Rd.part ?_ | with_reducible refine Rd.at_ ?_ | with_reducible refine Rd.yes ?_ | with_reducible refine Rd.fors ?_ | with_reducible refine Rd.m1 ?_ | with_reducible refine Rd.exs ?_ | with_reducible refine Rd.lc ?_ | with_reducible refine Rd.rng ?_
  | with_reducible refine Rd.mkv ?_ | with_reducible refine Rd.mko ?_ | with_reducible refine Rd.callB ?_ | with_reducible refine Rd.callS ?_ | with_reducible refine Rd.bm ?_ | with_reducible refine Rd.itl ?_ | with_reducible refine Rd.itt ?_
  | ((with_reducible refine' And.intro ?hl ?_); (case hl => ((with_reducible show List.length _ ≤ PySem.sizeLine); (show _ ≤ PySem.sizeLine); rw [PySem.sizeLine_eq]; simp)))
  | (intro p0 n0; generalize hK0 : L2.upd _ p0 _ = K0; obtain ⟨e0, t0⟩ := Dt.newK hK0 n0)
  | ((with_reducible refine' Rd.lenKL ?he ?_); (case he => walk_at "heap")) | ((with_reducible refine' Rd.lenKT ?he ?_); (case he => walk_at "heap"))
  | ((with_reducible refine' Rd.var ?hv ?_); (case hv => exact rfl))
  | ((with_reducible refine' Rd.ifT ?hv ?_); (case hv => first | exact rfl | assumption)) | ((with_reducible refine' Rd.ifF ?hv ?_); (case hv => first | exact rfl | assumption))
  | ((with_reducible refine' Rd.eq ?hv ?_); (case hv => exact rfl))
  | ((with_reducible refine' Rd.ne ?hv ?_); (case hv => exact rfl))
  | ((with_reducible refine' Dt.isi_int ?hr ?_); (case hr => walk_at "rp")) | ((with_reducible refine' Dt.isi_bool ?hr ?_); (case hr => walk_at "rp")) | ((with_reducible refine' Dt.isi_tuple ?hr ?_); (case hr => walk_at "rp")) | ((with_reducible refine' Dt.isi_str ?hr ?_); (case hr => walk_at "rp")) | ((with_reducible refine' Dt.isi_list ?hr ?_); (case hr => walk_at "rp"))
  | with_reducible refine ⟨rfl, ?_⟩ | with_reducible refine Or.inl ⟨_, rfl, ?_⟩ | with_reducible refine Or.inr ⟨_, rfl, ?_⟩ | with_reducible refine ⟨_, rfl, ?_⟩
  | ((with_reducible refine' Rd.ex2 ⟨rfl, ?hl, ?_⟩); (case hl => first | exact Or.inl ⟨_, L2.SqL.of (by walk_at "heap"), rfl⟩ | exact Or.inr ⟨_, L2.SqT.of (by walk_at "heap"), rfl⟩))
  | ((with_reducible refine' Rd.i1 ?hv ?_); (case hv => first | exact ⟨by decide, by decide, by decide⟩ | exact Or.inr ⟨by decide, by decide⟩ | exact Or.inl ⟨by decide, by decide⟩ | exact ⟨by decide, by decide⟩ | decide | assumption | (show _ ≠ _; omega) | (refine ⟨?_, ?_⟩ <;> omega) | (refine Or.inl ⟨?_, ?_⟩ <;> omega)))
  | ((with_reducible refine' Rd.ixL ?he ?hx ?_); (case he => walk_at "heap"); (case hx => rfl))
  | ((with_reducible refine' Rd.ixT ?he ?hx ?_); (case he => walk_at "heap"); (case hx => rfl))
  | ((with_reducible refine' Rd.setL ?he ?hx ?_); (case he => first | assumption | exact L2.upd_same); (case hx => rfl)))
local macro_rules | `(tactic| walk_at "rd") => `(tactic| first | with_reducible refine Rd.isT ?_ | with_reducible refine Rd.isnT ?_ | with_reducible refine Rd.ife ?_)
local macro_rules | `(tactic| walk_at "rd") => `(tactic| first | ((with_reducible refine' Rd.gtup ?he ?hl ?_); (case he => walk_at "heap"); (case hl => exact rfl)) | with_reducible refine Rd.brk ?_ | with_reducible refine Rd.callR ?_ | ((with_reducible refine' ⟨_, _, rfl, Or.inl ⟨L2.SqL.of ?hp, ?_⟩⟩); (case hp => walk_at "heap")) | ((with_reducible refine' ⟨_, _, rfl, Or.inl (L2.SqL.of ?hp), ?_⟩); (case hp => walk_at "heap")) | ((with_reducible refine' Rd.catL ?hp ?hq ?hl ?_); (case hp => walk_at "heap"); (case hq => walk_at "heap"); (case hl => (simp only [List.length_map, List.length_append, List.length_cons, List.length_nil]; omega)); (intro r0 J0 e0 t0 n0)) | with_reducible refine Rd.bits ?_ | with_reducible refine Rd.max2 ?_ | with_reducible refine Rd.gcons ?_ | with_reducible refine Rd.gnil ?_)
local macro_rules | `(tactic| walk_at "rds") => `(tactic| repeat (first | walk_at "rd" | assumption))
namespace K17
open PySem PySem.Spec PyProof.Rows L2 L2H Err Dt
open Bt
inductive Mx : List Int → List (List Int) → Prop
  | nil : Mx [] []
  | cons {x : Int} {r xs : List Int} {rows : List (List Int)} (h : x ∈ r) (t : Mx xs rows) : Mx (x :: xs) (r :: rows)
theorem fold_mem : ∀ (rows acc : List (List Int)) (c : List Int), c ∈ rows.foldl stepC acc ↔ ∃ a ∈ acc, ∃ xs, Mx xs rows ∧ c = a ++ xs
  | [], acc, c => by
    constructor
    · intro h
      exact ⟨c, h, [], .nil, (List.append_nil _).symm⟩
    · rintro ⟨a, h, xs, m, rfl⟩
      cases m
      rw [List.append_nil]
      exact h
  | r :: rows, acc, c => by
    rw [List.foldl_cons, fold_mem rows (stepC acc r) c]
    constructor
    · rintro ⟨b, hb, xs, m, rfl⟩
      obtain ⟨a, ha, hb2⟩ := List.mem_flatMap.mp hb
      obtain ⟨x, hx, rfl⟩ := List.mem_map.mp hb2
      exact ⟨a, ha, x :: xs, .cons hx m, by rw [List.append_assoc]; rfl⟩
    · rintro ⟨a, ha, xs, m, rfl⟩
      cases m with
      | @cons x _ xs _ hx m => exact ⟨a ++ [x], List.mem_flatMap.mpr ⟨a, ha, List.mem_map.mpr ⟨x, hx, rfl⟩⟩, xs, m, by rw [List.append_assoc]; rfl⟩
theorem mx_iff : ∀ (c : List Int) (rows : List (List Int)), Mx c rows ↔ c.length = rows.length ∧ ∀ (i : Nat) (r : List Int), rows[i]? = some r → c.getD i 0 ∈ r
  | [], [] => ⟨fun _ => ⟨rfl, fun i r h => by simp at h⟩, fun _ => .nil⟩
  | [], r :: rows => ⟨fun h => (by cases h), fun h => (by simp at h)⟩
  | x :: c, [] => ⟨fun h => (by cases h), fun h => (by simp at h)⟩
  | x :: c, r :: rows => by
    constructor
    · intro h
      cases h with
      | cons hx t =>
        obtain ⟨h1, h2⟩ := (mx_iff c rows).mp t
        refine ⟨by rw [List.length_cons, List.length_cons, h1], fun i q e => ?_⟩
        cases i with
        | zero => cases e; exact hx
        | succ i => exact h2 i q e
    · rintro ⟨h1, h2⟩
      refine .cons (h2 0 r rfl) ((mx_iff c rows).mpr ⟨by simpa using h1, fun i q e => h2 (i + 1) q e⟩)
theorem ch_mem {n : Nat} {f : Nat → List Int} {c : List Int} : c ∈ chL ((List.range n).map f) ↔ c.length = n ∧ ∀ i, i < n → c.getD i 0 ∈ f i := by
  unfold chL
  rw [fold_mem]
  constructor
  · rintro ⟨a, ha, xs, m, rfl⟩
    rw [List.mem_singleton.mp ha, List.nil_append]
    obtain ⟨h1, h2⟩ := (mx_iff _ _).mp m
    rw [List.length_map, List.length_range] at h1
    refine ⟨h1, fun i hi => h2 i _ ?_⟩
    rw [List.getElem?_map, List.getElem?_range hi]
    rfl
  · rintro ⟨h1, h2⟩
    refine ⟨[], List.mem_singleton.mpr rfl, c, (mx_iff _ _).mpr ⟨by rw [List.length_map, List.length_range]; exact h1, fun i r e => ?_⟩, rfl⟩
    have hi : i < n := by
      rcases Nat.lt_or_ge i n with h | h
      · exact h
      · rw [List.getElem?_map, List.getElem?_eq_none (by rw [List.length_range]; exact h)] at e
        cases e
    rw [List.getElem?_map, List.getElem?_range hi] at e
    cases e
    exact h2 i hi
def cOf (n : Nat) (s : Seat) : List Int := (List.range n).map fun i : Nat => s.1.getD i 0 + 2 ^ s.2.1 * (s.2.2 / 2 ^ i % 2)
theorem cof_at {n i : Nat} {s : Seat} (h : i < n) : (cOf n s).getD i 0 = s.1.getD i 0 + 2 ^ s.2.1 * (s.2.2 / 2 ^ i % 2) := by
  unfold cOf
  rw [List.getD_eq_getElem?_getD, List.getElem?_map, List.getElem?_range h]
  rfl
theorem list_ext {a b : List Int} {n : Nat} (h1 : a.length = n) (h2 : b.length = n) (h : ∀ i, i < n → a.getD i 0 = b.getD i 0) : a = b := by
  refine List.ext_getElem (by omega) fun i k1 k2 => ?_
  have := h i (by omega)
  rw [List.getD_eq_getElem?_getD, List.getD_eq_getElem?_getD, List.getElem?_eq_getElem k1, List.getElem?_eq_getElem k2] at this
  exact this
theorem mask_of {n : Nat} (hn : n = 2 ∨ n = 3) (f : Nat → Bool) : ∃ mask : Int, 0 ≤ mask ∧ mask < 2 ^ n ∧ (∀ i, i < n → mask / 2 ^ i % 2 = if f i = true then 1 else 0) ∧ ((∃ i, i < n ∧ f i = true) → 1 ≤ mask) := by
  rcases hn with rfl | rfl
  · refine ⟨(if f 0 = true then 1 else 0) + 2 * (if f 1 = true then 1 else 0), ?_, ?_, ?_, ?_⟩
    · split <;> split <;> decide
    · split <;> split <;> decide
    · intro i hi
      rcases (by omega : i = 0 ∨ i = 1) with rfl | rfl <;> (cases f 0 <;> cases f 1 <;> decide)
    · rintro ⟨i, hi, h⟩
      rcases (by omega : i = 0 ∨ i = 1) with rfl | rfl <;> (revert h; cases f 0 <;> cases f 1 <;> decide)
  · refine ⟨(if f 0 = true then 1 else 0) + 2 * (if f 1 = true then 1 else 0) + 4 * (if f 2 = true then 1 else 0), ?_, ?_, ?_, ?_⟩
    · split <;> split <;> split <;> decide
    · split <;> split <;> split <;> decide
    · intro i hi
      rcases (by omega : i = 0 ∨ i = 1 ∨ i = 2) with rfl | rfl | rfl <;> (cases f 0 <;> cases f 1 <;> cases f 2 <;> decide)
    · rintro ⟨i, hi, h⟩
      rcases (by omega : i = 0 ∨ i = 1 ∨ i = 2) with rfl | rfl | rfl <;> (revert h; cases f 0 <;> cases f 1 <;> cases f 2 <;> decide)
theorem su_mem {n R : Nat} {low : List Int} {s : Seat} : s ∈ seatsU n R low R ↔ ∃ (k m : Nat) (st : List Int), k < R ∧ m < 2 ^ n - 1 ∧ s = (st, k, 1 + (m : Int)) ∧ st ∈ chL (rowsW n low (2 ^ R) (2 ^ (k + 1)) (1 + (m : Int))) := by
  unfold seatsU
  rw [List.mem_flatMap]
  constructor
  · rintro ⟨lev, hl, h⟩
    obtain ⟨m, hm, h⟩ := List.mem_flatMap.mp h
    obtain ⟨st, hs, rfl⟩ := List.mem_map.mp h
    have hl := List.mem_range.mp hl
    exact ⟨R - lev - 1, m, st, by omega, List.mem_range.mp hm, rfl, hs⟩
  · rintro ⟨k, m, st, hk, hm, rfl, h⟩
    refine ⟨R - k - 1, List.mem_range.mpr (by omega), ?_⟩
    rw [show R - (R - k - 1) - 1 = k by omega]
    exact List.mem_flatMap.mpr ⟨m, List.mem_range.mpr hm, List.mem_map.mpr ⟨st, h, rfl⟩⟩
theorem pow_split {R k : Nat} (h : k < R) : (2 : Int) ^ R = 2 ^ (R - k - 1) * 2 ^ (k + 1) := by
  rw [← Int.pow_add]
  congr 1
  omega
theorem low_at {a : List Int} {g : Int} {i : Nat} (h : i < a.length) : (a.map fun x => x * g).getD i 0 = a.getD i 0 * g := by
  rw [List.getD_eq_getElem?_getD, List.getElem?_map, List.getElem?_eq_getElem h, List.getD_eq_getElem?_getD, List.getElem?_eq_getElem h]
  rfl
/-- a seat's middle is a new point -/
theorem seat_good {n R : Nat} {a : List Int} {s : Seat} (hn : n = 2 ∨ n = 3) (la : a.length = n) (h : s ∈ seatsU n R (a.map fun x => x * 2 ^ R) R) : ∃ cs : List Int, cs.length = n ∧ s.1 = cs.map (fun c => c * 2 ^ (s.2.1 + 1)) ∧ cOf n s = mkPt cs s.2.1 s.2.2 ∧ s.2.1 < R ∧ ∃ i, i < cs.length ∧ s.2.2 / 2 ^ i % 2 = 1 := by
  obtain ⟨k, m, st, hk, hm, rfl, hs⟩ := su_mem.mp h
  obtain ⟨ls, hst⟩ := ch_mem.mp hs
  have hp := pow_pos (k + 1)
  have key : ∀ i, i < n → ∃ z, st.getD i 0 = z * 2 ^ (k + 1) := fun i hi => by
    obtain ⟨j, _, e⟩ := List.mem_map.mp (hst i hi)
    refine ⟨a.getD i 0 * 2 ^ (R - k - 1) + j, ?_⟩
    rw [← e, low_at (by omega), pow_split hk, ← Int.mul_assoc, Int.add_mul]
  refine ⟨st.map fun x => x / 2 ^ (k + 1), by rw [List.length_map]; exact ls, ?_, ?_, hk, ?_⟩
  · show st = _
    refine list_ext ls (by rw [List.length_map, List.length_map]; exact ls) fun i hi => ?_
    obtain ⟨z, hz⟩ := key i hi
    rw [low_at (by rw [List.length_map]; omega), List.getD_eq_getElem?_getD (l := st.map _), List.getElem?_map, List.getElem?_eq_getElem (show i < st.length by omega)]
    rw [List.getD_eq_getElem?_getD, List.getElem?_eq_getElem (show i < st.length by omega)] at hz ⊢
    have hz : st[i] = z * 2 ^ (k + 1) := hz
    show st[i] = st[i] / 2 ^ (k + 1) * 2 ^ (k + 1)
    rw [hz, Int.mul_ediv_cancel _ (by omega)]
  · refine list_ext (n := n) (by unfold cOf; rw [List.length_map, List.length_range]) (by rw [mk_len, List.length_map]; exact ls) fun i hi => ?_
    rw [cof_at hi, mk_at (by rw [List.length_map]; omega)]
    obtain ⟨z, hz⟩ := key i hi
    rw [List.getD_eq_getElem?_getD (l := st.map _), List.getElem?_map, List.getElem?_eq_getElem (show i < st.length by omega)]
    rw [List.getD_eq_getElem?_getD, List.getElem?_eq_getElem (show i < st.length by omega)] at hz ⊢
    have hz : st[i] = z * 2 ^ (k + 1) := hz
    show st[i] + _ = st[i] / 2 ^ (k + 1) * 2 ^ (k + 1) + _
    rw [hz, Int.mul_ediv_cancel _ (by omega)]
  · rw [List.length_map, ls]
    have pn : ((2 ^ n : Nat) : Int) = 2 ^ n := by rw [Int.natCast_pow]; rfl
    exact mask_bit (mask := 1 + (m : Int)) hn (by omega) (by show 1 + (m : Int) < 2 ^ n; omega)
theorem box_ar {a x g B q : Int} (hg : 0 < g) (hq : x = g * q) (h1 : a * (B * (2 * g)) ≤ x) (h2 : x ≤ a * (B * (2 * g)) + B * (2 * g)) : a * B ≤ q / 2 ∧ q / 2 + q % 2 ≤ a * B + B ∧ x - g * (q % 2) = q / 2 * (2 * g) := by
  have e1 : a * (B * (2 * g)) = g * (2 * (a * B)) := by grind
  have e2 : a * (B * (2 * g)) + B * (2 * g) = g * (2 * (a * B) + 2 * B) := by grind
  rw [e2, hq] at h2
  rw [e1, hq] at h1
  have k1 := Int.le_of_mul_le_mul_left h1 hg
  have k2 := Int.le_of_mul_le_mul_left h2 hg
  refine ⟨by omega, by omega, ?_⟩
  have e : q = 2 * (q / 2) + q % 2 := by omega
  generalize q / 2 = u at *
  generalize q % 2 = v at *
  subst e
  rw [hq]
  grind
/-- each new point of the box is a seat's middle -/
theorem seat_cover {n R : Nat} {a x : List Int} (hn : n = 2 ∨ n = 3) (la : a.length = n) (lx : x.length = n) (hx : ∀ i, i < n → a.getD i 0 * 2 ^ R ≤ x.getD i 0 ∧ x.getD i 0 ≤ a.getD i 0 * 2 ^ R + 2 ^ R) (h : newL (R : Int) x = true) : ∃ s ∈ seatsU n R (a.map fun x => x * 2 ^ R) R, cOf n s = x := by
  obtain ⟨k, hk, G⟩ := newL_gr h
  have hk : k < R := by omega
  obtain ⟨mask, m0, m1, mb, mp⟩ := mask_of hn fun i => odd k (x.getD i 0)
  have hod : 1 ≤ mask := mp (by
    obtain ⟨y, hy, ho⟩ := G.od
    obtain ⟨i, hi, rfl⟩ := List.mem_iff_getElem.mp hy
    refine ⟨i, by omega, ?_⟩
    rw [List.getD_eq_getElem?_getD, List.getElem?_eq_getElem hi]
    exact decide_eq_true ho)
  have pn : ((2 ^ n : Nat) : Int) = 2 ^ n := by rw [Int.natCast_pow]; rfl
  have hm : 1 + ((mask.toNat - 1 : Nat) : Int) = mask := by omega
  have hbit : ∀ i, i < n → mask / 2 ^ i % 2 = 0 ∨ mask / 2 ^ i % 2 = 1 := fun i _ => by omega
  refine ⟨((List.range n).map fun i : Nat => x.getD i 0 - 2 ^ k * (mask / 2 ^ i % 2), k, mask), su_mem.mpr ⟨k, mask.toNat - 1, _, hk, by omega, by rw [hm], ?_⟩, ?_⟩
  · rw [hm]
    refine ch_mem.mpr ⟨by rw [List.length_map, List.length_range], fun i hi => ?_⟩
    have eL : ((List.range n).map fun i : Nat => x.getD i 0 - 2 ^ k * (mask / 2 ^ i % 2)).getD i 0 = x.getD i 0 - 2 ^ k * (mask / 2 ^ i % 2) := by
      rw [List.getD_eq_getElem?_getD, List.getElem?_map, List.getElem?_range hi]
      rfl
    rw [eL]
    have hg : x.getD i 0 = 2 ^ k * (x.getD i 0 / 2 ^ k) := by
      refine G.dv _ ?_
      rw [List.getD_eq_getElem?_getD, List.getElem?_eq_getElem (show i < x.length by omega)]
      exact List.getElem_mem _
    obtain ⟨b1, b2⟩ := hx i hi
    have hmb := mb i hi
    have hw := pow_pos k
    have ew : (2 : Int) ^ (k + 1) = 2 * 2 ^ k := by rw [Int.pow_succ, Int.mul_comm]
    have eU := pow_split hk
    rw [low_at (by omega)]
    have dU : (2 : Int) ^ R / 2 ^ (k + 1) = 2 ^ (R - k - 1) := by rw [eU]; exact Int.mul_ediv_cancel _ (by have := pow_pos (k + 1); omega)
    unfold endsW
    rw [dU]
    have hodd : odd k (x.getD i 0) = decide (x.getD i 0 / 2 ^ k % 2 = 1) := rfl
    have eb : mask / 2 ^ i % 2 = x.getD i 0 / 2 ^ k % 2 := by
      rw [hmb, hodd]
      by_cases z : x.getD i 0 / 2 ^ k % 2 = 1
      · rw [if_pos (decide_eq_true z), z]
      · rw [if_neg (by rw [decide_eq_false z]; decide)]
        omega
    have eU2 : (2 : Int) ^ R = 2 ^ (R - k - 1) * (2 * 2 ^ k) := by rw [← ew]; exact eU
    rw [eU2] at b1 b2
    obtain ⟨c1, c2, c3⟩ := box_ar hw hg b1 b2
    refine List.mem_map.mpr ⟨(x.getD i 0 / 2 ^ k / 2 - a.getD i 0 * 2 ^ (R - k - 1)).toNat, List.mem_range.mpr ?_, ?_⟩
    · rw [eb]
      by_cases z : x.getD i 0 / 2 ^ k % 2 = 1
      · rw [if_pos (decide_eq_true z)]
        omega
      · rw [if_neg (by rw [decide_eq_false z]; decide)]
        omega
    · rw [eb, c3, eU2, ew, Int.toNat_of_nonneg (by omega)]
      generalize x.getD i 0 / 2 ^ k / 2 = u
      grind
  · refine list_ext (n := n) (by unfold cOf; rw [List.length_map, List.length_range]) lx fun i hi => ?_
    rw [cof_at hi]
    show ((List.range n).map fun i : Nat => x.getD i 0 - 2 ^ k * (mask / 2 ^ i % 2)).getD i 0 + 2 ^ k * (mask / 2 ^ i % 2) = _
    have eL : ((List.range n).map fun i : Nat => x.getD i 0 - 2 ^ k * (mask / 2 ^ i % 2)).getD i 0 = x.getD i 0 - 2 ^ k * (mask / 2 ^ i % 2) := by
      rw [List.getD_eq_getElem?_getD, List.getElem?_map, List.getElem?_range hi]
      rfl
    rw [eL]
    show x.getD i 0 - 2 ^ k * (mask / 2 ^ i % 2) + 2 ^ k * (mask / 2 ^ i % 2) = _
    omega
section
variable {P : Program} {w : World} {K : PySem.W.Frag} {mg : Str → Option Value} {base : Heap}
set_option pp.maxSteps 3000
end
end K17
end SecK14
section SecK15
set_option Elab.async false
set_option linter.all false
set_option maxRecDepth 100000
set_option maxHeartbeats 4000000
set_option pp.deepTerms false
local macro_rules | `(tactic| walk_at "tq") => `(tactic| first | assumption | (refine' Dt.Tq.to ?s0 ?h0; (case h0 => assumption); (case s0 => walk_at "same")))
local macro_rules | `(tactic| walk_at "same") => `(tactic| first | exact L2.Same.refl _ | assumption | (refine' L2.Same.trans ?s1 ?s2; (case s2 => assumption); (case s1 => walk_at "same")))
local macro_rules | `(tactic| walk_at "sam") => `(tactic| first | exact Dt.Sam.refl | assumption | exact Dt.Sam.of (by assumption) | (refine' Dt.Sam.trans ?s1 ?s2; (case s2 => first | assumption | exact Dt.Sam.of (by assumption)); (case s1 => walk_at "sam")))
local macro_rules | `(tactic| walk_at "tape") => `(tactic| first | assumption | (refine' Dt.Tape.mono ?h0 ?s0; (case h0 => assumption); (case s0 => walk_at "same")))
local macro_rules | `(tactic| walk_at "nt") => `(tactic| first | exact Dt.nt_tup | exact Dt.nt_ints | assumption | (intro a0 b0 c0 l0 z0; cases z0) | (intro a0 b0 c0 l0 z0; simp at z0))
local macro_rules | `(tactic| walk_at "heap") => `(tactic| first | assumption | exact L2.upd_same | (refine' Rd.at_to ?s0 ?h0; (case h0 => assumption); (case s0 => walk_at "same")) | (refine' Dt.at_sam ?n0 ?s0 ?h0; (case h0 => assumption); (case n0 => walk_at "nt"); (case s0 => walk_at "sam")))
local macro_rules | `(tactic| walk_at "rp") => `(tactic| first | exact Dt.Rp.int _ | exact Dt.Rp.bl _ | exact Dt.Rp.str _ | exact Dt.Rp.non | assumption | (refine' Dt.Rp.sm ?s0 ?h0; (case h0 => assumption); (case s0 => walk_at "sam")) | (refine' Dt.Rp.tup ?h1 ?h2 ?h3; (case h1 => walk_at "heap"); (case h2 => walk_at "rps"); (case h3 => first | assumption | (show _ ≤ 1000; decide) | (show _ ≤ 1000; simp) | (show _ ≤ 1000; omega))) | (refine' Dt.Rp.lst ?h1 ?h2 ?h3 ?h4; (case h1 => walk_at "heap"); (case h2 => walk_at "rps"); (case h3 => first | assumption | (show _ ≤ 1000; decide) | (show _ ≤ 1000; simp) | (show _ ≤ 1000; omega)); (case h4 => walk_at "nt")))
local macro_rules | `(tactic| walk_at "rps") => `(tactic| first | exact Dt.RpAll.nil | assumption | (refine' Dt.RpAll.cons ?h1 ?h2; (case h1 => walk_at "rp"); (case h2 => walk_at "rps")) | (refine' Dt.RpAll.sm ?s0 ?h0; (case h0 => assumption); (case s0 => walk_at "sam")))
local macro_rules | `(tactic| walk_at "rd") => `(tactic| first
  | with_reducible refine Rd.seq ?_ | with_reducible refine Rd.asg ?_ | with_reducible refine Rd.nm ?_ | with_reducible refine Rd.sub ?_ | with_reducible refine Rd.ret ?_ | with_reducible refine Rd.retN ?_
  | with_reducible refine Rd.drop ?_ | with_reducible refine Rd.ifs ?_ | with_reducible refine Rd.next ?_ | with_reducible refine Rd.cst ?_ | with_reducible refine Rd.op ?_ | with_reducible refine Rd.un ?_
  | with_reducible refine Rd.test ?_ | with_reducible refine Rd.tb' ?_ | with_reducible refine Rd.exb ?_ | with_reducible refine Rd.exi ?_ | with_reducible refine Rd.and2 ?_ | with_reducible refine Rd.or2 ?_ | with_reducible refine Rd.not1 ?_
  | with_reducible refine Rd.andV ?_ | with_reducible refine Rd.orV ?_ | with_reducible refine Rd.notV ?_ | with_reducible refine Rd.nil ?_ | with_reducible refine Rd.cons ?_ | with_reducible refine Rd.cb ?_
  | with_reducible refine Rd.i0 ?_ | with_reducible refine Rd.u1 ?_ | with_reducible refine Rd.call ?_ | with_reducible refine Rd.tup ?_ | with_reducible refine Rd.lst ?_ | with_reducible refine Rd.sl ?_ | with_reducible refine Rd.no ?_ | with_reducible refine Rd.part ?_ | with_reducible refine Rd.at_ ?_ | with_reducible refine Rd.yes ?_ | with_reducible refine Rd.fors ?_ | with_reducible refine Rd.m1 ?_ | with_reducible refine Rd.exs ?_ | with_reducible refine Rd.lc ?_ | with_reducible refine Rd.rng ?_
  | with_reducible refine Rd.mkv ?_ | with_reducible refine Rd.mko ?_ | with_reducible refine Rd.callB ?_ | with_reducible refine Rd.callS ?_ | with_reducible refine Rd.bm ?_ | with_reducible refine Rd.itl ?_ | with_reducible refine Rd.itt ?_
  | ((with_reducible refine' And.intro ?hl ?_); (case hl => ((with_reducible show List.length _ ≤ PySem.sizeLine); (show _ ≤ PySem.sizeLine); rw [PySem.sizeLine_eq]; simp)))
  | (intro p0 n0; generalize hK0 : L2.upd _ p0 _ = K0; obtain ⟨e0, t0⟩ := Dt.newK hK0 n0)
  | ((with_reducible refine' Rd.lenKL ?he ?_); (case he => walk_at "heap")) | ((with_reducible refine' Rd.lenKT ?he ?_); (case he => walk_at "heap"))
  | ((with_reducible refine' Rd.var ?hv ?_); (case hv => exact rfl))
  | ((with_reducible refine' Rd.ifT ?hv ?_); (case hv => first | exact rfl | assumption)) | ((with_reducible refine' Rd.ifF ?hv ?_); (case hv => first | exact rfl | assumption))
  | ((with_reducible refine' Rd.eq ?hv ?_); (case hv => exact rfl))
  | ((with_reducible refine' Rd.ne ?hv ?_); (case hv => exact rfl))
  | ((with_reducible refine' Dt.isi_int ?hr ?_); (case hr => walk_at "rp")) | ((with_reducible refine' Dt.isi_bool ?hr ?_); (case hr => walk_at "rp")) | ((with_reducible refine' Dt.isi_tuple ?hr ?_); (case hr => walk_at "rp")) | ((with_reducible refine' Dt.isi_str ?hr ?_); (case hr => walk_at "rp")) | ((with_reducible refine' Dt.isi_list ?hr ?_); (case hr => walk_at "rp"))
  | with_reducible refine ⟨rfl, ?_⟩ | with_reducible refine Or.inl ⟨_, rfl, ?_⟩ | with_reducible refine Or.inr ⟨_, rfl, ?_⟩ | with_reducible refine ⟨_, rfl, ?_⟩
  | ((with_reducible refine' Rd.ex2 ⟨rfl, ?hl, ?_⟩); (case hl => first | exact Or.inl ⟨_, L2.SqL.of (by walk_at "heap"), rfl⟩ | exact Or.inr ⟨_, L2.SqT.of (by walk_at "heap"), rfl⟩))
  | ((with_reducible refine' Rd.i1 ?hv ?_); (case hv => first | exact ⟨by decide, by decide, by decide⟩ | exact Or.inr ⟨by decide, by decide⟩ | exact Or.inl ⟨by decide, by decide⟩ | exact ⟨by decide, by decide⟩ | decide | assumption | (show _ ≠ _; omega) | (refine ⟨?_, ?_⟩ <;> omega) | (refine Or.inl ⟨?_, ?_⟩ <;> omega)))
  | ((with_reducible refine' Rd.ixL ?he ?hx ?_); (case he => walk_at "heap"); (case hx => rfl))
  | ((with_reducible refine' Rd.ixT ?he ?hx ?_); (case he => walk_at "heap"); (case hx => rfl))
  | ((with_reducible refine' Rd.setL ?he ?hx ?_); (case he => first | assumption | exact L2.upd_same); (case hx => rfl)))
local macro_rules | `(tactic| walk_at "rd") => `(tactic| first | with_reducible refine Rd.isT ?_ | with_reducible refine Rd.isnT ?_ | with_reducible refine Rd.ife ?_)
local macro_rules | `(tactic| walk_at "rd") => `(tactic| first | ((with_reducible refine' Rd.gtup ?he ?hl ?_); (case he => walk_at "heap"); (case hl => exact rfl)) | with_reducible refine Rd.brk ?_ | with_reducible refine Rd.callR ?_ | ((with_reducible refine' ⟨_, _, rfl, Or.inl ⟨L2.SqL.of ?hp, ?_⟩⟩); (case hp => walk_at "heap")) | ((with_reducible refine' ⟨_, _, rfl, Or.inl (L2.SqL.of ?hp), ?_⟩); (case hp => walk_at "heap")) | ((with_reducible refine' Rd.catL ?hp ?hq ?hl ?_); (case hp => walk_at "heap"); (case hq => walk_at "heap"); (case hl => (simp only [List.length_map, List.length_append, List.length_cons, List.length_nil]; omega)); (intro r0 J0 e0 t0 n0)) | with_reducible refine Rd.bits ?_ | with_reducible refine Rd.max2 ?_ | with_reducible refine Rd.gcons ?_ | with_reducible refine Rd.gnil ?_)
local macro_rules | `(tactic| walk_at "rds") => `(tactic| repeat (first | walk_at "rd" | assumption))
namespace K17
open PySem PySem.Spec PyProof.Rows L2 L2H Err Dt
open Bt
def rInDT : R2 := fun x y H Q => ∃ (a : Addr) (ov : Option V), y = .ref a ∧ DGet H a x ov ∧ Q (.bl ov.isSome) H
theorem op_inDT {X : Cx} (hu : X.A.units + 1 < cLine) : OpR X (compareOp .In) rInDT := fun pins s σ H x y v u Q I rx ry h => by
  obtain ⟨a, ov, rfl, g, q⟩ := h
  obtain rfl : u = Value.ref a := ry
  exact d_in hu I g rx fun s' I' => ⟨.bl ov.isSome, H, I', rfl, q⟩
theorem lt_units {a b : Nat} (h : a + 64 < b) : a + 1 < b := by omega
def keyOf (ns : List Int) : List Key := ns.map Sum.inl
theorem key_vs (ns : List Int) : (keyOf ns).map kV = ns.map V.int := by
  unfold keyOf
  rw [List.map_map]
  rfl
theorem key_inj : ∀ {a b : List Int}, keyOf a = keyOf b → a = b
  | [], [], _ => rfl
  | [], _ :: _, h => by cases h
  | _ :: _, [], h => by cases h
  | x :: a, y :: b, h => by
    injection h with h1 h2
    injection h1 with h1
    rw [h1, key_inj h2]
def dSet (ks : List (List Int)) : List (List Key × V) := ks.foldl (fun d c => putK d (keyOf c) (.bl true)) []
theorem dset_next (ks : List (List Int)) (c : List Int) : dSet (ks ++ [c]) = putK (dSet ks) (keyOf c) (.bl true) := by
  unfold dSet
  rw [List.foldl_append]
  rfl
theorem put_len (d : List (List Key × V)) (k : List Key) (v : V) : (putK d k v).length ≤ d.length + 1 := by
  unfold putK
  split
  · rw [List.length_map]; omega
  · rw [List.length_append]; exact Nat.le_refl _
theorem dset_go : ∀ (ks : List (List Int)) (d : List (List Key × V)) (c : List Int), (valV (ks.foldl (fun d c => putK d (keyOf c) (.bl true)) d) (keyOf c)).isSome = ((valV d (keyOf c)).isSome || decide (c ∈ ks))
  | [], d, c => by simp
  | x :: ks, d, c => by
    rw [List.foldl_cons, dset_go ks _ c, valV_put]
    by_cases h : keyOf c = keyOf x
    · rw [if_pos h, key_inj h]
      simp
    · have h2 : c ≠ x := fun z => h (by rw [z])
      rw [if_neg h]
      congr 1
      simp [h2]
theorem dset_at (ks : List (List Int)) (c : List Int) : (valV (dSet ks) (keyOf c)).isSome = decide (c ∈ ks) := by
  unfold dSet
  rw [dset_go]
  rfl
theorem dset_len : ∀ (ks : List (List Int)) (d : List (List Key × V)), (ks.foldl (fun d c => putK d (keyOf c) (.bl true)) d).length ≤ d.length + ks.length
  | [], d => Nat.le_refl _
  | x :: ks, d => by
    rw [List.foldl_cons]
    have h1 := dset_len ks (putK d (keyOf x) (.bl true))
    have h2 := put_len d (keyOf x) (.bl true)
    rw [List.length_cons]
    omega
/-- all but one address stands still -/
def Sx (pc : Addr) (H H' : Hp) : Prop := ∀ b o, b ≠ pc → H b = some o → H' b = some o
theorem Sx.of {pc : Addr} {H H' : Hp} (s : Same H H') : Sx pc H H' := fun b o _ e => s b o e
theorem Sx.trans {pc : Addr} {H H1 H2 : Hp} (a : Sx pc H H1) (b : Sx pc H1 H2) : Sx pc H H2 := fun x o n e => b x o n (a x o n e)
theorem Sx.upd {pc : Addr} {H H' : Hp} {o : HO} (s : Sx pc H H') : Sx pc H (upd H' pc o) := fun b u n e => by
  rw [upd_ne n]
  exact s b u n e
theorem ne_dt {H : Hp} {a p : Addr} {kvs : List (List Key × V)} {o : HO} (ha : H a = some (.dT kvs)) (e : H p = some o) (h : ∀ k, o ≠ .dT k) : p ≠ a := fun z => by
  subst z
  rw [e] at ha
  exact h _ (Option.some.inj ha)
theorem StA.sx {n : Nat} {pc : Addr} {H H' : Hp} {kvs : List (List Key × V)} (ha : H pc = some (.dT kvs)) (s : Sx pc H H') {vs : List V} {ss : List Seat} (h : StA n H vs ss) : StA n H' vs ss := h.mono fun p us e => s _ _ (ne_dt ha e (fun _ z => by cases z)) e
theorem cof_len {n : Nat} {s : Seat} : (cOf n s).length = n := by unfold cOf; rw [List.length_map, List.length_range]
theorem cof_take {n i : Nat} {s : Seat} (h : i < n) : ((cOf n s).take (i + 1)).map V.int = ((cOf n s).take i).map V.int ++ [.int (s.1.getD i 0 + 2 ^ s.2.1 * (s.2.2 / 2 ^ i % 2))] := by
  have e : (cOf n s)[i]? = some (s.1.getD i 0 + 2 ^ s.2.1 * (s.2.2 / 2 ^ i % 2)) := by
    unfold cOf
    rw [List.getElem?_map, List.getElem?_range h]
    rfl
  rw [List.take_succ, e, List.map_append]
  rfl
def rowsB (n : Nat) (low : List Int) (un : Int) : List (List Int) := (List.range n).map fun i : Nat => (List.range (un + 1).toNat).map fun k : Nat => low.getD i 0 + (k : Int)
theorem box_new {n : Nat} {r : Int} {a c : List Int} (hn : n = 2 ∨ n = 3) (r0 : 0 ≤ r) (la : a.length = n) (h : c ∈ chL (rowsB n (a.map fun x => x * 2 ^ r.toNat) (2 ^ r.toNat))) : newL r c = decide (c ∈ (seatsU n r.toNat (a.map fun x => x * 2 ^ r.toNat) r.toNat).map (cOf n)) := by
  obtain ⟨lc, hc⟩ := ch_mem.mp h
  have hx : ∀ i, i < n → a.getD i 0 * 2 ^ r.toNat ≤ c.getD i 0 ∧ c.getD i 0 ≤ a.getD i 0 * 2 ^ r.toNat + 2 ^ r.toNat := fun i hi => by
    obtain ⟨j, hj, e⟩ := List.mem_map.mp (hc i hi)
    have hj := List.mem_range.mp hj
    rw [low_at (by omega)] at e
    have hp := pow_pos r.toNat
    generalize (2 : Int) ^ r.toNat = u at *
    generalize a.getD i 0 * u = v at *
    omega
  have er : ((r.toNat : Nat) : Int) = r := by omega
  cases z : newL r c with
  | true =>
    obtain ⟨s, hs, e⟩ := seat_cover hn la lc hx (by rw [er]; exact z)
    exact (decide_eq_true (List.mem_map.mpr ⟨s, hs, e⟩)).symm
  | false =>
    symm
    apply decide_eq_false
    intro hm
    obtain ⟨s, hs, e⟩ := List.mem_map.mp hm
    obtain ⟨cs, _, _, hcen, hk, hmask⟩ := seat_good hn la hs
    rw [hcen] at e
    have := gr_newL (r := r) (mk_gr (cs := cs) (k := s.2.1) hmask) (by omega)
    rw [e, z] at this
    cases this
def spSquare : Sp := fun vs H Q _ => ∃ (t l : Addr), vs = [.ref t] ∧ Tq t l H ∧ ∀ H', Tq t l H' → Sam H H' → Q (.bl true) H'
def SpV (H : Hp) (v : V) : Prop := ∃ (s : Addr) (n r : Int), v = .ref s ∧ H s = some (.tup [.int n, .int r]) ∧ 2 ≤ n ∧ n ≤ 3 ∧ 1 ≤ r ∧ r ≤ 2
theorem SpV.to {H H' : Hp} {v : V} (s : Sam H H') (h : SpV H v) : SpV H' v := by
  obtain ⟨p, n, r, e, h1, h2⟩ := h
  exact ⟨p, n, r, e, s _ _ nt_tup h1, h2⟩
def FarV (v : V) : Prop := ∃ j : Int, v = .int j ∧ 4 ≤ j ∧ j ≤ 230000
section
variable {P : Program} {w : World} {K : PySem.W.Frag} {mg : Str → Option Value} {base : Heap}
set_option pp.maxSteps 3000
abbrev sSquareL : Stmt := topS 47
theorem scSquareL : FnScope ["tape", "space", "unit", "far", "low", "i", "centres", "seat", "half", "centre", "spots", "more", "spot", "k"] ["tape"] (defScope sSquareL) := ⟨rfl, rfl, rfl, by decide +kernel, rfl, by decide +kernel, by decide +kernel⟩
theorem okSquareL {f : Addr} {fd : FuncData} (F : Fun K "_law_square" "_law_square" sSquareL f fd) (T : Tx mg) (DDrawL : Dn P w K mg base CX0 "_law_draw" 1 ["tape", "many"] spDw) (DPowerL : Dn P w K mg base CX0 "_law_power" 1 ["many"] spPower) (DSeatsL : Dn P w K mg base CX0 "_law_seats" 2 ["space", "low"] spSeats) (DSeatedL : Dn P w K mg base CX0 "_law_seated" 7 ["space", "point", "grain", "row"] spSeated) (DIsNew : Dn P w K mg base CX0 "is_new" 4 ["space", "thing"] spIsNew) (DTruthL : Dn P w K mg base CX0 "_law_truth" 1 ["got", "due"] spTruth)  : FnOk P w K mg base CX0 8 f fd ["tape"] spSquare := by
  refine F.ok scSquareL (fun vs H Q E h => ?_) (fun cdv A outer s H vs Q E hr h => ?_)
  · obtain ⟨t, l, rfl, _⟩ := h
    rfl
  · obtain ⟨t, l, rfl, Tt, kk⟩ := h
    refine ⟨_, (pss_cons (ps_set (i := 1) scSquareL.nd rfl (Or.inr rfl) (pe_ix ix_list (pe_lst (pa_cons (pe_tup (pa_cons pe_int (pa_cons pe_int pa_nil))) (pa_cons (pe_tup (pa_cons pe_int (pa_cons pe_int pa_nil))) (pa_cons (pe_tup (pa_cons pe_int (pa_cons pe_int pa_nil))) pa_nil)))) (pe_dn DDrawL (hr.mono (by omega)) (pa_cons (pv 0) (pa_cons pe_int pa_nil))) (fun _ _ => rfl)))
    (pss_cons (ps_set (i := 2) scSquareL.nd rfl (Or.inr rfl) (pe_dn DPowerL (hr.mono (by omega)) (pa_cons (pe_ix ix_tup (pv 1) pe_int (fun _ _ => rfl)) pa_nil)))
    (pss_cons (ps_set (i := 3) scSquareL.nd rfl (Or.inr rfl) (pe_ix ix_list (pe_lst (pa_cons pe_int (pa_cons pe_int (pa_cons pe_int (pa_cons pe_int pa_nil))))) (pe_dn DDrawL (hr.mono (by omega)) (pa_cons (pv 0) (pa_cons pe_int pa_nil))) (fun _ _ => rfl)))
    (pss_cons (ps_set (i := 4) scSquareL.nd rfl (Or.inr rfl) (pe_callTy call_tuple_of (by rfl) T.n_tuple (by decide +kernel) (pa_cons (pe_lc (own := [("i", 5)]) (g := (gName 5)) (by rfl) scSquareL.nd (pi_range1 rfl T.n_range (pa_cons (pe_ix ix_tup (pv 1) pe_int (fun _ _ => rfl)) pa_nil)) (blkOk_by (own := [("i", 5)]) (N := ["tape", "space", "unit", "far", "low", "i", "centres", "seat", "half", "centre", "spots", "more", "spot", "k"]) (sc := defScope sSquareL) (by decide +kernel)) (fun _ _ _ _ _ => (pg_name (i := 5) scSquareL.nd rfl (Or.inl rfl))) (fun _ _ _ _ _ => pts_nil) (fun _ _ _ _ _ => (pe_op op_mulW (pe_op op_sub (pe_dn DDrawL (hr.mono (by omega)) (pa_cons (pv 0) (pa_cons (pe_op op_add (pe_op op_mulW pe_int (pv 3)) pe_int) pa_nil))) (pv 3)) (pv 2)))) pa_nil)))
    (C8.pss_cut (ps_set (i := 6) scSquareL.nd rfl (Or.inr rfl) pe_dnewT)
    (C8.pss_cut (ps_for PassesOwn.never rfl (pi_list (pe_dn DSeatsL (hr.mono (by omega)) (pa_cons (pv 1) (pa_cons (pv 4) pa_nil)))) (pg_name (i := 7) scSquareL.nd rfl (Or.inr rfl))
    (pss_cons (ps_set (i := 8) scSquareL.nd rfl (Or.inr rfl) (pe_op op_fdiv (pe_ix ix_tup (pv 7) pe_int (fun _ _ => rfl)) pe_int))
      (pss_cons (ps_set (i := 9) scSquareL.nd rfl (Or.inl rfl) (pe_callTy call_tuple_of (by rfl) T.n_tuple (by decide +kernel) (pa_cons (pe_lc (own := [("i", 5)]) (g := (gName 5)) (by rfl) scSquareL.nd (pi_range1 rfl T.n_range (pa_cons (pe_ix ix_tup (pv 1) pe_int (fun _ _ => rfl)) pa_nil)) (blkOk_by (own := [("i", 5)]) (N := ["tape", "space", "unit", "far", "low", "i", "centres", "seat", "half", "centre", "spots", "more", "spot", "k"]) (sc := defScope sSquareL) (by decide +kernel)) (fun _ _ _ _ _ => (pg_name (i := 5) scSquareL.nd rfl (Or.inl rfl))) (fun _ _ _ _ _ => pts_nil) (fun _ _ _ _ _ => (pe_op op_add (pe_ix (r := rIxT K) ix_tup (pe_ix (r := rIxT K) ix_tup (pv 7) pe_int (fun _ _ => rfl)) (pv 5) (fun _ _ => rfl)) (pe_op op_mulW (pv 8) (pe_callTy call_int1 (by rfl) T.n_int (by decide +kernel) (pa_cons (pe_cmpR (r := rIn K false) op_in_seq (pv 5) (pe_ix (r := rIxT K) ix_tup (pv 7) pe_int (fun _ _ => rfl)) (by rfl)) pa_nil)))))) pa_nil)))
      (pss_cons (ps_if (pt_not (pt_val (pe_dn DSeatedL (hr.mono (by omega)) (pa_cons (pv 1) (pa_cons (pv 9) (pa_cons (pv 8) (pa_cons (pe_ix ix_tup (pv 7) pe_int (fun _ _ => rfl)) pa_nil)))))))
      (pss_one (ps_ret pe_bl))
      pss_nil)
      (pss_one (ps_asg pe_bl (pg_sub (pv 6) (pv 9) (set_dict (lt_units (huR hr))))))))))
    (C8.pss_cut (ps_set (i := 10) scSquareL.nd rfl (Or.inl rfl) (pe_lst (pa_cons (pe_tup pa_nil) pa_nil)))
    (C8.pss_cut (ps_for PassesOwn.never rfl (pi_range1 rfl T.n_range (pa_cons (pe_ix ix_tup (pv 1) pe_int (fun _ _ => rfl)) pa_nil)) (pg_name (i := 5) scSquareL.nd rfl (Or.inr rfl))
    (pss_cons (ps_set (i := 11) scSquareL.nd rfl (Or.inl rfl) (pe_lst pa_nil))
      (pss_cons (ps_for PassesOwn.never rfl (pi_list (pv 10)) (pg_name (i := 12) scSquareL.nd rfl (Or.inr rfl))
      (pss_one (ps_set (i := 11) scSquareL.nd rfl (Or.inl rfl) (pe_op op_cat (pv 11) (pe_lc (own := [("k", 13)]) (g := (gName 13)) (by rfl) scSquareL.nd (pi_range1 rfl T.n_range (pa_cons (pe_op op_add (pv 2) pe_int) pa_nil)) (blkOk_by (own := [("k", 13)]) (N := ["tape", "space", "unit", "far", "low", "i", "centres", "seat", "half", "centre", "spots", "more", "spot", "k"]) (sc := defScope sSquareL) (by decide +kernel)) (fun _ _ _ _ _ => (pg_name (i := 13) scSquareL.nd rfl (Or.inl rfl))) (fun _ _ _ _ _ => pts_nil) (fun _ _ _ _ _ => (pe_op (r := rCatA K) op_catA (pv 12) (pe_tup (pa_cons (pe_op op_add (pe_ix (r := rIxT K) ix_tup (pv 4) (pv 5) (fun _ _ => rfl)) (pv 13)) pa_nil)))))))))
      (pss_one (ps_set (i := 10) scSquareL.nd rfl (Or.inl rfl) (pv 11))))))
    (pss_one (ps_ret (pe_callB (cr_all rfl) (by rfl) T.n_all (by decide +kernel) (pa_cons (pe_lc (own := [("spot", 12)]) (g := (gName 12)) (by rfl) scSquareL.nd (pi_list (pv 10)) (blkOk_by (own := [("spot", 12)]) (N := ["tape", "space", "unit", "far", "low", "i", "centres", "seat", "half", "centre", "spots", "more", "spot", "k"]) (sc := defScope sSquareL) (by decide +kernel)) (fun _ _ _ _ _ => (pg_name (i := 12) scSquareL.nd rfl (Or.inl rfl))) (fun _ _ _ _ _ => pts_nil) (fun _ _ _ _ _ => (pe_dn DTruthL (hr.mono (by omega)) (pa_cons (pe_dn DIsNew (hr.mono (by omega)) (pa_cons (pv 1) (pa_cons (pv 12) pa_nil))) (pa_cons (pe_cmpR (r := rInDT) (op_inDT (lt_units (huR hr))) (pv 12) (pv 6) (by rfl)) pa_nil))))) pa_nil)))))))))))), ?_⟩
    have st0 : L2.start ["tape", "space", "unit", "far", "low", "i", "centres", "seat", "half", "centre", "spots", "more", "spot", "k"] [V.ref t] = [some (V.ref t), none, none, none, none, none, none, none, none, none, none, none, none, none] := rfl
    rw [st0]
    walk_at "rds"
    rename_i p1 m1 I1 g1 e1 t1 p2 m2 I2 g2 e2 t2 p3 m3 I3 g3 e3 t3 p4 m4 I4 g4 e4 t4
    refine' ⟨t, l, 3, rfl, ?q1, by decide, by decide, fun v1 H1 a1 b1 T1 s1 => ?_⟩
    case q1 => walk_at "tq"
    have x1 := t4 _ _ (t3 _ _ (t2 _ _ e1))
    have x2 := t4 _ _ (t3 _ _ e2)
    have x3 := t4 _ _ e3
    refine' ix_pr (R := SpV H1) ?f1 ?f2 a1 ?f3 ?_
    case f1 => exact s1 _ _ (fun _ _ _ _ z => by simp at z) e4
    case f3 => exact b1
    case f2 => exact all_cons ⟨_, 2, 1, rfl, s1 _ _ nt_tup x1, by decide, by decide, by decide, by decide⟩ (all_cons ⟨_, 2, 2, rfl, s1 _ _ nt_tup x2, by decide, by decide, by decide, by decide⟩ (all_cons ⟨_, 3, 1, rfl, s1 _ _ nt_tup x3, by decide, by decide, by decide, by decide⟩ all_nil))
    have s01 : Sam H H1 := (Sam.of (t1.trans (t2.trans (t3.trans t4)))).trans s1
    clear x1 x2 x3 e1 e2 e3 e4 t1 t2 t3 t4 g1 g2 g3 g4 s1 Tt
    rintro _ ⟨s, n, r, rfl, es, n2, n3, r1, r2⟩
    walk_at "rds"
    refine ⟨r, rfl, by omega, by omega, ?_⟩
    walk_at "rds"
    rename_i p5 m5 I5 g5 e5 t5
    refine ⟨t, l, 4, rfl, T1.to t5, by decide, by decide, fun v2 H2 a2 b2 T2 s2 => ?_⟩
    refine' ix_pr (R := FarV) ?h1 ?h2 a2 ?h3 ?_
    case h1 => exact s2 _ _ (fun _ _ _ _ z => by simp at z) e5
    case h3 => exact b2
    case h2 => exact all_cons ⟨4, rfl, by decide, by decide⟩ (all_cons ⟨4, rfl, by decide, by decide⟩ (all_cons ⟨4, rfl, by decide, by decide⟩ (all_cons ⟨230000, rfl, by decide, by decide⟩ all_nil)))
    rintro _ ⟨far, rfl, f4, f5⟩
    have es2 := s2 _ _ nt_tup (t5 _ _ es)
    have s02 : Sam H H2 := (s01.trans (Sam.of t5)).trans s2
    clear es s01 t5 e5 g5 s2 T1
    have pu := pow_cases (a := r) (by omega) (by omega)
    have pu4 : (2 : Int) ^ r.toNat ≤ 4 := by rcases (by omega : r = 1 ∨ r = 2) with rfl | rfl <;> decide
    walk_at "rds"
    refine ⟨by omega, by omega, fun d hd => ?_⟩
    have nd := T2.ne hd
    have hn : n.toNat = 2 ∨ n.toNat = 3 := by omega
    refine lc_range (lo := 0) (n := n.toNat) (fun i H4 => ∃ a : List Int, a.length = i ∧ (∀ c ∈ a, -230000 ≤ c ∧ c ≤ 230000) ∧ H4 d = some (.lst ((a.map fun x => x * 2 ^ r.toNat).map V.int)) ∧ Tq t l H4 ∧ Sam H2 H4) ⟨[], rfl, (fun c hc => by cases hc), upd_same, T2.to (same_put hd (Same.refl _)), Sam.of (same_put hd (Same.refl _))⟩ ?_ ?_
    · rintro i H4 hi ⟨a, la, ba, e4, T4, s4⟩
      refine ⟨rfl, ?_⟩
      have cw2 : CMulW 2 far := wide_small (lt64 (by omega) (by omega)) (lt64 (by omega) (by omega))
      walk_at "rds"
      refine ⟨t, l, _, rfl, T4, by omega, by omega, fun c H5 a5 b5 T5 s5 => ?_⟩
      have cw3 : CMulW (c - far) (2 ^ r.toNat) := wide_small (lt64 (by omega) (by omega)) (lt64 (by omega) (by omega))
      walk_at "rds"
      refine ⟨_, s5 _ _ nt_ints e4, ?_, a ++ [c - far], by rw [List.length_append, la]; rfl, fun x hx => ?_, by rw [upd_same, List.map_append, List.map_append]; rfl, T5.put nd, sam_put hd (s4.trans s5)⟩
      · rw [List.length_map, List.length_map, la, sizeLine_eq]
        omega
      · rcases List.mem_append.mp hx with h | h
        · exact ba x h
        · rw [List.mem_singleton.mp h]; omega
    rintro H4 ⟨a, la, ba, e4, T4, s4⟩
    walk_at "rds"
    rename_i pl m6 H6 g6 el t6
    have es6 := t6 _ _ (s4 _ _ nt_tup es2)
    have T6 := T4.to t6
    have s06 : Sam H H6 := (s02.trans s4).trans (Sam.of t6)
    have ll : ((a.map fun x => x * 2 ^ r.toNat).length : Int) = n := by rw [List.length_map]; omega
    clear es2 s02 s4 t6 T4 T2 e4 g6 hd
    generalize hU : seatsU n.toNat r.toNat (a.map fun x => x * 2 ^ r.toNat) r.toNat = U at *
    refine cut_at (fun σ' H' => ∃ pc, σ' = [some (.ref t), some (.ref s), some (.int (2 ^ r.toNat)), some (.int far), some (.ref pl), none, some (.ref pc), none, none, none, none, none, none, none] ∧ H6 pc = none ∧ H' pc = some (.dT []) ∧ Same H6 H') ?_ ?_
    · walk_at "rds"
      rename_i p9 m9 H9 g9 e9 t9
      exact ⟨m9, e9, t9⟩
    rintro _ H7 ⟨pc, rfl, fpc, ec, s7⟩
    have es7 := s7 _ _ es6
    have el7 := s7 _ _ el
    walk_at "rds"
    refine cut_at (fun σ' H' => ∃ u5 u7 u8 u9, σ' = [some (.ref t), some (.ref s), some (.int (2 ^ r.toNat)), some (.int far), some (.ref pl), u5, some (.ref pc), u7, u8, u9, none, none, none, none] ∧ H' pc = some (.dT (dSet (U.map (cOf n.toNat)))) ∧ Same H6 H') ?_ ?_
    · walk_at "rds"
      refine ⟨s, pl, n, r, _, rfl, ⟨es7, n2, n3, by omega, by omega⟩, r1, r2, el7, ll, fun q ws H8 eq tq t8 => ?_⟩
      rw [hU] at tq
      have ec8 := t8 _ _ ec
      have lU := su_len (n := n.toNat) (R := r.toNat) (low := a.map fun x => x * 2 ^ r.toNat) (i := r.toNat) (by omega) (by omega)
      rw [hU] at lU
      have lws := tq.len
      walk_at "rds"
      refine ⟨⟨_, SqL.of eq⟩, for_list (K := K) (a := q) (xs := ws) (fun i σ' H' => ∃ u5 u7 u8 u9, σ' = [some (.ref t), some (.ref s), some (.int (2 ^ r.toNat)), some (.int far), some (.ref pl), u5, some (.ref pc), u7, u8, u9, none, none, none, none] ∧ H' pc = some (.dT (dSet ((U.take i).map (cOf n.toNat)))) ∧ Same H6 H' ∧ Sx pc H8 H') ⟨_, _, _, _, rfl, ec8, s7.trans t8, fun _ _ _ e => e⟩ (fun i σ' H' _ ⟨_, _, _, _, _, _, _, x⟩ => SqL.of (x _ _ (ne_dt ec8 eq (fun _ z => by cases z)) eq)) ?_ ?_⟩
      · rintro i x σ' H9 hx ⟨u5, u7, u8, u9, rfl, ec9, s9, x9⟩
        obtain ⟨⟨stl, k, mask⟩, hs, p, sa, sb, rfl, e1, e2, e3⟩ := (tq.sx ec8 x9).at hx
        have hsU := List.mem_of_getElem? hs
        rw [← hU] at hsU
        obtain ⟨cs, lcs, hst, hcen, hk, hmask⟩ := seat_good hn la hsU
        have hst : stl = cs.map fun c => c * 2 ^ (k + 1) := hst
        have lst : stl.length = n.toNat := by rw [hst, List.length_map]; exact lcs
        have hk : k < r.toNat := hk
        have e1 : H9 p = some (.tup [.ref sa, .int (2 ^ (k + 1)), .ref sb]) := e1
        have e2 : H9 sa = some (.tup (stl.map V.int)) := e2
        have e3 : H9 sb = some (.tup ((mrowV n.toNat mask).map V.int)) := e3
        have es9 := s9 _ _ es6
        have pd : (2 : Int) ^ (k + 1) / 2 = 2 ^ k := by rw [Int.pow_succ]; exact Int.mul_ediv_cancel _ (by decide)
        have pk := pow_cases (a := (k : Int)) (by omega) (by omega)
        rw [show ((k : Int)).toNat = k from rfl] at pk
        walk_at "rds"
        rw [pd]
        walk_at "rds"
        refine ⟨by omega, by omega, fun d7 hd7 => ?_⟩
        refine lc_range (lo := 0) (n := n.toNat) (fun i I2 => I2 d7 = some (.lst (((cOf n.toNat (stl, k, mask)).take i).map V.int)) ∧ Same H9 I2) ⟨upd_same, same_put hd7 (Same.refl _)⟩ ?_ ?_
        · rintro i I2 hi ⟨f2, i2⟩
          rw [Int.zero_add]
          refine ⟨rfl, ?_⟩
          have f0 := i2 _ _ e1
          have fa := i2 _ _ e2
          have fb := i2 _ _ e3
          have cw : CMulW ((2 : Int) ^ k) (mask / 2 ^ i % 2) := wide_small (lt64 (by omega) (by omega)) (lt64 (by omega) (by omega))
          walk_at "rds"
          refine Rd.ixT fa (getD_int (by omega)) ?_
          walk_at "rds"
          refine ⟨_, _, rfl, .inr (SqT.of fb), rfl, flat_ints, ?_⟩
          rw [if_neg (by decide), inV_m hi]
          walk_at "rds"
          change rI CMulW _ _ _ _ _
          rw [bitI]
          walk_at "rds"
          refine ⟨_, f2, ?_, by rw [upd_same, cof_take hi], same_put hd7 i2⟩
          rw [List.length_map, List.length_take, sizeLine_eq]
          omega
        rintro I2 ⟨f2, i2⟩
        rw [List.take_of_length_le (by rw [cof_len]; exact Nat.le_refl _), show cOf n.toNat (stl, k, mask) = mkPt cs k mask from hcen] at f2
        walk_at "rds"
        rename_i pz mz I3 gz ez i3
        have i23 := i2.trans i3
        refine ⟨s, pz, sb, n, r, mkPt cs k mask, k, rfl, ⟨i23 _ _ es9, n2, n3, by omega, by omega⟩, ez, by rw [mk_len, lcs]; omega, mk_gr hmask, by omega, ?_, fun I4 i4 => ?_⟩
        · unfold opV
          rw [mk_op, lcs]
          exact i23 _ _ e3
        walk_at "rds"
        have i24 := i23.trans i4
        have ec4 := i24 _ _ ec9
        have hdl := dset_len ((U.take i).map (cOf n.toNat)) []
        rw [List.length_map, List.length_take] at hdl
        have hdl2 : (dSet ((U.take i).map (cOf n.toNat))).length ≤ 0 + min i U.length := hdl
        refine ⟨pc, _, rfl, DPut.t (k := keyOf (mkPt cs k mask)) ec4 (by rw [key_vs]; exact i4 _ _ ez) (by rw [sizeLine_eq]; omega), ?_⟩
        walk_at "rds"
        refine ⟨_, _, _, _, rfl, ?_, same_put fpc (s9.trans i24), (x9.trans (Sx.of i24)).upd⟩
        rw [upd_same, List.take_succ, hs, List.map_append]
        show _ = some (HO.dT (dSet (_ ++ [cOf n.toNat (stl, k, mask)])))
        rw [dset_next, show cOf n.toNat (stl, k, mask) = mkPt cs k mask from hcen]
      · rintro σ' H9 ⟨u5, u7, u8, u9, rfl, ec9, s9, x9⟩
        rw [lws, List.take_length] at ec9
        exact ⟨_, _, _, _, rfl, ec9, s9⟩
    rintro _ H8 ⟨u5, u7, u8, u9, rfl, ec8, s8⟩
    have es8 := s8 _ _ es6
    have el8 := s8 _ _ el
    walk_at "rds"
    refine cut_at (fun σ' H' => ∃ sq ss, σ' = [some (.ref t), some (.ref s), some (.int (2 ^ r.toNat)), some (.int far), some (.ref pl), u5, some (.ref pc), u7, u8, u9, some (.ref sq), none, none, none] ∧ H' sq = some (.lst ss) ∧ TsA H' ss [[]] ∧ Same H8 H') ?_ ?_
    · walk_at "rds"
      rename_i pt m1 H9 g9 e9 t9 pq m2 J1 g1 e1 t1
      exact ⟨_, _, rfl, e1, .cons (t1 _ _ e9) .nil, t9.trans t1⟩
    rintro _ H9 ⟨sq0, ss0, rfl, esq0, ts0, s9⟩
    have es9 := s9 _ _ es8
    have el9 := s9 _ _ el8
    have ec9 := s9 _ _ ec8
    have s69 := s8.trans s9
    clear s9 s8 es8 el8 ec8 s7 es7 el7
    have hb : ∀ c ∈ chL (rowsB n.toNat (a.map fun x => x * 2 ^ r.toNat) (2 ^ r.toNat)), newL r c = decide (c ∈ U.map (cOf n.toNat)) := fun c hc => by
      rw [← hU]
      exact box_new hn (by omega) la hc
    generalize hL : (a.map fun x => x * 2 ^ r.toNat) = low at *
    have lR : (rowsB n.toNat low (2 ^ r.toNat)).length = n.toNat := by unfold rowsB; rw [List.length_map, List.length_range]
    have rR : ∀ a, a < n.toNat → (rowsB n.toNat low (2 ^ r.toNat))[a]? = some ((List.range ((2 : Int) ^ r.toNat + 1).toNat).map fun k : Nat => low.getD a 0 + (k : Int)) := fun a ha => by
      unfold rowsB
      rw [List.getElem?_map, List.getElem?_range ha]
      rfl
    have rL : ∀ x ∈ rowsB n.toNat low (2 ^ r.toNat), x.length ≤ 5 := fun x hx => by
      obtain ⟨a, _, rfl⟩ := List.mem_map.mp hx
      rw [List.length_map, List.length_range]
      omega
    have cl := chG_len rL (by omega)
    have ce := chG_each (rows := rowsB n.toNat low (2 ^ r.toNat)) (by omega)
    have cn : ∀ c ∈ chL (rowsB n.toNat low (2 ^ r.toNat)), c.length = n.toNat := fun c hc => (ch_mem.mp hc).1
    generalize hRows : rowsB n.toNat low (2 ^ r.toNat) = Rows at *
    walk_at "rds"
    refine cut_at (fun σ' H' => ∃ sq ss u5 u11 u12, σ' = [some (.ref t), some (.ref s), some (.int (2 ^ r.toNat)), some (.int far), some (.ref pl), u5, some (.ref pc), u7, u8, u9, some (.ref sq), u11, u12, none] ∧ H' sq = some (.lst ss) ∧ TsA H' ss (chL Rows) ∧ Same H9 H') ?_ ?_
    · walk_at "rds"
      refine ⟨by omega, by omega, ?_⟩
      refine for_range (lo := 0) (n := n.toNat) (fun i σ' H' => ∃ sq ss u5 u11 u12, σ' = [some (.ref t), some (.ref s), some (.int (2 ^ r.toNat)), some (.int far), some (.ref pl), u5, some (.ref pc), u7, u8, u9, some (.ref sq), u11, u12, none] ∧ H' sq = some (.lst ss) ∧ TsA H' ss (chL (Rows.take i)) ∧ Same H9 H') ⟨_, _, _, _, _, rfl, esq0, ts0, Same.refl _⟩ ?_ ?_
      · rintro i σ' H7 hi ⟨sq, ss, v5, u11, u12, rfl, esq, ts, s7⟩
        have es7 := s7 _ _ es9
        have el7 := s7 _ _ el9
        rw [Int.zero_add]
        walk_at "rds"
        rename_i pm mm H8 g8 e8 t8
        have hr2 := rR i hi
        have hcn := chL_take hr2
        have lm := cl (i + 1)
        rw [hcn, step_len] at lm
        have lc := cl i
        have hci := ce i
        have leE : ((List.range ((2 : Int) ^ r.toNat + 1).toNat).map fun k : Nat => low.getD i 0 + (k : Int)).length ≤ 5 := by rw [List.length_map, List.length_range]; omega
        generalize hC : chL (Rows.take i) = C at *
        have ts8 := ts.to t8
        have esq8 := t8 _ _ esq
        have es8 := t8 _ _ es7
        have el8 := t8 _ _ el7
        have lw := ts8.len
        have s98 := s7.trans t8
        clear ts esq es7 el7 t8 s7 g8
        refine ⟨⟨_, SqL.of esq8⟩, for_list (K := K) (a := sq) (xs := ss) (fun b σ' H' => ∃ pm acc u12, σ' = [some (.ref t), some (.ref s), some (.int (2 ^ r.toNat)), some (.int far), some (.ref pl), some (.int (i : Int)), some (.ref pc), u7, u8, u9, some (.ref sq), some (.ref pm), u12, none] ∧ H' pm = some (.lst acc) ∧ TsA H' acc (stepC (C.take b) ((List.range ((2 : Int) ^ r.toNat + 1).toNat).map fun k : Nat => low.getD i 0 + (k : Int))) ∧ Same H8 H') ⟨_, _, _, rfl, e8, .nil, Same.refl _⟩ (fun b σ' H' _ ⟨_, _, _, _, _, _, s⟩ => SqL.of (s _ _ esq8)) ?_ ?_⟩
        · rintro b x σ' H9 hx ⟨pm, acc, u12, rfl, em, tm, s9⟩
          obtain ⟨pc2, c, rfl, hc2, ec⟩ := (ts8.to s9).at hx
          have el9 := s9 _ _ el8
          have am := tm.len
          rw [step_len, List.length_take] at am
          have al : acc.length ≤ 1000 := by
            have h1 : min b C.length * ((List.range ((2 : Int) ^ r.toNat + 1).toNat).map fun k : Nat => low.getD i 0 + (k : Int)).length ≤ C.length * ((List.range ((2 : Int) ^ r.toNat + 1).toNat).map fun k : Nat => low.getD i 0 + (k : Int)).length := Nat.mul_le_mul_right _ (by omega)
            omega
          walk_at "rds"
          refine ⟨by omega, by omega, fun D hD => ?_⟩
          refine lc_range (lo := 0) (n := ((2 : Int) ^ r.toNat + 1).toNat) (fun z I2 => ∃ ad, I2 D = some (.lst ad) ∧ TsA I2 ad (((List.range z).map fun k : Nat => low.getD i 0 + (k : Int)).map (fun x => c ++ [x])) ∧ Same H9 I2) ⟨[], upd_same, .nil, same_put hD (Same.refl _)⟩ ?_ ?_
          · rintro z I2 hz ⟨ad, f2, t2, i2⟩
            have ec2 := i2 _ _ ec
            have el2 := i2 _ _ el9
            have a2 := t2.len
            rw [List.length_map, List.length_map, List.length_range] at a2
            rw [Int.zero_add]
            refine ⟨rfl, ?_⟩
            walk_at "rds"
            refine Rd.ixT el2 (getD_int (by omega)) ?_
            walk_at "rds"
            rename_i pz mz I3 gz ez i3
            refine catT1 (i3 _ _ ec2) ez (by rw [List.length_map]; exact Nat.le_trans (hci c (List.mem_of_getElem? hc2)) (by decide)) fun rr J er7 sj => ?_
            have eD := sj _ _ (i3 _ _ f2)
            refine ⟨ad, eD, by rw [sizeLine_eq]; omega, ad ++ [.ref rr], upd_same, ?_, same_put hD ((i2.trans i3).trans sj)⟩
            rw [List.range_succ, List.map_append, List.map_append]
            exact (((t2.to i3).to sj).app (by rw [er7, List.map_append]; rfl)).put eD
          rintro I2 ⟨ad, f2, t2, i2⟩
          have a8 := t2.len
          rw [List.length_map, List.length_map, List.length_range] at a8
          have em2 := i2 _ _ em
          walk_at "rds"
          refine Rd.catL em2 f2 (by omega) fun p9 J9 e9 i9 m9 => ?_
          walk_at "rds"
          refine ⟨_, _, _, rfl, e9, ?_, (s9.trans i2).trans i9⟩
          rw [← step_next hc2]
          exact ((tm.to i2).cat t2).to i9
        · rintro σ' H9 ⟨pm, acc, u12, rfl, em, tm, s9⟩
          rw [lw, List.take_length, ← hcn] at tm
          walk_at "rds"
          exact ⟨_, _, _, _, _, rfl, em, tm, s98.trans s9⟩
      · rintro σ' H7 ⟨sq, ss, v5, u11, u12, rfl, esq, ts, s7⟩
        rw [show Rows.take n.toNat = Rows from List.take_of_length_le (by omega)] at ts
        exact ⟨_, _, _, _, _, rfl, esq, ts, s7⟩
    rintro _ J0 ⟨sq, ss, v5, u11, u12, rfl, esq, ts, s90⟩
    have es0 := s90 _ _ es9
    have ec0 := s90 _ _ ec9
    have s60 := s69.trans s90
    have lss := ts.len
    have cl3 := cl n.toNat
    rw [show Rows.take n.toNat = Rows from List.take_of_length_le (by omega)] at cl3
    walk_at "rds"
    refine ⟨⟨_, SqL.of esq⟩, fun d4 hd => ?_⟩
    refine lc_list (K := K) (a := sq) (xs := ss) (fun i J => J d4 = some (.lst ((List.replicate i true).map V.bl)) ∧ Same J0 J) ⟨upd_same, same_put hd (Same.refl _)⟩ (fun i J _ ⟨_, s4⟩ => SqL.of (s4 _ _ esq)) ?_ ?_
    · rintro i x J hx ⟨e4, s4⟩
      obtain ⟨pc2, c, rfl, hc2, ec⟩ := (ts.to s4).at hx
      have hcm := List.mem_of_getElem? hc2
      have lc := cn c hcm
      have hil : i < ss.length := by
        rcases Nat.lt_or_ge i ss.length with h | h
        · exact h
        · rw [List.getElem?_eq_none h] at hx; cases hx
      refine ⟨rfl, ?_⟩
      walk_at "rds"
      refine ⟨s, n, r, _, .tuple (c.map PyData.int), rfl, ⟨s4 _ _ es0, n2, n3, by omega, by omega⟩, rp_row ec (by omega), fun J5 j5 => ?_⟩
      rw [dnew_row (by omega), hb c hcm]
      walk_at "rds"
      refine ⟨pc, _, rfl, DGet.t (k := keyOf c) (j5 _ _ (s4 _ _ ec0)) (by rw [key_vs]; exact j5 _ _ ec), ?_⟩
      rw [dset_at]
      walk_at "rds"
      refine ⟨_, _, rfl, ?_⟩
      rw [decide_eq_true rfl]
      refine ⟨_, j5 _ _ e4, ?_, ?_, same_put hd (s4.trans j5)⟩
      · rw [List.length_map, List.length_replicate, sizeLine_eq]
        omega
      · rw [upd_same, List.replicate_succ', List.map_append]
        rfl
    rintro J ⟨e4, s4⟩
    walk_at "rds"
    refine ⟨d4, _, rfl, SqL.of e4, ?_⟩
    rw [show (List.replicate ss.length true).all id = true from List.all_eq_true.mpr fun b hb => (List.eq_of_mem_replicate hb)]
    exact kk _ ((T6.to s60).to s4) (s06.trans (Sam.of (s60.trans s4)))

end
end K17
end SecK15
section SecK16
set_option Elab.async false
set_option linter.all false
set_option maxRecDepth 100000
set_option maxHeartbeats 4000000
set_option pp.deepTerms false
local macro_rules | `(tactic| walk_at "tq") => `(tactic| first | assumption | (refine' Dt.Tq.to ?s0 ?h0; (case h0 => assumption); (case s0 => walk_at "same")))
local macro_rules | `(tactic| walk_at "same") => `(tactic| first | exact L2.Same.refl _ | assumption | (refine' L2.Same.trans ?s1 ?s2; (case s2 => assumption); (case s1 => walk_at "same")))
local macro_rules | `(tactic| walk_at "sam") => `(tactic| first | exact Dt.Sam.refl | assumption | exact Dt.Sam.of (by assumption) | (refine' Dt.Sam.trans ?s1 ?s2; (case s2 => first | assumption | exact Dt.Sam.of (by assumption)); (case s1 => walk_at "sam")))
local macro_rules | `(tactic| walk_at "tape") => `(tactic| first | assumption | (refine' Dt.Tape.mono ?h0 ?s0; (case h0 => assumption); (case s0 => walk_at "same")))
local macro_rules | `(tactic| walk_at "nt") => `(tactic| first | exact Dt.nt_tup | exact Dt.nt_ints | assumption | (intro a0 b0 c0 l0 z0; cases z0) | (intro a0 b0 c0 l0 z0; simp at z0))
local macro_rules | `(tactic| walk_at "heap") => `(tactic| first | assumption | exact L2.upd_same | (refine' Rd.at_to ?s0 ?h0; (case h0 => assumption); (case s0 => walk_at "same")) | (refine' Dt.at_sam ?n0 ?s0 ?h0; (case h0 => assumption); (case n0 => walk_at "nt"); (case s0 => walk_at "sam")))
local macro_rules | `(tactic| walk_at "rp") => `(tactic| first | exact Dt.Rp.int _ | exact Dt.Rp.bl _ | exact Dt.Rp.str _ | exact Dt.Rp.non | assumption | (refine' Dt.Rp.sm ?s0 ?h0; (case h0 => assumption); (case s0 => walk_at "sam")) | (refine' Dt.Rp.tup ?h1 ?h2 ?h3; (case h1 => walk_at "heap"); (case h2 => walk_at "rps"); (case h3 => first | assumption | (show _ ≤ 1000; decide) | (show _ ≤ 1000; simp) | (show _ ≤ 1000; omega))) | (refine' Dt.Rp.lst ?h1 ?h2 ?h3 ?h4; (case h1 => walk_at "heap"); (case h2 => walk_at "rps"); (case h3 => first | assumption | (show _ ≤ 1000; decide) | (show _ ≤ 1000; simp) | (show _ ≤ 1000; omega)); (case h4 => walk_at "nt")))
local macro_rules | `(tactic| walk_at "rps") => `(tactic| first | exact Dt.RpAll.nil | assumption | (refine' Dt.RpAll.cons ?h1 ?h2; (case h1 => walk_at "rp"); (case h2 => walk_at "rps")) | (refine' Dt.RpAll.sm ?s0 ?h0; (case h0 => assumption); (case s0 => walk_at "sam")))
local macro_rules | `(tactic| walk_at "rd") => `(tactic| first
  | with_reducible refine Rd.seq ?_ | with_reducible refine Rd.asg ?_ | with_reducible refine Rd.nm ?_ | with_reducible refine Rd.sub ?_ | with_reducible refine Rd.ret ?_ | with_reducible refine Rd.retN ?_
  | with_reducible refine Rd.drop ?_ | with_reducible refine Rd.ifs ?_ | with_reducible refine Rd.next ?_ | with_reducible refine Rd.cst ?_ | with_reducible refine Rd.op ?_ | with_reducible refine Rd.un ?_
  | with_reducible refine Rd.test ?_ | with_reducible refine Rd.tb' ?_ | with_reducible refine Rd.exb ?_ | with_reducible refine Rd.exi ?_ | with_reducible refine Rd.and2 ?_ | with_reducible refine Rd.or2 ?_ | with_reducible refine Rd.not1 ?_
  | with_reducible refine Rd.andV ?_ | with_reducible refine Rd.orV ?_ | with_reducible refine Rd.notV ?_ | with_reducible refine Rd.nil ?_ | with_reducible refine Rd.cons ?_ | with_reducible refine Rd.cb ?_
  | with_reducible refine Rd.i0 ?_ | with_reducible refine Rd.u1 ?_ | with_reducible refine Rd.call ?_ | with_reducible refine Rd.tup ?_ | with_reducible refine Rd.lst ?_ | with_reducible refine Rd.sl ?_ | with_reducible refine Rd.no ?_ | with_reducible refine Rd.part ?_ | with_reducible refine Rd.at_ ?_ | with_reducible refine Rd.yes ?_ | with_reducible refine Rd.fors ?_ | with_reducible refine Rd.m1 ?_ | with_reducible refine Rd.exs ?_ | with_reducible refine Rd.lc ?_ | with_reducible refine Rd.rng ?_
  | with_reducible refine Rd.mkv ?_ | with_reducible refine Rd.mko ?_ | with_reducible refine Rd.callB ?_ | with_reducible refine Rd.callS ?_ | with_reducible refine Rd.bm ?_ | with_reducible refine Rd.itl ?_ | with_reducible refine Rd.itt ?_
  | ((with_reducible refine' And.intro ?hl ?_); (case hl => ((with_reducible show List.length _ ≤ PySem.sizeLine); (show _ ≤ PySem.sizeLine); rw [PySem.sizeLine_eq]; simp)))
  | (intro p0 n0; generalize hK0 : L2.upd _ p0 _ = K0; obtain ⟨e0, t0⟩ := Dt.newK hK0 n0)
  | ((with_reducible refine' Rd.lenKL ?he ?_); (case he => walk_at "heap")) | ((with_reducible refine' Rd.lenKT ?he ?_); (case he => walk_at "heap"))
  | ((with_reducible refine' Rd.var ?hv ?_); (case hv => exact rfl))
  | ((with_reducible refine' Rd.ifT ?hv ?_); (case hv => first | exact rfl | assumption)) | ((with_reducible refine' Rd.ifF ?hv ?_); (case hv => first | exact rfl | assumption))
  | ((with_reducible refine' Rd.eq ?hv ?_); (case hv => exact rfl))
  | ((with_reducible refine' Rd.ne ?hv ?_); (case hv => exact rfl))
  | ((with_reducible refine' Dt.isi_int ?hr ?_); (case hr => walk_at "rp")) | ((with_reducible refine' Dt.isi_bool ?hr ?_); (case hr => walk_at "rp")) | ((with_reducible refine' Dt.isi_tuple ?hr ?_); (case hr => walk_at "rp")) | ((with_reducible refine' Dt.isi_str ?hr ?_); (case hr => walk_at "rp")) | ((with_reducible refine' Dt.isi_list ?hr ?_); (case hr => walk_at "rp"))
  | with_reducible refine ⟨rfl, ?_⟩ | with_reducible refine Or.inl ⟨_, rfl, ?_⟩ | with_reducible refine Or.inr ⟨_, rfl, ?_⟩ | with_reducible refine ⟨_, rfl, ?_⟩
  | ((with_reducible refine' Rd.ex2 ⟨rfl, ?hl, ?_⟩); (case hl => first | exact Or.inl ⟨_, L2.SqL.of (by walk_at "heap"), rfl⟩ | exact Or.inr ⟨_, L2.SqT.of (by walk_at "heap"), rfl⟩))
  | ((with_reducible refine' Rd.i1 ?hv ?_); (case hv => first | exact ⟨by decide, by decide, by decide⟩ | exact Or.inr ⟨by decide, by decide⟩ | exact Or.inl ⟨by decide, by decide⟩ | exact ⟨by decide, by decide⟩ | decide | assumption | (show _ ≠ _; omega) | (refine ⟨?_, ?_⟩ <;> omega) | (refine Or.inl ⟨?_, ?_⟩ <;> omega)))
  | ((with_reducible refine' Rd.ixL ?he ?hx ?_); (case he => walk_at "heap"); (case hx => rfl))
  | ((with_reducible refine' Rd.ixT ?he ?hx ?_); (case he => walk_at "heap"); (case hx => rfl))
  | ((with_reducible refine' Rd.setL ?he ?hx ?_); (case he => first | assumption | exact L2.upd_same); (case hx => rfl)))
local macro_rules | `(tactic| walk_at "rd") => `(tactic| first | with_reducible refine Rd.isT ?_ | with_reducible refine Rd.isnT ?_ | with_reducible refine Rd.ife ?_)
local macro_rules | `(tactic| walk_at "rd") => `(tactic| first | ((with_reducible refine' Rd.gtup ?he ?hl ?_); (case he => walk_at "heap"); (case hl => exact rfl)) | with_reducible refine Rd.brk ?_ | with_reducible refine Rd.callR ?_ | ((with_reducible refine' ⟨_, _, rfl, Or.inl ⟨L2.SqL.of ?hp, ?_⟩⟩); (case hp => walk_at "heap")) | ((with_reducible refine' ⟨_, _, rfl, Or.inl (L2.SqL.of ?hp), ?_⟩); (case hp => walk_at "heap")) | ((with_reducible refine' Rd.catL ?hp ?hq ?hl ?_); (case hp => walk_at "heap"); (case hq => walk_at "heap"); (case hl => (simp only [List.length_map, List.length_append, List.length_cons, List.length_nil]; omega)); (intro r0 J0 e0 t0 n0)) | with_reducible refine Rd.bits ?_ | with_reducible refine Rd.max2 ?_ | with_reducible refine Rd.gcons ?_ | with_reducible refine Rd.gnil ?_)
local macro_rules | `(tactic| walk_at "rds") => `(tactic| repeat (first | walk_at "rd" | assumption))
namespace K17
open PySem PySem.Spec PyProof.Rows L2 L2H Err Dt
open Bt
def spLaw (K : PySem.W.Frag) : Sp := fun vs H Q _ => ∃ (a : Addr) (ns : List Int), vs = [.ref a] ∧ SqL K H a (ns.map V.int) ∧ ns.length ≤ 63 ∧ ∀ H' : Hp, Q (.bl true) H'
section
variable {P : Program} {w : World} {K : PySem.W.Frag} {mg : Str → Option Value} {base : Heap}
set_option pp.maxSteps 3000
abbrev slaw : Stmt := topS 52
theorem sclaw : FnScope ["script", "tape", "space"] ["script"] (defScope slaw) := ⟨rfl, rfl, rfl, by decide +kernel, rfl, by decide +kernel, by decide +kernel⟩
theorem oklaw {f : Addr} {fd : FuncData} (F : Fun K "law" "law" slaw f fd) (T : Tx mg) (DDrawL : Dn P w K mg base CX0 "_law_draw" 1 ["tape", "many"] spDw) (DPointsL : Dn P w K mg base CX0 "_law_points" 10 ["tape", "space"] spPts) (DKindsL : Dn P w K mg base CX0 "_law_kinds" 6 ["tape", "space"] spKinds) (DRefusedL : Dn P w K mg base CX0 "_law_refused" 8 ["tape", "space"] spKinds) (DSquareL : Dn P w K mg base CX0 "_law_square" 8 ["tape"] spSquare)  : FnOk P w K mg base CX0 11 f fd ["script"] (spLaw K) := by
  refine F.ok sclaw (fun vs H Q E h => ?_) (fun cdv A outer s H vs Q E hr h => ?_)
  · obtain ⟨a, ns, rfl, _⟩ := h
    rfl
  · obtain ⟨a, ns, rfl, hS, hl, kk⟩ := h
    refine ⟨_, (pss_cons (ps_set (i := 1) sclaw.nd rfl (Or.inl rfl) (pe_lst (pa_cons pe_int (pa_cons pe_int (pa_cons pe_int (pa_cons (pe_callTy call_list_of (by rfl) T.n_list (by decide +kernel) (pa_cons (pv 0) pa_nil)) pa_nil))))))
    (pss_cons (ps_set (i := 2) sclaw.nd rfl (Or.inl rfl) (pe_tup (pa_cons (pe_op op_add pe_int (pe_dn DDrawL (hr.mono (by omega)) (pa_cons (pv 1) (pa_cons pe_int pa_nil)))) (pa_cons (pe_dn DDrawL (hr.mono (by omega)) (pa_cons (pv 1) (pa_cons pe_int pa_nil))) pa_nil))))
    (pss_cons (ps_if (PW.pt (pw_or (pt_not (pt_val (pe_dn DPointsL (hr.mono (by omega)) (pa_cons (pv 1) (pa_cons (pv 2) pa_nil))))) (pw_or (pt_not (pt_val (pe_dn DKindsL (hr.mono (by omega)) (pa_cons (pv 1) (pa_cons (pv 2) pa_nil))))) (pw_or1 (pt_not (pt_val (pe_dn DRefusedL (hr.mono (by omega)) (pa_cons (pv 1) (pa_cons (pv 2) pa_nil)))))))))
    (pss_one (ps_ret pe_bl))
    pss_nil)
    (pss_one (ps_ret (pe_or (pe_cmpR op_eq (pe_dn DDrawL (hr.mono (by omega)) (pa_cons (pv 1) (pa_cons pe_int pa_nil))) pe_int (nomark _)) (pe_one (pe_dn DSquareL (hr.mono (by omega)) (pa_cons (pv 1) pa_nil))))))))), ?_⟩
    have st0 : L2.start ["script", "tape", "space"] [V.ref a] = [some (V.ref a), none, none] := rfl
    rw [st0]
    walk_at "rds"
    refine ⟨a, _, rfl, .inl hS, fun l h1 => ?_⟩
    generalize hK1 : upd _ l _ = K1
    obtain ⟨r1, t1⟩ := newK hK1 h1
    walk_at "rds"
    rename_i t m2 K2 g2 r2 t2
    have T2 : Tq t l K2 := ⟨ns, ⟨⟨0, 40009, 0, r2, by decide⟩, t2 _ _ r1⟩, hl⟩
    refine ⟨t, l, 2, rfl, T2, by decide, by decide, fun v3 H3 a3 b3 T3 s3 => ?_⟩
    walk_at "rds"
    refine ⟨t, l, 9, rfl, T3, by decide, by decide, fun v4 H4 a4 b4 T4 s4 => ?_⟩
    walk_at "rds"
    rename_i s m5 H5 g5 es t5
    have T5 : Tq t l H5 := T4.to t5
    clear g5 hK1 r1 t1 g2 r2 t2 T2 T3 s3 T4 s4 t5 m5
    refine ⟨t, l, s, 2 + v3, v4, rfl, ⟨es, by omega, by omega, by omega, by omega⟩, T5, fun H6 T6 s6 => ?_⟩
    have e6 := s6 _ _ nt_tup es
    walk_at "rds"
    refine ⟨t, l, s, 2 + v3, v4, rfl, ⟨e6, by omega, by omega, by omega, by omega⟩, T6, fun H7 T7 s7 => ?_⟩
    have e7 := s7 _ _ nt_tup e6
    walk_at "rds"
    refine ⟨t, l, s, 2 + v3, v4, rfl, ⟨e7, by omega, by omega, by omega, by omega⟩, T7, fun H8 T8 s8 => ?_⟩
    walk_at "rds"
    refine ⟨t, l, 2, rfl, T8, by decide, by decide, fun v9 H9 a9 b9 T9 s9 => ?_⟩
    walk_at "rds"
    refine Rd.ifB (fun h => ?_) fun h => ?_
    · exact kk _
    · walk_at "rds"
      exact ⟨t, l, rfl, T9, fun H' _ _ => kk _⟩
end
end K17
end SecK16
section SecK17
set_option Elab.async false
set_option linter.all false
set_option maxRecDepth 100000
set_option maxHeartbeats 4000000
set_option pp.deepTerms false
namespace K17
open PySem PySem.Spec PyProof.Rows L2 L2H Err Dt
def eqO (a b : Option (Option Value)) : Bool := decide (a = b)
/-- what a class of errors must show -/
def clsB (K : PySem.W.Frag) (C f : Addr) (nm : List Str) : Bool :=
  eqO (PySem.W.findIn K (.ref C) "__setattr__") (some (some (.builtin "object.__setattr__"))) && (decide (PySem.W.subIn K (.ref C) (.type "BaseException") = some true) && (decide (PySem.W.typeIn K (.ref C) = some (.type "type")) && (PySem.W.keepIn K (.ref C) &&
  ((PySem.W.clsIn K C).isSome && (eqO (PySem.W.findIn K (.ref C) "__getattribute__") (some (some (.builtin "BaseException.__getattribute__"))) && (eqO (PySem.W.findIn K (.ref C) "__getattr__") (some none) && (PySem.W.hasDictIn K C &&
  (eqO (PySem.W.findIn K (.ref C) "__class__") (some (some (.builtin "object.__class__"))) && (eqO (PySem.W.specialIn K (.builtin "object.__class__") "__get__") (some (some (.builtin "getset_descriptor.__get__"))) && (decide (PySem.W.takesIn K (.builtin "object.__class__") = some true) &&
  (decide (PySem.W.mroIn K C (.type "object") = some true) && (nm.all (fun x => eqO (PySem.W.findIn K (.ref C) x) (some none)) && (eqO (PySem.W.findIn K (.ref C) "__init__") (some (some (.ref f))) && decide (PySem.W.typeIn K (.ref f) = some (.type "function")))))))))))))))
theorem ba {a b : Bool} (h : (a && b) = true) : a = true ∧ b = true := Bool.and_eq_true_iff.mp h
structure ClsS (K : PySem.W.Frag) (C f : Addr) (nm : List Str) : Prop where
  sa : PySem.W.findIn K (.ref C) "__setattr__" = some (some (.builtin "object.__setattr__"))
  exC : PySem.W.subIn K (.ref C) (.type "BaseException") = some true
  tyC : PySem.W.typeIn K (.ref C) = some (.type "type")
  kC : PySem.W.keepIn K (.ref C) = true
  cl : (PySem.W.clsIn K C).isSome = true
  ga : PySem.W.findIn K (.ref C) "__getattribute__" = some (some (.builtin "BaseException.__getattribute__"))
  gg : PySem.W.findIn K (.ref C) "__getattr__" = some none
  hd : PySem.W.hasDictIn K C = true
  ca : PySem.W.findIn K (.ref C) "__class__" = some (some (.builtin "object.__class__"))
  cn : PySem.W.specialIn K (.builtin "object.__class__") "__get__" = some (some (.builtin "getset_descriptor.__get__"))
  ct : PySem.W.takesIn K (.builtin "object.__class__") = some true
  cm : PySem.W.mroIn K C (.type "object") = some true
  no : ∀ x ∈ nm, PySem.W.findIn K (.ref C) x = some none
  iC : PySem.W.findIn K (.ref C) "__init__" = some (some (.ref f))
  tI : PySem.W.typeIn K (.ref f) = some (.type "function")
theorem clsB_ok {K : PySem.W.Frag} {C f : Addr} {nm : List Str} (h : clsB K C f nm = true) : ClsS K C f nm := by
  obtain ⟨h1, h⟩ := ba h
  obtain ⟨h2, h⟩ := ba h
  obtain ⟨h3, h⟩ := ba h
  obtain ⟨h4, h⟩ := ba h
  obtain ⟨h5, h⟩ := ba h
  obtain ⟨h6, h⟩ := ba h
  obtain ⟨h7, h⟩ := ba h
  obtain ⟨h8, h⟩ := ba h
  obtain ⟨h9, h⟩ := ba h
  obtain ⟨h10, h⟩ := ba h
  obtain ⟨h11, h⟩ := ba h
  obtain ⟨h12, h⟩ := ba h
  obtain ⟨h13, h⟩ := ba h
  obtain ⟨h14, h15⟩ := ba h
  exact ⟨of_decide_eq_true h1, of_decide_eq_true h2, of_decide_eq_true h3, h4, h5, of_decide_eq_true h6, of_decide_eq_true h7, h8, of_decide_eq_true h9, of_decide_eq_true h10, of_decide_eq_true h11, of_decide_eq_true h12, fun x hx => of_decide_eq_true (List.all_eq_true.mp h13 x hx), of_decide_eq_true h14, of_decide_eq_true h15⟩
def csL (l : List Addr) : Nat → Addr := fun i => l.getD i 0
section
variable {P : Program} {w : World} {K : PySem.W.Frag} {mg : Str → Option Value} {base : Heap}
abbrev siNotUsable : Stmt := inClass (topS 5) 0
theorem sciNotUsable : FnScope ["self", "word", "at"] ["self", "word", "at"] (defScope siNotUsable) := ⟨rfl, rfl, rfl, by decide +kernel, rfl, by decide +kernel, by decide +kernel⟩
theorem iniNotUsable {f C : Addr} {fd : FuncData} (F : Fun K "__init__" "NotUsable.__init__" siNotUsable f fd) (T : OexC K C) (h1 : PySem.W.findIn K (.ref C) "word" = some none) (h2 : PySem.W.findIn K (.ref C) "at" = some none) : FnOk P w K mg base CX0 1 f fd ["self", "word", "at"] (spI C ["word", "at"]) := by
  refine F.ok sciNotUsable (fun vs H Q E h => ?_) (fun cdv A outer s H vs Q E hr h => ?_)
  · obtain ⟨a, vals, rfl, hl, _⟩ := h
    show vals.length + 1 = _
    rw [hl]
    rfl
  · obtain ⟨a, vals, rfl, hl, ha, _, kk⟩ := h
    obtain ⟨v1, v2, rfl⟩ : ∃ v1 v2, vals = [v1, v2] := by
      match vals, hl with
      | [x, y], _ => exact ⟨x, y, rfl⟩
    refine ⟨_, pss_cons (ps_ost (pv 0) (pv 1)) (pss_one (ps_ost (pv 0) (pv 2))), ?_⟩
    refine ⟨_, rfl, _, rfl, a, C, rfl, T, h1, .inl ⟨ha, fun d nd ne => ?_⟩⟩
    refine ⟨_, rfl, _, rfl, a, C, rfl, T, h2, .inr ⟨d, _, upd_same, by rw [upd_ne ne, upd_same], by show 1 ≤ 900; decide, ?_⟩⟩
    refine kk (by decide) d _ nd ne (by rw [upd_ne ne.symm, upd_same]) upd_same fun b o nb e => ?_
    rw [upd_ne (ne_of_none e nd), upd_ne nb, upd_ne (ne_of_none e nd)]
    exact e
theorem mk_kl {x : Str} {C fI : Addr} {nm : List Str} {fd : FuncData} (g : mg x = some (.ref C)) (hC : ∃ nm q N bs bm sn sub ab col dd k0 k1 k2 k3 k5, K.lookup C = some (excClassObj nm q C N bs bm true sn sub ab col dd k0 k1 k2 k3 k5 "ValueError.__new__") ∧ PySem.HandSPX.refsVE bm = true)
    (c : ClsS K C fI nm) (F1 : OexC K C → FnOk P w K mg base CX0 1 fI fd (("self" : Str) :: nm) (spI C nm)) (b : Binds K fd (("self" : Str) :: nm) [])
    (bk : ∀ (s : Shared) (u0 : Value) (ws : List Value), K.In s.heap → ws.length = nm.reverse.length → BindsTo s fd ⟨[u0], nm.reverse.zip ws⟩ ((("self" : Str) :: nm).zip (u0 :: ws.reverse))) : Kl P w K mg base x C nm := by
  have oex : OexC K C := ⟨hC, c.sa, c.exC, c.tyC, c.kC⟩
  exact ⟨⟨oex, c.cl, c.ga, c.gg, c.hd, c.ca, c.cn, c.ct, c.cm⟩, g, c.no, fI, fd, c.iC, c.tI, F1 oex, b, bk⟩
def spNo : Sp := fun _ _ _ _ => False
theorem fn_no {k : Nat} {f : Addr} {fd : FuncData} {ps : List Str} : FnOk P w K mg base CX0 k f fd ps spNo := ⟨fun vs H Q E h => h.elim, fun A outer s H args us vs Q E hr e0 hb r h => h.elim⟩
theorem dnSame {f : Addr} {fd : FuncData} (F : Fun K "_law_same" "_law_same" sSameL f fd) (T : Tx mg) (DW : Dn P w K mg base CX0 "_law_whole" 1 ["thing"] spIsInt) (r : mg "_law_same" = some (.ref f) ∧ PySem.W.keepIn K (.ref f) = true ∧ Binds K fd ["got", "due"] []) : ∀ n, Dn P w K mg base CX0 "_law_same" (n + 2) ["got", "due"] (spSame n)
  | 0 => ⟨f, fd, okSameL F T (R := spNo) DW ⟨f, fd, fn_no, r⟩ (fun m e => by cases e), r⟩
  | n + 1 => ⟨f, fd, okSameL F T (R := spSame n) DW (dnSame F T DW r n) (fun m e => by cases e; rfl), r⟩
end
theorem all_mk {l : PySem.W.OpenLaw} {w : World} {K : PySem.W.Frag} {h : Heap} {mg : Str → Option Value} {fa : Addr} (X : K.In h) (G : h.Ns mainGlobals mg) (hfa : mg "law" = some (.ref fa))
    {CN IN SH ME : Addr} {nm0 q0 : Str} {N0 : Addr} {bs0 bm0 : List Value} {sn0 : List Str} {sub0 : List Value} {ab0 : Bool} {col0 : Option Bool} {dd0 : Option Addr} {u0 v0 x0 y0 z0 : Option Value} {oo0 oa0 : Option Addr} {os0 : Array (Option Value)} {ok0 kV0 dc0 pm0 cd0 ct0 : Value}
    {d0 : Addr} {eo0 ea0 : Option Addr} {es0 : Array (Option Value)} {ek0 eV0 ed0 ep0 ec0 et0 : Value}
    {d1 : Addr} {eo1 ea1 : Option Addr} {es1 : Array (Option Value)} {ek1 eV1 ed1 ep1 ec1 et1 : Value}
    {d2 : Addr} {eo2 ea2 : Option Addr} {es2 : Array (Option Value)} {ek2 eV2 ed2 ep2 ec2 et2 : Value}
    {d3 : Addr} {eo3 ea3 : Option Addr} {es3 : Array (Option Value)} {ek3 eV3 ed3 ep3 ec3 et3 : Value}
    {d4 : Addr} {eo4 ea4 : Option Addr} {es4 : Array (Option Value)} {ek4 eV4 ed4 ep4 ec4 et4 : Value}
    {d5 : Addr} {eo5 ea5 : Option Addr} {es5 : Array (Option Value)} {ek5 eV5 ed5 ep5 ec5 et5 : Value}
    {d6 : Addr} {eo6 ea6 : Option Addr} {es6 : Array (Option Value)} {ek6 eV6 ed6 ep6 ec6 et6 : Value}
    {d7 : Addr} {eo7 ea7 : Option Addr} {es7 : Array (Option Value)} {ek7 eV7 ed7 ep7 ec7 et7 : Value}
    {d8 : Addr} {eo8 ea8 : Option Addr} {es8 : Array (Option Value)} {ek8 eV8 ed8 ep8 ec8 et8 : Value}
    {d9 : Addr} {eo9 ea9 : Option Addr} {es9 : Array (Option Value)} {ek9 eV9 ed9 ep9 ec9 et9 : Value}
    {d10 : Addr} {eo10 ea10 : Option Addr} {es10 : Array (Option Value)} {ek10 eV10 ed10 ep10 ec10 et10 : Value}
    {d11 : Addr} {eo11 ea11 : Option Addr} {es11 : Array (Option Value)} {ek11 eV11 ed11 ep11 ec11 et11 : Value}
    {d12 : Addr} {eo12 ea12 : Option Addr} {es12 : Array (Option Value)} {ek12 eV12 ed12 ep12 ec12 et12 : Value}
    {d13 : Addr} {eo13 ea13 : Option Addr} {es13 : Array (Option Value)} {ek13 eV13 ed13 ep13 ec13 et13 : Value}
    {d14 : Addr} {eo14 ea14 : Option Addr} {es14 : Array (Option Value)} {ek14 eV14 ed14 ep14 ec14 et14 : Value}
    {d15 : Addr} {eo15 ea15 : Option Addr} {es15 : Array (Option Value)} {ek15 eV15 ed15 ep15 ec15 et15 : Value}
    {d16 : Addr} {eo16 ea16 : Option Addr} {es16 : Array (Option Value)} {ek16 eV16 ed16 ep16 ec16 et16 : Value}
    {d17 : Addr} {eo17 ea17 : Option Addr} {es17 : Array (Option Value)} {ek17 eV17 ed17 ep17 ec17 et17 : Value}
    {d18 : Addr} {eo18 ea18 : Option Addr} {es18 : Array (Option Value)} {ek18 eV18 ed18 ep18 ec18 et18 : Value}
    {d19 : Addr} {eo19 ea19 : Option Addr} {es19 : Array (Option Value)} {ek19 eV19 ed19 ep19 ec19 et19 : Value}
    {d20 : Addr} {eo20 ea20 : Option Addr} {es20 : Array (Option Value)} {ek20 eV20 ed20 ep20 ec20 et20 : Value}
    {d21 : Addr} {eo21 ea21 : Option Addr} {es21 : Array (Option Value)} {ek21 eV21 ed21 ep21 ec21 et21 : Value}
    {d22 : Addr} {eo22 ea22 : Option Addr} {es22 : Array (Option Value)} {ek22 eV22 ed22 ep22 ec22 et22 : Value}
    {d23 : Addr} {eo23 ea23 : Option Addr} {es23 : Array (Option Value)} {ek23 eV23 ed23 ep23 ec23 et23 : Value}
    {d24 : Addr} {eo24 ea24 : Option Addr} {es24 : Array (Option Value)} {ek24 eV24 ed24 ep24 ec24 et24 : Value}
    {d25 : Addr} {eo25 ea25 : Option Addr} {es25 : Array (Option Value)} {ek25 eV25 ed25 ep25 ec25 et25 : Value}
    {d26 : Addr} {eo26 ea26 : Option Addr} {es26 : Array (Option Value)} {ek26 eV26 ed26 ep26 ec26 et26 : Value}
    {d27 : Addr} {eo27 ea27 : Option Addr} {es27 : Array (Option Value)} {ek27 eV27 ed27 ep27 ec27 et27 : Value}
    {d28 : Addr} {eo28 ea28 : Option Addr} {es28 : Array (Option Value)} {ek28 eV28 ed28 ep28 ec28 et28 : Value}
    {d29 : Addr} {eo29 ea29 : Option Addr} {es29 : Array (Option Value)} {ek29 eV29 ed29 ep29 ec29 et29 : Value}
    {d30 : Addr} {eo30 ea30 : Option Addr} {es30 : Array (Option Value)} {ek30 eV30 ed30 ep30 ec30 et30 : Value}
    {d31 : Addr} {eo31 ea31 : Option Addr} {es31 : Array (Option Value)} {ek31 eV31 ed31 ep31 ec31 et31 : Value}
    {d32 : Addr} {eo32 ea32 : Option Addr} {es32 : Array (Option Value)} {ek32 eV32 ed32 ep32 ec32 et32 : Value}
    {d33 : Addr} {eo33 ea33 : Option Addr} {es33 : Array (Option Value)} {ek33 eV33 ed33 ep33 ec33 et33 : Value}
    {d34 : Addr} {eo34 ea34 : Option Addr} {es34 : Array (Option Value)} {ek34 eV34 ed34 ep34 ec34 et34 : Value}
    {d35 : Addr} {eo35 ea35 : Option Addr} {es35 : Array (Option Value)} {ek35 eV35 ed35 ep35 ec35 et35 : Value}
    {d36 : Addr} {eo36 ea36 : Option Addr} {es36 : Array (Option Value)} {ek36 eV36 ed36 ep36 ec36 et36 : Value}
    {d37 : Addr} {eo37 ea37 : Option Addr} {es37 : Array (Option Value)} {ek37 eV37 ed37 ep37 ec37 et37 : Value}
    {d38 : Addr} {eo38 ea38 : Option Addr} {es38 : Array (Option Value)} {ek38 eV38 ed38 ep38 ec38 et38 : Value}
    {d39 : Addr} {eo39 ea39 : Option Addr} {es39 : Array (Option Value)} {ek39 eV39 ed39 ep39 ec39 et39 : Value}
    {d40 : Addr} {eo40 ea40 : Option Addr} {es40 : Array (Option Value)} {ek40 eV40 ed40 ep40 ec40 et40 : Value}
    {d41 : Addr} {eo41 ea41 : Option Addr} {es41 : Array (Option Value)} {ek41 eV41 ed41 ep41 ec41 et41 : Value}
    {d42 : Addr} {eo42 ea42 : Option Addr} {es42 : Array (Option Value)} {ek42 eV42 ed42 ep42 ec42 et42 : Value}
    {d43 : Addr} {eo43 ea43 : Option Addr} {es43 : Array (Option Value)} {ek43 eV43 ed43 ep43 ec43 et43 : Value}
    (aC0 : PySem.W.nsIn K mainGlobals "NotUsable" = some (some (.ref CN)))
    (xL0 : K.lookup CN = some (excClassObj nm0 q0 CN N0 bs0 bm0 true sn0 sub0 ab0 col0 dd0 u0 v0 x0 y0 z0 "ValueError.__new__"))
    (bm0_ : PySem.HandSPX.refsVE bm0 = true)
    (iI0 : PySem.W.findIn K (.ref CN) "__init__" = some (some (.ref IN)))
    (lI0 : K.lookup IN = some ⟨ok0, oo0, .func (PySem.W.fnOf "__init__" "NotUsable.__init__" (defArgs siNotUsable) (defBody siNotUsable) (defScope siNotUsable) .none kV0 dc0 pm0 oa0 cd0 ct0), os0⟩)
    (cI0 : PySem.W.codeIn K cd0 "NotUsable.__init__" = true)
    (kI0 : PySem.W.keepIn K (.ref IN) = true)
    (aSH : PySem.W.nsIn K mainGlobals "ShapeError" = some (some (.ref SH)))
    (aME : PySem.W.nsIn K mainGlobals "MeshError" = some (some (.ref ME)))
    (aD0 : PySem.W.nsIn K mainGlobals "all_choices" = some (some (.ref d0)))
    (lD0 : K.lookup d0 = some ⟨ek0, eo0, .func (PySem.W.fnOf "all_choices" "all_choices" (defArgs sAllChoices) (defBody sAllChoices) (defScope sAllChoices) .none eV0 ed0 ep0 ea0 ec0 et0), es0⟩)
    (cD0 : PySem.W.codeIn K ec0 "all_choices" = true)
    (kD0 : PySem.W.keepIn K (.ref d0) = true)
    (aD1 : PySem.W.nsIn K mainGlobals "demand" = some (some (.ref d1)))
    (lD1 : K.lookup d1 = some ⟨ek1, eo1, .func (PySem.W.fnOf "demand" "demand" (defArgs sDemand) (defBody sDemand) (defScope sDemand) .none eV1 ed1 ep1 ea1 ec1 et1), es1⟩)
    (cD1 : PySem.W.codeIn K ec1 "demand" = true)
    (kD1 : PySem.W.keepIn K (.ref d1) = true)
    (aD2 : PySem.W.nsIn K mainGlobals "is_integer" = some (some (.ref d2)))
    (lD2 : K.lookup d2 = some ⟨ek2, eo2, .func (PySem.W.fnOf "is_integer" "is_integer" (defArgs sIsInteger) (defBody sIsInteger) (defScope sIsInteger) .none eV2 ed2 ep2 ea2 ec2 et2), es2⟩)
    (cD2 : PySem.W.codeIn K ec2 "is_integer" = true)
    (kD2 : PySem.W.keepIn K (.ref d2) = true)
    (aD3 : PySem.W.nsIn K mainGlobals "is_row" = some (some (.ref d3)))
    (lD3 : K.lookup d3 = some ⟨ek3, eo3, .func (PySem.W.fnOf "is_row" "is_row" (defArgs sIsRow) (defBody sIsRow) (defScope sIsRow) .none eV3 ed3 ep3 ea3 ec3 et3), es3⟩)
    (cD3 : PySem.W.codeIn K ec3 "is_row" = true)
    (kD3 : PySem.W.keepIn K (.ref d3) = true)
    (aD4 : PySem.W.nsIn K mainGlobals "is_space" = some (some (.ref d4)))
    (lD4 : K.lookup d4 = some ⟨ek4, eo4, .func (PySem.W.fnOf "is_space" "is_space" (defArgs sIsSpace) (defBody sIsSpace) (defScope sIsSpace) .none eV4 ed4 ep4 ea4 ec4 et4), es4⟩)
    (cD4 : PySem.W.codeIn K ec4 "is_space" = true)
    (kD4 : PySem.W.keepIn K (.ref d4) = true)
    (aD5 : PySem.W.nsIn K mainGlobals "is_point" = some (some (.ref d5)))
    (lD5 : K.lookup d5 = some ⟨ek5, eo5, .func (PySem.W.fnOf "is_point" "is_point" (defArgs sIsPoint) (defBody sIsPoint) (defScope sIsPoint) .none eV5 ed5 ep5 ea5 ec5 et5), es5⟩)
    (cD5 : PySem.W.codeIn K ec5 "is_point" = true)
    (kD5 : PySem.W.keepIn K (.ref d5) = true)
    (aD6 : PySem.W.nsIn K mainGlobals "is_new" = some (some (.ref d6)))
    (lD6 : K.lookup d6 = some ⟨ek6, eo6, .func (PySem.W.fnOf "is_new" "is_new" (defArgs sIsNew) (defBody sIsNew) (defScope sIsNew) .none eV6 ed6 ep6 ea6 ec6 et6), es6⟩)
    (cD6 : PySem.W.codeIn K ec6 "is_new" = true)
    (kD6 : PySem.W.keepIn K (.ref d6) = true)
    (aD7 : PySem.W.nsIn K mainGlobals "are_points" = some (some (.ref d7)))
    (lD7 : K.lookup d7 = some ⟨ek7, eo7, .func (PySem.W.fnOf "are_points" "are_points" (defArgs sArePoints) (defBody sArePoints) (defScope sArePoints) .none eV7 ed7 ep7 ea7 ec7 et7), es7⟩)
    (cD7 : PySem.W.codeIn K ec7 "are_points" = true)
    (kD7 : PySem.W.keepIn K (.ref d7) = true)
    (aD8 : PySem.W.nsIn K mainGlobals "is_body" = some (some (.ref d8)))
    (lD8 : K.lookup d8 = some ⟨ek8, eo8, .func (PySem.W.fnOf "is_body" "is_body" (defArgs sIsBody) (defBody sIsBody) (defScope sIsBody) .none eV8 ed8 ep8 ea8 ec8 et8), es8⟩)
    (cD8 : PySem.W.codeIn K ec8 "is_body" = true)
    (kD8 : PySem.W.keepIn K (.ref d8) = true)
    (aD9 : PySem.W.nsIn K mainGlobals "point_grain" = some (some (.ref d9)))
    (lD9 : K.lookup d9 = some ⟨ek9, eo9, .func (PySem.W.fnOf "point_grain" "point_grain" (defArgs sPointGrain) (defBody sPointGrain) (defScope sPointGrain) .none eV9 ed9 ep9 ea9 ec9 et9), es9⟩)
    (cD9 : PySem.W.codeIn K ec9 "point_grain" = true)
    (kD9 : PySem.W.keepIn K (.ref d9) = true)
    (aD10 : PySem.W.nsIn K mainGlobals "point_opened" = some (some (.ref d10)))
    (lD10 : K.lookup d10 = some ⟨ek10, eo10, .func (PySem.W.fnOf "point_opened" "point_opened" (defArgs sPointOpened) (defBody sPointOpened) (defScope sPointOpened) .none eV10 ed10 ep10 ea10 ec10 et10), es10⟩)
    (cD10 : PySem.W.codeIn K ec10 "point_opened" = true)
    (kD10 : PySem.W.keepIn K (.ref d10) = true)
    (aD11 : PySem.W.nsIn K mainGlobals "point_level" = some (some (.ref d11)))
    (lD11 : K.lookup d11 = some ⟨ek11, eo11, .func (PySem.W.fnOf "point_level" "point_level" (defArgs sPointLevel) (defBody sPointLevel) (defScope sPointLevel) .none eV11 ed11 ep11 ea11 ec11 et11), es11⟩)
    (cD11 : PySem.W.codeIn K ec11 "point_level" = true)
    (kD11 : PySem.W.keepIn K (.ref d11) = true)
    (aD12 : PySem.W.nsIn K mainGlobals "point_generation" = some (some (.ref d12)))
    (lD12 : K.lookup d12 = some ⟨ek12, eo12, .func (PySem.W.fnOf "point_generation" "point_generation" (defArgs sPointGeneration) (defBody sPointGeneration) (defScope sPointGeneration) .none eV12 ed12 ep12 ea12 ec12 et12), es12⟩)
    (cD12 : PySem.W.codeIn K ec12 "point_generation" = true)
    (kD12 : PySem.W.keepIn K (.ref d12) = true)
    (aD13 : PySem.W.nsIn K mainGlobals "point_seat" = some (some (.ref d13)))
    (lD13 : K.lookup d13 = some ⟨ek13, eo13, .func (PySem.W.fnOf "point_seat" "point_seat" (defArgs sPointSeat) (defBody sPointSeat) (defScope sPointSeat) .none eV13 ed13 ep13 ea13 ec13 et13), es13⟩)
    (cD13 : PySem.W.codeIn K ec13 "point_seat" = true)
    (kD13 : PySem.W.keepIn K (.ref d13) = true)
    (aD14 : PySem.W.nsIn K mainGlobals "point_tips" = some (some (.ref d14)))
    (lD14 : K.lookup d14 = some ⟨ek14, eo14, .func (PySem.W.fnOf "point_tips" "point_tips" (defArgs sPointTips) (defBody sPointTips) (defScope sPointTips) .none eV14 ed14 ep14 ea14 ec14 et14), es14⟩)
    (cD14 : PySem.W.codeIn K ec14 "point_tips" = true)
    (kD14 : PySem.W.keepIn K (.ref d14) = true)
    (aD15 : PySem.W.nsIn K mainGlobals "grain_of" = some (some (.ref d15)))
    (lD15 : K.lookup d15 = some ⟨ek15, eo15, .func (PySem.W.fnOf "grain_of" "grain_of" (defArgs sGrainOf) (defBody sGrainOf) (defScope sGrainOf) .none eV15 ed15 ep15 ea15 ec15 et15), es15⟩)
    (cD15 : PySem.W.codeIn K ec15 "grain_of" = true)
    (kD15 : PySem.W.keepIn K (.ref d15) = true)
    (aD16 : PySem.W.nsIn K mainGlobals "open_of" = some (some (.ref d16)))
    (lD16 : K.lookup d16 = some ⟨ek16, eo16, .func (PySem.W.fnOf "open_of" "open_of" (defArgs sOpenOf) (defBody sOpenOf) (defScope sOpenOf) .none eV16 ed16 ep16 ea16 ec16 et16), es16⟩)
    (cD16 : PySem.W.codeIn K ec16 "open_of" = true)
    (kD16 : PySem.W.keepIn K (.ref d16) = true)
    (aD17 : PySem.W.nsIn K mainGlobals "level_of" = some (some (.ref d17)))
    (lD17 : K.lookup d17 = some ⟨ek17, eo17, .func (PySem.W.fnOf "level_of" "level_of" (defArgs sLevelOf) (defBody sLevelOf) (defScope sLevelOf) .none eV17 ed17 ep17 ea17 ec17 et17), es17⟩)
    (cD17 : PySem.W.codeIn K ec17 "level_of" = true)
    (kD17 : PySem.W.keepIn K (.ref d17) = true)
    (aD18 : PySem.W.nsIn K mainGlobals "generation_of" = some (some (.ref d18)))
    (lD18 : K.lookup d18 = some ⟨ek18, eo18, .func (PySem.W.fnOf "generation_of" "generation_of" (defArgs sGenerationOf) (defBody sGenerationOf) (defScope sGenerationOf) .none eV18 ed18 ep18 ea18 ec18 et18), es18⟩)
    (cD18 : PySem.W.codeIn K ec18 "generation_of" = true)
    (kD18 : PySem.W.keepIn K (.ref d18) = true)
    (aD19 : PySem.W.nsIn K mainGlobals "seat_of" = some (some (.ref d19)))
    (lD19 : K.lookup d19 = some ⟨ek19, eo19, .func (PySem.W.fnOf "seat_of" "seat_of" (defArgs sSeatOf) (defBody sSeatOf) (defScope sSeatOf) .none eV19 ed19 ep19 ea19 ec19 et19), es19⟩)
    (cD19 : PySem.W.codeIn K ec19 "seat_of" = true)
    (kD19 : PySem.W.keepIn K (.ref d19) = true)
    (aD20 : PySem.W.nsIn K mainGlobals "tips_of" = some (some (.ref d20)))
    (lD20 : K.lookup d20 = some ⟨ek20, eo20, .func (PySem.W.fnOf "tips_of" "tips_of" (defArgs sTipsOf) (defBody sTipsOf) (defScope sTipsOf) .none eV20 ed20 ep20 ea20 ec20 et20), es20⟩)
    (cD20 : PySem.W.codeIn K ec20 "tips_of" = true)
    (kD20 : PySem.W.keepIn K (.ref d20) = true)
    (aD21 : PySem.W.nsIn K mainGlobals "seat_corners" = some (some (.ref d21)))
    (lD21 : K.lookup d21 = some ⟨ek21, eo21, .func (PySem.W.fnOf "seat_corners" "seat_corners" (defArgs sSeatCorners) (defBody sSeatCorners) (defScope sSeatCorners) .none eV21 ed21 ep21 ea21 ec21 et21), es21⟩)
    (cD21 : PySem.W.codeIn K ec21 "seat_corners" = true)
    (kD21 : PySem.W.keepIn K (.ref d21) = true)
    (aD22 : PySem.W.nsIn K mainGlobals "_law_draw" = some (some (.ref d22)))
    (lD22 : K.lookup d22 = some ⟨ek22, eo22, .func (PySem.W.fnOf "_law_draw" "_law_draw" (defArgs sDrawL) (defBody sDrawL) (defScope sDrawL) .none eV22 ed22 ep22 ea22 ec22 et22), es22⟩)
    (cD22 : PySem.W.codeIn K ec22 "_law_draw" = true)
    (kD22 : PySem.W.keepIn K (.ref d22) = true)
    (aD23 : PySem.W.nsIn K mainGlobals "_law_whole" = some (some (.ref d23)))
    (lD23 : K.lookup d23 = some ⟨ek23, eo23, .func (PySem.W.fnOf "_law_whole" "_law_whole" (defArgs sWholeL) (defBody sWholeL) (defScope sWholeL) .none eV23 ed23 ep23 ea23 ec23 et23), es23⟩)
    (cD23 : PySem.W.codeIn K ec23 "_law_whole" = true)
    (kD23 : PySem.W.keepIn K (.ref d23) = true)
    (aD24 : PySem.W.nsIn K mainGlobals "_law_same" = some (some (.ref d24)))
    (lD24 : K.lookup d24 = some ⟨ek24, eo24, .func (PySem.W.fnOf "_law_same" "_law_same" (defArgs sSameL) (defBody sSameL) (defScope sSameL) .none eV24 ed24 ep24 ea24 ec24 et24), es24⟩)
    (cD24 : PySem.W.codeIn K ec24 "_law_same" = true)
    (kD24 : PySem.W.keepIn K (.ref d24) = true)
    (aD25 : PySem.W.nsIn K mainGlobals "_law_truth" = some (some (.ref d25)))
    (lD25 : K.lookup d25 = some ⟨ek25, eo25, .func (PySem.W.fnOf "_law_truth" "_law_truth" (defArgs sTruthL) (defBody sTruthL) (defScope sTruthL) .none eV25 ed25 ep25 ea25 ec25 et25), es25⟩)
    (cD25 : PySem.W.codeIn K ec25 "_law_truth" = true)
    (kD25 : PySem.W.keepIn K (.ref d25) = true)
    (aD26 : PySem.W.nsIn K mainGlobals "_law_power" = some (some (.ref d26)))
    (lD26 : K.lookup d26 = some ⟨ek26, eo26, .func (PySem.W.fnOf "_law_power" "_law_power" (defArgs sPowerL) (defBody sPowerL) (defScope sPowerL) .none eV26 ed26 ep26 ea26 ec26 et26), es26⟩)
    (cD26 : PySem.W.codeIn K ec26 "_law_power" = true)
    (kD26 : PySem.W.keepIn K (.ref d26) = true)
    (aD27 : PySem.W.nsIn K mainGlobals "_law_lay" = some (some (.ref d27)))
    (lD27 : K.lookup d27 = some ⟨ek27, eo27, .func (PySem.W.fnOf "_law_lay" "_law_lay" (defArgs sLayL) (defBody sLayL) (defScope sLayL) .none eV27 ed27 ep27 ea27 ec27 et27), es27⟩)
    (cD27 : PySem.W.codeIn K ec27 "_law_lay" = true)
    (kD27 : PySem.W.keepIn K (.ref d27) = true)
    (aD28 : PySem.W.nsIn K mainGlobals "_law_corners" = some (some (.ref d28)))
    (lD28 : K.lookup d28 = some ⟨ek28, eo28, .func (PySem.W.fnOf "_law_corners" "_law_corners" (defArgs sCornersL) (defBody sCornersL) (defScope sCornersL) .none eV28 ed28 ep28 ea28 ec28 et28), es28⟩)
    (cD28 : PySem.W.codeIn K ec28 "_law_corners" = true)
    (kD28 : PySem.W.keepIn K (.ref d28) = true)
    (aD29 : PySem.W.nsIn K mainGlobals "_law_tip" = some (some (.ref d29)))
    (lD29 : K.lookup d29 = some ⟨ek29, eo29, .func (PySem.W.fnOf "_law_tip" "_law_tip" (defArgs sTipL) (defBody sTipL) (defScope sTipL) .none eV29 ed29 ep29 ea29 ec29 et29), es29⟩)
    (cD29 : PySem.W.codeIn K ec29 "_law_tip" = true)
    (kD29 : PySem.W.keepIn K (.ref d29) = true)
    (aD30 : PySem.W.nsIn K mainGlobals "_law_seated" = some (some (.ref d30)))
    (lD30 : K.lookup d30 = some ⟨ek30, eo30, .func (PySem.W.fnOf "_law_seated" "_law_seated" (defArgs sSeatedL) (defBody sSeatedL) (defScope sSeatedL) .none eV30 ed30 ep30 ea30 ec30 et30), es30⟩)
    (cD30 : PySem.W.codeIn K ec30 "_law_seated" = true)
    (kD30 : PySem.W.keepIn K (.ref d30) = true)
    (aD31 : PySem.W.nsIn K mainGlobals "_law_told" = some (some (.ref d31)))
    (lD31 : K.lookup d31 = some ⟨ek31, eo31, .func (PySem.W.fnOf "_law_told" "_law_told" (defArgs sToldL) (defBody sToldL) (defScope sToldL) .none eV31 ed31 ep31 ea31 ec31 et31), es31⟩)
    (cD31 : PySem.W.codeIn K ec31 "_law_told" = true)
    (kD31 : PySem.W.keepIn K (.ref d31) = true)
    (aD32 : PySem.W.nsIn K mainGlobals "_law_based" = some (some (.ref d32)))
    (lD32 : K.lookup d32 = some ⟨ek32, eo32, .func (PySem.W.fnOf "_law_based" "_law_based" (defArgs sBasedL) (defBody sBasedL) (defScope sBasedL) .none eV32 ed32 ep32 ea32 ec32 et32), es32⟩)
    (cD32 : PySem.W.codeIn K ec32 "_law_based" = true)
    (kD32 : PySem.W.keepIn K (.ref d32) = true)
    (aD33 : PySem.W.nsIn K mainGlobals "_law_looked" = some (some (.ref d33)))
    (lD33 : K.lookup d33 = some ⟨ek33, eo33, .func (PySem.W.fnOf "_law_looked" "_law_looked" (defArgs sLookedL) (defBody sLookedL) (defScope sLookedL) .none eV33 ed33 ep33 ea33 ec33 et33), es33⟩)
    (cD33 : PySem.W.codeIn K ec33 "_law_looked" = true)
    (kD33 : PySem.W.keepIn K (.ref d33) = true)
    (aD34 : PySem.W.nsIn K mainGlobals "_law_coordinate" = some (some (.ref d34)))
    (lD34 : K.lookup d34 = some ⟨ek34, eo34, .func (PySem.W.fnOf "_law_coordinate" "_law_coordinate" (defArgs sCoordinateL) (defBody sCoordinateL) (defScope sCoordinateL) .none eV34 ed34 ep34 ea34 ec34 et34), es34⟩)
    (cD34 : PySem.W.codeIn K ec34 "_law_coordinate" = true)
    (kD34 : PySem.W.keepIn K (.ref d34) = true)
    (aD35 : PySem.W.nsIn K mainGlobals "_law_points" = some (some (.ref d35)))
    (lD35 : K.lookup d35 = some ⟨ek35, eo35, .func (PySem.W.fnOf "_law_points" "_law_points" (defArgs sPointsL) (defBody sPointsL) (defScope sPointsL) .none eV35 ed35 ep35 ea35 ec35 et35), es35⟩)
    (cD35 : PySem.W.codeIn K ec35 "_law_points" = true)
    (kD35 : PySem.W.keepIn K (.ref d35) = true)
    (aD36 : PySem.W.nsIn K mainGlobals "_law_ends" = some (some (.ref d36)))
    (lD36 : K.lookup d36 = some ⟨ek36, eo36, .func (PySem.W.fnOf "_law_ends" "_law_ends" (defArgs sEndsL) (defBody sEndsL) (defScope sEndsL) .none eV36 ed36 ep36 ea36 ec36 et36), es36⟩)
    (cD36 : PySem.W.codeIn K ec36 "_law_ends" = true)
    (kD36 : PySem.W.keepIn K (.ref d36) = true)
    (aD37 : PySem.W.nsIn K mainGlobals "_law_seats" = some (some (.ref d37)))
    (lD37 : K.lookup d37 = some ⟨ek37, eo37, .func (PySem.W.fnOf "_law_seats" "_law_seats" (defArgs sSeatsL) (defBody sSeatsL) (defScope sSeatsL) .none eV37 ed37 ep37 ea37 ec37 et37), es37⟩)
    (cD37 : PySem.W.codeIn K ec37 "_law_seats" = true)
    (kD37 : PySem.W.keepIn K (.ref d37) = true)
    (aD38 : PySem.W.nsIn K mainGlobals "_law_square" = some (some (.ref d38)))
    (lD38 : K.lookup d38 = some ⟨ek38, eo38, .func (PySem.W.fnOf "_law_square" "_law_square" (defArgs sSquareL) (defBody sSquareL) (defScope sSquareL) .none eV38 ed38 ep38 ea38 ec38 et38), es38⟩)
    (cD38 : PySem.W.codeIn K ec38 "_law_square" = true)
    (kD38 : PySem.W.keepIn K (.ref d38) = true)
    (aD39 : PySem.W.nsIn K mainGlobals "_law_pointed" = some (some (.ref d39)))
    (lD39 : K.lookup d39 = some ⟨ek39, eo39, .func (PySem.W.fnOf "_law_pointed" "_law_pointed" (defArgs sPointedL) (defBody sPointedL) (defScope sPointedL) .none eV39 ed39 ep39 ea39 ec39 et39), es39⟩)
    (cD39 : PySem.W.codeIn K ec39 "_law_pointed" = true)
    (kD39 : PySem.W.keepIn K (.ref d39) = true)
    (aD40 : PySem.W.nsIn K mainGlobals "_law_thing" = some (some (.ref d40)))
    (lD40 : K.lookup d40 = some ⟨ek40, eo40, .func (PySem.W.fnOf "_law_thing" "_law_thing" (defArgs sThingL) (defBody sThingL) (defScope sThingL) .none eV40 ed40 ep40 ea40 ec40 et40), es40⟩)
    (cD40 : PySem.W.codeIn K ec40 "_law_thing" = true)
    (kD40 : PySem.W.keepIn K (.ref d40) = true)
    (aD41 : PySem.W.nsIn K mainGlobals "_law_kinds" = some (some (.ref d41)))
    (lD41 : K.lookup d41 = some ⟨ek41, eo41, .func (PySem.W.fnOf "_law_kinds" "_law_kinds" (defArgs sKindsL) (defBody sKindsL) (defScope sKindsL) .none eV41 ed41 ep41 ea41 ec41 et41), es41⟩)
    (cD41 : PySem.W.codeIn K ec41 "_law_kinds" = true)
    (kD41 : PySem.W.keepIn K (.ref d41) = true)
    (aD42 : PySem.W.nsIn K mainGlobals "_law_refused" = some (some (.ref d42)))
    (lD42 : K.lookup d42 = some ⟨ek42, eo42, .func (PySem.W.fnOf "_law_refused" "_law_refused" (defArgs sRefusedL) (defBody sRefusedL) (defScope sRefusedL) .none eV42 ed42 ep42 ea42 ec42 et42), es42⟩)
    (cD42 : PySem.W.codeIn K ec42 "_law_refused" = true)
    (kD42 : PySem.W.keepIn K (.ref d42) = true)
    (aD43 : PySem.W.nsIn K mainGlobals "law" = some (some (.ref d43)))
    (lD43 : K.lookup d43 = some ⟨ek43, eo43, .func (PySem.W.fnOf "law" "law" (defArgs slaw) (defBody slaw) (defScope slaw) .none eV43 ed43 ep43 ea43 ec43 et43), es43⟩)
    (cD43 : PySem.W.codeIn K ec43 "law" = true)
    (kD43 : PySem.W.keepIn K (.ref d43) = true)
    (n_int : PySem.W.nsIn K mainGlobals "int" = some none)
    (n_abs : PySem.W.nsIn K mainGlobals "abs" = some none)
    (n_len : PySem.W.nsIn K mainGlobals "len" = some none)
    (n_range : PySem.W.nsIn K mainGlobals "range" = some none)
    (n_tuple : PySem.W.nsIn K mainGlobals "tuple" = some none)
    (n_list : PySem.W.nsIn K mainGlobals "list" = some none)
    (n_bool : PySem.W.nsIn K mainGlobals "bool" = some none)
    (n_str : PySem.W.nsIn K mainGlobals "str" = some none)
    (n_all : PySem.W.nsIn K mainGlobals "all" = some none)
    (n_any : PySem.W.nsIn K mainGlobals "any" = some none)
    (n_isinstance : PySem.W.nsIn K mainGlobals "isinstance" = some none)
    (n_ValueError : PySem.W.nsIn K mainGlobals "ValueError" = some none)
    (n_zip : PySem.W.nsIn K mainGlobals "zip" = some none)
    (cB : clsB K CN IN ["word", "at"] = true)
    (kB : (decide (PySem.W.kitOne K (.ref CN) (.ref SH) = some true) && (decide (PySem.W.kitOne K (.ref CN) (.type "ValueError") = some true) && decide (PySem.W.exmOne K (.ref CN) (.ref CN) = some true))) = true) :
    ∃ fd : FuncData, (∀ (s : Shared) (v : Value), BindsTo s fd ⟨[v], []⟩ [("script", v)]) ∧ ∀ base : Heap, K.In base → base.Ns mainGlobals mg → FnOk l.prog w K mg base CX0 11 fa fd ["script"] (spLaw K) := by
  have e := hfa.symm.trans (PySem.W.mg_of X G aD43)
  cases e
  refine ⟨PySem.W.fnOf "law" "law" (defArgs slaw) (defBody slaw) (defScope slaw) .none eV43 ed43 ep43 ea43 ec43 et43, fun s v => .of_eq rfl, fun base _ _ => ?_⟩
  have T : Tx mg := ⟨PySem.W.mg_none_of X G n_int, PySem.W.mg_none_of X G n_abs, PySem.W.mg_none_of X G n_len, PySem.W.mg_none_of X G n_range, PySem.W.mg_none_of X G n_tuple, PySem.W.mg_none_of X G n_list, PySem.W.mg_none_of X G n_bool, PySem.W.mg_none_of X G n_str, PySem.W.mg_none_of X G n_all, PySem.W.mg_none_of X G n_any, PySem.W.mg_none_of X G n_isinstance, PySem.W.mg_none_of X G n_ValueError, PySem.W.mg_none_of X G n_zip⟩
  have FI0 := fun_mk (st := siNotUsable) lI0 cI0 kI0
  have bI0 := FI0.binds (ps := ("self" : Str) :: ["word", "at"]) fun _ _ _ _ _ _ us hl => match us, hl with | [_, _, _], _ => rfl
  have L : Kl l.prog w K mg base "NotUsable" CN ["word", "at"] := mk_kl (PySem.W.mg_of X G aC0) ⟨_, _, _, _, _, _, _, _, _, _, _, _, _, _, _, xL0, bm0_⟩ (clsB_ok cB) (fun o => iniNotUsable FI0 o ((clsB_ok cB).no _ (by exact List.mem_cons_self)) ((clsB_ok cB).no _ (by exact List.mem_cons_of_mem _ List.mem_cons_self))) bI0 (fun s u0 ws _ hl => match ws, hl with | [_, _], _ => .of_eq rfl)
  have q := ba kB
  have C : Nk l.prog w K mg base CN SH ME := ⟨L, PySem.W.mg_of X G aSH, PySem.W.mg_of X G aME, of_decide_eq_true q.1, of_decide_eq_true (ba q.2).1, of_decide_eq_true (ba q.2).2⟩
  have FD22 := fun_mk (st := sDrawL) lD22 cD22 kD22
  have r22 : mg "_law_draw" = some (.ref d22) ∧ PySem.W.keepIn K (.ref d22) = true ∧ Binds K _ ["tape", "many"] [] := ⟨PySem.W.mg_of X G aD22, kD22, FD22.binds (ps := ["tape", "many"]) fun _ _ _ _ _ _ us hl => match us, hl with | [_, _], _ => rfl⟩
  have DDrawL : Dn l.prog w K mg base CX0 "_law_draw" 1 ["tape", "many"] spDw := ⟨_, _, fn_imp dw_dr (okDrawL FD22 T), r22⟩
  have FD26 := fun_mk (st := sPowerL) lD26 cD26 kD26
  have r26 : mg "_law_power" = some (.ref d26) ∧ PySem.W.keepIn K (.ref d26) = true ∧ Binds K _ ["many"] [] := ⟨PySem.W.mg_of X G aD26, kD26, FD26.binds (ps := ["many"]) fun _ _ _ _ _ _ us hl => match us, hl with | [_], _ => rfl⟩
  have DPowerL : Dn l.prog w K mg base _ "_law_power" _ ["many"] _ := ⟨_, _, okPowerL FD26 T , r26⟩
  have FD34 := fun_mk (st := sCoordinateL) lD34 cD34 kD34
  have r34 : mg "_law_coordinate" = some (.ref d34) ∧ PySem.W.keepIn K (.ref d34) = true ∧ Binds K _ ["tape", "rounds"] [] := ⟨PySem.W.mg_of X G aD34, kD34, FD34.binds (ps := ["tape", "rounds"]) fun _ _ _ _ _ _ us hl => match us, hl with | [_, _], _ => rfl⟩
  have DCoordinateL : Dn l.prog w K mg base _ "_law_coordinate" _ ["tape", "rounds"] _ := ⟨_, _, okCoordinateL FD34 T DDrawL DPowerL, r34⟩
  have FD27 := fun_mk (st := sLayL) lD27 cD27 kD27
  have r27 : mg "_law_lay" = some (.ref d27) ∧ PySem.W.keepIn K (.ref d27) = true ∧ Binds K _ ["rounds", "point"] [] := ⟨PySem.W.mg_of X G aD27, kD27, FD27.binds (ps := ["rounds", "point"]) fun _ _ _ _ _ _ us hl => match us, hl with | [_, _], _ => rfl⟩
  have DLayL : Dn l.prog w K mg base _ "_law_lay" _ ["rounds", "point"] _ := ⟨_, _, okLayL FD27 T , r27⟩
  have FD2 := fun_mk (st := sIsInteger) lD2 cD2 kD2
  have r2 : mg "is_integer" = some (.ref d2) ∧ PySem.W.keepIn K (.ref d2) = true ∧ Binds K _ ["thing"] [] := ⟨PySem.W.mg_of X G aD2, kD2, FD2.binds (ps := ["thing"]) fun _ _ _ _ _ _ us hl => match us, hl with | [_], _ => rfl⟩
  have DIsInteger : Dn l.prog w K mg base _ "is_integer" _ ["thing"] _ := ⟨_, _, okIsInteger FD2 T , r2⟩
  have FD3 := fun_mk (st := sIsRow) lD3 cD3 kD3
  have r3 : mg "is_row" = some (.ref d3) ∧ PySem.W.keepIn K (.ref d3) = true ∧ Binds K _ ["many", "thing"] [] := ⟨PySem.W.mg_of X G aD3, kD3, FD3.binds (ps := ["many", "thing"]) fun _ _ _ _ _ _ us hl => match us, hl with | [_, _], _ => rfl⟩
  have DIsRow : Dn l.prog w K mg base _ "is_row" _ ["many", "thing"] _ := ⟨_, _, okIsRow FD3 T DIsInteger, r3⟩
  have FD5 := fun_mk (st := sIsPoint) lD5 cD5 kD5
  have r5 : mg "is_point" = some (.ref d5) ∧ PySem.W.keepIn K (.ref d5) = true ∧ Binds K _ ["space", "thing"] [] := ⟨PySem.W.mg_of X G aD5, kD5, FD5.binds (ps := ["space", "thing"]) fun _ _ _ _ _ _ us hl => match us, hl with | [_, _], _ => rfl⟩
  have DIsPoint : Dn l.prog w K mg base _ "is_point" _ ["space", "thing"] _ := ⟨_, _, okIsPoint FD5 T DIsRow, r5⟩
  have KDIsPoint : Dk l.prog w K mg base _ "is_point" _ ["space", "thing"] _ := ⟨_, _, okIsPoint FD5 T DIsRow, PySem.W.mg_of X G aD5, kD5, fun s ws _ hl => match ws, hl with | [_, _], _ => .of_eq rfl⟩
  have FD6 := fun_mk (st := sIsNew) lD6 cD6 kD6
  have r6 : mg "is_new" = some (.ref d6) ∧ PySem.W.keepIn K (.ref d6) = true ∧ Binds K _ ["space", "thing"] [] := ⟨PySem.W.mg_of X G aD6, kD6, FD6.binds (ps := ["space", "thing"]) fun _ _ _ _ _ _ us hl => match us, hl with | [_, _], _ => rfl⟩
  have DIsNew : Dn l.prog w K mg base _ "is_new" _ ["space", "thing"] _ := ⟨_, _, okIsNew FD6 T DIsPoint, r6⟩
  have KDIsNew : Dk l.prog w K mg base _ "is_new" _ ["space", "thing"] _ := ⟨_, _, okIsNew FD6 T DIsPoint, PySem.W.mg_of X G aD6, kD6, fun s ws _ hl => match ws, hl with | [_, _], _ => .of_eq rfl⟩
  have FD23 := fun_mk (st := sWholeL) lD23 cD23 kD23
  have r23 : mg "_law_whole" = some (.ref d23) ∧ PySem.W.keepIn K (.ref d23) = true ∧ Binds K _ ["thing"] [] := ⟨PySem.W.mg_of X G aD23, kD23, FD23.binds (ps := ["thing"]) fun _ _ _ _ _ _ us hl => match us, hl with | [_], _ => rfl⟩
  have DWholeM : Dm l.prog w K mg base "_law_whole" 1 ["thing"] (fun _ => spIsInt) := ⟨_, _, okWholeL FD23 T, r23⟩
  have DWholeL : Dn l.prog w K mg base CX0 "_law_whole" 1 ["thing"] spIsInt := DWholeM.dn
  have FD24 := fun_mk (st := sSameL) lD24 cD24 kD24
  have r24 : mg "_law_same" = some (.ref d24) ∧ PySem.W.keepIn K (.ref d24) = true ∧ Binds K _ ["got", "due"] [] := ⟨PySem.W.mg_of X G aD24, kD24, FD24.binds (ps := ["got", "due"]) fun _ _ _ _ _ _ us hl => match us, hl with | [_, _], _ => rfl⟩
  have DSameL : Dn l.prog w K mg base CX0 "_law_same" 4 ["got", "due"] (spSame 2) := dnSame FD24 T DWholeL r24 2
  have FD1 := fun_mk (st := sDemand) lD1 cD1 kD1
  have r1 : mg "demand" = some (.ref d1) ∧ PySem.W.keepIn K (.ref d1) = true ∧ Binds K _ ["fits", "word"] [] := ⟨PySem.W.mg_of X G aD1, kD1, FD1.binds (ps := ["fits", "word"]) fun _ _ _ _ _ _ us hl => match us, hl with | [_, _], _ => rfl⟩
  have DDemand : Dn l.prog w K mg base _ "demand" _ ["fits", "word"] _ := ⟨_, _, okDemand FD1 T L, r1⟩
  have FD9 := fun_mk (st := sPointGrain) lD9 cD9 kD9
  have r9 : mg "point_grain" = some (.ref d9) ∧ PySem.W.keepIn K (.ref d9) = true ∧ Binds K _ ["point"] [] := ⟨PySem.W.mg_of X G aD9, kD9, FD9.binds (ps := ["point"]) fun _ _ _ _ _ _ us hl => match us, hl with | [_], _ => rfl⟩
  have DPointGrain : Dn l.prog w K mg base _ "point_grain" _ ["point"] _ := ⟨_, _, okPointGrain FD9 T , r9⟩
  have FD11 := fun_mk (st := sPointLevel) lD11 cD11 kD11
  have r11 : mg "point_level" = some (.ref d11) ∧ PySem.W.keepIn K (.ref d11) = true ∧ Binds K _ ["space", "point"] [] := ⟨PySem.W.mg_of X G aD11, kD11, FD11.binds (ps := ["space", "point"]) fun _ _ _ _ _ _ us hl => match us, hl with | [_, _], _ => rfl⟩
  have DPointLevel : Dn l.prog w K mg base _ "point_level" _ ["space", "point"] _ := ⟨_, _, okPointLevel FD11 T DPointGrain, r11⟩
  have FD10 := fun_mk (st := sPointOpened) lD10 cD10 kD10
  have r10 : mg "point_opened" = some (.ref d10) ∧ PySem.W.keepIn K (.ref d10) = true ∧ Binds K _ ["point"] [] := ⟨PySem.W.mg_of X G aD10, kD10, FD10.binds (ps := ["point"]) fun _ _ _ _ _ _ us hl => match us, hl with | [_], _ => rfl⟩
  have DPointOpened : Dn l.prog w K mg base _ "point_opened" _ ["point"] _ := ⟨_, _, okPointOpened FD10 T DPointGrain, r10⟩
  have FD12 := fun_mk (st := sPointGeneration) lD12 cD12 kD12
  have r12 : mg "point_generation" = some (.ref d12) ∧ PySem.W.keepIn K (.ref d12) = true ∧ Binds K _ ["space", "point"] [] := ⟨PySem.W.mg_of X G aD12, kD12, FD12.binds (ps := ["space", "point"]) fun _ _ _ _ _ _ us hl => match us, hl with | [_, _], _ => rfl⟩
  have DPointGeneration : Dn l.prog w K mg base _ "point_generation" _ ["space", "point"] _ := ⟨_, _, okPointGeneration FD12 T DIsNew DPointLevel DPointOpened, r12⟩
  have FD18 := fun_mk (st := sGenerationOf) lD18 cD18 kD18
  have r18 : mg "generation_of" = some (.ref d18) ∧ PySem.W.keepIn K (.ref d18) = true ∧ Binds K _ ["space", "point"] [] := ⟨PySem.W.mg_of X G aD18, kD18, FD18.binds (ps := ["space", "point"]) fun _ _ _ _ _ _ us hl => match us, hl with | [_, _], _ => rfl⟩
  have DGenerationOf : Dn l.prog w K mg base _ "generation_of" _ ["space", "point"] _ := ⟨_, _, okGenerationOf FD18 T DDemand DIsPoint DPointGeneration, r18⟩
  have KDGenerationOf : Dk l.prog w K mg base _ "generation_of" _ ["space", "point"] _ := ⟨_, _, okGenerationOf FD18 T DDemand DIsPoint DPointGeneration, PySem.W.mg_of X G aD18, kD18, fun s ws _ hl => match ws, hl with | [_, _], _ => .of_eq rfl⟩
  have FD15 := fun_mk (st := sGrainOf) lD15 cD15 kD15
  have r15 : mg "grain_of" = some (.ref d15) ∧ PySem.W.keepIn K (.ref d15) = true ∧ Binds K _ ["space", "point"] [] := ⟨PySem.W.mg_of X G aD15, kD15, FD15.binds (ps := ["space", "point"]) fun _ _ _ _ _ _ us hl => match us, hl with | [_, _], _ => rfl⟩
  have DGrainOf : Dn l.prog w K mg base _ "grain_of" _ ["space", "point"] _ := ⟨_, _, okGrainOf FD15 T DDemand DIsNew DPointGrain, r15⟩
  have KDGrainOf : Dk l.prog w K mg base _ "grain_of" _ ["space", "point"] _ := ⟨_, _, okGrainOf FD15 T DDemand DIsNew DPointGrain, PySem.W.mg_of X G aD15, kD15, fun s ws _ hl => match ws, hl with | [_, _], _ => .of_eq rfl⟩
  have FD16 := fun_mk (st := sOpenOf) lD16 cD16 kD16
  have r16 : mg "open_of" = some (.ref d16) ∧ PySem.W.keepIn K (.ref d16) = true ∧ Binds K _ ["space", "point"] [] := ⟨PySem.W.mg_of X G aD16, kD16, FD16.binds (ps := ["space", "point"]) fun _ _ _ _ _ _ us hl => match us, hl with | [_, _], _ => rfl⟩
  have DOpenOf : Dn l.prog w K mg base _ "open_of" _ ["space", "point"] _ := ⟨_, _, okOpenOf FD16 T DDemand DIsNew DPointOpened, r16⟩
  have KDOpenOf : Dk l.prog w K mg base _ "open_of" _ ["space", "point"] _ := ⟨_, _, okOpenOf FD16 T DDemand DIsNew DPointOpened, PySem.W.mg_of X G aD16, kD16, fun s ws _ hl => match ws, hl with | [_, _], _ => .of_eq rfl⟩
  have FD17 := fun_mk (st := sLevelOf) lD17 cD17 kD17
  have r17 : mg "level_of" = some (.ref d17) ∧ PySem.W.keepIn K (.ref d17) = true ∧ Binds K _ ["space", "point"] [] := ⟨PySem.W.mg_of X G aD17, kD17, FD17.binds (ps := ["space", "point"]) fun _ _ _ _ _ _ us hl => match us, hl with | [_, _], _ => rfl⟩
  have DLevelOf : Dn l.prog w K mg base _ "level_of" _ ["space", "point"] _ := ⟨_, _, okLevelOf FD17 T DDemand DIsNew DPointLevel, r17⟩
  have KDLevelOf : Dk l.prog w K mg base _ "level_of" _ ["space", "point"] _ := ⟨_, _, okLevelOf FD17 T DDemand DIsNew DPointLevel, PySem.W.mg_of X G aD17, kD17, fun s ws _ hl => match ws, hl with | [_, _], _ => .of_eq rfl⟩
  have FD13 := fun_mk (st := sPointSeat) lD13 cD13 kD13
  have r13 : mg "point_seat" = some (.ref d13) ∧ PySem.W.keepIn K (.ref d13) = true ∧ Binds K _ ["point"] [] := ⟨PySem.W.mg_of X G aD13, kD13, FD13.binds (ps := ["point"]) fun _ _ _ _ _ _ us hl => match us, hl with | [_], _ => rfl⟩
  have DPointSeat : Dn l.prog w K mg base _ "point_seat" _ ["point"] _ := ⟨_, _, okPointSeat FD13 T DPointGrain DPointOpened, r13⟩
  have FD19 := fun_mk (st := sSeatOf) lD19 cD19 kD19
  have r19 : mg "seat_of" = some (.ref d19) ∧ PySem.W.keepIn K (.ref d19) = true ∧ Binds K _ ["space", "point"] [] := ⟨PySem.W.mg_of X G aD19, kD19, FD19.binds (ps := ["space", "point"]) fun _ _ _ _ _ _ us hl => match us, hl with | [_, _], _ => rfl⟩
  have DSeatOf : Dn l.prog w K mg base _ "seat_of" _ ["space", "point"] _ := ⟨_, _, okSeatOf FD19 T DDemand DIsNew DPointSeat, r19⟩
  have KDSeatOf : Dk l.prog w K mg base _ "seat_of" _ ["space", "point"] _ := ⟨_, _, okSeatOf FD19 T DDemand DIsNew DPointSeat, PySem.W.mg_of X G aD19, kD19, fun s ws _ hl => match ws, hl with | [_, _], _ => .of_eq rfl⟩
  have FD14 := fun_mk (st := sPointTips) lD14 cD14 kD14
  have r14 : mg "point_tips" = some (.ref d14) ∧ PySem.W.keepIn K (.ref d14) = true ∧ Binds K _ ["point"] [] := ⟨PySem.W.mg_of X G aD14, kD14, FD14.binds (ps := ["point"]) fun _ _ _ _ _ _ us hl => match us, hl with | [_], _ => rfl⟩
  have DPointTips : Dn l.prog w K mg base _ "point_tips" _ ["point"] _ := ⟨_, _, okPointTips FD14 T DPointGrain DPointSeat, r14⟩
  have FD20 := fun_mk (st := sTipsOf) lD20 cD20 kD20
  have r20 : mg "tips_of" = some (.ref d20) ∧ PySem.W.keepIn K (.ref d20) = true ∧ Binds K _ ["space", "point"] [] := ⟨PySem.W.mg_of X G aD20, kD20, FD20.binds (ps := ["space", "point"]) fun _ _ _ _ _ _ us hl => match us, hl with | [_, _], _ => rfl⟩
  have DTipsOf : Dn l.prog w K mg base _ "tips_of" _ ["space", "point"] _ := ⟨_, _, okTipsOf FD20 T DDemand DIsNew DPointTips, r20⟩
  have KDTipsOf : Dk l.prog w K mg base _ "tips_of" _ ["space", "point"] _ := ⟨_, _, okTipsOf FD20 T DDemand DIsNew DPointTips, PySem.W.mg_of X G aD20, kD20, fun s ws _ hl => match ws, hl with | [_, _], _ => .of_eq rfl⟩
  have FD0 := fun_mk (st := sAllChoices) lD0 cD0 kD0
  have r0 : mg "all_choices" = some (.ref d0) ∧ PySem.W.keepIn K (.ref d0) = true ∧ Binds K _ ["rows"] [] := ⟨PySem.W.mg_of X G aD0, kD0, FD0.binds (ps := ["rows"]) fun _ _ _ _ _ _ us hl => match us, hl with | [_], _ => rfl⟩
  have DAllChoices : Dn l.prog w K mg base _ "all_choices" _ ["rows"] _ := ⟨_, _, okAllChoices FD0 T , r0⟩
  have FD21 := fun_mk (st := sSeatCorners) lD21 cD21 kD21
  have r21 : mg "seat_corners" = some (.ref d21) ∧ PySem.W.keepIn K (.ref d21) = true ∧ Binds K _ ["space", "point"] [] := ⟨PySem.W.mg_of X G aD21, kD21, FD21.binds (ps := ["space", "point"]) fun _ _ _ _ _ _ us hl => match us, hl with | [_, _], _ => rfl⟩
  have DSeatCorners : Dn l.prog w K mg base _ "seat_corners" _ ["space", "point"] _ := ⟨_, _, okSeatCorners FD21 T DDemand DIsNew DPointSeat DAllChoices, r21⟩
  have KDSeatCorners : Dk l.prog w K mg base _ "seat_corners" _ ["space", "point"] _ := ⟨_, _, okSeatCorners FD21 T DDemand DIsNew DPointSeat DAllChoices, PySem.W.mg_of X G aD21, kD21, fun s ws _ hl => match ws, hl with | [_, _], _ => .of_eq rfl⟩
  have FD31 := fun_mk (st := sToldL) lD31 cD31 kD31
  have r31 : mg "_law_told" = some (.ref d31) ∧ PySem.W.keepIn K (.ref d31) = true ∧ Binds K _ ["which", "space", "thing"] [] := ⟨PySem.W.mg_of X G aD31, kD31, FD31.binds (ps := ["which", "space", "thing"]) fun _ _ _ _ _ _ us hl => match us, hl with | [_, _, _], _ => rfl⟩
  have DToldL : Dn l.prog w K mg base _ "_law_told" _ ["which", "space", "thing"] _ := ⟨_, _, okToldL FD31 T C DWholeM DGrainOf DOpenOf DLevelOf DGenerationOf DSeatOf DTipsOf DSeatCorners, r31⟩
  have FD32 := fun_mk (st := sBasedL) lD32 cD32 kD32
  have r32 : mg "_law_based" = some (.ref d32) ∧ PySem.W.keepIn K (.ref d32) = true ∧ Binds K _ ["space", "point"] [] := ⟨PySem.W.mg_of X G aD32, kD32, FD32.binds (ps := ["space", "point"]) fun _ _ _ _ _ _ us hl => match us, hl with | [_, _], _ => rfl⟩
  have DBasedL : Dn l.prog w K mg base _ "_law_based" _ ["space", "point"] _ := ⟨_, _, okBasedL FD32 T DIsNew DIsPoint DSameL DGenerationOf DToldL, r32⟩
  have FD28 := fun_mk (st := sCornersL) lD28 cD28 kD28
  have r28 : mg "_law_corners" = some (.ref d28) ∧ PySem.W.keepIn K (.ref d28) = true ∧ Binds K _ ["point", "grain", "row"] [] := ⟨PySem.W.mg_of X G aD28, kD28, FD28.binds (ps := ["point", "grain", "row"]) fun _ _ _ _ _ _ us hl => match us, hl with | [_, _, _], _ => rfl⟩
  have DCornersL : Dn l.prog w K mg base _ "_law_corners" _ ["point", "grain", "row"] _ := ⟨_, _, okCornersL FD28 T , r28⟩
  have FD29 := fun_mk (st := sTipL) lD29 cD29 kD29
  have r29 : mg "_law_tip" = some (.ref d29) ∧ PySem.W.keepIn K (.ref d29) = true ∧ Binds K _ ["point", "grain", "row", "odd"] [] := ⟨PySem.W.mg_of X G aD29, kD29, FD29.binds (ps := ["point", "grain", "row", "odd"]) fun _ _ _ _ _ _ us hl => match us, hl with | [_, _, _, _], _ => rfl⟩
  have DTipL : Dn l.prog w K mg base _ "_law_tip" _ ["point", "grain", "row", "odd"] _ := ⟨_, _, okTipL FD29 T , r29⟩
  have FD30 := fun_mk (st := sSeatedL) lD30 cD30 kD30
  have r30 : mg "_law_seated" = some (.ref d30) ∧ PySem.W.keepIn K (.ref d30) = true ∧ Binds K _ ["space", "point", "grain", "row"] [] := ⟨PySem.W.mg_of X G aD30, kD30, FD30.binds (ps := ["space", "point", "grain", "row"]) fun _ _ _ _ _ _ us hl => match us, hl with | [_, _, _, _], _ => rfl⟩
  have DSeatedL : Dn l.prog w K mg base _ "_law_seated" _ ["space", "point", "grain", "row"] _ := ⟨_, _, okSeatedL FD30 T KDGrainOf KDOpenOf KDLevelOf KDGenerationOf KDSeatOf KDTipsOf KDSeatCorners DPowerL DCornersL DSameL DTipL DIsNew, r30⟩
  have FD33 := fun_mk (st := sLookedL) lD33 cD33 kD33
  have r33 : mg "_law_looked" = some (.ref d33) ∧ PySem.W.keepIn K (.ref d33) = true ∧ Binds K _ ["space", "point"] [] := ⟨PySem.W.mg_of X G aD33, kD33, FD33.binds (ps := ["space", "point"]) fun _ _ _ _ _ _ us hl => match us, hl with | [_, _], _ => rfl⟩
  have DLookedL : Dn l.prog w K mg base _ "_law_looked" _ ["space", "point"] _ := ⟨_, _, okLookedL FD33 T DLayL DBasedL DSeatedL, r33⟩
  have FD35 := fun_mk (st := sPointsL) lD35 cD35 kD35
  have r35 : mg "_law_points" = some (.ref d35) ∧ PySem.W.keepIn K (.ref d35) = true ∧ Binds K _ ["tape", "space"] [] := ⟨PySem.W.mg_of X G aD35, kD35, FD35.binds (ps := ["tape", "space"]) fun _ _ _ _ _ _ us hl => match us, hl with | [_, _], _ => rfl⟩
  have DPointsL : Dn l.prog w K mg base _ "_law_points" _ ["tape", "space"] _ := ⟨_, _, okPointsL FD35 T DDrawL DPowerL DCoordinateL DLookedL DSeatedL, r35⟩
  have FD40 := fun_mk (st := sThingL) lD40 cD40 kD40
  have r40 : mg "_law_thing" = some (.ref d40) ∧ PySem.W.keepIn K (.ref d40) = true ∧ Binds K _ ["tape", "space"] [] := ⟨PySem.W.mg_of X G aD40, kD40, FD40.binds (ps := ["tape", "space"]) fun _ _ _ _ _ _ us hl => match us, hl with | [_, _], _ => rfl⟩
  have DThingL : Dn l.prog w K mg base _ "_law_thing" _ ["tape", "space"] _ := ⟨_, _, okThingL FD40 T DDrawL DCoordinateL, r40⟩
  have FD39 := fun_mk (st := sPointedL) lD39 cD39 kD39
  have r39 : mg "_law_pointed" = some (.ref d39) ∧ PySem.W.keepIn K (.ref d39) = true ∧ Binds K _ ["space", "thing"] [] := ⟨PySem.W.mg_of X G aD39, kD39, FD39.binds (ps := ["space", "thing"]) fun _ _ _ _ _ _ us hl => match us, hl with | [_, _], _ => rfl⟩
  have DPointedL : Dn l.prog w K mg base _ "_law_pointed" _ ["space", "thing"] _ := ⟨_, _, okPointedL FD39 T DWholeL, r39⟩
  have FD25 := fun_mk (st := sTruthL) lD25 cD25 kD25
  have r25 : mg "_law_truth" = some (.ref d25) ∧ PySem.W.keepIn K (.ref d25) = true ∧ Binds K _ ["got", "due"] [] := ⟨PySem.W.mg_of X G aD25, kD25, FD25.binds (ps := ["got", "due"]) fun _ _ _ _ _ _ us hl => match us, hl with | [_, _], _ => rfl⟩
  have DTruthL : Dn l.prog w K mg base _ "_law_truth" _ ["got", "due"] _ := ⟨_, _, okTruthL FD25 T , r25⟩
  have FD7 := fun_mk (st := sArePoints) lD7 cD7 kD7
  have r7 : mg "are_points" = some (.ref d7) ∧ PySem.W.keepIn K (.ref d7) = true ∧ Binds K _ ["space", "thing"] [] := ⟨PySem.W.mg_of X G aD7, kD7, FD7.binds (ps := ["space", "thing"]) fun _ _ _ _ _ _ us hl => match us, hl with | [_, _], _ => rfl⟩
  have DArePoints : Dn l.prog w K mg base _ "are_points" _ ["space", "thing"] _ := ⟨_, _, okArePoints FD7 T DIsPoint, r7⟩
  have FD8 := fun_mk (st := sIsBody) lD8 cD8 kD8
  have r8 : mg "is_body" = some (.ref d8) ∧ PySem.W.keepIn K (.ref d8) = true ∧ Binds K _ ["space", "thing"] [] := ⟨PySem.W.mg_of X G aD8, kD8, FD8.binds (ps := ["space", "thing"]) fun _ _ _ _ _ _ us hl => match us, hl with | [_, _], _ => rfl⟩
  have DIsBody : Dn l.prog w K mg base _ "is_body" _ ["space", "thing"] _ := ⟨_, _, okIsBody FD8 T DArePoints, r8⟩
  have KDIsBody : Dk l.prog w K mg base _ "is_body" _ ["space", "thing"] _ := ⟨_, _, okIsBody FD8 T DArePoints, PySem.W.mg_of X G aD8, kD8, fun s ws _ hl => match ws, hl with | [_, _], _ => .of_eq rfl⟩
  have FD4 := fun_mk (st := sIsSpace) lD4 cD4 kD4
  have r4 : mg "is_space" = some (.ref d4) ∧ PySem.W.keepIn K (.ref d4) = true ∧ Binds K _ ["thing"] [] := ⟨PySem.W.mg_of X G aD4, kD4, FD4.binds (ps := ["thing"]) fun _ _ _ _ _ _ us hl => match us, hl with | [_], _ => rfl⟩
  have DIsSpace : Dn l.prog w K mg base _ "is_space" _ ["thing"] _ := ⟨_, _, okIsSpace FD4 T DIsRow, r4⟩
  have KDIsSpace : Dk l.prog w K mg base _ "is_space" _ ["thing"] _ := ⟨_, _, okIsSpace FD4 T DIsRow, PySem.W.mg_of X G aD4, kD4, fun s ws _ hl => match ws, hl with | [_], _ => .of_eq rfl⟩
  have FD41 := fun_mk (st := sKindsL) lD41 cD41 kD41
  have r41 : mg "_law_kinds" = some (.ref d41) ∧ PySem.W.keepIn K (.ref d41) = true ∧ Binds K _ ["tape", "space"] [] := ⟨PySem.W.mg_of X G aD41, kD41, FD41.binds (ps := ["tape", "space"]) fun _ _ _ _ _ _ us hl => match us, hl with | [_, _], _ => rfl⟩
  have DKindsL : Dn l.prog w K mg base _ "_law_kinds" _ ["tape", "space"] _ := ⟨_, _, okKindsL FD41 T DDrawL DPowerL DCoordinateL DThingL DPointedL DTruthL KDIsPoint KDIsNew KDIsBody KDIsSpace DIsBody DIsSpace, r41⟩
  have FD42 := fun_mk (st := sRefusedL) lD42 cD42 kD42
  have r42 : mg "_law_refused" = some (.ref d42) ∧ PySem.W.keepIn K (.ref d42) = true ∧ Binds K _ ["tape", "space"] [] := ⟨PySem.W.mg_of X G aD42, kD42, FD42.binds (ps := ["tape", "space"]) fun _ _ _ _ _ _ us hl => match us, hl with | [_, _], _ => rfl⟩
  have DRefusedL : Dn l.prog w K mg base _ "_law_refused" _ ["tape", "space"] _ := ⟨_, _, okRefusedL FD42 T DThingL DPointedL DLayL DToldL, r42⟩
  have FD36 := fun_mk (st := sEndsL) lD36 cD36 kD36
  have r36 : mg "_law_ends" = some (.ref d36) ∧ PySem.W.keepIn K (.ref d36) = true ∧ Binds K _ ["low", "unit", "width", "is_open"] [] := ⟨PySem.W.mg_of X G aD36, kD36, FD36.binds (ps := ["low", "unit", "width", "is_open"]) fun _ _ _ _ _ _ us hl => match us, hl with | [_, _, _, _], _ => rfl⟩
  have DEndsL : Dn l.prog w K mg base _ "_law_ends" _ ["low", "unit", "width", "is_open"] _ := ⟨_, _, okEndsL FD36 T , r36⟩
  have FD37 := fun_mk (st := sSeatsL) lD37 cD37 kD37
  have r37 : mg "_law_seats" = some (.ref d37) ∧ PySem.W.keepIn K (.ref d37) = true ∧ Binds K _ ["space", "low"] [] := ⟨PySem.W.mg_of X G aD37, kD37, FD37.binds (ps := ["space", "low"]) fun _ _ _ _ _ _ us hl => match us, hl with | [_, _], _ => rfl⟩
  have DSeatsL : Dn l.prog w K mg base _ "_law_seats" _ ["space", "low"] _ := ⟨_, _, okSeatsL FD37 T DPowerL DEndsL, r37⟩
  have FD38 := fun_mk (st := sSquareL) lD38 cD38 kD38
  have r38 : mg "_law_square" = some (.ref d38) ∧ PySem.W.keepIn K (.ref d38) = true ∧ Binds K _ ["tape"] [] := ⟨PySem.W.mg_of X G aD38, kD38, FD38.binds (ps := ["tape"]) fun _ _ _ _ _ _ us hl => match us, hl with | [_], _ => rfl⟩
  have DSquareL : Dn l.prog w K mg base _ "_law_square" _ ["tape"] _ := ⟨_, _, okSquareL FD38 T DDrawL DPowerL DSeatsL DSeatedL DIsNew DTruthL, r38⟩
  have FD43 := fun_mk (st := slaw) lD43 cD43 kD43
  exact oklaw FD43 T DDrawL DPointsL DKindsL DRefusedL DSquareL
theorem walkT {l : PySem.W.OpenLaw} {q : Program} {loose : List Str} {XP : (Str → Option Value) → Heap → Prop} {YP : World → Heap → Prop} {d : DefRec} {K : Params → PySem.W.Frag} (hn : l.most = some 63) (hdf : d.params.defaults = [])
    (hY : ∀ (w : World) (h : Heap), YP w h → (K w.params).In h)
    (F : ∀ (w : World) (mg : Str → Option Value) (fa : Addr) (h : Heap), (K w.params).In h → h.Ns mainGlobals mg → mg d.name = some (.ref fa) →
      ∃ fd : FuncData, (∀ (s : Shared) (u : Value), BindsTo s fd ⟨[u], []⟩ [("script", u)]) ∧ ∀ base : Heap, (K w.params).In base → base.Ns mainGlobals mg → FnOk l.prog w (K w.params) mg base CX0 11 fa fd ["script"] (spLaw (K w.params))) :
    PySem.W.WalkO q loose XP YP l.row.toRowW d [] (fun f vs => PySem.call f vs) :=
  L2.walk_of (n := 63) (k := 11) (x := "script") (CX := fun _ => CX0) (sp := fun w => spLaw (K w.params)) hn (by decide) hdf ⟨rfl, by decide, by decide⟩ hY F (fun _ _ a ns hl _ hS => ⟨a, ns, rfl, hS, hl, fun _ => rfl⟩) fun _ _ _ _ _ z => z
end K17
end SecK17
set_option Elab.async false
set_option linter.all false
open PySem PySem.W PyProof.Rows
set_option maxRecDepth 100000 in
set_option maxHeartbeats 0 in
theorem PySem.Challenge.cw_wholefaces_k17_points_and_seats_holds : PySem.Challenge.rw_wholefaces_k17_points_and_seats.Holds := by
  w_on; o_law; k_head; (case hw => w_witness2)
  k_fill
  refine K17.walkT (l := PySem.Challenge.rw_wholefaces_k17_points_and_seats) rfl rfl (fun w h Y => PySem.W.kIn_of Y) ?F
  case F =>
    intro w mg fa h KX G hmg
    refine' K17.all_mk KX G hmg ?aC0 ?xL0 ?bm0_ ?iI0 ?lI0 ?cI0 ?kI0 ?aSH ?aME ?aD0 ?lD0 ?cD0 ?kD0 ?aD1 ?lD1 ?cD1 ?kD1 ?aD2 ?lD2 ?cD2 ?kD2 ?aD3 ?lD3 ?cD3 ?kD3 ?aD4 ?lD4 ?cD4 ?kD4 ?aD5 ?lD5 ?cD5 ?kD5 ?aD6 ?lD6 ?cD6 ?kD6 ?aD7 ?lD7 ?cD7 ?kD7 ?aD8 ?lD8 ?cD8 ?kD8 ?aD9 ?lD9 ?cD9 ?kD9 ?aD10 ?lD10 ?cD10 ?kD10 ?aD11 ?lD11 ?cD11 ?kD11 ?aD12 ?lD12 ?cD12 ?kD12 ?aD13 ?lD13 ?cD13 ?kD13 ?aD14 ?lD14 ?cD14 ?kD14 ?aD15 ?lD15 ?cD15 ?kD15 ?aD16 ?lD16 ?cD16 ?kD16 ?aD17 ?lD17 ?cD17 ?kD17 ?aD18 ?lD18 ?cD18 ?kD18 ?aD19 ?lD19 ?cD19 ?kD19 ?aD20 ?lD20 ?cD20 ?kD20 ?aD21 ?lD21 ?cD21 ?kD21 ?aD22 ?lD22 ?cD22 ?kD22 ?aD23 ?lD23 ?cD23 ?kD23 ?aD24 ?lD24 ?cD24 ?kD24 ?aD25 ?lD25 ?cD25 ?kD25 ?aD26 ?lD26 ?cD26 ?kD26 ?aD27 ?lD27 ?cD27 ?kD27 ?aD28 ?lD28 ?cD28 ?kD28 ?aD29 ?lD29 ?cD29 ?kD29 ?aD30 ?lD30 ?cD30 ?kD30 ?aD31 ?lD31 ?cD31 ?kD31 ?aD32 ?lD32 ?cD32 ?kD32 ?aD33 ?lD33 ?cD33 ?kD33 ?aD34 ?lD34 ?cD34 ?kD34 ?aD35 ?lD35 ?cD35 ?kD35 ?aD36 ?lD36 ?cD36 ?kD36 ?aD37 ?lD37 ?cD37 ?kD37 ?aD38 ?lD38 ?cD38 ?kD38 ?aD39 ?lD39 ?cD39 ?kD39 ?aD40 ?lD40 ?cD40 ?kD40 ?aD41 ?lD41 ?cD41 ?kD41 ?aD42 ?lD42 ?cD42 ?kD42 ?aD43 ?lD43 ?cD43 ?kD43 ?n_int ?n_abs ?n_len ?n_range ?n_tuple ?n_list ?n_bool ?n_str ?n_all ?n_any ?n_isinstance ?n_ValueError ?n_zip ?cB ?kB
    (case aC0 => k_is)
    (case xL0 => k_is)
    (case bm0_ => decide +kernel)
    (case iI0 => k_is)
    (case lI0 => k_is)
    (case cI0 => k_is)
    (case kI0 => k_is)
    (case aSH => k_is)
    (case aME => k_is)
    (case aD0 => k_is)
    (case lD0 => k_is)
    (case cD0 => k_is)
    (case kD0 => k_is)
    (case aD1 => k_is)
    (case lD1 => k_is)
    (case cD1 => k_is)
    (case kD1 => k_is)
    (case aD2 => k_is)
    (case lD2 => k_is)
    (case cD2 => k_is)
    (case kD2 => k_is)
    (case aD3 => k_is)
    (case lD3 => k_is)
    (case cD3 => k_is)
    (case kD3 => k_is)
    (case aD4 => k_is)
    (case lD4 => k_is)
    (case cD4 => k_is)
    (case kD4 => k_is)
    (case aD5 => k_is)
    (case lD5 => k_is)
    (case cD5 => k_is)
    (case kD5 => k_is)
    (case aD6 => k_is)
    (case lD6 => k_is)
    (case cD6 => k_is)
    (case kD6 => k_is)
    (case aD7 => k_is)
    (case lD7 => k_is)
    (case cD7 => k_is)
    (case kD7 => k_is)
    (case aD8 => k_is)
    (case lD8 => k_is)
    (case cD8 => k_is)
    (case kD8 => k_is)
    (case aD9 => k_is)
    (case lD9 => k_is)
    (case cD9 => k_is)
    (case kD9 => k_is)
    (case aD10 => k_is)
    (case lD10 => k_is)
    (case cD10 => k_is)
    (case kD10 => k_is)
    (case aD11 => k_is)
    (case lD11 => k_is)
    (case cD11 => k_is)
    (case kD11 => k_is)
    (case aD12 => k_is)
    (case lD12 => k_is)
    (case cD12 => k_is)
    (case kD12 => k_is)
    (case aD13 => k_is)
    (case lD13 => k_is)
    (case cD13 => k_is)
    (case kD13 => k_is)
    (case aD14 => k_is)
    (case lD14 => k_is)
    (case cD14 => k_is)
    (case kD14 => k_is)
    (case aD15 => k_is)
    (case lD15 => k_is)
    (case cD15 => k_is)
    (case kD15 => k_is)
    (case aD16 => k_is)
    (case lD16 => k_is)
    (case cD16 => k_is)
    (case kD16 => k_is)
    (case aD17 => k_is)
    (case lD17 => k_is)
    (case cD17 => k_is)
    (case kD17 => k_is)
    (case aD18 => k_is)
    (case lD18 => k_is)
    (case cD18 => k_is)
    (case kD18 => k_is)
    (case aD19 => k_is)
    (case lD19 => k_is)
    (case cD19 => k_is)
    (case kD19 => k_is)
    (case aD20 => k_is)
    (case lD20 => k_is)
    (case cD20 => k_is)
    (case kD20 => k_is)
    (case aD21 => k_is)
    (case lD21 => k_is)
    (case cD21 => k_is)
    (case kD21 => k_is)
    (case aD22 => k_is)
    (case lD22 => k_is)
    (case cD22 => k_is)
    (case kD22 => k_is)
    (case aD23 => k_is)
    (case lD23 => k_is)
    (case cD23 => k_is)
    (case kD23 => k_is)
    (case aD24 => k_is)
    (case lD24 => k_is)
    (case cD24 => k_is)
    (case kD24 => k_is)
    (case aD25 => k_is)
    (case lD25 => k_is)
    (case cD25 => k_is)
    (case kD25 => k_is)
    (case aD26 => k_is)
    (case lD26 => k_is)
    (case cD26 => k_is)
    (case kD26 => k_is)
    (case aD27 => k_is)
    (case lD27 => k_is)
    (case cD27 => k_is)
    (case kD27 => k_is)
    (case aD28 => k_is)
    (case lD28 => k_is)
    (case cD28 => k_is)
    (case kD28 => k_is)
    (case aD29 => k_is)
    (case lD29 => k_is)
    (case cD29 => k_is)
    (case kD29 => k_is)
    (case aD30 => k_is)
    (case lD30 => k_is)
    (case cD30 => k_is)
    (case kD30 => k_is)
    (case aD31 => k_is)
    (case lD31 => k_is)
    (case cD31 => k_is)
    (case kD31 => k_is)
    (case aD32 => k_is)
    (case lD32 => k_is)
    (case cD32 => k_is)
    (case kD32 => k_is)
    (case aD33 => k_is)
    (case lD33 => k_is)
    (case cD33 => k_is)
    (case kD33 => k_is)
    (case aD34 => k_is)
    (case lD34 => k_is)
    (case cD34 => k_is)
    (case kD34 => k_is)
    (case aD35 => k_is)
    (case lD35 => k_is)
    (case cD35 => k_is)
    (case kD35 => k_is)
    (case aD36 => k_is)
    (case lD36 => k_is)
    (case cD36 => k_is)
    (case kD36 => k_is)
    (case aD37 => k_is)
    (case lD37 => k_is)
    (case cD37 => k_is)
    (case kD37 => k_is)
    (case aD38 => k_is)
    (case lD38 => k_is)
    (case cD38 => k_is)
    (case kD38 => k_is)
    (case aD39 => k_is)
    (case lD39 => k_is)
    (case cD39 => k_is)
    (case kD39 => k_is)
    (case aD40 => k_is)
    (case lD40 => k_is)
    (case cD40 => k_is)
    (case kD40 => k_is)
    (case aD41 => k_is)
    (case lD41 => k_is)
    (case cD41 => k_is)
    (case kD41 => k_is)
    (case aD42 => k_is)
    (case lD42 => k_is)
    (case cD42 => k_is)
    (case kD42 => k_is)
    (case aD43 => k_is)
    (case lD43 => k_is)
    (case cD43 => k_is)
    (case kD43 => k_is)
    (case n_int => k_is)
    (case n_abs => k_is)
    (case n_len => k_is)
    (case n_range => k_is)
    (case n_tuple => k_is)
    (case n_list => k_is)
    (case n_bool => k_is)
    (case n_str => k_is)
    (case n_all => k_is)
    (case n_any => k_is)
    (case n_isinstance => k_is)
    (case n_ValueError => k_is)
    (case n_zip => k_is)
    (case cB => kernel_rfl)
    (case kB => kernel_rfl)
