import PyProof.Rows.All
import Wide.All
import OpenK.AllK
import Wide.FinOn
import HandS.ForMost
import HandS.ForExc
import HandS.ExcInit
import HandS.TryMany
import HandS.ExcCtx
import HandS.HotCalls
import HandS.IsInst
import HandS.Style
import HandS.Flow
import KE.KExcIs
import HandS.Codes
import HandS.Gcd
import HandS.Wide
import HandS.WideBits
import HandS.TupAny
import HandS.Zip
import HandS.Iter
import KE.GoesMore
import KE.GoesNew
import HandS.Walk
import HandS.TupMul
import HandS.Deep
import HandS.NoneIn
import PyProof.WalkInts
import PyProof.WalksMore
import PyProof.SumWalkG
import KE.SortCalls
import KE.SortLaws
import HandS.EndBits
import PySem.Challenge.RW_wholefaces_k23_weights_and_places
section SecA1
set_option Elab.async false
set_option linter.all false
set_option maxRecDepth 100000
set_option maxHeartbeats 4000000
namespace Err
open PySem PySem.Spec PyProof.Rows L2

/-- what the written part tells of an error class at C -/
structure Ec (K : PySem.W.Frag) (C : Addr) : Prop where
  oex : OexC K C
  cl : (PySem.W.clsIn K C).isSome = true
  ga : PySem.W.findIn K (.ref C) "__getattribute__" = some (some (.builtin "BaseException.__getattribute__"))
  gg : PySem.W.findIn K (.ref C) "__getattr__" = some none
  hd : PySem.W.hasDictIn K C = true
  ca : PySem.W.findIn K (.ref C) "__class__" = some (some (.builtin "object.__class__"))
  cn : PySem.W.specialIn K (.builtin "object.__class__") "__get__" = some (some (.builtin "getset_descriptor.__get__"))
  ct : PySem.W.takesIn K (.builtin "object.__class__") = some true
  cm : PySem.W.mroIn K C (.type "object") = some true

/-- an error object of the class at C, its dict at d, stands at a -/
def At (h : Heap) (a C : Addr) (d : Option Addr) : Prop := ∃ (oe : Obj) (fv : Array Value), h.get? a = some oe ∧ oe.cls = .ref C ∧ oe.dict = d ∧ oe.data = .fields fv
/-- in each state of the context there is such an object -/
def Seen (X : Cx) (H : Hp) (a C : Addr) (d : Option Addr) : Prop := ∀ (pins : List (Addr × Obj)) (σ : L2.St) (s : Shared), Inv X pins σ H s → At s.heap a C d
/-- the dict of an error -/
def Dk (H : Hp) (d : Addr) (fs : List (Str × V)) : Prop := H d = some (.xd fs) ∨ H d = some (exd d fs)
theorem Dk.ns {P : Program} {w : World} {H : Hp} {h : Heap} {d : Addr} {fs : List (Str × V)} (ok : HOk P w H h) (k : Dk H d fs) : ∃ mA, h.Ns1 d mA ∧ ∀ f, RelO (fs.lookup f) (mA f) := by
  rcases k with k | k
  · have z : ObjOk P w H h d (.xd fs) := ok d _ k
    exact z
  · exact exd_at ok k
theorem Dk.mono {H H' : Hp} {d : Addr} {fs : List (Str × V)} (m : ∀ b o, H b = some o → H' b = some o) (k : Dk H d fs) : Dk H' d fs := by
  rcases k with k | k
  · exact .inl (m _ _ k)
  · exact .inr (m _ _ k)
/-- an error that is tracked -/
theorem seen_exo {X : Cx} {H : Hp} {a C : Addr} {d : Option Addr} (e : H a = some (exo a C d)) : Seen X H a C d := fun _ _ _ I => by
  obtain ⟨t1, q⟩ := exo_at I.hok e
  exact ⟨_, _, q, rfl, rfl, rfl⟩
/-- an error that the context holds fast -/
theorem seen_pin {X : Cx} {H : Hp} {a C : Addr} {d : Option Addr} {oe : Obj} (m : (a, oe) ∈ X.pn) (z : Zc (.ref C) d oe) (f : ∃ vs, oe.data = .fields vs) : Seen X H a C d := fun _ _ _ I => by
  obtain ⟨vs, hv⟩ := f
  exact ⟨oe, vs, (I.pin _ (List.mem_append_left _ m)).1, z.1, z.2, hv⟩
section
variable {X : Cx}
/-- as the library's rows want it -/
def DOb (h : Heap) : Option Addr → Option Obj → Prop
  | some dx, some o => h.get? dx = some o
  | none, none => True
  | _, _ => False
theorem inst_of {h : Heap} {a C : Addr} {d : Option Addr} {oe : Obj} {fv : Array Value} (e : h.get? a = some oe) (c : oe.cls = .ref C) (k : oe.dict = d) (f : oe.data = .fields fv) {od : Option Obj} (hd : DOb h d od) :
    PySem.W.InstAt h a oe C od := by
  subst k
  refine ⟨e, c, by unfold PySem.W.notCls; rw [f] <;> rfl, ?_⟩
  unfold DOb at hd
  revert hd
  cases oe.dict <;> cases od <;> exact fun z => z
/-- e.n of an error -/
def tAt (X : Cx) (n : Str) (te : TE) : TE := fun σ H Q => te σ H fun x H1 => ∃ (a C dd : Addr) (fs : List (Str × V)) (v : V), x = .ref a ∧ Ec X.K C ∧ PySem.W.findIn X.K (.ref C) n = some none ∧ Seen X H1 a C (some dd) ∧ Dk H1 dd fs ∧ fs.lookup n = some v ∧ Q v H1
theorem pe_at {e : Expr} {te : TE} {pos : Pos} {n : Str} (he : PE X e te) (hb : attributeBase e n X.env (eval e X.env) = eval e X.env := by rfl) : PE X (.Attribute e n pos) (tAt X n te) := by
  refine ⟨fun pins s σ H Q I h => attr_of hb (thn (he.run pins s σ H _ I h) fun u s1 hh => ?_)⟩
  obtain ⟨x, H1, I1, rx, a, C, dd, fs, v, ex, T, hno, sn, dk, l, q⟩ := hh
  subst ex
  cases (show u = Value.ref a from rx)
  obtain ⟨oe, fv, e1, e2, e3, e4⟩ := sn _ _ _ I1
  obtain ⟨mA, hns, hr⟩ := dk.ns I1.hok
  obtain ⟨od, ho, hl⟩ := lookIn_ns hns
  obtain ⟨y, hy, ry⟩ := RelO.some_of (v := v) (o := mA n) (by rw [← l]; exact hr n)
  exact HandSPX.exc_get I1.kIn (inst_of e1 e2 e3 e4 (od := some od) ho) T.ga T.gg T.oex.exC (PySem.W.findObj_own T.hd hno rfl (by rw [hl, hy])) (handed_of ry) ⟨v, H1, I1.tok _, ry, q⟩
/-- isinstance(e, c) of an error -/
def rIsA (X : Cx) : List V → Hp → VK → Prop := fun xs H Q => ∃ (a C : Addr) (d : Option Addr) (c : V) (cv : Value) (b : Bool), xs = [.ref a, c] ∧ ClsV c cv ∧ Ec X.K C ∧ Seen X H a C d ∧ (∀ dd, d = some dd → ∃ fs, Dk H dd fs) ∧ PySem.W.kitOne X.K (.ref C) cv = some b ∧ Q (.bl b) H
theorem call_isA : CallR X (.builtin "isinstance") (rIsA X) := by
  intro pins s σ H xs us Q I r h
  obtain ⟨a, C, d, c, cv, b, rfl, k, T, sn, hd, e, q⟩ := h
  obtain ⟨u1, u2, rfl, r1, r2⟩ := vals2 r
  have z := k.eq r2
  subst z
  cases (show u1 = Value.ref a from r1)
  obtain ⟨oe, fv, e1, e2, e3, e4⟩ := sn _ _ _ I
  obtain ⟨od, ho⟩ : ∃ od : Option Obj, DOb s.heap d od := by
    cases d with
    | none => exact ⟨none, True.intro⟩
    | some dd =>
      obtain ⟨fs, dk⟩ := hd dd rfl
      obtain ⟨mA, ⟨o, es, ep, ho, _⟩, hr⟩ := dk.ns I.hok
      exact ⟨some o, ho⟩
  have J := inst_of e1 e2 e3 e4 (od := od) ho
  exact PySem.W.kia_one (PySem.W.kitx_exc T.cl T.ga T.gg T.oex.exC T.ca T.cn T.ct T.cm) I.kIn J e (fun z => nomatch z) fun tk => ⟨.bl b, H, I.tok tk, rfl, q⟩
end
end Err
end SecA1
section SecA2
set_option Elab.async false
set_option linter.all false
set_option maxRecDepth 100000
set_option maxHeartbeats 4000000
namespace Err
open PySem PySem.Spec PyProof.Rows L2 L2H

/-- nothing is handled and nothing held, or the error at p is handled and held -/
inductive Mood (A : Around) (outer : List Env) (H : Hp) (s : Shared) : Bool → List (Addr × Obj) → Prop
  | calm (h : A.handled = none) : Mood A outer H s true []
  | hot (p : Addr × Obj) (h : Hot1 A p) (k : PinOk outer H s p) : Mood A outer H s false [p]
def cxB (P : Program) (w : World) (K : PySem.W.Frag) (mg : Str → Option Value) (base : Heap) (N : List Str) (qual : Str) (scope : Scope) (f : Addr) (cd : Value) (A : Around) (outer : List Env) (s : Shared) (H : Hp) (b : Bool) (pl : List (Addr × Obj)) : Cx :=
  { cxOf CX0 P w K mg base N qual scope f cd A outer s H E0 with calm := b, pn := pl }
/-- the mood of a context -/
inductive MoodC (X : Cx) : Bool → List (Addr × Obj) → Prop
  | calm (h : X.calm = true) : MoodC X true []
  | hot (p : Addr × Obj) (h : Hot1 X.A p) (m : p ∈ X.pn) : MoodC X false [p]
theorem MoodC.to {X : Cx} {pins : List (Addr × Obj)} {σ : L2.St} {H : Hp} {s : Shared} {b : Bool} {pl : List (Addr × Obj)} (m : MoodC X b pl) (I : Inv X pins σ H s) : Mood X.A X.stack H s b pl := by
  cases m with
  | calm h => exact .calm (I.ok.hd h)
  | hot p h m =>
    have z := I.pin p (List.mem_append_left _ m)
    exact .hot p h ⟨z.1, z.2.1, fun y => by
      rcases List.mem_cons.mp (I.stkSub p.1 y) with y | y
      · exact z.2.2.1 y
      · exact z.2.2.2.1 y, z.2.2.2.2⟩
/-- a def that may be called in both moods -/
structure FnB (P : Program) (w : World) (K : PySem.W.Frag) (mg : Str → Option Value) (base : Heap) (k : Nat) (f : Addr) (fd : FuncData) (ps : List Str) (sp : List (Addr × Obj) → Sp) : Prop where
  len : ∀ pl vs H Q E, sp pl vs H Q E → vs.length = ps.length
  run : ∀ (A : Around) (outer : List Env) (s : Shared) (H : Hp) (args : Args) (us : List Value) (vs : List V) (Q : VK) (b : Bool) (pl : List (Addr × Obj)), RoomH k A → Mood A outer H s b pl → Env0 P w K mg base A outer s H →
    BindsTo s fd args (ps.zip us) → Vals vs us → sp pl vs H Q E0 → codeAny (model P w) A (.call (.ref f) args) (CR CX0 outer P w H s Q E0) s
section
variable {P : Program} {w : World} {K : PySem.W.Frag} {mg : Str → Option Value} {base : Heap} {k : Nat} {f : Addr} {fd : FuncData} {N ps : List Str} {sp : List (Addr × Obj) → Sp}
theorem FnB.ok (F : FnB P w K mg base k f fd ps sp) : FnOk P w K mg base CX0 k f fd ps (fun vs H Q _ => sp [] vs H Q E0) :=
  ⟨fun vs H Q E h => F.len [] vs H Q E0 h, fun A outer s H args us vs Q E hr e0 hb r h => codeAny_mono (F.run A outer s H args us vs Q true [] (roomH_of hr) (.calm hr.hd) e0 hb r h) fun x s' z => by
    cases x with
    | error e => exact (show False from z).elim
    | ok fl => cases fl <;> exact z⟩
theorem startB {qual : Str} {scope : Scope} {cd : Value} {A : Around} {outer : List Env} {s s1 : Shared} {H : Hp} {us : List Value} {vs : List V} {b : Bool} {pl : List (Addr × Obj)} (S : FnScope N ps scope) (m : Mood A outer H s b pl) (e0 : Env0 P w K mg base A outer s H)
    (hl : vs.length = ps.length) (r : Vals vs us)
    (x : InCallC s s.heap.objs.size (bindL (envOfC qual scope s.heap.objs.size f cd).kindOf (ps.zip us) fun _ => none) (cellsFrom (s.heap.objs.size + 1) scope.names []) (bindC (envOfC qual scope s.heap.objs.size f cd).kindOf (ps.zip us) fun _ => none) s1) :
    Inv (cxB P w K mg base N qual scope f cd A outer s H b pl) [] (L2.start N vs) H s1 := by
  cases m with
  | calm h => exact inv_start (CX := CX0) (E := E0) S h e0 hl r x
  | hot p h k => exact inv_startH (CX := CX0) (E := E0) S k e0 hl r x
/-- a def of the text by its body, in both moods -/
theorem fnB_of {x qual : Str} {st : Stmt} (F : Fun K x qual st f fd) (S : FnScope N ps (defScope st)) (len : ∀ pl vs H Q E, sp pl vs H Q E → vs.length = ps.length)
    (hbody : ∀ (cdv : Value) (A : Around) (outer : List Env) (s : Shared) (H : Hp) (vs : List V) (Q : VK) (b : Bool) (pl : List (Addr × Obj)), RoomH k (A.deeper (envOfC qual (defScope st) s.heap.objs.size f cdv)) →
      MoodC (cxB P w K mg base N qual (defScope st) f cdv A outer s H b pl) b pl → sp pl vs H Q E0 →
      ∃ t, PSs (cxB P w K mg base N qual (defScope st) f cdv A outer s H b pl) (defBody st) t ∧ t { nx := fun _ H' => Q .non H', rt := Q } (L2.start N vs) H) :
    FnB P w K mg base (k + 1) f fd ps sp := by
  obtain ⟨oc, od, kV, doc, pm, an, cdv, ct, osl, rfl, lk, hcd⟩ := F.ex
  refine ⟨len, fun A outer s H args us vs Q b pl hr md e0 hb r hsp => ?_⟩
  have hl := len _ _ _ _ _ hsp
  have mk : ∀ {b' : Addr} {o : Obj}, base.get? b' = some o → s.heap.get? b' = some o := fun {b' o} e => (e0.bs b' o e).1
  have KX : K.In s.heap := e0.mod.kin.keeps fun b' o e => mk e
  have par : ∀ y ∈ ps.zip us, (defScope st).names.lookup y.1 = some .local ∨ ((defScope st).names.lookup y.1 = some .cell ∧ ((cellsFrom (s.heap.objs.size + 1) (defScope st).names []).lookup y.1).isSome = true) := by
    rintro ⟨n, v⟩ hy
    refine (S.par n (List.of_mem_zip hy).1).imp id fun q => ⟨q, ?_⟩
    exact PySem.W.cellsFrom_some _ _ _ (.inl q)
  refine codeAny_call_function hr.depth (KX _ _ lk) rfl S.co S.gen rfl (PySem.W.codeRec_of KX hcd) (hb _ _ _ _ (wpAny_newFunctionEnv_cells S.kind par fun env he s1 x => ?_))
  subst he
  have lim : s.heap.NoLimit := e0.mod.nolimit.keeps fun b' o e => mk e
  refine ⟨lim.keeps x.toInCall.keep, codeAny_func ?_⟩
  have mc : MoodC (cxB P w K mg base N qual (defScope st) f cdv A outer s H b pl) b pl := by
    cases md with
    | calm h => exact .calm rfl
    | hot p h k => exact .hot p h List.mem_cons_self
  obtain ⟨t, ht, hq⟩ := hbody cdv A outer s H vs Q b pl (hr.deeper _) mc hsp
  have I := startB (mg := mg) (f := f) S md e0 hl r x
  refine wpAny_mono (ht.run [] s1 (L2.start N vs) H _ I hq) (fun fl s' hs => ?_) fun e s' hs => hs
  cases fl with
  | ret u =>
    obtain ⟨v, σ', H', J, rv, q⟩ := hs
    exact ⟨v, H', J.os, J.bare, J.base, J.hok, rv, q⟩
  | next =>
    obtain ⟨σ', H', J, q⟩ := hs
    exact ⟨.non, H', J.os, J.bare, J.base, J.hok, rfl, q⟩
  | brk =>
    obtain ⟨_, _, _, q⟩ := hs
    exact q.elim
  | cont =>
    obtain ⟨_, _, _, q⟩ := hs
    exact q.elim
end
/-- f(e, ..) in any mood -/
def tCallB (sp : List (Addr × Obj) → Sp) (pl : List (Addr × Obj)) (t : TA) : TE := fun σ H Q => t σ H fun vs H1 => sp pl vs H1 Q E0
section
variable {X : Cx} {k : Nat} {f : Addr} {fd : FuncData} {ps : List Str} {sp : List (Addr × Obj) → Sp} {b : Bool} {pl : List (Addr × Obj)} {x : Str} {q pos : Pos} {e : Expr} {es : List Expr} {t : TA}
theorem pe_cB (F : FnB X.prog X.w X.K X.mg X.base k f fd ps sp) (hr : RoomH k X.A) (mc : MoodC X b pl) (hg : Gl X x) (hm : X.mg x = some (.ref f)) (hk : PySem.W.keepIn X.K (.ref f) = true) (hb : Binds X.K fd ps [])
    (ha : PA X (e :: es) t) (hdb : (x == ("__debug__" : Str)) = false := by decide) (he : starEach (e :: es) X.env = (false, eval e X.env) :: starEach es X.env := by rfl) (hpl : (backTo pos (starEach es X.env)).any (·.1) = false := by rfl) :
    PE X (.Call (.Name x q) (e :: es) [] pos) (tCallB sp pl t) := by
  refine ⟨fun pins s σ H Q I h => wpAny_Call_Name_kw (ld_glob I hg hm ?_ hdb)⟩
  refine PySem.W.callWith_K (h₀ := X.base) I.ok.mod.kin hk (thn (ha.run pos pins s σ H _ I h) fun us s1 ⟨vs, H1, I1, r, z⟩ => ⟨I1.kIn, ?_⟩) he hpl
  have hl : us.length = ps.length := by rw [← r.length]; exact F.len _ _ _ _ _ z
  have bt := hb s1 us I1.kIn (by rw [List.append_nil]; exact hl)
  rw [List.append_nil] at bt
  refine wpAny_call (codeAny_mono (F.run X.A X.stack s1 H1 ⟨us, []⟩ us vs Q b pl hr (mc.to I1) I1.env0 bt r z) fun y s' hq => ?_)
  cases y with
  | error er => exact (show False from hq).elim
  | ok fl =>
    cases fl with
    | ret u => exact I1.after hq
    | next => exact hq.elim
    | brk => exact hq.elim
    | cont => exact hq.elim
end
end Err
end SecA2
section SecA3
set_option Elab.async false
set_option linter.all false
set_option maxRecDepth 100000
set_option maxHeartbeats 4000000
namespace Err
open PySem PySem.Spec PyProof.Rows L2 L2H
/-- a comprehension's block that holds the handled error fast -/
abbrev blq (X : Cx) (s : Shared) (H : Hp) (scope : Scope) (ce : Env) (fp : List Addr) (pl : List (Addr × Obj)) : Cx := { X.blk s H scope ce fp with pn := pl }
theorem hold {X : Cx} {pl : List (Addr × Obj)} {σ : L2.St} {H : Hp} {s : Shared} (I : Inv X [] σ H s) (h : ∀ p ∈ pl, s.heap.get? p.1 = some p.2 ∧ H p.1 = none ∧ p.1 ≠ X.env.locals ∧ p.1 ∉ X.fs ∧ ∀ v, p.2.data ≠ .cell v) : Inv { X with pn := pl } [] σ H s :=
  ⟨⟨I.ok.mod, I.ok.kind, I.ok.glob, I.ok.blt, I.ok.above, I.ok.inj, I.ok.has, I.ok.cab, I.ok.hd, I.ok.frames, I.ok.stk, I.ok.exf, I.ok.bs, I.ok.bsz, I.ok.noex, I.ok.exfs, I.ok.funs, I.ok.frf⟩,
    I.os, I.bare, I.base, I.loc, I.cell, I.free, I.freeC, fun p hp => h p (by rw [List.append_nil] at hp; exact hp), I.hok, I.len⟩
section
variable {X : Cx}
/-- a comprehension while an error is handled; what is walked: range -/
theorem lcH {el tg it0 : Expr} {ifs : List Expr} {sc : Scope} {own : List (Str × Nat)} {pos : Pos} {wi : TI} {g : TG} {tt : TT} {te : TE} (p : Addr × Obj) (hot : Hot1 X.A p) (hm : p ∈ X.pn) (hN : X.N.Nodup) (hi : PIH X tg it0 wi) (ok : BlkOk X.N X.env.scope sc own)
    (hg : ∀ s H C cl fp, PG (blq X s H sc (compEnvC sc cl C X.env) fp [p]) tg g) (ht : ∀ s H C cl fp, PTs (blq X s H sc (compEnvC sc cl C X.env) fp [p]) ifs tt)
    (he : ∀ s H C cl fp, PE (blq X s H sc (compEnvC sc cl C X.env) fp [p]) el te) (hs : ∀ x, foldedSetIterable it0 X.env x = pure x := by intro _; rfl) :
    PE X (.ListComp el [⟨tg, it0, ifs, 0⟩] sc pos) (tLc wi g tt te (own.map (·.2))) := by
  refine ⟨fun pins s σ H Q I h => ?_⟩
  rw [eval_ListComp]
  have fr : ∀ y ∈ sc.names, y.2 = .free → ∃ c, X.env.cells.lookup y.1 = some c := fun y hy e => (ok.free y hy e).elim (fun k => I.ok.has _ (.inl k)) fun k => I.ok.has _ (.inr k)
  refine wpAny_comprehension_free rfl hs (closure_ok fr) ok.kind (fun y hy e => by rw [ok.uniq y hy, e]) (thn (hi.run pins s σ H _ I h) fun xv s1 hx => thn hx fun iv s2 h2 => ?_)
  obtain ⟨it, fp, tn, J, H2, e, I2, T, st2, f2, q⟩ := h2
  subst e
  refine wpAny_newObj_type (newEnv_comp ?_) (by show 0 ≤ sizeLine; decide)
  generalize hD : s2.heap.objs.size = D
  have dn : H2 D = none := I2.hok.fresh (Nat.le_of_eq hD)
  obtain ⟨W, ⟨m0, w0⟩, turn⟩ := q D dn
  generalize hs3 : ({ s2 with heap := s2.heap.push { cls := .type "list", data := .seq ([] : List Value).toArray } } : Shared) = s3
  have I3 : Inv X pins σ (upd H2 D (.lst [])) s3 := by
    subst hs3
    refine I2.laid (t' := s2.toks) (fun b o z => Heap.get?_push_of_some _ z) (Nat.le_of_eq hD) ⟨Nat.zero_le _, [], 0, .nil, ?_⟩
    subst hD
    exact Heap.get?_push_size _ rfl
  have h3 : s3.heap = s2.heap.push { cls := .type "list", data := .seq ([] : List Value).toArray } := by subst hs3; rfl
  have lt2 : ∀ b ∈ fp, b < s2.heap.objs.size := fun b hb => let ⟨o, z, _⟩ := T.obj _ _ st2 b hb; Heap.lt_size z
  have f3 : ∀ b ∈ fp, FpOk X pins (upd H2 D (.lst [])) b ∧ b < s3.heap.objs.size := fun b hb => by
    have y := lt2 b hb
    refine ⟨⟨?_, (f2 b hb).2⟩, by rw [h3, Heap.size_push]; exact Nat.lt_succ_of_lt y⟩
    rw [upd_ne (by subst hD; exact Nat.ne_of_lt y)]
    exact (f2 b hb).1
  have st3 : tn 0 s3.heap := T.keep _ _ _ st2 fun b _ o z => by rw [h3]; exact Heap.get?_push_of_some _ z
  have pp := I3.pin p (List.mem_append_left _ hm)
  have I4a := block_start I3 ok hN f3
  generalize hce : compEnvC sc (cellsFrom (s3.heap.objs.size + 1) sc.names (cloFrom X.env.cells sc.names [])) s3.heap.objs.size X.env = ce at I4a
  have cL : ce.locals = s3.heap.objs.size := by subst hce; rfl
  have up4 : ∀ b o, s3.heap.get? b = some o → (pushCells (s3.heap.push { cls := .type "dict", data := .dict #[] }) sc.names).get? b = some o := fun b o z => pushCells_keeps _ _ _ _ (Heap.get?_push_of_some _ z)
  have npst : p.1 ∉ frs X.stack := fun y => by
    rcases List.mem_cons.mp (I3.stkSub p.1 y) with y | y
    · exact pp.2.2.1 y
    · exact pp.2.2.2.1 y
  have I4 : Inv (blq X s3 (upd H2 D (.lst [])) sc ce fp [p]) [] (wipe σ (own.map (·.2))) (upd H2 D (.lst [])) { s3 with heap := pushCells (s3.heap.push { cls := .type "dict", data := .dict #[] }) sc.names } := hold I4a fun p' hp' => by
    have y : p' = p := by simpa using hp'
    subst y
    exact ⟨up4 _ _ pp.1, pp.2.1, by show p'.1 ≠ ce.locals; rw [cL]; exact Nat.ne_of_lt (Heap.lt_size pp.1), npst, pp.2.2.2.2⟩
  have pg := hg s3 (upd H2 D (.lst [])) s3.heap.objs.size (cellsFrom (s3.heap.objs.size + 1) sc.names (cloFrom X.env.cells sc.names [])) fp
  have pt := ht s3 (upd H2 D (.lst [])) s3.heap.objs.size (cellsFrom (s3.heap.objs.size + 1) sc.names (cloFrom X.env.cells sc.names [])) fp
  have pe := he s3 (upd H2 D (.lst [])) s3.heap.objs.size (cellsFrom (s3.heap.objs.size + 1) sc.names (cloFrom X.env.cells sc.names [])) fp
  show codeAny _ _ (.compStart _ 0 (.ref it) (.ref D) (compEnvC sc (cellsFrom (s3.heap.objs.size + 1) sc.names (cloFrom X.env.cells sc.names [])) s3.heap.objs.size X.env)) (compPost (model X.prog X.w) X.A X.xe none _ (.ref D) s3.heap.objs.size) { s3 with heap := pushCells (s3.heap.push { cls := .type "dict", data := .dict #[] }) sc.names }
  rw [hce] at pg pt pe ⊢
  have nfp : ∀ b ∈ fp, (upd H2 D (.lst [])) b = none := fun b hb => (f3 b hb).1.1
  generalize hH3 : upd H2 D (.lst []) = H3 at I3 I4 pg pt pe w0 nfp f3
  generalize hs4 : ({ s3 with heap := pushCells (s3.heap.push { cls := .type "dict", data := .dict #[] }) sc.names } : Shared) = s4 at I4 ⊢
  have st4 : tn 0 s4.heap := T.keep _ _ _ st3 fun b _ o z => by subst hs4; exact up4 _ _ z
  have hc : HotC (blq X s3 H3 sc ce fp [p]) := ⟨p, hot, List.mem_cons_self⟩
  have fpOk : ∀ {σ' : L2.St} {H' : Hp} {s' : Shared}, Inv (blq X s3 H3 sc ce fp [p]) [] σ' H' s' → (∀ b ∈ fp, H' b = none) → ∀ b ∈ fp, FpOk (blq X s3 H3 sc ce fp [p]) [] H' b := fun {σ' H' s'} I' hn b hb =>
    ⟨hn b hb, (I'.ok.exf b hb).1, I'.ok.exfs b hb, .inl hb, fun x c z => (I'.ok.exf b hb).2 x c z, fun p' hp' => by
      have y : p' = p := by
        have y' : p' ∈ [p] ++ ([] : List (Addr × Obj)) := hp'
        simpa using y'
      subst y
      exact (f3 b hb).1.2.2.2.2.2 p' (List.mem_append_left _ hm)⟩
  refine codeAny_compStart_list ?_ (T.self X.A 0 _ _ _ st4 ?_) <;>
  · refine compLoop_any (fun n s' => ∃ i H', Inv (blq X s3 H3 sc ce fp [p]) [] (wipe σ (own.map (·.2))) H' s' ∧ tn i s'.heap ∧ (∀ b ∈ fp, H' b = none) ∧ W i n H') ?_ m0 ⟨0, H3, I4, st4, nfp, w0⟩
    rintro n s5 ⟨i, H5, I5, st5, n5, w5⟩
    rcases turn i n H5 w5 with ⟨stop, qq⟩ | ⟨go, Nx, hNx, step⟩
    · refine thnF (T.done (blq X s3 H3 sc ce fp [p]) rfl rfl rfl hc i [] s5 _ H5 (fun _ _ => False) I5 (fpOk I5 n5) st5 stop) fun r s6 ⟨hr, I6⟩ => ?_
      subst hr
      have I7 : Inv X pins σ H5 s6 := I3.call' (ch := fp) I6.os I6.base I6.hok I6.bare fun b hb => let z := (f3 b hb).1.2; ⟨z.2.2.1, z.1, z.2.2.2.1, z.2.2.2.2⟩
      have nC : H5 s3.heap.objs.size = none := by
        have z : H5 ce.locals = none := I6.free
        rw [cL] at z
        exact z
      obtain ⟨m, hn, _⟩ := I6.loc
      have hn' : s6.heap.Ns s3.heap.objs.size m := by
        have z : s6.heap.Ns ce.locals m := hn
        rw [cL] at z
        exact z
      refine ⟨m, hn', fun h'' sb => ?_⟩
      obtain ⟨z0, z1, z2, z3, z4, z5⟩ := I3.fpOk (H' := H5) (Nat.le_refl _) nC
      exact ⟨.ref D, H5, I7.turned (t' := s6.toks) (fun b o hb z => (sb.2 b hb).trans z) z0 z1 z3 z4 z5, rfl, qq⟩
    · refine thnF (T.item (blq X s3 H3 sc ce fp [p]) rfl rfl rfl hc i [] s5 _ H5 (fun _ _ => False) I5 (fpOk I5 n5) st5 go) fun r s6 ⟨u, hr, h6⟩ => ?_
      subst hr
      refine thnF h6 fun _ s7 ⟨x, H7, I7, r7, y7, st7, n7⟩ => ?_
      have J7 := I7.pinned (fpOk I7 n7) (T.obj _ _ st7)
      refine thnF (pg.run _ s7 _ H7 x u _ J7 r7 (step x H7 y7)) fun _ s8 ⟨σ8, H8, I8, hw8, q8⟩ => thnF (pt.run _ s8 σ8 H8 _ I8 q8) fun b s9 ⟨H9, I9, q9⟩ => ?_
      have fin : ∀ {s' : Shared} {H' : Hp}, Inv (blq X s3 H3 sc ce fp [p]) ([] ++ pinsAt fp s7.heap) σ8 H' s' → Nx H' → ∃ m, m < n ∧ ∃ i H', Inv (blq X s3 H3 sc ce fp [p]) [] (wipe σ (own.map (·.2))) H' s' ∧ tn i s'.heap ∧ (∀ b ∈ fp, H' b = none) ∧ W i m H' := fun {s' H'} I' nx => by
        obtain ⟨m', lt, w'⟩ := hNx H' nx
        have at' : ∀ b ∈ fp, ∀ o, s7.heap.get? b = some o → s'.heap.get? b = some o ∧ H' b = none := fun b hb o z =>
          let y := I'.pin (b, o) (List.mem_append_right _ (List.mem_append_right _ (mem_pinsAt hb z)))
          ⟨y.1, y.2.1⟩
        refine ⟨m', lt, i + 1, H', (I'.unpinned (pins := [])).weak (by rw [← hw8, wipe_length]) (fun j v z => ?_), T.keep _ _ _ st7 fun b hb o z => (at' b hb o z).1, fun b hb => ?_, w'⟩
        · rw [← hw8] at z
          exact (wipe_some z).1
        · obtain ⟨o, z, _⟩ := T.obj _ _ st7 b hb
          exact (at' b hb o z).2
      cases b with
      | false =>
        simp only [Bool.false_eq_true, if_false] at q9 ⊢
        exact fin I9 q9
      | true =>
        simp only [if_true] at q9 ⊢
        exact thnF (pe.run _ s9 σ8 H9 _ I9 q9) fun z s10 ⟨yv, H10, I10, r10, acc, hD10, hz10, nx⟩ => app_ok (X := blq X s3 H3 sc ce fp [p]) I10 hD10 hz10 r10 fun s11 I11 => fin I11 nx
end
end Err
end SecA3
section SecA4
set_option Elab.async false
set_option linter.all false
set_option maxRecDepth 100000
set_option maxHeartbeats 4000000
namespace ErrK
open PySem PySem.HandSPX
section
variable {M : Model} {A : Around} {E : Value → Shared → Prop} {h : Heap} {g : Array GenState} {d : Drawn} {t : Nat} {os : OsState}
variable {nm q : Str} {C N : Addr} {bs bm bmB : List Value} {hdct : Bool} {sn : List Str} {sub : List Value} {ab : Bool} {col : Option Bool} {dd : Option Addr} {k0 k1 k2 k3 k5 : Option Value} {B newId initId : String}
theorem chkNew (F : ExcBaseFacts B newId initId bmB) (hT : ∀ X : String, bm.contains (.type X) = bmB.contains (.type X)) {us : List Value} {kw : List (Str × Value)} {Q : Unit → Shared → Prop}
    (oC : h.get? C = some (excClassObj nm q C N bs bm hdct sn sub ab col dd k0 k1 k2 k3 k5 newId)) (z : Q () ⟨h, g, d, t, os⟩) : wpAny M A (checkBuiltinCall newId ⟨.ref C :: us, kw⟩) Q E ⟨h, g, d, t, os⟩ := by
  have isB : (Value.ref C :: bm).contains (.type B) = true := by rw [List.contains_cons, hT, F.hasB, Bool.or_true]
  have nost := F.noStar
  simp only [checkBuiltinCall, F.newKind, F.newSplit, F.newRow]
  repeat (first | refine wpAny_loadPart_at oC ?_ | (refine wpAny_isSubtype_exc oC ?_; rw [isB]) | refine wpAny_staticBase_exc oC ?_ | refine wpAny_madeBy_exc oC ?_ | simp only [bne_self_eq_false, Bool.false_eq_true, if_false] | wp_step)
  exact z
theorem chkCall {us : List Value} {kw : List (Str × Value)} {Q : Unit → Shared → Prop} (oC : h.get? C = some (excClassObj nm q C N bs bm hdct sn sub ab col dd k0 k1 k2 k3 k5 newId)) (z : Q () ⟨h, g, d, t, os⟩) :
    wpAny M A (checkBuiltinCall "type.__call__" ⟨.ref C :: us, kw⟩) Q E ⟨h, g, d, t, os⟩ := by
  have y3 := tc_sub
  have yT : (⟨h, g, d, t, os⟩ : Shared).TypeIs (.ref C) "type" := ⟨_, oC, rfl⟩
  simp only [checkBuiltinCall, tc_kind, tc_split]
  repeat (any_goals (first | assumption | with_reducible refine wpAny_loadPart_at oC ?_ | with_reducible refine wpAny_onRaise ?_ | with_reducible refine wpAny_map ?_ | wp_step))
end
section
variable {prog : Program} {w : World} {A : Around} {E : Value → Shared → Prop} {R : Result → Shared → Prop} {h : Heap} {g : Array GenState} {d : Drawn} {t : Nat} {os : OsState}
variable {nm q : Str} {C N : Addr} {bs bm bmB : List Value} {hdct : Bool} {sn : List Str} {sub : List Value} {ab : Bool} {col : Option Bool} {dd : Option Addr} {k0 k1 k2 k3 k5 : Option Value} {B newId initId : String}
theorem newK (F : ExcBaseFacts B newId initId bmB) (hT : ∀ X : String, bm.contains (.type X) = bmB.contains (.type X)) {us : List Value} {kw : List (Str × Value)}
    (oC : h.get? C = some (excClassObj nm q C N bs bm hdct sn sub ab col dd k0 k1 k2 k3 k5 newId)) (hus : us.length ≤ sizeLine)
    (z : R (.ok (.ret (.ref (h.objs.size + 1)))) ⟨(h.push { cls := .type "tuple", data := .seq us.toArray }).push { cls := .ref C, data := .fields #[.ref h.objs.size, .none, .none, .none, .bool false, .none] }, g, d, t, os⟩) :
    codeAny (model prog w) A (.builtin newId ⟨.ref C :: us, kw⟩) R ⟨h, g, d, t, os⟩ := by
  have hrest := hus
  have ends := F.ends
  have isB : (Value.ref C :: bm).contains (.type B) = true := by rw [List.contains_cons, hT, F.hasB, Bool.or_true]
  have noA : (Value.ref C :: bm).contains (.type "AttributeError") = false := by rw [List.contains_cons, hT, F.noAttr]; rfl
  have noN : (Value.ref C :: bm).contains (.type "NameError") = false := by rw [List.contains_cons, hT, F.noName]; rfl
  refine codeAny_builtinAt F.entry ?_
  unfold Builtin.«BaseException.__new__»
  refine wpAt_bind ?_
  show wpAt _ _ _ (stack >>= _) _ _ _
  refine wpAt_bind (wpAt_stack fun p below => wpAt_of_wpAny ?_)
  wp_walk
  refine wpAt_of_wpAny ?_
  rw [F.owner]
  repeat (first | with_reducible refine wpAny_madeHere_exc F.canon oC ?_ | with_reducible refine wpAny_loadPart_at oC ?_ | (with_reducible refine wpAny_isSubtype_exc oC ?_; first | rw [isB] | rw [noA] | rw [noN]) | wp_step)
  show R _ _
  rw [Heap.size_push]
  exact z
theorem tcallK (F : ExcBaseFacts B newId initId bmB) (hT : ∀ X : String, bm.contains (.type X) = bmB.contains (.type X)) {us : List Value} {kw : List (Str × Value)} {fI : Addr} {Q : Fin → Shared → Prop}
    (oC : h.get? C = some (excClassObj nm q C N bs bm hdct sn sub ab col dd k0 k1 k2 k3 k5 newId))
    (li : W.Looks (model prog w) h (typeLookup (.ref C) "__init__") (some (.ref fI))) (lb : ∀ self, W.Looks (model prog w) h (bindSpecial (.ref fI) self) (.ref fI, [self])) (hus : us.length ≤ sizeLine)
    (z : codeAny (model prog w) A (.call (.ref fI) ⟨.ref (h.objs.size + 1) :: us, kw⟩)
      (fun r s' => match r with | .ok (.ret v) => v = .none ∧ Q (.done (.ret (.ref (h.objs.size + 1)))) s' | .ok _ => False | .error e => E e s') ⟨(h.push (W.kdv_tup us)).push (excO C h.objs.size), g, d, t, os⟩) :
    wpAny (model prog w) A (Builtin.«type.__call__» ⟨.ref C :: us, kw⟩) Q E ⟨h, g, d, t, os⟩ := by
  repeat (first | with_reducible refine wpAny_loadPart_at oC ?_ | with_reducible refine wpAny_madeBy_exc oC ?_ | wp_step)
  refine codeAny_call_builtin_code (Code.quiet_builtin _ F.quiet) (chkNew F hT oC (newK F hT oC hus ?_))
  show wpAny _ _ _ _ _ _
  have kp : ∀ b o, h.get? b = some o → ((h.push (W.kdv_tup us)).push (excO C h.objs.size)).get? b = some o := fun b o e => Heap.get?_push_of_some _ (Heap.get?_push_of_some _ e)
  have oC1 := kp _ _ oC
  have ge : ((h.push (W.kdv_tup us)).push (excO C h.objs.size)).get? (h.objs.size + 1) = some (excO C h.objs.size) := by heap_get
  have isC : (Value.ref C :: bm).contains (.ref C) = true := by simp
  have li1 := li.keeps kp
  have lb1 := (lb (.ref (h.objs.size + 1))).keeps kp
  unfold isInstance
  repeat (first | with_reducible refine wpAny_loadPart_at ge ?_ | (with_reducible refine wpAny_isSubtype_exc oC1 ?_; rw [isC]) | wp_step)
  show wpAny _ _ (typeLookup (.ref C) _) _ _ _
  refine li1.at (wpAny_holding (wpAny_bind (lb1.at (wpAny_bind (wpAny_call (codeAny_mono z fun r s' y => ?_))))))
  rcases r with e | (v | _ | _ | _) <;> first | exact y | exact y.elim | skip
  obtain ⟨rfl, y⟩ := y
  first
    | exact wpAny_pure (wpAny_pure y)
    | (wp_walk; exact y)
theorem callK (F : ExcBaseFacts B newId initId bmB) (hT : ∀ X : String, bm.contains (.type X) = bmB.contains (.type X)) {us : List Value} {kw : List (Str × Value)} {fI : Addr}
    (oC : h.get? C = some (excClassObj nm q C N bs bm hdct sn sub ab col dd k0 k1 k2 k3 k5 newId))
    (li : W.Looks (model prog w) h (typeLookup (.ref C) "__init__") (some (.ref fI))) (lb : ∀ self, W.Looks (model prog w) h (bindSpecial (.ref fI) self) (.ref fI, [self])) (hus : us.length ≤ sizeLine)
    (z : codeAny (model prog w) (A.under (.builtin "type.__call__" ⟨.ref C :: us, kw⟩)) (.call (.ref fI) ⟨.ref (h.objs.size + 1) :: us, kw⟩) (W.InitBack (h.objs.size + 1) R) ⟨(h.push (W.kdv_tup us)).push (excO C h.objs.size), g, d, t, os⟩) :
    codeAny (model prog w) A (.call (.ref C) ⟨us, kw⟩) R ⟨h, g, d, t, os⟩ := by
  have y1 := tc_lookup
  have y2 := tc_bind (.ref C)
  have yT : (⟨h, g, d, t, os⟩ : Shared).TypeIs (.ref C) "type" := ⟨_, oC, rfl⟩
  refine codeAny_of_tree ?_
  show wpAny _ _ (callAny (.ref C) _) _ _ _
  repeat (any_goals (first | assumption | with_reducible refine wpAny_loadPart_at oC ?_ | wp_step))
  refine ⟨rfl, codeAny_call_builtin_at (Code.quiet_builtin _ (by decide +kernel)) entry_typeCall (chkCall oC (tcallK F hT oC li lb hus (codeAny_mono z fun r s' y => ?_)))⟩
  rcases r with e | (v | _ | _ | _) <;> exact y
end
end ErrK
end SecA4
section SecA5
set_option Elab.async false
set_option linter.all false
set_option maxRecDepth 100000
set_option maxHeartbeats 4000000
namespace Err
open PySem PySem.Spec PyProof.Rows L2 L2H
section
variable {X : Cx} {CX : CXT} {C fI : Addr} {k : Nat} {fd : FuncData} {ps : List Str} {sp : Sp}
/-- an error is made: what is called, the values in the parameters' order -/
theorem run_mk {pins : List (Addr × Obj)} {σ : L2.St} {H : Hp} {s : Shared} {R : Value → Shared → Prop} {us zs : List Value} {kw : List (Str × Value)} {vz : List V} {Qs : Addr → VK} (T : OexC X.K C) (iC : PySem.W.findIn X.K (.ref C) "__init__" = some (some (.ref fI)))
    (tI : PySem.W.typeIn X.K (.ref fI) = some (.type "function")) (F1 : FnOk X.prog X.w X.K X.mg X.base CX k fI fd ps sp) (hr : Room (k + 1) X.A) (hx : Passes CX X (fun _ _ _ => False)) (I : Inv X pins σ H s) (rz : Vals vz zs)
    (hb : ∀ (s' : Shared) (u0 : Value), X.K.In s'.heap → BindsTo s' fd ⟨u0 :: us, kw⟩ (ps.zip (u0 :: zs))) (hl : us.length ≤ 1000) (h : ∀ a, H a = none → sp (.ref a :: vz) (upd H a (exo a C none)) (Qs a) (fun _ _ _ => False))
    (hR : ∀ (a : Addr) (v : V) (u : Value) (H2 : Hp) (s' : Shared), s.heap.objs.size ≤ a → (∀ b o, s.heap.get? b = some o → b ≠ a) → Un (frs X.stack) [] (upd H a (exo a C none)) H2 ((s.heap.push (PySem.W.kdv_tup us)).push (PySem.HandSPX.excO C s.heap.objs.size)) s'.heap →
      HOk X.prog X.w H2 s'.heap → s'.os = s.os → AllBare s'.gens → Inv X pins σ H2 s' → RelV v u → Qs a v H2 → u = .none ∧ R (.ref a) s') :
    wpAny (model X.prog X.w) X.A (call (.ref C) us kw) R X.xe s := by
  obtain ⟨nm, q, N, bs, bm, sn, sub, ab, col, dd, k0, k1, k2, k3, k5, hC, hbm⟩ := T.cls
  obtain ⟨hp, g, dr, tk, os⟩ := s
  have sz : hp.objs.size ≤ hp.objs.size + 1 := Nat.le_succ _
  have na : H (hp.objs.size + 1) = none := I.hok.fresh sz
  have hq := h (hp.objs.size + 1) na
  have kp : ∀ b o, hp.get? b = some o → ((hp.push (PySem.W.kdv_tup us)).push (PySem.HandSPX.excO C hp.objs.size)).get? b = some o := fun b o e => Heap.get?_push_of_some _ (Heap.get?_push_of_some _ e)
  have ge : ((hp.push (PySem.W.kdv_tup us)).push (PySem.HandSPX.excO C hp.objs.size)).get? (hp.objs.size + 1) = some (PySem.HandSPX.excO C hp.objs.size) := by heap_get
  have I2 : Inv X pins σ (upd H (hp.objs.size + 1) (exo (hp.objs.size + 1) C none)) ⟨(hp.push (PySem.W.kdv_tup us)).push (PySem.HandSPX.excO C hp.objs.size), g, dr, tk, os⟩ := I.laid (t' := tk) (a := hp.objs.size + 1) kp sz (exo_ok ge)
  have rs : Vals (V.ref (hp.objs.size + 1) :: vz) (Value.ref (hp.objs.size + 1) :: zs) := .cons rfl rz
  have ls : us.length ≤ sizeLine := by
    rw [sizeLine_eq]
    omega
  refine wpAny_call (ErrK.callK F.excBase_ValueError (fun Y => PySem.HandSPX.refsVE_contains Y bm hbm) (I.kIn _ _ hC) (PySem.W.looks_findIn I.kIn iC) (fun self => PySem.W.bind_fn I.kIn self tI) ls
    (codeAny_mono (F1.run _ X.stack _ _ ⟨Value.ref (hp.objs.size + 1) :: us, kw⟩ (Value.ref (hp.objs.size + 1) :: zs) _ _ (fun _ _ _ => False) (hr.make C us kw) (I2.env0.make C us kw) (hb _ _ I2.kIn) rs hq) fun r s' hq' => ?_))
  cases r with
  | error er => exact hx pins σ _ _ er s' I2 hq'
  | ok fl =>
    cases fl with
    | ret u =>
      have y := hq'
      obtain ⟨v, H2, os2, bare2, un2, hok2, rv, q2⟩ := hq'
      obtain ⟨v', H2', I3, rv', q3⟩ := I2.after (Q := fun v' H' => v' = v ∧ H' = H2) (u := u) ⟨v, H2, os2, bare2, un2, hok2, rv, rfl, rfl⟩
      obtain ⟨e1, e2⟩ := q3
      subst e1
      subst e2
      exact hR _ _ _ _ s' sz (fun b o e => Nat.ne_of_lt (Nat.lt_of_lt_of_le (Heap.lt_size e) sz)) un2 hok2 os2 bare2 I3 rv q2
    | next => exact hq'.elim
    | brk => exact hq'.elim
    | cont => exact hq'.elim
/-- C(e, ..) as a value -/
def tMkV (C : Addr) (sp : Sp) (ta : TA) : TE := fun σ H Q => ta σ H fun vs H1 => vs.length ≤ 1000 ∧ ∀ a, H1 a = none → sp (.ref a :: vs) (upd H1 a (exo a C none)) (fun v H2 => v = .non ∧ Q (.ref a) H2) (fun _ _ _ => False)
def tMkVK (C : Addr) (sp : Sp) (gV : List V → List V) (n : Nat) (tk : TA) : TE := fun σ H Q => tk σ H fun zs H1 => zs.length = n ∧ ∀ a, H1 a = none → sp (.ref a :: gV zs) (upd H1 a (exo a C none)) (fun v H2 => v = .non ∧ Q (.ref a) H2) (fun _ _ _ => False)
variable {x : Str} {p pos : Pos} {e : Expr} {es : List Expr} {ta : TA}
theorem pe_mkv (T : OexC X.K C) (iC : PySem.W.findIn X.K (.ref C) "__init__" = some (some (.ref fI))) (tI : PySem.W.typeIn X.K (.ref fI) = some (.type "function")) (F1 : FnOk X.prog X.w X.K X.mg X.base CX k fI fd ps sp) (hr : Room (k + 1) X.A)
    (hb : Binds X.K fd ps []) (hx : Passes CX X (fun _ _ _ => False)) (hg : Gl X x) (hm : X.mg x = some (.ref C)) (ha : PA X (e :: es) ta) (hdb : (x == ("__debug__" : Str)) = false := by decide)
    (he : starEach (e :: es) X.env = (false, eval e X.env) :: starEach es X.env := by rfl) (hpl : (backTo pos (starEach es X.env)).any (·.1) = false := by rfl) : PE X (.Call (.Name x p) (e :: es) [] pos) (tMkV C sp ta) := by
  refine ⟨fun pins s σ H Q I h => wpAny_Call_Name_kw (ld_glob I hg hm ?_ hdb)⟩
  refine PySem.W.callWith_K (h₀ := X.base) I.ok.mod.kin T.kC (thn (ha.run pos pins s σ H _ I h) fun us s1 ⟨vs, H1, I1, r1, hz, q1⟩ => ⟨I1.kIn, ?_⟩) he hpl
  have n1 := I1.hok.fresh (Nat.le_refl _)
  have ll : ∀ u0 : Value, ((u0 :: us) ++ ([] : List Value)).length = ps.length := fun u0 => by
    have y := F1.len _ _ _ _ (q1 _ n1)
    rw [List.append_nil, ← y, List.length_cons, List.length_cons, Paired.length r1]
  exact run_mk (us := us) T iC tI F1 hr hx I1 r1 (fun s' u0 kin => by
      have y := hb s' (u0 :: us) kin (ll u0)
      rw [List.append_nil] at y
      exact y) (by show us.length ≤ 1000; rw [← Paired.length r1]; exact hz) q1 fun a v u H2 s' _ _ _ _ _ _ I3 rv q3 => by
    obtain ⟨rfl, q3⟩ := q3
    exact ⟨rv, ⟨.ref a, H2, I3, rfl, q3⟩⟩
theorem pe_mkv0 (T : OexC X.K C) (iC : PySem.W.findIn X.K (.ref C) "__init__" = some (some (.ref fI))) (tI : PySem.W.typeIn X.K (.ref fI) = some (.type "function")) (F1 : FnOk X.prog X.w X.K X.mg X.base CX k fI fd ps sp) (hr : Room (k + 1) X.A)
    (hb : Binds X.K fd ps []) (hx : Passes CX X (fun _ _ _ => False)) (hg : Gl X x) (hm : X.mg x = some (.ref C)) (hdb : (x == ("__debug__" : Str)) = false := by decide) : PE X (.Call (.Name x p) [] [] pos) (tMkV C sp tNil) := by
  refine ⟨fun pins s σ H Q I h => wpAny_Call_Name_kw (ld_glob I hg hm ?_ hdb)⟩
  refine PySem.W.callWith_K0 I.kIn T.kC ?_
  obtain ⟨_, q1⟩ := h
  have n1 := I.hok.fresh (Nat.le_refl _)
  have ll : ∀ u0 : Value, ([u0] ++ ([] : List Value)).length = ps.length := fun u0 => by
    have y := F1.len _ _ _ _ (q1 _ n1)
    rw [← y]; rfl
  exact run_mk (us := []) T iC tI F1 hr hx I .nil (fun s' u0 kin => hb s' [u0] kin (ll u0)) (Nat.zero_le _) q1 fun a v u H2 s' _ _ _ _ _ _ I3 rv q3 => by
    obtain ⟨rfl, q3⟩ := q3
    exact ⟨rv, ⟨.ref a, H2, I3, rfl, q3⟩⟩
theorem pe_mkvK {ks : List Str} {kws : List Keyword} {tk : TA} {g : List Value → List Value} {gV : List V → List V} (T : OexC X.K C) (iC : PySem.W.findIn X.K (.ref C) "__init__" = some (some (.ref fI))) (tI : PySem.W.typeIn X.K (.ref fI) = some (.type "function"))
    (F1 : FnOk X.prog X.w X.K X.mg X.base CX k fI fd ps sp) (hr : Room (k + 1) X.A) (hb : ∀ (s : Shared) (u0 : Value) (ws : List Value), X.K.In s.heap → ws.length = ks.length → BindsTo s fd ⟨[u0], ks.zip ws⟩ (ps.zip (u0 :: g ws)))
    (hrel : ∀ {zs : List V} {ws : List Value}, zs.length = ks.length → Vals zs ws → Vals (gV zs) (g ws)) (hx : Passes CX X (fun _ _ _ => False)) (hg : Gl X x) (hm : X.mg x = some (.ref C)) (hkw : PK X kws tk)
    (hall : (backToKw pos (keywordEach kws X.env)).all (·.1.isSome) = true := by rfl) (hks : (backToKw pos (keywordEach kws X.env)).filterMap (·.1) = ks := by rfl) (hdb : (x == ("__debug__" : Str)) = false := by decide)
    (hpl : ((backTo pos (starEach [] X.env)).any (·.1) || (backToKw pos (keywordEach kws X.env)).any (·.1.isNone)) = false := by rfl) : PE X (.Call (.Name x p) [] kws pos) (tMkVK C sp gV ks.length tk) := by
  refine ⟨fun pins s σ H Q I h => wpAny_Call_Name_kw (ld_glob I hg hm ?_ hdb)⟩
  refine PySem.W.callWith_KW0 (h₀ := X.base) I.ok.mod.kin T.kC hall (thn (hkw.run pos pins s σ H _ I h) fun ws s2 ⟨zs, H2, I2, rz, lz, q2⟩ => ⟨I2.kIn, ?_⟩) hpl
  rw [hks]
  have lw : ws.length = ks.length := by rw [← Paired.length rz]; exact lz
  exact run_mk (us := []) T iC tI F1 hr hx I2 (hrel lz rz) (fun s' u0 kin => hb s' u0 ws kin lw) (Nat.zero_le _) q2 fun a v u H3 s' _ _ _ _ _ _ I3 rv q3 => by
    obtain ⟨rfl, q3⟩ := q3
    exact ⟨rv, ⟨.ref a, H3, I3, rfl, q3⟩⟩
/-- raise C(e, ..): the error leaves what is tracked, its dict stays -/
theorem pmk_n (T : OexC X.K C) (iC : PySem.W.findIn X.K (.ref C) "__init__" = some (some (.ref fI))) (tI : PySem.W.typeIn X.K (.ref fI) = some (.type "function")) (F1 : FnOk X.prog X.w X.K X.mg X.base CX k fI fd ps sp) (hr : Room (k + 1) X.A)
    (hb : Binds X.K fd ps []) (hx : Passes CX X (fun _ _ _ => False)) (hg : Gl X x) (hm : X.mg x = some (.ref C)) (ha : PA X (e :: es) ta) (hdb : (x == ("__debug__" : Str)) = false := by decide)
    (he : starEach (e :: es) X.env = (false, eval e X.env) :: starEach es X.env := by rfl) (hpl : (backTo pos (starEach es X.env)).any (·.1) = false := by rfl) : L2N.PMk X (.Call (.Name x p) (e :: es) [] pos) (tMkO C sp [] ta) := by
  intro pins s σ H Q I h
  refine wpAny_Call_Name_kw (ld_glob I hg hm ?_ hdb)
  refine PySem.W.callWith_K (h₀ := X.base) I.ok.mod.kin T.kC (thn (ha.run pos pins s σ H _ I h) fun us s1 ⟨vs, H1, I1, r1, hz, q1⟩ => ⟨I1.kIn, ?_⟩) he hpl
  rw [List.append_nil] at q1
  have n1 := I1.hok.fresh (Nat.le_refl _)
  have ll : ∀ u0 : Value, ((u0 :: us) ++ ([] : List Value)).length = ps.length := fun u0 => by
    have y := F1.len _ _ _ _ (q1 _ n1)
    rw [List.append_nil, ← y, List.length_cons, List.length_cons, Paired.length r1]
  refine run_mk (us := us) T iC tI F1 hr hx I1 r1 (fun s' u0 kin => by
      have y := hb s' (u0 :: us) kin (ll u0)
      rw [List.append_nil] at y
      exact y) (by show us.length ≤ 1000; rw [← Paired.length r1]; exact hz) q1 fun a v u H2 s' sz _ un2 hok2 os2 bare2 I3 rv q3 => ?_
  obtain ⟨rfl, d, fs, ea, ed, hd1, q3⟩ := q3
  obtain ⟨hp, g, dr, tk, os⟩ := s1
  obtain ⟨h2, g2, d2, t2, os'⟩ := s'
  refine ⟨rv, ?_⟩
  obtain ⟨t0, G, J, kG, gn, hoe, na⟩ := mk_end0 (d2 := d2) (t2 := t2) I1 sz (fun b o z => Heap.get?_push_of_some _ (Heap.get?_push_of_some _ z)) un2 hok2 os2 bare2 ea ed hd1
  exact ⟨a, _, _, ⟨G, g2, d2, t2, os'⟩, _, .ref C, some d, rfl, J, kG, gn, hoe, ⟨rfl, rfl, fun vs z => by cases z; rfl⟩, rfl, rfl, na, rfl, bare2, raises_own T.exC T.tyC, q3⟩
/-- raise C(), an error without fields -/
def tMkO0 (C : Addr) (sp : Sp) : L2.St → Hp → XK → Prop := fun _ H Q => ∀ a, H a = none → sp [.ref a] (upd H a (exo a C none)) (fun v H2 => v = .non ∧ H2 = upd H a (exo a C none) ∧ Q (.ref C) none H) (fun _ _ _ => False)
theorem pmk_n0 (T : OexC X.K C) (iC : PySem.W.findIn X.K (.ref C) "__init__" = some (some (.ref fI))) (tI : PySem.W.typeIn X.K (.ref fI) = some (.type "function")) (F1 : FnOk X.prog X.w X.K X.mg X.base CX k fI fd ps sp) (hr : Room (k + 1) X.A)
    (hb : Binds X.K fd ps []) (hx : Passes CX X (fun _ _ _ => False)) (hg : Gl X x) (hm : X.mg x = some (.ref C)) (hdb : (x == ("__debug__" : Str)) = false := by decide) : L2N.PMk X (.Call (.Name x p) [] [] pos) (tMkO0 C sp) := by
  intro pins s σ H Q I q1
  refine wpAny_Call_Name_kw (ld_glob I hg hm ?_ hdb)
  refine PySem.W.callWith_K0 I.kIn T.kC ?_
  have n1 := I.hok.fresh (Nat.le_refl _)
  have ll : ∀ u0 : Value, ([u0] ++ ([] : List Value)).length = ps.length := fun u0 => by
    have y := F1.len _ _ _ _ (q1 _ n1)
    rw [← y]; rfl
  refine run_mk (us := []) T iC tI F1 hr hx I .nil (fun s' u0 kin => hb s' [u0] kin (ll u0)) (Nat.zero_le _) q1 fun a v u H2 s' sz nea un2 hok2 os2 bare2 I3 rv q3 => ?_
  obtain ⟨rfl, e2, q3⟩ := q3
  subst e2
  refine ⟨rv, ?_⟩
  obtain ⟨hp, g, dr, tk, os⟩ := s
  obtain ⟨h2, g2, d2, t2, os'⟩ := s'
  have na : H a = none := I.hok.fresh sz
  obtain ⟨t0, hoe⟩ := exo_at hok2 (upd_same : upd H a (exo a C none) a = _)
  obtain ⟨G, ga, gb⟩ := restrict h2 fun b => decide (b ≠ a)
  have gk : ∀ b, b ≠ a → G.get? b = h2.get? b := fun b hb => ga b (decide_eq_true hb)
  have gn : G.get? a = none := gb a (by simp)
  have kp : ∀ b o, hp.get? b = some o → ((hp.push (PySem.W.kdv_tup [])).push (PySem.HandSPX.excO C hp.objs.size)).get? b = some o := fun b o z => Heap.get?_push_of_some _ (Heap.get?_push_of_some _ z)
  have off : ∀ {b : Addr} {o : HO}, H b = some o → b ≠ a := fun z => ne_of_none z na
  have U : Un (frs X.stack) [] H H hp G := {
    keep := fun b o z n hf hx => by rw [gk b (nea b o z)]; exact un2.keep b o (kp b o z) (by rw [upd_ne (nea b o z)]; exact n) hf hx
    slot := fun b o z n hf hx => by rw [gk b (nea b o z)]; exact un2.slot b o (kp b o z) (by rw [upd_ne (nea b o z)]; exact n) hf hx
    free := fun _ _ _ n _ => n
    there := fun b o z hx => by rw [gk b (nea b o z)]; exact un2.there b o (kp b o z) hx
    tups := fun _ _ z => z
    frzs := fun _ _ _ z => z
    tbls := fun b ps z => ⟨#[], by rw [z]; simp⟩ }
  have ok3 : HOk X.prog X.w H G := fun b o z => by
    have y := hok2 b o (by rw [upd_ne (off z)]; exact z)
    refine y.stay (fun c v hc r => ?_) (fun c hc => ?_) (fun c xs hc => ?_)
    · have hca : c ≠ a := by
        rcases hc with hc | hc
        · rw [hc]; exact off z
        · intro e
          rw [e, upd_same] at hc
          exact exo_own (Option.some.inj hc)
      rw [gk c hca]
      exact r
    · have hca : c ≠ a := fun e => by
        rw [e, upd_same] at hc
        exact exo_own (Option.some.inj hc)
      rw [upd_ne hca] at hc
      exact hc
    · have hca : c ≠ a := fun e => by
        rw [e, upd_same] at hc
        exact exo_tup (Option.some.inj hc)
      rw [upd_ne hca] at hc
      exact hc
  have J : Inv X pins σ H ⟨G, g2, d2, t2, os'⟩ := I.call' (ch := []) os2 U ok3 bare2 (fun b z => absurd z (by simp))
  refine ⟨a, _, _, ⟨G, g2, d2, t2, os'⟩, H, .ref C, none, rfl, J, fun b o z => ?_, gn, hoe, ⟨rfl, rfl, fun vs z => by cases z; rfl⟩, rfl, rfl, na, rfl, bare2, raises_own T.exC T.tyC, q3⟩
  by_cases hba : b = a
  · have z' : G.get? b = some o := z
    rw [hba, gn] at z'
    cases z'
  · exact (gk b hba).symm.trans z
end
end Err
end SecA5
section SecA6
set_option Elab.async false
set_option linter.all false
set_option maxRecDepth 100000
set_option maxHeartbeats 4000000
namespace Err
open PySem PySem.Spec PyProof.Rows L2
/-- a clause's test e: M tells of a class whether it matches -/
def Tst (X : Cx) (e : Expr) (M : Value → Bool → Prop) : Prop := ∀ (a : Addr) (oe : Obj) (pn : List (Addr × Obj)) (s : Shared) (σ : L2.St) (H : Hp) (cls : Value) (b : Bool) (Q : Bool → Shared → Prop) (E E2 : Value → Shared → Prop),
  Inv (X.suite a ((a, oe) :: pn)) [] σ H s → oe.cls = cls → M cls b → (∀ h', (∀ b o, s.heap.get? b = some o → h'.get? b = some o) → Q b { s with heap := h' }) →
  wpAny (model X.prog X.w) (X.A.mark (some (.ref a))) (eval e X.env) (fun c s1 => wpAny (model X.prog X.w) (X.A.mark (some (.ref a))) (excMatches (.ref a) c) Q E2 s1) E s
section
variable {X : Cx}
theorem name_at {a : Addr} {oe : Obj} {pn : List (Addr × Obj)} {s : Shared} {σ : L2.St} {H : Hp} {x : Str} {c : Value} {np : Pos} {Q : Value → Shared → Prop} {E : Value → Shared → Prop} (hc : Names X x c) (I : Inv (X.suite a ((a, oe) :: pn)) [] σ H s) (q : Q c s) :
    wpAny (model X.prog X.w) (X.A.mark (some (.ref a))) (eval (.Name x np) X.env) Q E s := by
  obtain ⟨hg, hdbg, hm | ⟨hm, hv, hnn⟩⟩ := hc
  · exact ld_glob (X := X.suite a ((a, oe) :: pn)) I hg hm q hdbg
  · exact ld_blt (X := X.suite a ((a, oe) :: pn)) I hg hm hv q hnn hdbg
theorem tst_name {x : Str} {c : Value} {np : Pos} (hc : Names X x c) : Tst X (.Name x np) (fun cls b => PySem.W.exmOne X.K cls c = some b) := fun a oe pn s σ H cls b Q E E2 I ec m q => by
  have g := (I.pin (a, oe) (List.mem_append_left _ List.mem_cons_self)).1
  have LT : PySem.W.Looks (model X.prog X.w) s.heap (typeOf (.ref a)) cls := fun A Q E s k z => wpAny_typeOf_ref (k _ _ g) (by rw [ec]; exact z)
  exact name_at hc I ((PySem.W.exm_one (M := model X.prog X.w) I.kIn LT m).here (q s.heap fun _ _ z => z))
theorem tst_pair {x1 x2 : Str} {c1 c2 : Value} {n1 n2 tp : Pos} {z1} (h1 : Names X x1 c1) (h2 : Names X x2 c2)
    (hs : starEach [.Name x1 n1, .Name x2 n2] X.env = [(false, eval (.Name x1 n1) X.env), (false, eval (.Name x2 n2) X.env)] := by rfl) :
    Tst X (.Tuple [.Name x1 n1, .Name x2 n2] z1 tp) (fun cls b => PySem.W.exmAny X.K cls [c1, c2] = some b) := fun a oe pn s σ H cls b Q E E2 I ec m q => by
  have g := (I.pin (a, oe) (List.mem_append_left _ List.mem_cons_self)).1
  refine wpAny_Tuple_spliced ?_
  rw [hs]
  show wpAny _ _ (spliced ((false, eval (.Name x1 n1) X.env) :: [(false, eval (.Name x2 n2) X.env)])) _ _ s
  refine Calls.spliced_cons (name_at h1 I (Calls.spliced_cons (name_at h2 I (Calls.spliced_nil ⟨by show 2 ≤ sizeLine; decide, ?_⟩))))
  have kp : ∀ b o, s.heap.get? b = some o → (s.heap.push { cls := .type "tuple", data := .seq [c1, c2].toArray }).get? b = some o := fun b o z => Heap.get?_push_of_some _ z
  have LT : PySem.W.Looks (model X.prog X.w) (s.heap.push { cls := .type "tuple", data := .seq [c1, c2].toArray }) (typeOf (.ref a)) cls := fun A Q E s k z => wpAny_typeOf_ref (k _ _ (kp _ _ g)) (by rw [ec]; exact z)
  exact (PySem.W.exm_tup2 (M := model X.prog X.w) (I.kIn.keeps kp) LT (Heap.get?_push_size _ rfl) m).here (q _ kp)
/-- where a suite ends -/
def endAt (i : Option Nat) (D : Ends) : Ends := match i with
  | none => D
  | some i => { nx := fun σ' H' => D.nx (σ'.set i none) H', rt := D.rt, bk := fun σ' H' => D.bk (σ'.set i none) H', ct := fun σ' H' => D.ct (σ'.set i none) H' }
def putAt (i : Option Nat) (a : Addr) (σ : L2.St) : L2.St := match i with
  | none => σ
  | some i => σ.set i (some (.ref a))
abbrev Cl := (Value → Bool → Prop) × Option Nat × (Addr → Value → Option Addr → TS)
/-- the wish of the clauses, one behind the other -/
def wCl (Wout : WX) (D : Ends) : List Cl → WX
  | [] => Wout
  | (M, i, ts) :: r => fun cls d σ H => ∃ b, M cls b ∧ (b = true → ∀ a, H a = none → ts a cls d (endAt i D) (putAt i a σ) H) ∧ (b = false → wCl Wout D r cls d σ H)
inductive ClOk (X : Cx) : List ExceptHandler → List Cl → Prop
  | nil : ClOk X [] []
  | as {t : Expr} {n : Str} {i : Nat} {M : Value → Bool → Prop} {ts : Addr → Value → Option Addr → TS} {b0 : Stmt} {suite : List Stmt} {pos' : Pos} {hds : List ExceptHandler} {l : List Cl} (ht : Tst X t M) (hi : X.N[i]? = some n) (hl : X.env.kindOf n = some .local)
      (hsu : ∀ (a : Addr) (oe : Obj) (cls : Value) (d : Option Addr) (pn : List (Addr × Obj)), L2N.Zn cls d oe → (∃ vs, oe.data = .fields vs) → PSs (X.suite a ((a, oe) :: pn)) (b0 :: suite) (ts a cls d)) (r : ClOk X hds l) :
      ClOk X (.ExceptHandler (some t) (some n) (b0 :: suite) pos' :: hds) ((M, some i, ts) :: l)
  | only {t : Expr} {M : Value → Bool → Prop} {ts : Addr → Value → Option Addr → TS} {b0 : Stmt} {suite : List Stmt} {pos' : Pos} {hds : List ExceptHandler} {l : List Cl} (ht : Tst X t M)
      (hsu : ∀ (a : Addr) (oe : Obj) (cls : Value) (d : Option Addr) (pn : List (Addr × Obj)), L2N.Zn cls d oe → (∃ vs, oe.data = .fields vs) → PSs (X.suite a ((a, oe) :: pn)) (b0 :: suite) (ts a cls d)) (r : ClOk X hds l) :
      ClOk X (.ExceptHandler (some t) none (b0 :: suite) pos' :: hds) ((M, none, ts) :: l)
theorem flying_grows {B h h' : Heap} {l : List Env} {a : Addr} {Z : Obj → Prop} (fl : HandSPX.FlyingZ B l a Z h) (k : ∀ b o, h.get? b = some o → h'.get? b = some o) : HandSPX.FlyingZ B l a Z h' := by
  obtain ⟨f1, f2, f3, oe, vs, T, oT, ts, e1, e2, e3, e4, e5, e6, e7, e8, e9⟩ := fl
  exact ⟨fun b o z => k _ _ (f1 b o z), f2, Heap.FunFrames.of_keeps (fun b o e _ => ⟨o, k b o e, rfl⟩) f3, oe, vs, T, oT, ts, k _ _ e1, e2, e3, e4, e5, e6, k _ _ e7, e8, e9⟩
theorem upto_grows {h h1 h2 : Heap} (u : h.UpToSlots h1) (k : ∀ b o, h1.get? b = some o → h2.get? b = some o) : h.UpToSlots h2 := u.trans (Heap.UpToSlots.of_keeps k)
variable {body : List Stmt} {h0 : ExceptHandler} {hds : List ExceptHandler} {l : List Cl} {pos : Pos} {tb : WX → TS} {Wout : WX}
theorem ps_trys (hs : X.stack = X.env :: X.outer) (hf : X.env.frame = some X.env.locals) (hN : X.N.Nodup) (tk : L2N.Takes X Wout)
    (hb : ∀ (W : WX) (pn : List (Addr × Obj)) (xe : Value → Shared → Prop), L2N.Takes (X.tr pn xe) W → PassesOwn (model X.prog X.w) X.A X.env xe → PSs (X.tr pn xe) body (tb W))
    (hh : ClOk X (h0 :: hds) l) : PS X (.Try body (h0 :: hds) [] [] pos) (fun D σ H => tb (wCl Wout D l) D σ H) := by
  refine ⟨fun pins s σ H D I h => ?_⟩
  have ok := I.ok
  have hfr : X.A.frames = some (X.env :: X.outer) := by rw [ok.frames, hs]
  refine wpAny_Try_except (wpAny_mono ((hb (wCl Wout D l) (X.pn ++ pins) (fun e s1 => wpAny (model X.prog X.w) X.A (noteFrame e X.env) (fun _ s2 => wpAny (model X.prog X.w) X.A (setFlight e none) (fun _ s3 =>
    wpAny (model X.prog X.w) X.A (handleBy e X.env (h0 :: hds)) (SP X pins D) X.xe s3) X.xe s2) X.xe s1) (fun u s' xx => ?_) PassesOwn.looking).run [] s σ H D (I.toTry _) h) (fun f s1 hsp => ?_) (fun e s1 he => he))
  · obtain ⟨a, B, sI, pins', σ1, H1, cls, d, rfl, J0, nb, up, sky, na, os, ag, w⟩ := xx
    have J : Inv X pins σ1 H1 sI := J0.ofTry ok
    have sky1 : Sky B (X.env :: X.outer) a (L2N.Zn cls d) X.env.locals s'.heap := by rw [← hs]; exact sky
    show wpAny (model X.prog X.w) X.A (noteFrame (.ref a) X.env) _ _ _
    refine L2N.Sky.land L2N.Zn.steady hfr hf sky1 fun h3 fl3 up3 => ?_
    have go : ∀ {hs1 : List ExceptHandler} {l1 : List Cl}, ClOk X hs1 l1 → ∀ h4, HandSPX.FlyingZ B (X.env :: X.outer) a (L2N.Zn cls d) h4 → sI.heap.UpToSlots h4 → wCl Wout D l1 cls d σ1 H1 →
        wpAny (model X.prog X.w) X.A (handleBy (.ref a) X.env hs1) (SP X pins D) X.xe { s' with heap := h4 } := by
      intro hs1 l1 hk
      -- what stands at any heap that the error flies over
      have land : ∀ h4, HandSPX.FlyingZ B (X.env :: X.outer) a (L2N.Zn cls d) h4 → sI.heap.UpToSlots h4 → ∃ oe, L2N.Zn cls d oe ∧ (∃ vs, oe.data = .fields vs) ∧ h4.get? a = some oe ∧ Inv (X.suite a ((a, oe) :: (X.pn ++ pins))) [] σ1 H1 { s' with heap := h4 } := fun h4 fl4 up4 => by
        have J4 : Inv X pins σ1 H1 { s' with heap := h4 } := J.landed nb fl4.1 up4 os ag
        obtain ⟨oe, vs, he, hz, hd⟩ := fl4.there
        have nfr : a ∉ frs (X.env :: X.outer) := fun y => by
          obtain ⟨_, o1, e1, hnf⟩ := fl4.2.2.1.mem y
          rw [he] at e1
          cases e1
          exact hnf _ hd
        refine ⟨oe, hz, ⟨vs, hd⟩, he, J4.suite he hd na (fun y => nfr ?_) fun y => nfr ?_⟩
        · exact List.mem_filterMap.mpr ⟨X.env, List.mem_cons_self, by rw [hf, y]⟩
        · obtain ⟨e1, m1, q1⟩ := List.mem_filterMap.mp y
          exact List.mem_filterMap.mpr ⟨e1, List.mem_cons_of_mem _ m1, q1⟩
      induction hk with
      | nil =>
        intro h4 fl4 up4 w
        refine wpAny_handleBy_nil ?_
        obtain ⟨k1, k2, k3, oe, vs, T, oT, ts', he, hz, hd, e1, hr⟩ := id fl4
        unfold PySem.passOn
        refine wpAny_bind (wpAny_field he hd e1 ?_)
        rw [if_neg (show ¬ ((Value.ref T == Value.none) = true) from by simp)]
        have fin : wpAny (model X.prog X.w) X.A (setFlight (.ref a) X.env.frame) (fun _ s4 => wpAny (model X.prog X.w) X.A (throw (.ref a) : Sem Flow) (SP X pins D) X.xe s4) X.xe { s' with heap := h4 } := by
          rw [hf]
          exact HandSPX.setFlight_upZ fl4 fun h5 fl5 up5 => wpAny_throw (tk _ _ ⟨a, B, sI, pins, σ1, H1, cls, d, rfl, J, nb, up4.trans up5, .inr (.inr (by rw [hs]; exact fl5)), na, os, ag, w⟩)
        first
          | exact wpAny_bind (wpAny_pure (wpAny_bind fin))
          | exact wpAny_bind fin
      | @as t n i M ts b0 suite pos' hds2 l2 ht hi hl hsu r ih =>
        intro h4 fl4 up4 w
        obtain ⟨b, hb1, yes, no⟩ := w
        obtain ⟨oe, hz, hd, he, S4⟩ := land h4 fl4 up4
        refine wpAny_handleBy_cons (codeAny_handlers_test (ht a oe _ _ _ _ cls b _ _ _ S4 hz.1 hb1 fun h5 k5 => ?_)) (by intro q; cases q)
        have fl5 := flying_grows fl4 k5
        have up5 := upto_grows up4 k5
        cases b with
        | true =>
          refine codeAny_handlers_suite_as (HandSPX.lands_againZ fl5 fun h6 fl6 up6 => ?_)
          obtain ⟨oe6, hz6, hd6, he6, S6⟩ := land h6 fl6 (up5.trans up6)
          refine store_ok (X := X.suite a ((a, oe6) :: (X.pn ++ pins))) (v := .ref a) S6 hN hi (.inl hl) rfl (fun s7 S7 => ?_) (.inr hl)
          refine wpAny_mono ((hsu a oe6 cls d (X.pn ++ pins) hz6 hd6).run [] s7 _ H1 _ S7 (yes rfl a na)) (fun f s8 hsp => ?_) (fun _ _ z => z.elim)
          have gone : ∀ {σ8 : L2.St} {H8 : Hp} {Q : Shared → Prop}, Inv (X.suite a ((a, oe6) :: (X.pn ++ pins))) [] σ8 H8 s8 → (∀ s9, Inv X pins (σ8.set i none) H8 s9 → Q s9) →
              wpAny (model X.prog X.w) X.A (do bindName X.env n .none; unbindBehindTheSuite X.env n pos') (fun _ s9 => Q s9) X.xe s8 := fun {σ8 H8 Q} S8 hq => gone_ok (S8.unsuite ok) hN hi hl hq
          cases f with
          | next =>
            obtain ⟨σ8, H8, S8, q8⟩ := hsp
            exact gone S8 fun s9 J9 => ⟨_, _, J9, q8⟩
          | brk =>
            obtain ⟨σ8, H8, S8, q8⟩ := hsp
            exact gone S8 fun s9 J9 => ⟨_, _, J9, q8⟩
          | cont =>
            obtain ⟨σ8, H8, S8, q8⟩ := hsp
            exact gone S8 fun s9 J9 => ⟨_, _, J9, q8⟩
          | ret u =>
            obtain ⟨v8, σ8, H8, S8, r8, q8⟩ := hsp
            exact gone S8 fun s9 J9 => ⟨_, _, _, J9, r8, q8⟩
        | false => exact ih h5 fl5 up5 (no rfl)
      | @only t M ts b0 suite pos' hds2 l2 ht hsu r ih =>
        intro h4 fl4 up4 w
        obtain ⟨b, hb1, yes, no⟩ := w
        obtain ⟨oe, hz, hd, he, S4⟩ := land h4 fl4 up4
        refine wpAny_handleBy_cons (codeAny_handlers_test (ht a oe _ _ _ _ cls b _ _ _ S4 hz.1 hb1 fun h5 k5 => ?_)) (by intro q; cases q)
        have fl5 := flying_grows fl4 k5
        have up5 := upto_grows up4 k5
        cases b with
        | true =>
          refine codeAny_handlers_suite (HandSPX.lands_againZ fl5 fun h6 fl6 up6 => ?_)
          obtain ⟨oe6, hz6, hd6, he6, S6⟩ := land h6 fl6 (up5.trans up6)
          refine wpAny_mono ((hsu a oe6 cls d (X.pn ++ pins) hz6 hd6).run [] _ _ H1 _ S6 (yes rfl a na)) (fun f s8 hsp => ?_) (fun _ _ z => z.elim)
          cases f with
          | next =>
            obtain ⟨σ8, H8, S8, q8⟩ := hsp
            exact ⟨_, _, S8.unsuite ok, q8⟩
          | brk =>
            obtain ⟨σ8, H8, S8, q8⟩ := hsp
            exact ⟨_, _, S8.unsuite ok, q8⟩
          | cont =>
            obtain ⟨σ8, H8, S8, q8⟩ := hsp
            exact ⟨_, _, S8.unsuite ok, q8⟩
          | ret u =>
            obtain ⟨v8, σ8, H8, S8, r8, q8⟩ := hsp
            exact ⟨_, _, _, S8.unsuite ok, r8, q8⟩
        | false => exact ih h5 fl5 up5 (no rfl)
    exact go hh h3 fl3 (up.trans up3) w
  · cases f with
    | next =>
      obtain ⟨σ1, H1, J1, q⟩ := hsp
      exact wpAny_execs_nil ⟨σ1, H1, J1.ofTry ok, q⟩
    | brk =>
      obtain ⟨σ1, H1, J1, q⟩ := hsp
      exact ⟨σ1, H1, J1.ofTry ok, q⟩
    | cont =>
      obtain ⟨σ1, H1, J1, q⟩ := hsp
      exact ⟨σ1, H1, J1.ofTry ok, q⟩
    | ret u =>
      obtain ⟨v1, σ1, H1, J1, r1, q⟩ := hsp
      exact ⟨v1, σ1, H1, J1.ofTry ok, r1, q⟩
end
end Err
end SecA6
section SecA7
set_option Elab.async false
set_option linter.all false
set_option maxRecDepth 100000
set_option maxHeartbeats 4000000
namespace Rd
open PySem PySem.Spec PyProof.Rows L2
section
variable {D : Ends} {σ : L2.St} {H : Hp} {Q : VK} {t1 t2 : TS} {te ta tb : TE} {g : TG} {i : Nat} {v x y : V} {c c1 c2 : TT} {K : PySem.W.Frag} {QB : Bool → Hp → Prop} {tl tr : TA} {QA : List V → Hp → Prop}
theorem seq (q : t1 { D with nx := t2 D } σ H) : tSeq t1 t2 D σ H := q
theorem asg (q : te σ H fun x H1 => g x σ H1 D.nx) : tAsg te g D σ H := q
theorem nm {Q : L2.St → Hp → Prop} (q : Q (σ.set i (some v)) H) : gName i v σ H Q := q
theorem sub {r : TSet} {Q : L2.St → Hp → Prop} (q : ta σ H fun o H1 => tb σ H1 fun i H2 => r o i v H2 fun H3 => Q σ H3) : gSub ta tb r v σ H Q := q
theorem ret (q : te σ H D.rt) : tRet te D σ H := q
theorem retN (q : D.rt .non H) : tRetN D σ H := q
theorem drop (q : te σ H fun _ H1 => D.nx σ H1) : tDrop te D σ H := q
theorem ifs (q : c σ H fun b H1 => if b = true then t1 D σ H1 else t2 D σ H1) : tIfS c t1 t2 D σ H := q
theorem next (q : D.nx σ H) : tNext D σ H := q
theorem var (h : σ[i]? = some (some v)) (q : Q v H) : tVar i σ H Q := ⟨v, h, q⟩
theorem cst (q : Q v H) : tC v σ H Q := q
theorem op {r : R2} (q : ta σ H fun x H1 => tb σ H1 fun y H2 => r x y H2 Q) : tOp r ta tb σ H Q := q
theorem un {r : V → Hp → VK → Prop} (q : ta σ H fun x H1 => r x H1 Q) : tUn r ta σ H Q := q
theorem test (q : te σ H fun x H' => ∃ k, x = .bl k ∧ QB k H') : tTest te σ H QB := q
theorem tb' (q : te σ H fun x H' => ∃ k, x = .bl k ∧ QB k H') : tB te σ H QB := q
theorem exb {Z : Bool → Prop} {b : Bool} (q : Z b) : ∃ k, V.bl b = .bl k ∧ Z k := ⟨b, rfl, q⟩
theorem and2 (q : c1 σ H fun b H1 => if b = true then c2 σ H1 QB else QB false H1) : tAnd c1 c2 σ H QB := q
theorem or2 (q : c1 σ H fun b H1 => if b = true then QB true H1 else c2 σ H1 QB) : tOr c1 c2 σ H QB := q
theorem not1 (q : c σ H fun b H1 => QB (!b) H1) : tNot c σ H QB := q
theorem andV (q : ta σ H fun x H1 => ∃ c, x = .bl c ∧ if c = true then tb σ H1 Q else Q (.bl false) H1) : tAndV ta tb σ H Q := q
theorem orV (q : ta σ H fun x H1 => ∃ c, x = .bl c ∧ if c = true then Q (.bl true) H1 else tb σ H1 Q) : tOrV ta tb σ H Q := q
theorem notV (q : ta σ H fun x H1 => ∃ c, x = .bl c ∧ Q (.bl (!c)) H1) : tNotV ta σ H Q := q
theorem nil (q : QA [] H) : tNil σ H QA := q
theorem cons (q : ta σ H fun x H1 => tr σ H1 fun xs H2 => QA (x :: xs) H2) : tCons ta tr σ H QA := q
theorem cb {r : List V → Hp → VK → Prop} (q : tl σ H fun vs H1 => r vs H1 Q) : tCB r tl σ H Q := q
theorem i0 {f : Int → Int → V} {a b : Int} (q : Q (f a b) H) : rI0 f (.int a) (.int b) H Q := ⟨a, b, rfl, rfl, q⟩
theorem i1 {C : Int → Int → Prop} {f : Int → Int → V} {a b : Int} (hc : C a b) (q : Q (f a b) H) : rI C f (.int a) (.int b) H Q := ⟨a, b, rfl, rfl, hc, q⟩
theorem u1 {f : Int → V} {a : Int} (q : Q (f a) H) : rU f (.int a) H Q := ⟨a, rfl, q⟩
theorem ixL {p : Addr} {xs : List V} {a : Int} (h : H p = some (.lst xs)) (ha : atI xs a = some v) (q : Q v H) : rIxL K (.ref p) (.int a) H Q := ⟨p, xs, a, v, rfl, rfl, SqL.of h, ha, q⟩
theorem ixT {p : Addr} {xs : List V} {a : Int} (h : H p = some (.tup xs)) (ha : atI xs a = some v) (q : Q v H) : rIxT K (.ref p) (.int a) H Q := ⟨p, xs, a, v, rfl, rfl, SqT.of h, ha, q⟩
theorem setL {p : Addr} {xs : List V} {a : Int} {j : Nat} {Q : Hp → Prop} (h : H p = some (.lst xs)) (ha : ixN xs.length a = some j) (q : Q (upd H p (.lst (xs.set j v)))) : rSetL (.ref p) (.int a) v H Q := ⟨p, xs, a, j, rfl, rfl, h, ha, q⟩
theorem eq (hs : scal x y = true) (q : Q (.bl (decide (x = y))) H) : rEq x y H Q := ⟨hs, q⟩
theorem ne (hs : scal x y = true) (q : Q (.bl (!decide (x = y))) H) : rNe x y H Q := ⟨hs, q⟩
theorem call {sp : Sp} {dvs : List V} {E : XK} (q : tl σ H fun vs H1 => sp (vs ++ dvs) H1 Q E) : tCall sp dvs E tl σ H Q := q
theorem tup (q : tl σ H fun xs H1 => xs.length ≤ sizeLine ∧ ∀ p, H1 p = none → Q (.ref p) (upd H1 p (.tup xs))) : tTup tl σ H Q := q
theorem lst (q : tl σ H fun xs H1 => xs.length ≤ sizeLine ∧ ∀ p, H1 p = none → Q (.ref p) (upd H1 p (.lst xs))) : tLst tl σ H Q := q
theorem sl {r : V → Option Int → Option Int → Hp → VK → Prop} {to tp : TO} (q : te σ H fun x H1 => to σ H1 fun l H2 => tp σ H2 fun u H3 => r x l u H3 Q) : tSl r te to tp σ H Q := q
theorem no {Q : Option Int → Hp → Prop} (q : Q none H) : tNoPart σ H Q := q
theorem part {Q : Option Int → Hp → Prop} (q : te σ H fun x H1 => ∃ i, x = .int i ∧ Q (some i) H1) : tPart te σ H Q := q
theorem exi {Z : Int → Prop} {a : Int} (q : Z a) : ∃ k, V.int a = .int k ∧ Z k := ⟨a, rfl, q⟩
theorem slL {p : Addr} {xs : List V} {lo hi : Option Int} (h : H p = some (.lst xs)) (q : ∀ p', H p' = none → Q (.ref p') (upd H p' (.lst (cutV xs lo hi)))) : rSlL K (.ref p) lo hi H Q := ⟨p, xs, rfl, SqL.of h, q⟩
theorem at_ {X : Cx} {n : Str} (q : te σ H fun x H1 => ∃ (a C dd : Addr) (fs : List (Str × V)) (v : V), x = .ref a ∧ Err.Ec X.K C ∧ PySem.W.findIn X.K (.ref C) n = some none ∧ Err.Seen X H1 a C (some dd) ∧ Err.Dk H1 dd fs ∧ fs.lookup n = some v ∧ Q v H1) :
    Err.tAt X n te σ H Q := q
theorem ifT {b : Bool} {A B : Prop} (h : b = true) (q : A) : if b = true then A else B := by rw [if_pos h]; exact q
theorem ifF {b : Bool} {A B : Prop} (h : b = false) (q : B) : if b = true then A else B := by rw [h, if_neg Bool.false_ne_true]; exact q
theorem ifB {b : Bool} {A B : Prop} (q1 : b = true → A) (q2 : b = false → B) : if b = true then A else B := by
  cases b with
  | true => rw [if_pos rfl]; exact q1 rfl
  | false => rw [if_neg Bool.false_ne_true]; exact q2 rfl
theorem lenL {p : Addr} {xs : List V} (h : H p = some (.lst xs)) (q : Q (.int (xs.length : Nat)) H) : ∃ (x : V) (n : Nat), [V.ref p] = [x] ∧ LenV K x H n ∧ Q (.int (n : Nat)) H := ⟨_, _, rfl, .inl ⟨xs, SqL.of h, rfl⟩, q⟩
theorem lenT {p : Addr} {xs : List V} (h : H p = some (.tup xs)) (q : Q (.int (xs.length : Nat)) H) : ∃ (x : V) (n : Nat), [V.ref p] = [x] ∧ LenV K x H n ∧ Q (.int (n : Nat)) H := ⟨_, _, rfl, .inr ⟨xs, SqT.of h, rfl⟩, q⟩
theorem lenS {z : Str} (h : z.length ≤ sizeLine) (q : Q (.int (z.length : Nat)) H) : ∃ (x : V) (n : Nat), [V.str z] = [x] ∧ LenV K x H n ∧ Q (.int (n : Nat)) H := ⟨_, _, rfl, ⟨h, rfl⟩, q⟩
theorem int1 {a : Int} (q : Q (.int a) H) : (∃ i, [V.int a] = [V.int i] ∧ Q (.int i) H) ∨ ∃ k, [V.int a] = [V.bl k] ∧ Q (.int (if k = true then 1 else 0)) H := .inl ⟨a, rfl, q⟩
theorem int1b {b : Bool} (q : Q (.int (if b = true then 1 else 0)) H) : (∃ i, [V.bl b] = [V.int i] ∧ Q (.int i) H) ∨ ∃ k, [V.bl b] = [V.bl k] ∧ Q (.int (if k = true then 1 else 0)) H := .inr ⟨b, rfl, q⟩
theorem abs1 {a : Int} (q : Q (.int (if a < 0 then -a else a)) H) : ∃ i, [V.int a] = [V.int i] ∧ Q (.int (if i < 0 then -i else i)) H := ⟨a, rfl, q⟩
def rLenK (K : PySem.W.Frag) : List V → Hp → VK → Prop := fun xs H Q => ∃ (x : V) (n : Nat), xs = [x] ∧ LenV K x H n ∧ Q (.int (n : Nat)) H
theorem lenKL {p : Addr} {xs : List V} (h : H p = some (.lst xs)) (q : Q (.int (xs.length : Nat)) H) : rLenK K [.ref p] H Q := ⟨_, _, rfl, .inl ⟨xs, SqL.of h, rfl⟩, q⟩
theorem lenKT {p : Addr} {xs : List V} (h : H p = some (.tup xs)) (q : Q (.int (xs.length : Nat)) H) : rLenK K [.ref p] H Q := ⟨_, _, rfl, .inr ⟨xs, SqT.of h, rfl⟩, q⟩
theorem lenKS {z : Str} (h : z.length ≤ sizeLine) (q : Q (.int (z.length : Nat)) H) : rLenK K [.str z] H Q := ⟨_, _, rfl, ⟨h, rfl⟩, q⟩
theorem lc {wi : TI} {tt : TT} {vs : List Nat} (q : wi σ H fun J H1 => ∀ d, H1 d = none → ∃ W : Nat → Nat → Hp → Prop, (∃ m, W 0 m (upd H1 d (.lst []))) ∧ ∀ i m H, W i m H →
  (J.stop i H ∧ Q (.ref d) H) ∨ (J.go i H ∧ ∃ Nx : Hp → Prop, (∀ H', Nx H' → ∃ m', m' < m ∧ W (i + 1) m' H') ∧ ∀ x H', J.yld i H x H' → g x (wipe σ vs) H' fun σ2 H2 => wipe σ2 vs = wipe σ vs ∧ tt σ2 H2 fun b H3 =>
    if b = true then te σ2 H3 fun y H4 => ∃ acc, H4 d = some (.lst acc) ∧ acc.length < sizeLine ∧ Nx (upd H4 d (.lst (acc ++ [y]))) else Nx H3)) : tLc wi g tt te vs σ H Q := q
theorem rng {R : It → Hp → Prop} (q : tl σ H fun vs H1 => ∃ j : Int, vs = [.int j] ∧ -(2 ^ 62) ≤ j ∧ j < 2 ^ 62 ∧ R (Itr 0 j.toNat) H1) : iRng1 tl σ H R := q
theorem fors {wi : TI} (q : wi σ H fun J H1 => ∃ W : Nat → Nat → L2.St → Hp → Prop, (∃ m, W 0 m σ H1) ∧ ∀ i m σ H, W i m σ H →
  (J.stop i H ∧ D.nx σ H) ∨ (J.go i H ∧ ∃ N : L2.St → Hp → Prop, (∀ σ' H', N σ' H' → ∃ m', m' < m ∧ W (i + 1) m' σ' H') ∧ ∀ x H', J.yld i H x H' → g x σ H' fun σ2 H2 => t1 { D with nx := N, ct := N, bk := D.nx } σ2 H2)) : tFor wi g t1 D σ H := q
theorem m1 {r : V → List V → Hp → VK → Prop} (q : ta σ H fun x H1 => (∃ a, x = .str a) ∧ tb σ H1 fun y H2 => r x [y] H2 Q) : tM1 r ta tb σ H Q := q
theorem exs {Z : Prop} {z : Str} (q : Z) : (∃ a, V.str z = .str a) ∧ Z := ⟨⟨z, rfl⟩, q⟩
theorem ixS {z : Str} {a : Int} {c : Nat} (hl : z.length ≤ sizeLine) (h : atI z.cps.toList a = some c) (q : Q (.str ⟨#[c]⟩) H) : rIxS (.str z) (.int a) H Q := ⟨z, a, c, rfl, rfl, hl, h, q⟩
theorem yes (q : QB true H) : tYes σ H QB := q
theorem ex2 {α β : Type} {A : α → β → Prop} {x : α} {n : β} (h : A x n) : ∃ x n, A x n := ⟨x, n, h⟩
theorem cut {t u : TS} (Mid : L2.St → Hp → Prop) (h : t { D with nx := Mid } σ H) (k : ∀ σ' H', Mid σ' H' → u D σ' H') : C8.tCut t u D σ H := ⟨Mid, h, k⟩
end
end Rd
end SecA7
section SecN1
set_option Elab.async false
set_option linter.all false
set_option maxRecDepth 100000
set_option maxHeartbeats 4000000
namespace Dt
open PySem PySem.Spec PyProof.Rows L2
/-! values that stand for data: None, bools, ints, texts, lists and tuples of such, all of them tracked -/
/-- what is no tape -/
def NotTape (o : HO) : Prop := ∀ (a b c : Int) (l : Addr), o ≠ .lst [.int a, .int b, .int c, .ref l]
/-- all that is no tape stands as it stood -/
def Sam (H H' : Hp) : Prop := ∀ b o, NotTape o → H b = some o → H' b = some o
theorem Sam.refl {H : Hp} : Sam H H := fun _ _ _ h => h
theorem Sam.trans {H H1 H2 : Hp} (a : Sam H H1) (b : Sam H1 H2) : Sam H H2 := fun x o n h => b x o n (a x o n h)
theorem Sam.of {H H' : Hp} (s : Same H H') : Sam H H' := fun b o _ h => s b o h
theorem nt_tup {xs : List V} : NotTape (.tup xs) := fun _ _ _ _ z => by cases z
mutual
inductive Rp (H : Hp) : V → PyData → Prop
  | non : Rp H .non .none
  | bl (b : Bool) : Rp H (.bl b) (.bool b)
  | int (i : Int) : Rp H (.int i) (.int i)
  | str (z : Str) : Rp H (.str z) (.str z)
  | lst {p : Addr} {vs : List V} {ds : List PyData} : H p = some (.lst vs) → RpAll H vs ds → ds.length ≤ 1000 → NotTape (.lst vs) → Rp H (.ref p) (.list ds)
  | tup {p : Addr} {vs : List V} {ds : List PyData} : H p = some (.tup vs) → RpAll H vs ds → ds.length ≤ 1000 → Rp H (.ref p) (.tuple ds)
inductive RpAll (H : Hp) : List V → List PyData → Prop
  | nil : RpAll H [] []
  | cons {v : V} {vs : List V} {d : PyData} {ds : List PyData} : Rp H v d → RpAll H vs ds → RpAll H (v :: vs) (d :: ds)
end
mutual
theorem Rp.mono {H H' : Hp} (s : Sam H H') : ∀ (d : PyData) (v : V), Rp H v d → Rp H' v d
  | .none, _, h => by cases h; exact .non
  | .bool b, _, h => by cases h; exact .bl b
  | .int i, _, h => by cases h; exact .int i
  | .str z, _, h => by cases h; exact .str z
  | .list ds, _, h => by
    cases h with
    | lst e a l n => exact .lst (s _ _ n e) (RpAll.mono s ds _ a) l n
  | .tuple ds, _, h => by
    cases h with
    | tup e a l => exact .tup (s _ _ nt_tup e) (RpAll.mono s ds _ a) l
  | .dict _, _, h => by cases h
theorem RpAll.mono {H H' : Hp} (s : Sam H H') : ∀ (ds : List PyData) (vs : List V), RpAll H vs ds → RpAll H' vs ds
  | [], _, h => by cases h; exact .nil
  | d :: ds, _, h => by
    cases h with
    | cons a b => exact .cons (Rp.mono s d _ a) (RpAll.mono s ds _ b)
end
theorem Rp.to {H H' : Hp} {v : V} {d : PyData} (s : Same H H') (h : Rp H v d) : Rp H' v d := Rp.mono (Sam.of s) d v h
theorem Rp.sm {H H' : Hp} {v : V} {d : PyData} (s : Sam H H') (h : Rp H v d) : Rp H' v d := Rp.mono s d v h
theorem RpAll.to {H H' : Hp} {vs : List V} {ds : List PyData} (s : Same H H') (h : RpAll H vs ds) : RpAll H' vs ds := RpAll.mono (Sam.of s) ds vs h
theorem RpAll.sm {H H' : Hp} {vs : List V} {ds : List PyData} (s : Sam H H') (h : RpAll H vs ds) : RpAll H' vs ds := RpAll.mono s ds vs h
mutual
theorem Rp.dp {K : PySem.W.Frag} {H : Hp} : ∀ (d : PyData) (v : V), Rp H v d → Dp K H v d
  | .none, _, h => by cases h; exact .non
  | .bool b, _, h => by cases h; exact .bl b
  | .int i, _, h => by cases h; exact .int i
  | .str z, _, h => by cases h; exact .str z
  | .list ds, _, h => by
    cases h with
    | lst e a l n => exact .lst (SqL.of e) (RpAll.dp ds _ a)
  | .tuple ds, _, h => by
    cases h with
    | tup e a l => exact .tup (SqT.of e) (RpAll.dp ds _ a)
  | .dict _, _, h => by cases h
theorem RpAll.dp {K : PySem.W.Frag} {H : Hp} : ∀ (ds : List PyData) (vs : List V), RpAll H vs ds → DpAll K H vs ds
  | [], _, h => by cases h; exact .nil
  | d :: ds, _, h => by
    cases h with
    | cons a b => exact .cons (Rp.dp d _ a) (RpAll.dp ds _ b)
end
theorem RpAll.len {H : Hp} : ∀ {vs : List V} {ds : List PyData}, RpAll H vs ds → vs.length = ds.length
  | _, [], h => by cases h; rfl
  | _, d :: ds, h => by
    cases h with
    | cons a b => exact congrArg (· + 1) (RpAll.len b)
theorem RpAll.app {H : Hp} : ∀ {vs us : List V} {ds es : List PyData}, RpAll H vs ds → RpAll H us es → RpAll H (vs ++ us) (ds ++ es)
  | _, us, [], es, h, k => by cases h; exact k
  | _, us, d :: ds, es, h, k => by
    cases h with
    | cons a b => exact .cons a (RpAll.app b k)
theorem RpAll.at {H : Hp} : ∀ {vs : List V} {ds : List PyData} {i : Nat} {v : V}, RpAll H vs ds → vs[i]? = some v → ∃ d, ds[i]? = some d ∧ Rp H v d
  | _, [], i, v, h, e => by cases h; simp at e
  | _, d :: ds, 0, v, h, e => by
    cases h with
    | cons a b =>
      cases e
      exact ⟨d, rfl, a⟩
  | _, d :: ds, i + 1, v, h, e => by
    cases h with
    | cons a b =>
      have e' : _ = some v := e
      rw [List.getElem?_cons_succ] at e'
      have z := RpAll.at b e'
      rw [List.getElem?_cons_succ]
      exact z
theorem RpAll.get {H : Hp} {vs : List V} {ds : List PyData} {i : Nat} {d : PyData} (h : RpAll H vs ds) (e : ds[i]? = some d) : ∃ v, vs[i]? = some v ∧ Rp H v d := by
  have hi := (List.getElem?_eq_some_iff.mp e).1
  rw [← h.len] at hi
  obtain ⟨d', e', r⟩ := h.at (List.getElem?_eq_getElem hi)
  rw [e] at e'
  cases e'
  exact ⟨_, List.getElem?_eq_getElem hi, r⟩
theorem rp_ints {H : Hp} : ∀ ns : List Int, RpAll H (ns.map V.int) (ns.map PyData.int)
  | [] => .nil
  | n :: ns => .cons (.int n) (rp_ints ns)
/-- ints as data are ints -/
theorem RpAll.ints {H : Hp} : ∀ {vs : List V} (ns : List Int), RpAll H vs (ns.map PyData.int) → vs = ns.map V.int
  | _, [], h => by cases h; rfl
  | _, n :: ns, h => by
    cases h with
    | cons a b =>
      cases a
      rw [RpAll.ints ns b]
      rfl
theorem RpAll.cut {H : Hp} : ∀ {vs : List V} {ds : List PyData} (n : Nat), RpAll H vs ds → RpAll H (vs.take n) (ds.take n)
  | _, ds, 0, h => .nil
  | _, [], n + 1, h => by cases h; exact .nil
  | _, d :: ds, n + 1, h => by
    cases h with
    | cons a b => exact .cons a (RpAll.cut n b)
theorem RpAll.past {H : Hp} : ∀ {vs : List V} {ds : List PyData} (n : Nat), RpAll H vs ds → RpAll H (vs.drop n) (ds.drop n)
  | _, ds, 0, h => h
  | _, [], n + 1, h => by cases h; exact .nil
  | _, d :: ds, n + 1, h => by
    cases h with
    | cons a b => exact RpAll.past n b
/-! what isinstance tells of them -/
def tInt : PyData → Bool | .int _ => true | .bool _ => true | _ => false
def tBool : PyData → Bool | .bool _ => true | _ => false
def tStr : PyData → Bool | .str _ => true | _ => false
def tTuple : PyData → Bool | .tuple _ => true | _ => false
def tList : PyData → Bool | .list _ => true | _ => false
def dInt : PyData → Bool | .int _ => true | _ => false
section
variable {K : PySem.W.Frag} {H : Hp} {Q : VK} {v : V} {d : PyData}
theorem isi_any {n : String} {f : PyData → Bool} (h : Rp H v d) (k1 : PySem.W.kitOne K (.type "NoneType") (.type n) = some (f .none)) (k2 : ∀ b, PySem.W.kitOne K (.type "bool") (.type n) = some (f (.bool b))) (k3 : ∀ i, PySem.W.kitOne K (.type "int") (.type n) = some (f (.int i)))
    (k4 : ∀ z, PySem.W.kitOne K (.type "str") (.type n) = some (f (.str z))) (k5 : ∀ l, PySem.W.kitOne K (.type "list") (.type n) = some (f (.list l))) (k6 : ∀ l, PySem.W.kitOne K (.type "tuple") (.type n) = some (f (.tuple l))) (q : Q (.bl (f d)) H) : rIsi K [v, .ty n] H Q := by
  cases h with
  | non => exact ⟨_, _, _, _, _, rfl, ClsV.ty _, TyX.base TyOf.non, k1, q⟩
  | bl b => exact ⟨_, _, _, _, _, rfl, ClsV.ty _, TyX.base (TyOf.bl _), k2 b, q⟩
  | int i => exact ⟨_, _, _, _, _, rfl, ClsV.ty _, TyX.base (TyOf.int _), k3 i, q⟩
  | str z => exact ⟨_, _, _, _, _, rfl, ClsV.ty _, TyX.base (TyOf.str _), k4 z, q⟩
  | lst e a l n => exact ⟨_, _, _, _, _, rfl, ClsV.ty _, TyX.base (TyOf.lst e), k5 _, q⟩
  | tup e a l => exact ⟨_, _, _, _, _, rfl, ClsV.ty _, TyX.base (TyOf.tup e), k6 _, q⟩
theorem kt {a b : String} {r : Bool} (h : PySem.W.kitOne [] (.type a) (.type b) = some r) (g : ∀ K, PySem.W.kitOne K (.type a) (.type b) = PySem.W.kitOne [] (.type a) (.type b)) : PySem.W.kitOne K (.type a) (.type b) = some r := by rw [g]; exact h
theorem isi_int (h : Rp H v d) (q : Q (.bl (tInt d)) H) : rIsi K [v, .ty "int"] H Q := isi_any (f := tInt) h (kit_ty (r := false) (by decide +kernel)) (fun _ => kit_ty (r := true) (by decide +kernel)) (fun _ => kit_ty (r := true) (by decide +kernel)) (fun _ => kit_ty (r := false) (by decide +kernel)) (fun _ => kit_ty (r := false) (by decide +kernel)) (fun _ => kit_ty (r := false) (by decide +kernel)) q
theorem isi_bool (h : Rp H v d) (q : Q (.bl (tBool d)) H) : rIsi K [v, .ty "bool"] H Q := isi_any (f := tBool) h (kit_ty (r := false) (by decide +kernel)) (fun _ => kit_ty (r := true) (by decide +kernel)) (fun _ => kit_ty (r := false) (by decide +kernel)) (fun _ => kit_ty (r := false) (by decide +kernel)) (fun _ => kit_ty (r := false) (by decide +kernel)) (fun _ => kit_ty (r := false) (by decide +kernel)) q
theorem isi_str (h : Rp H v d) (q : Q (.bl (tStr d)) H) : rIsi K [v, .ty "str"] H Q := isi_any (f := tStr) h (kit_ty (r := false) (by decide +kernel)) (fun _ => kit_ty (r := false) (by decide +kernel)) (fun _ => kit_ty (r := false) (by decide +kernel)) (fun _ => kit_ty (r := true) (by decide +kernel)) (fun _ => kit_ty (r := false) (by decide +kernel)) (fun _ => kit_ty (r := false) (by decide +kernel)) q
theorem isi_tuple (h : Rp H v d) (q : Q (.bl (tTuple d)) H) : rIsi K [v, .ty "tuple"] H Q := isi_any (f := tTuple) h (kit_ty (r := false) (by decide +kernel)) (fun _ => kit_ty (r := false) (by decide +kernel)) (fun _ => kit_ty (r := false) (by decide +kernel)) (fun _ => kit_ty (r := false) (by decide +kernel)) (fun _ => kit_ty (r := false) (by decide +kernel)) (fun _ => kit_ty (r := true) (by decide +kernel)) q
theorem isi_list (h : Rp H v d) (q : Q (.bl (tList d)) H) : rIsi K [v, .ty "list"] H Q := isi_any (f := tList) h (kit_ty (r := false) (by decide +kernel)) (fun _ => kit_ty (r := false) (by decide +kernel)) (fun _ => kit_ty (r := false) (by decide +kernel)) (fun _ => kit_ty (r := false) (by decide +kernel)) (fun _ => kit_ty (r := true) (by decide +kernel)) (fun _ => kit_ty (r := false) (by decide +kernel)) q
end
/-- new objects -/
theorem same_put {H H' : Hp} {d : Addr} {o : HO} (h : H d = none) (s : Same H H') : Same H (upd H' d o) := fun b u e => by rw [upd_ne (ne_of_none e h)]; exact s b u e
theorem newK {H J : Hp} {p : Addr} {o : HO} (e : upd H p o = J) (h : H p = none) : J p = some o ∧ Same H J := by
  subst e
  exact ⟨upd_same, same_put h (Same.refl _)⟩
/-- a walk over a list or a tuple -/
theorem pi_or {X : Cx} {tg l : Expr} {w1 w2 : TI} (h1 : PI X tg l w1) (h2 : PI X tg l w2) : PI X tg l (fun σ H R => w1 σ H R ∨ w2 σ H R) := ⟨fun pins s σ H R I h => h.elim (h1.run pins s σ H R I) (h2.run pins s σ H R I)⟩
/-! ints: the gcd of some, lowest terms -/
def gcdL (ns : List Int) : Int := ((ns.foldl (fun g n => Nat.gcd g n.natAbs) 0 : Nat) : Int)
def lowL (ns : List Int) : List Int := ns.map fun n => n / gcdL ns
end Dt
end SecN1
section SecN2
set_option Elab.async false
set_option linter.all false
set_option maxRecDepth 100000
set_option maxHeartbeats 4000000
namespace Dt
open PySem PySem.Spec PyProof.Rows L2 L2H Err
/-- a def of the text, by its name -/
structure Dn (P : Program) (w : World) (K : PySem.W.Frag) (mg : Str → Option Value) (base : Heap) (CX : CXT) (x : Str) (k : Nat) (ps : List Str) (sp : Sp) : Prop where
  ex : ∃ f fd, FnOk P w K mg base CX k f fd ps sp ∧ mg x = some (.ref f) ∧ PySem.W.keepIn K (.ref f) = true ∧ Binds K fd ps []
section
variable {X : Cx} {x : Str} {k : Nat} {ps : List Str} {sp : Sp} {q pos : Pos} {e : Expr} {es : List Expr} {t : TA}
theorem pe_dn (D : Dn X.prog X.w X.K X.mg X.base CX0 x k ps sp) (hr : Room k X.A) (ha : PA X (e :: es) t) (hg : Gl X x := by rfl) (hdb : (x == ("__debug__" : Str)) = false := by decide)
    (he : starEach (e :: es) X.env = (false, eval e X.env) :: starEach es X.env := by rfl) (hpl : (backTo pos (starEach es X.env)).any (·.1) = false := by rfl) : PE X (.Call (.Name x q) (e :: es) [] pos) (tCall sp [] E0 t) := by
  obtain ⟨f, fd, F, hm, hk, hb⟩ := D.ex
  exact pe_call F hr hg hm hk hb .nil pass0 ha hdb he hpl
end
/-- what stands in H, but for t, stands in H' -/
def Keeps (t : Addr) (H H' : Hp) : Prop := ∀ b o, b ≠ t → H b = some o → H' b = some o
theorem Keeps.refl {t : Addr} {H : Hp} : Keeps t H H := fun _ _ _ h => h
theorem Keeps.trans {t : Addr} {H H1 H2 : Hp} (a : Keeps t H H1) (b : Keeps t H1 H2) : Keeps t H H2 := fun x o n h => b x o n (a x o n h)
theorem Keeps.of {t : Addr} {H H' : Hp} (s : Same H H') : Keeps t H H' := fun b o _ h => s b o h
/-- the tape at t, the script's copy at l -/
structure Tape (t l : Addr) (ns : List Int) (H : Hp) : Prop where
  ex : ∃ a b c : Int, H t = some (.lst [.int a, .int b, .int c, .ref l]) ∧ 0 ≤ c
  sc : H l = some (.lst (ns.map V.int))
theorem Tape.ne {t l : Addr} {ns : List Int} {H : Hp} (T : Tape t l ns H) : l ≠ t := by
  obtain ⟨a, b, c, e, _⟩ := T.ex
  refine ne_of T.sc e fun z => ?_
  have z' := HO.lst.inj z
  match ns, z' with
  | [], z' => cases z'
  | [_], z' => cases z'
  | [_, _], z' => cases z'
  | [_, _, _], z' => cases z'
  | _ :: _ :: _ :: w :: _, z' =>
    simp at z'
theorem Tape.mono {t l : Addr} {ns : List Int} {H H' : Hp} (T : Tape t l ns H) (s : Same H H') : Tape t l ns H' := by
  obtain ⟨a, b, c, e, h⟩ := T.ex
  exact ⟨⟨a, b, c, s _ _ e, h⟩, s _ _ T.sc⟩
/-- a number below m, not below 0; the tape goes on, all else stands -/
def spDraw : Sp := fun vs H Q _ => ∃ (t l : Addr) (ns : List Int) (m : Int), vs = [.ref t, .int m] ∧ Tape t l ns H ∧ ns.length ≤ 63 ∧ 0 < m ∧ m < 1000000 ∧
  ∀ (v : Int) (H' : Hp), 0 ≤ v → v < m → Tape t l ns H' → Keeps t H H' → Q (.int v) H'
/-- x is True, x is False: x anything -/
def rIsT : R2 := fun x y H Q => ∃ b : Bool, y = .bl b ∧ Q (.bl (decide (x = .bl b))) H
def rNotT : R2 := fun x y H Q => ∃ b : Bool, y = .bl b ∧ Q (.bl (!decide (x = .bl b))) H
section
variable {X : Cx}
theorem plain_of {x : V} {v : Value} {b : Bool} (r : RelV x v) : PySem.plainIs v (.bool b) = true ∧ (v = .bool b ↔ x = .bl b) := by
  cases x with
  | non => cases (show v = Value.none from r); exact ⟨rfl, by simp⟩
  | bl c => cases (show v = Value.bool c from r); exact ⟨rfl, by simp⟩
  | int i => obtain ⟨t, e⟩ := (show ∃ t, v = Value.int i t from r); cases e; exact ⟨rfl, by simp⟩
  | str z => obtain ⟨t, e⟩ := (show ∃ t, v = Value.str z t from r); cases e; exact ⟨rfl, by simp⟩
  | byt z => obtain ⟨t, e⟩ := (show ∃ t, v = Value.bytes z t from r); cases e; exact ⟨rfl, by simp⟩
  | flt z => obtain ⟨t, e⟩ := (show ∃ t, v = Value.float z t from r); cases e; exact ⟨rfl, by simp⟩
  | ref a => cases (show v = Value.ref a from r); exact ⟨rfl, by simp⟩
  | ty n => cases (show v = Value.type n from r); exact ⟨rfl, by simp⟩
theorem op_is_bl : OpR X (compareOp .Is) rIsT := by
  intro pins s σ H x y v u Q I rx ry h
  obtain ⟨b, rfl, q⟩ := h
  cases (show u = Value.bool b from ry)
  obtain ⟨h1, h2⟩ := plain_of (b := b) rx
  by_cases e : x = .bl b
  · have ev := h2.mpr e
    subst ev
    rw [decide_eq_true e] at q
    exact wpAny_is_self h1 ⟨.bl true, H, I, rfl, q⟩
  · rw [decide_eq_false e] at q
    exact wpAny_is_other h1 (fun z => e (h2.mp z)) ⟨.bl false, H, I, rfl, q⟩
theorem op_isnot_bl : OpR X (compareOp .IsNot) rNotT := by
  intro pins s σ H x y v u Q I rx ry h
  obtain ⟨b, rfl, q⟩ := h
  cases (show u = Value.bool b from ry)
  obtain ⟨h1, h2⟩ := plain_of (b := b) rx
  by_cases e : x = .bl b
  · have ev := h2.mpr e
    subst ev
    rw [decide_eq_true e] at q
    exact wpAny_isNot_self h1 ⟨.bl false, H, I, rfl, q⟩
  · rw [decide_eq_false e] at q
    exact wpAny_isNot_other h1 (fun z => e (h2.mp z)) ⟨.bl true, H, I, rfl, q⟩
end
/-- __init__ of an error with the fields nm, made at a: its dict is new, or there is none -/
def spI (C : Addr) (nm : List Str) : Sp := fun vs H Q _ => ∃ (a : Addr) (vals : List V), vs = .ref a :: vals ∧ vals.length = nm.length ∧ H a = some (exo a C none) ∧ (nm = [] → Q .non H) ∧
  (nm ≠ [] → ∀ (d : Addr) (H' : Hp), H d = none → d ≠ a → H' a = some (exo a C (some d)) → H' d = some (exd d (nm.zip vals).reverse) → (∀ b o, b ≠ a → H b = some o → H' b = some o) → Q .non H')
/-- a class of errors of the text -/
structure Kl (P : Program) (w : World) (K : PySem.W.Frag) (mg : Str → Option Value) (base : Heap) (x : Str) (C : Addr) (nm : List Str) : Prop where
  ec : Ec K C
  g : mg x = some (.ref C)
  no : ∀ f ∈ nm, PySem.W.findIn K (.ref C) f = some none
  ini : ∃ fI fd, PySem.W.findIn K (.ref C) "__init__" = some (some (.ref fI)) ∧ PySem.W.typeIn K (.ref fI) = some (.type "function") ∧ FnOk P w K mg base CX0 1 fI fd (("self" : Str) :: nm) (spI C nm) ∧ Binds K fd (("self" : Str) :: nm) [] ∧
    ∀ (s : Shared) (u0 : Value) (ws : List Value), K.In s.heap → ws.length = nm.reverse.length → BindsTo s fd ⟨[u0], nm.reverse.zip ws⟩ ((("self" : Str) :: nm).zip (u0 :: ws.reverse))
/-- the error stands, its fields in the sequence of its dict -/
def ErrO (H : Hp) (a C : Addr) (fs : List (Str × V)) : Prop := (fs = [] ∧ H a = some (exo a C none)) ∨ ∃ d, H a = some (exo a C (some d)) ∧ H d = some (exd d fs)
theorem ErrO.mono {H H' : Hp} {a C : Addr} {fs : List (Str × V)} (s : Same H H') (h : ErrO H a C fs) : ErrO H' a C fs := by
  rcases h with ⟨e, h⟩ | ⟨d, h1, h2⟩
  · exact .inl ⟨e, s _ _ h⟩
  · exact .inr ⟨d, s _ _ h1, s _ _ h2⟩
section
variable {X : Cx} {x : Str} {C : Addr} {nm : List Str} {p pos pos2 : Pos} {e : Expr} {es : List Expr} {ta : TA}
theorem pe_new (L : Kl X.prog X.w X.K X.mg X.base x C nm) (hr : Room 2 X.A) (ha : PA X (e :: es) ta) (hg : Gl X x := by rfl) (hdb : (x == ("__debug__" : Str)) = false := by decide)
    (he : starEach (e :: es) X.env = (false, eval e X.env) :: starEach es X.env := by rfl) (hpl : (backTo pos (starEach es X.env)).any (·.1) = false := by rfl) : PE X (.Call (.Name x p) (e :: es) [] pos) (tMkV C (spI C nm) ta) := by
  obtain ⟨fI, fd, iC, tI, F1, hb, _⟩ := L.ini
  exact pe_mkv L.ec.oex iC tI F1 hr hb pass0 hg L.g ha hdb he hpl
theorem pe_new0 (L : Kl X.prog X.w X.K X.mg X.base x C nm) (hr : Room 2 X.A) (hg : Gl X x := by rfl) (hdb : (x == ("__debug__" : Str)) = false := by decide) : PE X (.Call (.Name x p) [] [] pos) (tMkV C (spI C nm) tNil) := by
  obtain ⟨fI, fd, iC, tI, F1, hb, _⟩ := L.ini
  exact pe_mkv0 L.ec.oex iC tI F1 hr hb pass0 hg L.g hdb
theorem pe_newK {kws : List Keyword} {tk : TA} (L : Kl X.prog X.w X.K X.mg X.base x C nm) (hr : Room 2 X.A) (hkw : PK X kws tk) (hks : (backToKw pos (keywordEach kws X.env)).filterMap (·.1) = nm.reverse := by rfl) (hg : Gl X x := by rfl)
    (hdb : (x == ("__debug__" : Str)) = false := by decide) (hall : (backToKw pos (keywordEach kws X.env)).all (·.1.isSome) = true := by rfl)
    (hpl : ((backTo pos (starEach [] X.env)).any (·.1) || (backToKw pos (keywordEach kws X.env)).any (·.1.isNone)) = false := by rfl) : PE X (.Call (.Name x p) [] kws pos) (tMkVK C (spI C nm) List.reverse nm.reverse.length tk) := by
  obtain ⟨fI, fd, iC, tI, F1, hb, hk⟩ := L.ini
  exact pe_mkvK (g := List.reverse) (gV := List.reverse) (ks := nm.reverse) L.ec.oex iC tI F1 hr hk (fun {zs ws} _ r => by
    have go : ∀ {as : List V} {bs : List Value}, Vals as bs → Vals as.reverse bs.reverse := by
      intro as bs h
      induction h with
      | nil => exact .nil
      | cons a t ih =>
        rw [List.reverse_cons, List.reverse_cons]
        exact ih.append (.cons a .nil)
    exact go r) pass0 hg L.g hkw hall hks hdb hpl
theorem ps_rse (E : XK) (L : Kl X.prog X.w X.K X.mg X.base x C nm) (hc : X.calm = true) (hr : Room 2 X.A) (tk : L2N.Takes X (fun cls d _ H => E cls d H)) (ha : PA X (e :: es) ta) (hg : Gl X x := by rfl) (hdb : (x == ("__debug__" : Str)) = false := by decide)
    (he : starEach (e :: es) X.env = (false, eval e X.env) :: starEach es X.env := by rfl) (hpl : (backTo pos (starEach es X.env)).any (·.1) = false := by rfl) : PS X (.Raise (some (.Call (.Name x p) (e :: es) [] pos)) none pos2) (fun _ σ H => tMkO C (spI C nm) [] ta σ H fun cls d H' => E cls d H') := by
  obtain ⟨fI, fd, iC, tI, F1, hb, _⟩ := L.ini
  exact L2N.ps_raise hc tk (pmk_n L.ec.oex iC tI F1 hr hb pass0 hg L.g ha hdb he hpl)
theorem ps_rse0 (E : XK) (L : Kl X.prog X.w X.K X.mg X.base x C nm) (hc : X.calm = true) (hr : Room 2 X.A) (tk : L2N.Takes X (fun cls d _ H => E cls d H)) (hg : Gl X x := by rfl) (hdb : (x == ("__debug__" : Str)) = false := by decide) :
    PS X (.Raise (some (.Call (.Name x p) [] [] pos)) none pos2) (fun _ σ H => tMkO0 C (spI C nm) σ H fun cls d H' => E cls d H') := by
  obtain ⟨fI, fd, iC, tI, F1, hb, _⟩ := L.ini
  exact L2N.ps_raise hc tk (pmk_n0 L.ec.oex iC tI F1 hr hb pass0 hg L.g hdb)
end
/-- what the making of an error reads -/
theorem made_end {C : Addr} {nm : List Str} {vs : List V} {H : Hp} {Q : VK} (hl : vs.length = nm.length) (h1 : vs.length ≤ 1000) (q : ∀ (a : Addr) (H' : Hp), H a = none → ErrO H' a C (nm.zip vs).reverse → Same H H' → Q (.ref a) H') :
    vs.length ≤ 1000 ∧ ∀ a, H a = none → spI C nm (.ref a :: vs) (upd H a (exo a C none)) (fun v H2 => v = .non ∧ Q (.ref a) H2) (fun _ _ _ => False) := by
  refine ⟨h1, fun a na => ⟨a, vs, rfl, hl, upd_same, fun e => ⟨rfl, ?_⟩, fun ne d H' nd nda e1 e2 k => ⟨rfl, ?_⟩⟩⟩
  · subst e
    exact q a _ na (.inl ⟨rfl, upd_same⟩) (same_put na (Same.refl _))
  · refine q a H' na (.inr ⟨d, e1, e2⟩) fun b o e => ?_
    have nb : b ≠ a := ne_of_none e na
    exact k b o nb (by rw [upd_ne nb]; exact e)
/-- what the raising of an error reads -/
theorem raised_end {C : Addr} {nm : List Str} {vs : List V} {H : Hp} {E : XK} (hl : vs.length = nm.length) (h1 : vs.length ≤ 1000) (hn : nm ≠ []) (q : ∀ (d : Addr) (H' : Hp), H' d = some (.xd (nm.zip vs).reverse) → Same H H' → E (.ref C) (some d) H') :
    vs.length ≤ 1000 ∧ ∀ a, H a = none → spI C nm (.ref a :: (vs ++ [])) (upd H a (exo a C none)) (fun v H2 => v = .non ∧ ∃ (d : Addr) (fs : List (Str × V)), H2 a = some (exo a C (some d)) ∧ H2 d = some (exd d fs) ∧ H d = none ∧ E (.ref C) (some d) (upd (del H2 a) d (.xd fs))) (fun _ _ _ => False) := by
  refine ⟨h1, fun a na => ⟨a, vs ++ [], rfl, by rw [List.append_nil]; exact hl, upd_same, fun e => absurd e hn, fun ne d H' nd nda e1 e2 k => ?_⟩⟩
  rw [List.append_nil] at e2
  have nd0 : H d = none := by
    rw [upd_ne nda] at nd
    exact nd
  refine ⟨rfl, d, _, e1, e2, nd0, q d _ upd_same fun b o e => ?_⟩
  have nb : b ≠ a := ne_of_none e na
  rw [upd_ne (ne_of_none e nd0), del_ne nb]
  exact k b o nb (by rw [upd_ne nb]; exact e)
/-- the error at a, tracked or held fast -/
def EAt (pl : List (Addr × Obj)) (H : Hp) (a C : Addr) (d : Option Addr) : Prop := H a = some (exo a C d) ∨ ∃ oe, (a, oe) ∈ pl ∧ Zc (.ref C) d oe ∧ ∃ vs, oe.data = .fields vs
def ErrX (pl : List (Addr × Obj)) (H : Hp) (a C : Addr) (fs : List (Str × V)) : Prop := (fs = [] ∧ EAt pl H a C none) ∨ ∃ d, EAt pl H a C (some d) ∧ Dk H d fs
theorem ErrO.x {pl : List (Addr × Obj)} {H : Hp} {a C : Addr} {fs : List (Str × V)} (h : ErrO H a C fs) : ErrX pl H a C fs := by
  rcases h with ⟨e, h⟩ | ⟨d, h1, h2⟩
  · exact .inl ⟨e, .inl h⟩
  · exact .inr ⟨d, .inl h1, .inr h2⟩
theorem EAt.mono {pl : List (Addr × Obj)} {H H' : Hp} {a C : Addr} {d : Option Addr} (s : Same H H') (h : EAt pl H a C d) : EAt pl H' a C d := by
  rcases h with h | h
  · exact .inl (s _ _ h)
  · exact .inr h
theorem ErrX.mono {pl : List (Addr × Obj)} {H H' : Hp} {a C : Addr} {fs : List (Str × V)} (s : Same H H') (h : ErrX pl H a C fs) : ErrX pl H' a C fs := by
  rcases h with ⟨e, h⟩ | ⟨d, h1, h2⟩
  · exact .inl ⟨e, h.mono s⟩
  · exact .inr ⟨d, h1.mono s, h2.mono s⟩
theorem EAt.seen {X : Cx} {H : Hp} {a C : Addr} {d : Option Addr} (h : EAt X.pn H a C d) : Seen X H a C d := by
  rcases h with h | ⟨oe, m, z, f⟩
  · exact seen_exo h
  · exact seen_pin m z f
section
variable {P : Program} {w : World} {K : PySem.W.Frag} {mg : Str → Option Value} {base : Heap}
/-- a def that may raise where nothing is handled -/
theorem okN {x qual : Str} {st : Stmt} {f : Addr} {fd : FuncData} {N ps : List Str} {k : Nat} {sp : Sp} (F : Fun K x qual st f fd) (S : FnScope N ps (defScope st)) (len : ∀ vs H Q E, sp vs H Q E → vs.length = ps.length)
    (body : ∀ (cdv : Value) (A : Around) (outer : List Env) (s : Shared) (H : Hp) (vs : List V) (Q : VK) (E : XK), Room k (A.deeper (envOfC qual (defScope st) s.heap.objs.size f cdv)) → sp vs H Q E →
      ∃ t, PSs (cxOf (L2N.CX P w) P w K mg base N qual (defScope st) f cdv A outer s H E) (defBody st) t ∧ t { nx := fun _ H' => Q .non H', rt := Q } (L2.start N vs) H) : FnOk P w K mg base (L2N.CX P w) (k + 1) f fd ps sp := by
  obtain ⟨oc, od, kV, doc, pm, an, cdv, ct, osl, rfl, lk, hcd⟩ := F.ex
  exact fn_of lk hcd S len fun A outer s H vs Q E hr h => body cdv A outer s H vs Q E hr h
theorem fld_of {pl : List (Addr × Obj)} {H : Hp} {a C : Addr} {p : Str × V} {r : List (Str × V)} (h : ErrX pl H a C (p :: r)) : ∃ d, EAt pl H a C (some d) ∧ Dk H d (p :: r) := by
  rcases h with ⟨e, _⟩ | h
  · cases e
  · exact h
end
/-- a def of the text that may be called in both moods -/
structure Dm (P : Program) (w : World) (K : PySem.W.Frag) (mg : Str → Option Value) (base : Heap) (x : Str) (k : Nat) (ps : List Str) (sp : List (Addr × Obj) → Sp) : Prop where
  ex : ∃ f fd, FnB P w K mg base k f fd ps sp ∧ mg x = some (.ref f) ∧ PySem.W.keepIn K (.ref f) = true ∧ Binds K fd ps []
theorem Dm.dn {P : Program} {w : World} {K : PySem.W.Frag} {mg : Str → Option Value} {base : Heap} {x : Str} {k : Nat} {ps : List Str} {sp : List (Addr × Obj) → Sp} (D : Dm P w K mg base x k ps sp) : Dn P w K mg base CX0 x k ps (fun vs H Q _ => sp [] vs H Q E0) := by
  obtain ⟨f, fd, F, r⟩ := D.ex
  exact ⟨f, fd, F.ok, r⟩
theorem MoodC.blk {X : Cx} {b : Bool} {pl : List (Addr × Obj)} (m : MoodC X b pl) (s : Shared) (H : Hp) (sc : Scope) (ce : Env) (fp : List Addr) : MoodC (blq X s H sc ce fp pl) b pl := by
  cases m with
  | calm h => exact .calm h
  | hot p h m => exact .hot p h List.mem_cons_self
section
variable {X : Cx} {x : Str} {k : Nat} {ps : List Str} {sp : List (Addr × Obj) → Sp} {b : Bool} {pl : List (Addr × Obj)} {q pos : Pos} {e : Expr} {es : List Expr} {t : TA}
theorem pe_cls {C : Addr} (hm : X.mg x = some (.ref C)) (hg : Gl X x := by rfl) (hd : (x == ("__debug__" : Str)) = false := by decide) : PE X (.Name x q) (tC (.ref C)) := pe_glob (v := .ref C) hg hm rfl hd
theorem pe_dm (D : Dm X.prog X.w X.K X.mg X.base x k ps sp) (hr : RoomH k X.A) (mc : MoodC X b pl) (ha : PA X (e :: es) t) (hg : Gl X x := by rfl) (hdb : (x == ("__debug__" : Str)) = false := by decide)
    (he : starEach (e :: es) X.env = (false, eval e X.env) :: starEach es X.env := by rfl) (hpl : (backTo pos (starEach es X.env)).any (·.1) = false := by rfl) : PE X (.Call (.Name x q) (e :: es) [] pos) (tCallB sp pl t) := by
  obtain ⟨f, fd, F, hm, hk, hb⟩ := D.ex
  exact pe_cB F hr mc hg hm hk hb ha hdb he hpl
/-- a list made over a range, in both moods -/
theorem pe_lcM {el tg n : Expr} {ifs : List Expr} {sc : Scope} {own : List (Str × Nat)} {pos p2 p3 : Pos} {ta : TA} {g : TG} {tt : TT} {te : TE} (mc : MoodC X b pl) (hN : X.N.Nodup) (hgl : Gl X "range") (hm : X.mg "range" = none) (ha : PA X [n] ta) (ok : BlkOk X.N X.env.scope sc own)
    (hg : ∀ s H C cl fp, PG (blq X s H sc (compEnvC sc cl C X.env) fp pl) tg g) (ht : ∀ s H C cl fp, PTs (blq X s H sc (compEnvC sc cl C X.env) fp pl) ifs tt) (he : ∀ s H C cl fp, PE (blq X s H sc (compEnvC sc cl C X.env) fp pl) el te)
    (hn : starEach [n] X.env = [(false, eval n X.env)] := by rfl) (hs : ∀ x, foldedSetIterable (.Call (.Name "range" p2) [n] [] p3) X.env x = pure x := by intro _; rfl) :
    PE X (.ListComp el [⟨tg, .Call (.Name "range" p2) [n] [] p3, ifs, 0⟩] sc pos) (tLc (iRng1 ta) g tt te (own.map (·.2))) := by
  cases mc with
  | calm h => exact pe_lc h hN (pi_range1 hgl hm ha hn) ok hg ht he hs
  | hot p h m => exact lcH p h m hN (pi_range1H hgl hm ha hn) ok hg ht he hs
end
theorem hu2 {k : Nat} {A : Around} (r : RoomH k A) : A.units + 64 < cLine := by
  have := r.un
  omega
theorem isA_of {X : Cx} {a : Addr} {C : Addr} {fs : List (Str × V)} {H : Hp} {c : V} {cv : Value} {b : Bool} {Q : VK} (T : Ec X.K C) (h : ErrX X.pn H a C fs) (hc : ClsV c cv) (k : PySem.W.kitOne X.K (.ref C) cv = some b) (q : Q (.bl b) H) : rIsA X [.ref a, c] H Q := by
  rcases h with ⟨_, h⟩ | ⟨d, h, hd⟩
  · exact ⟨a, C, none, c, cv, b, rfl, hc, T, h.seen, (fun dd e => by cases e), k, q⟩
  · exact ⟨a, C, some d, c, cv, b, rfl, hc, T, h.seen, (fun dd e => by cases e; exact ⟨fs, hd⟩), k, q⟩
/-- a suite that knows the error it holds -/
def tsAll (cls : Value) (d : Option Addr) (t : Obj → List (Addr × Obj) → TS) : TS := fun D σ H => ∀ (oe : Obj) (pn : List (Addr × Obj)), L2N.Zn cls d oe → (∃ vs, oe.data = .fields vs) → t oe pn D σ H
theorem pss_all {X : Cx} {ss : List Stmt} {cls : Value} {d : Option Addr} {t : Obj → List (Addr × Obj) → TS} {oe : Obj} {pn : List (Addr × Obj)} (hz : L2N.Zn cls d oe) (hf : ∃ vs, oe.data = .fields vs) (h : PSs X ss (t oe pn)) : PSs X ss (tsAll cls d t) :=
  ⟨fun pins s σ H D I q => h.run pins s σ H D I (q oe pn hz hf)⟩
theorem mood_suite {X : Cx} {a : Addr} {oe : Obj} {cls : Value} {d : Option Addr} {pn : List (Addr × Obj)} (hz : L2N.Zn cls d oe) (hf : ∃ vs, oe.data = .fields vs) : MoodC (X.suite a ((a, oe) :: pn)) false [(a, oe)] := by
  obtain ⟨vs, hv⟩ := hf
  exact .hot (a, oe) ⟨rfl, vs, hv, hz.2.2 vs hv⟩ List.mem_cons_self
theorem takes0N {X : Cx} : L2N.Takes X (fun _ _ _ _ => False) := fun _ _ x => by
  obtain ⟨_, _, _, _, _, _, _, _, _, _, _, _, _, _, _, _, w⟩ := x
  exact w.elim
section
variable {X : Cx} {x : Str} {k : Nat} {ps : List Str} {sp : Sp} {q pos : Pos} {e : Expr} {es : List Expr} {t : TA}
theorem pe_dnS {W : WX} (D : Dn X.prog X.w X.K X.mg X.base (L2N.CX X.prog X.w) x k ps sp) (hr : Room k X.A) (tk : L2N.Takes X W) (ha : PA X (e :: es) t) (hg : Gl X x := by rfl) (hdb : (x == ("__debug__" : Str)) = false := by decide)
    (he : starEach (e :: es) X.env = (false, eval e X.env) :: starEach es X.env := by rfl) (hpl : (backTo pos (starEach es X.env)).any (·.1) = false := by rfl) : PE X (.Call (.Name x q) (e :: es) [] pos) (tCallS sp (WE W) t) := by
  obtain ⟨f, fd, F, hm, hk, hb⟩ := D.ex
  exact pe_callS F hr hg hm hk hb (fun σ => L2N.passAt tk σ) ha hdb he hpl
end
theorem roomH_mk {k : Nat} {A : Around} (r : Room k A) (h : Option Value) : RoomH k (A.mark h) := ⟨r.dp, r.un⟩
theorem Tape.some {t l : Addr} {ns : List Int} {H : Hp} (T : Tape t l ns H) : ∃ o, H t = some o := by
  obtain ⟨a, b, c, e, _⟩ := T.ex
  exact ⟨_, e⟩
theorem ne_new {H : Hp} {a d : Addr} (h : ∃ o, H a = some o) (n : H d = none) : d ≠ a := fun z => by
  obtain ⟨o, ho⟩ := h
  rw [z, ho] at n
  cases n
theorem Tape.put {t l d : Addr} {ns : List Int} {H : Hp} {o : HO} (T : Tape t l ns H) (n1 : d ≠ t) (n2 : d ≠ l) : Tape t l ns (upd H d o) := by
  obtain ⟨a, b, c, e, h⟩ := T.ex
  exact ⟨⟨a, b, c, by rw [upd_ne n1.symm]; exact e, h⟩, by rw [upd_ne n2.symm]; exact T.sc⟩
theorem keeps_put {t d : Addr} {H H' : Hp} {o : HO} (h : H d = none) (k : Keeps t H H') : Keeps t H (upd H' d o) := fun b u n e => by
  rw [upd_ne (ne_of_none e h)]
  exact k b u n e
end Dt
end SecN2
section SecN3
set_option Elab.async false
set_option linter.all false
set_option maxRecDepth 100000
namespace Rd
open PySem PySem.Spec PyProof.Rows L2 L2H Err Dt
section
variable {D : Ends} {σ : L2.St} {H H' : Hp} {Q : VK} {C : Addr} {sp : Sp} {ta : TA} {te : TE} {gV : List V → List V} {n : Nat} {E : XK} {E' : L2.St → XK} {K : PySem.W.Frag} {p : Addr} {xs : List V} {b : Bool} {x : V}
theorem isT {b : Bool} (q : Q (.bl (decide (x = .bl b))) H) : Dt.rIsT x (.bl b) H Q := ⟨b, rfl, q⟩
theorem isnT {b : Bool} (q : Q (.bl (!decide (x = .bl b))) H) : Dt.rNotT x (.bl b) H Q := ⟨b, rfl, q⟩
theorem mkv (q : ta σ H fun vs H1 => vs.length ≤ 1000 ∧ ∀ a, H1 a = none → sp (.ref a :: vs) (upd H1 a (exo a C none)) (fun v H2 => v = .non ∧ Q (.ref a) H2) (fun _ _ _ => False)) : tMkV C sp ta σ H Q := q
theorem mko {dvs : List V} (q : ta σ H fun vs H1 => vs.length ≤ 1000 ∧ ∀ a, H1 a = none → sp (.ref a :: (vs ++ dvs)) (upd H1 a (exo a C none))
  (fun v H2 => v = .non ∧ ∃ (d : Addr) (fs : List (Str × V)), H2 a = some (exo a C (some d)) ∧ H2 d = some (exd d fs) ∧ H1 d = none ∧ E (.ref C) (some d) (upd (del H2 a) d (.xd fs))) (fun _ _ _ => False)) : tMkO C sp dvs ta σ H E := q
theorem callB {sp : List (Addr × Obj) → Sp} {pl : List (Addr × Obj)} (q : ta σ H fun vs H1 => sp pl vs H1 Q E0) : tCallB sp pl ta σ H Q := q
theorem callS (q : ta σ H fun vs H1 => sp vs H1 Q (E' σ)) : tCallS sp E' ta σ H Q := q
theorem bm {T : String} {r : V → List V → Hp → VK → Prop} (q : te σ H fun x H1 => tyV K T x H1 ∧ ta σ H1 fun xs H2 => r x xs H2 Q) : tBM K T r te ta σ H Q := q
theorem itl {R : It → Hp → Prop} (q : te σ H fun x H1 => ∃ a, x = .ref a ∧ (∃ xs, SqL K H1 a xs) ∧ R (Itl K a) H1) : iList K te σ H R := q
theorem itt {R : It → Hp → Prop} (q : te σ H fun x H1 => ∃ a, x = .ref a ∧ (∃ xs, SqT K H1 a xs) ∧ R (Itt K a) H1) : iTup K te σ H R := q
theorem app {y : V} (h : H p = some (.lst xs)) (hl : xs.length < sizeLine) (q : Q .non (upd H p (.lst (xs ++ [y])))) : rAppend (.ref p) [y] H Q := ⟨p, xs, y, rfl, rfl, h, hl, q⟩
/-- new objects -/
theorem tupN (q : ta σ H fun xs H1 => xs.length ≤ sizeLine ∧ ∀ p H2, H2 p = some (.tup xs) → Same H1 H2 → H1 p = none → Q (.ref p) H2) (mono : ∀ {R R' : List V → Hp → Prop}, (∀ xs H, R xs H → R' xs H) → ta σ H R → ta σ H R') : tTup ta σ H Q :=
  mono (fun xs H1 h => ⟨h.1, fun p n => h.2 p _ upd_same (same_put n (Same.refl _)) n⟩) q
theorem newT (hl : xs.length ≤ sizeLine) (q : ∀ p H2, H2 p = some (.tup xs) → Same H H2 → H p = none → Q (.ref p) H2) : xs.length ≤ sizeLine ∧ ∀ p, H p = none → Q (.ref p) (upd H p (.tup xs)) :=
  ⟨hl, fun p n => q p _ upd_same (same_put n (Same.refl _)) n⟩
theorem newL (hl : xs.length ≤ sizeLine) (q : ∀ p H2, H2 p = some (.lst xs) → Same H H2 → H p = none → Q (.ref p) H2) : xs.length ≤ sizeLine ∧ ∀ p, H p = none → Q (.ref p) (upd H p (.lst xs)) :=
  ⟨hl, fun p n => q p _ upd_same (same_put n (Same.refl _)) n⟩
theorem at_to {o : HO} (s : Same H H') (e : H p = some o) : H' p = some o := s _ _ e
theorem len_le {α : Type} {l : List α} {n : Nat} (h : l.length = n) (k : n ≤ 1000) : l.length ≤ sizeLine := by rw [sizeLine_eq]; omega
end
end Rd
end SecN3
section SecN4
set_option Elab.async false
set_option linter.all false
set_option maxRecDepth 100000
namespace Dt
open PySem PySem.Spec PyProof.Rows L2 L2H Err
theorem Keeps.sam {t l : Addr} {ns : List Int} {H H' : Hp} (T : Tape t l ns H) (k : Keeps t H H') : Sam H H' := fun b o n e => by
  refine k b o (fun z => ?_) e
  obtain ⟨x, y, c, e2, _⟩ := T.ex
  rw [z, e2] at e
  cases e
  exact n _ _ _ _ rfl
theorem at_sam {H H' : Hp} {p : Addr} {o : HO} (n : NotTape o) (s : Sam H H') (e : H p = some o) : H' p = some o := s _ _ n e
/-- a number below m, not below 0; the tape goes on, all else stands -/
def spDr : Sp := fun vs H Q _ => ∃ (t l : Addr) (ns : List Int) (m : Int), vs = [.ref t, .int m] ∧ Tape t l ns H ∧ ns.length ≤ 63 ∧ 0 < m ∧ m < 1073741824 ∧
  ∀ (v : Int) (H' : Hp), 0 ≤ v → v < m → Tape t l ns H' → Sam H H' → Q (.int v) H'
/-- the tape stands at t, the script's copy at l -/
def Tq (t l : Addr) (H : Hp) : Prop := ∃ ns, Tape t l ns H ∧ ns.length ≤ 63
theorem Tq.to {t l : Addr} {H H' : Hp} (s : Same H H') (h : Tq t l H) : Tq t l H' := by
  obtain ⟨ns, T, k⟩ := h
  exact ⟨ns, T.mono s, k⟩
theorem Tq.ne {t l d : Addr} {H : Hp} (h : Tq t l H) (n : H d = none) : d ≠ t ∧ d ≠ l := by
  obtain ⟨ns, T, k⟩ := h
  obtain ⟨a, b, c, e, _⟩ := T.ex
  exact ⟨fun z => (by rw [z, e] at n; cases n), fun z => (by rw [z, T.sc] at n; cases n)⟩
theorem Tq.put {t l d : Addr} {H : Hp} {o : HO} (h : Tq t l H) (n : d ≠ t ∧ d ≠ l) : Tq t l (upd H d o) := by
  obtain ⟨ns, T, k⟩ := h
  exact ⟨ns, T.put n.1 n.2, k⟩
theorem sam_put {H H' : Hp} {d : Addr} {o : HO} (h : H d = none) (s : Sam H H') : Sam H (upd H' d o) := fun b u n e => by rw [upd_ne (ne_of_none e h)]; exact s b u n e
theorem yes_if {σ : L2.St} {H : Hp} {B : Hp → Prop} {C : Hp → Prop} (h : B H) : tYes σ H fun b H3 => if b = true then B H3 else C H3 := by
  show (if true = true then B H else C H)
  rw [if_pos rfl]
  exact h
/-- a list made of a list of ints -/
theorem lc_ints {K : PySem.W.Frag} {a d : Addr} {ns : List Int} {H0 : Hp} {B : Hp → Prop} {te : TE} {j : Nat} {σ : L2.St} {vs : List Nat} (f : Int → Int) (hd : H0 d = none) (he : H0 a = some (.lst (ns.map V.int))) (hl : ns.length ≤ 1000)
    (step : ∀ (n : Int) (H' : Hp) (R : VK), Same H0 H' → R (.int (f n)) H' → wipe ((wipe σ vs).set j (some (.int n))) vs = wipe σ vs ∧ te ((wipe σ vs).set j (some (.int n))) H' R)
    (k : ∀ (H' : Hp), H' d = some (.lst ((ns.map f).map V.int)) → Same H0 H' → B H') :
    ∃ W : Nat → Nat → Hp → Prop, (∃ m, W 0 m (upd H0 d (.lst []))) ∧ ∀ i m H, W i m H →
      ((Itl K a).stop i H ∧ B H) ∨ ((Itl K a).go i H ∧ ∃ Nx : Hp → Prop, (∀ H', Nx H' → ∃ m', m' < m ∧ W (i + 1) m' H') ∧ ∀ x H', (Itl K a).yld i H x H' → gName j x (wipe σ vs) H' fun σ2 H2 => wipe σ2 vs = wipe σ vs ∧ tYes σ2 H2 fun b H3 =>
        if b = true then te σ2 H3 fun y H4 => ∃ acc, H4 d = some (.lst acc) ∧ acc.length < sizeLine ∧ Nx (upd H4 d (.lst (acc ++ [y]))) else Nx H3) := by
  refine lc_list (K := K) (a := a) (xs := ns.map V.int) (fun i H3 => H3 d = some (.lst (((ns.take i).map f).map V.int)) ∧ Same H0 H3) ⟨upd_same, same_put hd (Same.refl _)⟩ (fun i H3 _ ⟨_, s3⟩ => SqL.of (s3 _ _ he)) ?_ ?_
  · rintro i x H3 hx ⟨e3, s3⟩
    rw [List.getElem?_map] at hx
    cases hn : ns[i]? with
    | none => rw [hn] at hx; cases hx
    | some n =>
      rw [hn] at hx
      cases hx
      obtain ⟨h1, h2⟩ := step n H3 (fun y H4 => ∃ acc, H4 d = some (.lst acc) ∧ acc.length < sizeLine ∧ (upd H4 d (.lst (acc ++ [y]))) d = some (.lst (((ns.take (i + 1)).map f).map V.int)) ∧ Same H0 (upd H4 d (.lst (acc ++ [y])))) s3
        ⟨_, e3, by rw [List.length_map, List.length_map, List.length_take, sizeLine_eq]; omega, by rw [upd_same, List.take_succ, hn, List.map_append, List.map_append]; rfl, same_put hd s3⟩
      exact ⟨h1, yes_if h2⟩
  · rintro H4 ⟨e4, s4⟩
    rw [List.length_map, List.take_length] at e4
    exact k H4 e4 s4
theorem nt_ints {ns : List Int} : NotTape (.lst (ns.map V.int)) := fun a b c l z => by
  match ns, z with
  | [], z => cases z
  | [_], z => cases z
  | [_, _], z => cases z
  | [_, _, _], z => cases z
  | _ :: _ :: _ :: _ :: _, z => simp at z
theorem cut_ints {ns : List Int} (lo hi : Option Int) : ∃ ms : List Int, cutV (ns.map V.int) lo hi = ms.map V.int ∧ ms = (ns.drop (HT.sIx ns.length 0 lo)).take (HT.sIx ns.length ns.length hi - HT.sIx ns.length 0 lo) :=
  ⟨_, by unfold cutV; rw [List.length_map, ← List.map_drop, ← List.map_take], rfl⟩
/-- a def of the text that is called by names, in the other sequence -/
structure Dk (P : Program) (w : World) (K : PySem.W.Frag) (mg : Str → Option Value) (base : Heap) (CX : CXT) (x : Str) (k : Nat) (ps : List Str) (sp : Sp) : Prop where
  ex : ∃ f fd, FnOk P w K mg base CX k f fd ps sp ∧ mg x = some (.ref f) ∧ PySem.W.keepIn K (.ref f) = true ∧ ∀ (s : Shared) (ws : List Value), K.In s.heap → ws.length = ps.length → BindsTo s fd ⟨[], ps.reverse.zip ws⟩ (ps.zip ws.reverse)
def tCallR (sp : Sp) (n : Nat) (tk : TA) : TE := fun σ H Q => tk σ H fun zs H1 => zs.length = n ∧ sp zs.reverse H1 Q E0
theorem vals_rev : ∀ {as : List V} {bs : List Value}, Vals as bs → Vals as.reverse bs.reverse := by
  intro as bs h
  induction h with
  | nil => exact .nil
  | cons a t ih =>
    rw [List.reverse_cons, List.reverse_cons]
    exact ih.append (.cons a .nil)
theorem passN0' {X : Cx} : Passes (L2N.CX X.prog X.w) X E0 := fun _ _ _ _ _ _ _ c => by
  obtain ⟨_, _, _, _, _, _, _, _, _, _, _, _, h⟩ := c
  exact (show False from h).elim
theorem pe_dnKx {X : Cx} {CX : CXT} {x : Str} {k : Nat} {ps : List Str} {sp : Sp} {q pos : Pos} {kws : List Keyword} {tk : TA} (D : Dk X.prog X.w X.K X.mg X.base CX x k ps sp) (hr : Room k X.A) (hx : Passes CX X E0) (hkw : PK X kws tk) (hg : Gl X x := by rfl)
    (hks : (backToKw pos (keywordEach kws X.env)).filterMap (·.1) = ps.reverse := by rfl) (hall : (backToKw pos (keywordEach kws X.env)).all (·.1.isSome) = true := by rfl) (hdb : (x == ("__debug__" : Str)) = false := by decide)
    (hpl : ((backTo pos (starEach [] X.env)).any (·.1) || (backToKw pos (keywordEach kws X.env)).any (·.1.isNone)) = false := by rfl) : PE X (.Call (.Name x q) [] kws pos) (tCallR sp ps.length tk) := by
  obtain ⟨f, fd, F, hm, hk, hb⟩ := D.ex
  refine ⟨fun pins s σ H Q I h => wpAny_Call_Name_kw (ld_glob I hg hm ?_ hdb)⟩
  refine PySem.W.callWith_KW0 (h₀ := X.base) I.ok.mod.kin hk hall (thn (hkw.run pos pins s σ H _ I h) fun ws s2 ⟨zs, H2, I2, rz, lz, q2⟩ => ⟨I2.kIn, ?_⟩) hpl
  rw [hks]
  have lw : ws.length = ps.length := by rw [← Paired.length rz]; exact lz
  refine wpAny_call (codeAny_mono (F.run X.A X.stack s2 H2 ⟨[], ps.reverse.zip ws⟩ ws.reverse zs.reverse Q E0 hr I2.env0 (hb s2 ws I2.kIn lw) (vals_rev rz) q2) fun r s' hq => ?_)
  cases r with
  | error e => exact hx pins σ H2 s2 e s' I2 hq
  | ok fl =>
    cases fl with
    | ret u => exact I2.after hq
    | next => exact hq.elim
    | brk => exact hq.elim
    | cont => exact hq.elim
end Dt
namespace Rd
open PySem PySem.Spec PyProof.Rows L2 L2H Err Dt
section
variable {σ : L2.St} {H : Hp} {K : PySem.W.Frag} {p q : Addr} {xs ys : List V} {v : V} {vs : List V} {n : Nat} {t : TG} {u : TGs} {Q : L2.St → Hp → Prop} {QV : VK}
theorem callR {sp : Sp} {n : Nat} {tk : TA} {QV : VK} (k : tk σ H fun zs H1 => zs.length = n ∧ sp zs.reverse H1 QV E0) : tCallR sp n tk σ H QV := k
theorem tupOf {K : PySem.W.Frag} {QV : VK} (hp : H p = some (.lst xs)) (k : ∀ q J, J q = some (.tup xs) → Same H J → H q = none → QV (.ref q) J) :
    ∃ p' ys, [V.ref p] = [V.ref p'] ∧ ((SqL K H p' ys ∧ ∀ l, H l = none → QV (.ref l) (upd H l (.tup ys))) ∨ (SqT K H p' ys ∧ QV (.ref p') H)) :=
  ⟨p, xs, rfl, .inl ⟨SqL.of hp, fun l n => k l _ upd_same (same_put n (Same.refl _)) n⟩⟩
theorem lstOf {K : PySem.W.Frag} {QV : VK} (hp : H p = some (.lst xs)) (k : ∀ q J, J q = some (.lst xs) → Same H J → H q = none → QV (.ref q) J) :
    ∃ p' ys, [V.ref p] = [V.ref p'] ∧ (SqL K H p' ys ∨ SqT K H p' ys) ∧ ∀ l, H l = none → QV (.ref l) (upd H l (.lst ys)) :=
  ⟨p, xs, rfl, .inl (SqL.of hp), fun l n => k l _ upd_same (same_put n (Same.refl _)) n⟩
theorem brk {D : Ends} (k : D.bk σ H) : tBreak D σ H := k
theorem bits {te : TE} {QV : VK} (k : te σ H fun x H1 => ∃ i, x = .int i ∧ QV (.int (Builtin.Int.intBits i : Nat)) H1) : tBits te σ H QV := k
theorem max2 {a b : Int} {QV : VK} (k : QV (.int (if b > a then b else a)) H) : ∃ i j, [V.int a, V.int b] = [.int i, .int j] ∧ QV (.int (if j > i then j else i)) H := ⟨a, b, rfl, k⟩
theorem gtup (he : H p = some (.tup xs)) (hl : xs.length = n) (k : u xs σ H Q) : gTup K n u (.ref p) σ H Q := ⟨p, xs, rfl, SqT.of he, hl, k⟩
theorem gcons (k : t v σ H fun σ1 H1 => u vs σ1 H1 Q) : gCons t u (v :: vs) σ H Q := ⟨v, vs, rfl, k⟩
theorem gnil (k : Q σ H) : gNil [] σ H Q := ⟨rfl, k⟩
theorem catT (hp : H p = some (.tup xs)) (hq : H q = some (.tup ys)) (h1 : xs ≠ []) (h2 : ys ≠ []) (hl : xs.length + ys.length ≤ 16777216) (k : ∀ r J, J r = some (.tup (xs ++ ys)) → Same H J → H r = none → QV (.ref r) J) : rCatA K (.ref p) (.ref q) H QV :=
  ⟨p, q, xs, ys, rfl, rfl, SqT.of hp, SqT.of hq, by rw [PySem.sizeLine_eq]; exact hl, fun z => absurd z h1, fun _ z => absurd z h2, fun _ _ r n => k r _ upd_same (same_put n (Same.refl _)) n⟩
theorem catL (hp : H p = some (.lst xs)) (hq : H q = some (.lst ys)) (hl : xs.length + ys.length ≤ 16777216) (k : ∀ r J, J r = some (.lst (xs ++ ys)) → Same H J → H r = none → QV (.ref r) J) : rCat (.ref p) (.ref q) H QV :=
  ⟨p, q, xs, ys, rfl, rfl, hp, hq, by rw [PySem.sizeLine_eq]; exact hl, fun r n => k r _ upd_same (same_put n (Same.refl _)) n⟩
end
end Rd
end SecN4
section SecD1
set_option Elab.async false
set_option linter.all false
set_option maxRecDepth 100000
set_option maxHeartbeats 4000000
set_option pp.deepTerms false
namespace Dt
open PySem PySem.Spec PyProof.Rows L2 L2H Err
section
variable {X : Cx} {x : Str} {k : Nat} {ps : List Str} {sp : Sp} {q pos : Pos} {e : Expr} {es : List Expr} {t : TA}
/-- a def that may raise, called by one that may raise -/
theorem pe_dnX {E : XK} (D : Dn X.prog X.w X.K X.mg X.base (L2N.CX X.prog X.w) x k ps sp) (hr : Room k X.A) (tk : L2N.Takes X (fun cls d _ H => E cls d H)) (ha : PA X (e :: es) t) (hg : Gl X x := by rfl) (hdb : (x == ("__debug__" : Str)) = false := by decide)
    (he : starEach (e :: es) X.env = (false, eval e X.env) :: starEach es X.env := by rfl) (hpl : (backTo pos (starEach es X.env)).any (·.1) = false := by rfl) : PE X (.Call (.Name x q) (e :: es) [] pos) (tCall sp [] E t) := by
  obtain ⟨f, fd, F, hm, hk, hb⟩ := D.ex
  exact pe_call F hr hg hm hk hb .nil (L2N.passes_call tk fun _ _ _ _ h => h) ha hdb he hpl
theorem passN0 : Passes (L2N.CX X.prog X.w) X E0 := fun _ _ _ _ _ _ _ c => by
  obtain ⟨_, _, _, _, _, _, _, _, _, _, _, _, h⟩ := c
  exact (show False from h).elim
/-- .., called where it does not raise -/
theorem pe_dn0 (D : Dn X.prog X.w X.K X.mg X.base (L2N.CX X.prog X.w) x k ps sp) (hr : Room k X.A) (ha : PA X (e :: es) t) (hg : Gl X x := by rfl) (hdb : (x == ("__debug__" : Str)) = false := by decide)
    (he : starEach (e :: es) X.env = (false, eval e X.env) :: starEach es X.env := by rfl) (hpl : (backTo pos (starEach es X.env)).any (·.1) = false := by rfl) : PE X (.Call (.Name x q) (e :: es) [] pos) (tCall sp [] E0 t) := by
  obtain ⟨f, fd, F, hm, hk, hb⟩ := D.ex
  exact pe_call F hr hg hm hk hb .nil passN0 ha hdb he hpl
end
/-- the error that a demand raises -/
def NU (CN : Addr) (word : Str) (E : XK) (H : Hp) : Prop := ∀ (d : Addr) (H' : Hp), H' d = some (.xd [(("at" : Str), .int (-1)), (("word" : Str), .str word)]) → Same H H' → E (.ref CN) (some d) H'
theorem NU.to {CN : Addr} {word : Str} {E : XK} {H H' : Hp} (s : Same H H') (h : NU CN word E H) : NU CN word E H' := fun d H2 e s2 => h d H2 e (s.trans s2)
def spDemand (CN : Addr) : Sp := fun vs H Q E => ∃ (b : Bool) (word : Str), vs = [.bl b, .str word] ∧ (b = true → Q .non H) ∧ (b = false → NU CN word E H)
/-! what the kinds tell -/
def dNum : PyData → Bool | .int i => decide (0 ≤ i) | _ => false
def dRow (n : Int) : PyData → Bool | .tuple ds => decide ((ds.length : Int) = n) && ds.all dInt | _ => false
theorem all_ints : ∀ {ds : List PyData}, ds.all dInt = true → ∃ ns : List Int, ds = ns.map PyData.int
  | [], _ => ⟨[], rfl⟩
  | d :: ds, h => by
    rw [List.all_cons, Bool.and_eq_true] at h
    obtain ⟨ns, rfl⟩ := all_ints h.2
    cases d with
    | int i => exact ⟨i :: ns, rfl⟩
    | _ => exact absurd h.1 (by simp [dInt])
theorem row_ints {n : Int} {d : PyData} (h : dRow n d = true) : ∃ ns : List Int, d = .tuple (ns.map PyData.int) ∧ (ns.length : Int) = n := by
  cases d with
  | tuple ds =>
    have h' : (decide ((ds.length : Int) = n) && ds.all dInt) = true := h
    rw [Bool.and_eq_true] at h'
    obtain ⟨ns, rfl⟩ := all_ints h'.2
    exact ⟨ns, rfl, by have := of_decide_eq_true h'.1; rwa [List.length_map] at this⟩
  | _ => cases h
/-- lowest terms, the last one at least 1 -/
def lowB (ns : List Int) : Bool := decide (1 ≤ ns.getLastD 0) && decide (gcdL ns = 1)
def intsOf : List PyData → List Int := fun ds => ds.map fun d => match d with | .int i => i | _ => 0
theorem intsOf_map (ns : List Int) : intsOf (ns.map PyData.int) = ns := by
  unfold intsOf
  rw [List.map_map]
  exact (List.map_congr_left fun _ _ => rfl).trans (List.map_id ns)
def dLow (n : Int) (d : PyData) : Bool := dRow n d && (match d with | .tuple ds => lowB (intsOf ds) | _ => false)
end Dt
namespace Rd
open PySem PySem.Spec PyProof.Rows L2 L2H Err Dt
theorem ife {t : TT} {ta tb : TE} {σ : L2.St} {H : Hp} {Q : VK} (k : t σ H fun c H1 => if c = true then ta σ H1 Q else tb σ H1 Q) : tIf t ta tb σ H Q := k
end Rd
end SecD1
section SecZ3
set_option Elab.async false
set_option linter.all false
set_option maxRecDepth 100000
/-! zip of three tuples, from the library's turn over three draws -/
namespace Z3
open PySem PySem.Spec PyProof.Rows L2
def It3 (K : PySem.W.Frag) (a b c : Addr) : It where
  go := fun i H => ∃ (xs ys zs : List V), (SqT K H a xs ∧ SqT K H b ys ∧ SqT K H c zs) ∧ i < xs.length ∧ i < ys.length ∧ i < zs.length
  yld := fun i H v H' => ∃ T x y z, v = .ref T ∧ H T = none ∧ H' = upd H T (.tup [x, y, z]) ∧ (∀ xs, SqT K H a xs → xs[i]? = some x) ∧ (∀ ys, SqT K H b ys → ys[i]? = some y) ∧ ∀ zs, SqT K H c zs → zs[i]? = some z
  stop := fun i H => ∃ (xs ys zs : List V), (SqT K H a xs ∧ SqT K H b ys ∧ SqT K H c zs) ∧ i = xs.length ∧ ys.length = xs.length ∧ zs.length = xs.length
/-- where the six cells of the zip lie -/
structure Lay (n a b c : Nat) : Prop where
  ha : a < n
  hb : b < n
  hc : c < n
theorem ne_nat {x y : Nat} (h : x ≠ y) : @Ne Addr x y := h
theorem nm2 {x y z : Nat} (h : x ≠ y) (k : x ≠ z) : ¬ @Membership.mem Addr (List Addr) _ [y, z] x := fun m => by
  rcases List.mem_cons.mp m with e | m
  · exact h e
  · rcases List.mem_cons.mp m with e | m
    · exact k e
    · cases m
theorem Lay.sep {n a b c : Nat} (D : Lay n a b c) : ZipSep3 (n + 5) (n + 3) (n + 4) n (n + 1) (n + 2) [n, a] [n + 1, b] [n + 2, c] := by
  have h1 := D.ha
  have h2 := D.hb
  have h3 := D.hc
  constructor <;> first | exact List.mem_cons_self | exact nm2 (by omega) (by omega) | exact ne_nat (by omega)
def Tn (n a b c : Addr) (i : Nat) (h : Heap) : Prop :=
  IsZip h (n + 5) (n + 3) (n + 4) .none ∧ IsTupOf3 h (n + 3) (.ref n) (.ref (n + 1)) (.ref (n + 2)) ∧ (∃ x y z, IsTupOf3 h (n + 4) x y z) ∧ h.IsTupleIter n a i ∧ h.IsTupleIter (n + 1) b i ∧ h.IsTupleIter (n + 2) c i
abbrev fpZ (n : Addr) : List Addr := [n + 5, n + 3, n + 4, n, n + 1, n + 2]
theorem fp_cases {n x : Addr} (h : x ∈ fpZ n) : x = n + 5 ∨ x = n + 3 ∨ x = n + 4 ∨ x = n ∨ x = n + 1 ∨ x = n + 2 := by simpa using h
theorem wsub {n o : Addr} (h : o ∈ [n + 5, n + 4, n, n + 1, n + 2]) : o ∈ fpZ n := by
  rcases List.mem_cons.mp h with rfl | h
  · exact .head _
  · exact .tail _ (.tail _ h)
theorem fp_lt {n m o : Nat} (k : n + 5 < m) (h : @Membership.mem Addr (List Addr) _ (fpZ n) o) : o < m := by
  rcases fp_cases h with e | e | e | e | e | e <;> (have e : o = _ := e; omega)
theorem turn3 {P : Program} {w : World} {K : PySem.W.Frag} {elts : List Expr} {kk : Nat} {tpos : Pos} {n a b c : Addr} (D : Lay n a b c) : Turn P w K (.Tuple elts kk tpos) (It3 K a b c) (fpZ n) (n + 5) (Tn n a b c) where
  mem := by simp
  obj := fun i h st x hx => by
    obtain ⟨t1, t2, ⟨_, _, _, t3⟩, ⟨o1, e1, _, d1⟩, ⟨o2, e2, _, d2⟩, ⟨o3, e3, _, d3⟩⟩ := st
    rcases fp_cases hx with rfl | rfl | rfl | rfl | rfl | rfl
    · exact ⟨_, t1, fun v z => by cases z⟩
    · exact ⟨_, t2, fun v z => by cases z⟩
    · exact ⟨_, t3, fun v z => by cases z⟩
    · exact ⟨o1, e1, fun v z => by rw [z] at d1; cases d1⟩
    · exact ⟨o2, e2, fun v z => by rw [z] at d2; cases d2⟩
    · exact ⟨o3, e3, fun v z => by rw [z] at d3; cases d3⟩
  keep := fun i h h' st k => by
    obtain ⟨t1, t2, ⟨x, y, z, t3⟩, j1, j2, j3⟩ := st
    exact ⟨k _ (by simp) _ t1, k _ (by simp) _ t2, ⟨x, y, z, k _ (by simp) _ t3⟩, j1.at fun o e => k _ (by simp) o e, j2.at fun o e => k _ (by simp) o e, j3.at fun o e => k _ (by simp) o e⟩
  item := by
    intro X hP hw hK hc i pins s σ H E I hf st hg
    subst hP hw hK
    obtain ⟨t1, t2, t3, j1, j2, j3⟩ := st
    obtain ⟨xs, ys, zs, ⟨q1, q2, q3⟩, l1, l2, l3⟩ := hg
    obtain ⟨m1, r1, p1, _⟩ := I.tuple q1
    obtain ⟨m2, r2, p2, _⟩ := I.tuple q2
    obtain ⟨m3, r3, p3, _⟩ := I.tuple q3
    have hd : X.A.in1.handled = none := I.ok.hd hc
    have G := GoesN.zip3 (prog := X.prog) (w := X.w) (A := X.A) (elts := elts) (x1 := kk) (pos := tpos) D.sep (Draws.tuple hd n a (ne_nat (Nat.ne_of_lt D.ha)) m1.toArray) (Draws.tuple hd (n + 1) b (ne_nat (Nat.ne_of_lt (Nat.lt_succ_of_lt D.hb))) m2.toArray) (Draws.tuple hd (n + 2) c (ne_nat (Nat.ne_of_lt (Nat.lt_succ_of_lt (Nat.lt_succ_of_lt D.hc)))) m3.toArray)
    have e1 := r1.length
    have e2 := r2.length
    have e3 := r3.length
    have top : n + 5 < s.heap.objs.size := Heap.lt_size t1
    refine G.goes i s _ E (by simp only [List.size_toArray]; omega) ⟨t1, t2, t3, ⟨j1, p1⟩, ⟨j2, p2⟩, ⟨j3, p3⟩⟩ fun v h' tk hy st' hk htk => ?_
    obtain ⟨T, x, y, z, rfl, hT, x1, x2, x3, tt⟩ := hy
    obtain ⟨s1, s2, s3, ⟨k1, _⟩, ⟨k2, _⟩, ⟨k3, _⟩⟩ := st'
    have g1 : m1[i]? = some x := by simpa using x1
    have g2 : m2[i]? = some y := by simpa using x2
    have g3 : m3[i]? = some z := by simpa using x3
    have f1 : xs[i]? = some xs[i] := List.getElem?_eq_getElem l1
    have f2 : ys[i]? = some ys[i] := List.getElem?_eq_getElem l2
    have f3 : zs[i]? = some zs[i] := List.getElem?_eq_getElem l3
    obtain ⟨u1, v1, w1⟩ := r1.get f1
    obtain ⟨u2, v2, w2⟩ := r2.get f2
    obtain ⟨u3, v3, w3⟩ := r3.get f3
    rw [g1] at v1
    rw [g2] at v2
    rw [g3] at v3
    cases v1
    cases v2
    cases v3
    have I1 := I.turnedNew (t' := tk) (T := T) (ob := .tup [xs[i], ys[i], zs[i]]) (ch := fpZ n) (fun o u ho hu => hk o u (fun z => ho (wsub z)) hu) hf hT ⟨by show 3 ≤ sizeLine; decide, _, .cons w1 (.cons w2 (.cons w3 .nil)), tt⟩
    refine ⟨.ref T, _, I1, rfl, ⟨T, _, _, _, rfl, I.hok.fresh hT, rfl, fun l hl => by rw [I.tuple_inj hl q1]; exact f1, fun l hl => by rw [I.tuple_inj hl q2]; exact f2, fun l hl => by rw [I.tuple_inj hl q3]; exact f3⟩, ⟨s1, s2, s3, k1, k2, k3⟩, fun o ho => ?_⟩
    rw [upd_ne (ne_nat (Nat.ne_of_lt (Nat.lt_of_lt_of_le (fp_lt top ho) hT)))]
    exact (hf o ho).1
  done := by
    intro X hP hw hK hc i pins s σ H E I hf st hg
    subst hP hw hK
    obtain ⟨t1, t2, t3, j1, j2, j3⟩ := st
    obtain ⟨xs, ys, zs, ⟨q1, q2, q3⟩, l1, l2, l3⟩ := hg
    obtain ⟨m1, r1, p1, _⟩ := I.tuple q1
    obtain ⟨m2, r2, p2, _⟩ := I.tuple q2
    obtain ⟨m3, r3, p3, _⟩ := I.tuple q3
    have hd : X.A.in1.handled = none := I.ok.hd hc
    have G := GoesN.zip3 (prog := X.prog) (w := X.w) (A := X.A) (elts := elts) (x1 := kk) (pos := tpos) D.sep (Draws.tuple hd n a (ne_nat (Nat.ne_of_lt D.ha)) m1.toArray) (Draws.tuple hd (n + 1) b (ne_nat (Nat.ne_of_lt (Nat.lt_succ_of_lt D.hb))) m2.toArray) (Draws.tuple hd (n + 2) c (ne_nat (Nat.ne_of_lt (Nat.lt_succ_of_lt (Nat.lt_succ_of_lt D.hc)))) m3.toArray)
    have e1 := r1.length
    have e2 := r2.length
    have e3 := r3.length
    have ei : i = min (min m1.toArray.size m2.toArray.size) m3.toArray.size := by simp only [List.size_toArray]; omega
    rw [ei] at j1 j2 j3
    exact G.stops s _ E ⟨t1, t2, t3, ⟨j1, p1⟩, ⟨j2, p2⟩, ⟨j3, p3⟩⟩ fun h' tk hk htk => I.turnedL (t' := tk) (ch := fpZ n) (fun o u ho hu => hk o u (fun z => ho (wsub z)) hu) hf
  self := fun A i s Q E st h => wpAny_pyIter_zip st.1 h
def iZip3 (K : PySem.W.Frag) (ta : TA) : TI := fun σ H R => ta σ H fun vs H1 => ∃ a b c xs ys zs, vs = [.ref a, .ref b, .ref c] ∧ SqT K H1 a xs ∧ SqT K H1 b ys ∧ SqT K H1 c zs ∧ R (It3 K a b c) H1
theorem pi_zip3 {X : Cx} {e e2 e3 : Expr} {ta : TA} {p pos tpos : Pos} {elts : List Expr} {kk : Nat} (hg : Gl X "zip") (hm : X.mg "zip" = none) (ha : PA X [e, e2, e3] ta)
    (hs : starEach [e, e2, e3] X.env = (false, eval e X.env) :: starEach [e2, e3] X.env := by rfl) (hpl : (backTo pos (starEach [e2, e3] X.env)).any (·.1) = false := by rfl) :
    PI X (.Tuple elts kk tpos) (.Call (.Name "zip" p) [e, e2, e3] [] pos) (iZip3 X.K ta) := by
  refine ⟨fun pins s σ H R I h => Call_ (ld_blt I hg hm PyProof.Rows.boot_zip (PyProof.Rows.callWith_type1 (thn (ha.run pos pins s σ H _ I h) fun us s1 ⟨vs, H1, I1, r1, q1⟩ => ?_) hs hpl))⟩
  obtain ⟨a, b, c, xs, ys, zs, ex, q1, q2, q3, q⟩ := q1
  subst ex
  cases r1 with
  | cons r rr =>
    cases rr with
    | cons r' rr =>
      cases rr with
      | cons r'' rr =>
        cases rr
        cases r
        cases r'
        cases r''
        obtain ⟨m1, v1, p1, _⟩ := I1.tuple q1
        obtain ⟨m2, v2, p2, _⟩ := I1.tuple q2
        obtain ⟨m3, v3, p3, _⟩ := I1.tuple q3
        have lt : ∀ {t : Addr} {items : Array Value}, s1.heap.IsTuple t items → t < s1.heap.objs.size := fun ⟨o, e, _⟩ => Heap.lt_size e
        refine zip_begins3 (begins_tuple a m1.toArray) (begins_tuple b m2.toArray) (begins_tuple c m3.toArray) p1 p2 p3 fun h' z0 z1 z2 z3 z4 z5 sz hk => wpAny_pyIter_zip z0 ?_
        refine ⟨s1.heap.objs.size + 5, fpZ s1.heap.objs.size, Tn s1.heap.objs.size a b c, It3 X.K a b c, H1, rfl, I1.kept (t' := s1.toks) hk, turn3 ⟨lt p1, lt p2, lt p3⟩, ⟨z0, z1, ⟨_, _, _, z2⟩, ⟨_, z3, rfl, rfl⟩, ⟨_, z4, rfl, rfl⟩, ⟨_, z5, rfl, rfl⟩⟩, fun o ho => ?_, q⟩
        have hle : s1.heap.objs.size ≤ o := by rcases fp_cases ho with rfl | rfl | rfl | rfl | rfl | rfl <;> omega
        exact I1.fpOk hle (I1.hok.fresh hle)
end Z3
end SecZ3
section SecU0
set_option Elab.async false
set_option linter.all false
set_option maxRecDepth 100000
set_option maxHeartbeats 4000000
namespace Pu
open PySem PySem.Spec PyProof.Rows L2
/-! A def's meaning over plain data. A value stands for data in a part of the heap that never changes any more (G); lists that one slot alone holds may still grow. -/
abbrev lim : Nat := 100000
theorem lim_line {n : Nat} (h : n ≤ lim) : n ≤ sizeLine := by rw [sizeLine_eq]; exact Nat.le_trans h (by decide)
/-- an exception's fields as data -/
def excD : List (Str × V) → Option (List (PyData × PyData))
  | [] => some []
  | (n, v) :: fs => match v with
    | .non => (excD fs).map ((.str n, .none) :: ·)
    | .bl b => (excD fs).map ((.str n, .bool b) :: ·)
    | .int i => (excD fs).map ((.str n, .int i) :: ·)
    | .str z => (excD fs).map ((.str n, .str z) :: ·)
    | _ => none
mutual
/-- v stands for the data d in G; the empty dict stands for the tape -/
inductive Rq (T : Addr) (G : Hp) : V → PyData → Prop
  | non : Rq T G .non .none
  | bl (b : Bool) : Rq T G (.bl b) (.bool b)
  | int (i : Int) : Rq T G (.int i) (.int i)
  | str (z : Str) : Rq T G (.str z) (.str z)
  | lst {p : Addr} {vs : List V} {ds : List PyData} : G p = some (.lst vs) → RqAll T G vs ds → ds.length ≤ lim → Rq T G (.ref p) (.list ds)
  | tup {p : Addr} {vs : List V} {ds : List PyData} : G p = some (.tup vs) → RqAll T G vs ds → ds.length ≤ lim → Rq T G (.ref p) (.tuple ds)
  | tape : Rq T G (.ref T) (.dict [])
  | scr {p : Addr} {o : Obj} {vs : List V} {ds : List PyData} : G p = some (.frz o (.lst vs)) → RqAll T G vs ds → ds.length ≤ lim → Rq T G (.ref p) (.dict [(.none, .list ds)])
  | exc {a d : Addr} {fs : List (Str × V)} {kvs : List (PyData × PyData)} : G d = some (.xd fs) → excD fs = some kvs → Rq T G (.ref a) (.dict ((.int a, .int d) :: kvs))
inductive RqAll (T : Addr) (G : Hp) : List V → List PyData → Prop
  | nil : RqAll T G [] []
  | cons {v : V} {vs : List V} {d : PyData} {ds : List PyData} : Rq T G v d → RqAll T G vs ds → RqAll T G (v :: vs) (d :: ds)
end
def Le (G G' : Hp) : Prop := ∀ b o, G b = some o → G' b = some o
theorem Le.refl {G : Hp} : Le G G := fun _ _ h => h
theorem Le.trans {G G' G'' : Hp} (a : Le G G') (b : Le G' G'') : Le G G'' := fun x o h => b x o (a x o h)
mutual
theorem Rq.mono {T : Addr} {G G' : Hp} (s : Le G G') : ∀ (d : PyData) (v : V), Rq T G v d → Rq T G' v d
  | .none, _, h => by cases h; exact .non
  | .bool b, _, h => by cases h; exact .bl b
  | .int i, _, h => by cases h; exact .int i
  | .str z, _, h => by cases h; exact .str z
  | .list ds, _, h => by
    cases h with
    | lst e a l => exact .lst (s _ _ e) (RqAll.mono s ds _ a) l
  | .tuple ds, _, h => by
    cases h with
    | tup e a l => exact .tup (s _ _ e) (RqAll.mono s ds _ a) l
  | .dict kvs, _, h => by
    cases h with
    | tape => exact .tape
    | @scr p o vs ds e a l => exact .scr (s _ _ e) (RqAll.mono s ds _ a) l
    | exc e a => exact .exc (s _ _ e) a
theorem RqAll.mono {T : Addr} {G G' : Hp} (s : Le G G') : ∀ (ds : List PyData) (vs : List V), RqAll T G vs ds → RqAll T G' vs ds
  | [], _, h => by cases h; exact .nil
  | d :: ds, _, h => by
    cases h with
    | cons a b => exact .cons (Rq.mono s d _ a) (RqAll.mono s ds _ b)
end
theorem Rq.le {T : Addr} {G G' : Hp} {v : V} {d : PyData} (h : Rq T G v d) (s : Le G G') : Rq T G' v d := Rq.mono s d v h
theorem RqAll.le {T : Addr} {G G' : Hp} {vs : List V} {ds : List PyData} (h : RqAll T G vs ds) (s : Le G G') : RqAll T G' vs ds := RqAll.mono s ds vs h
theorem RqAll.len {T : Addr} {G : Hp} : ∀ {vs : List V} {ds : List PyData}, RqAll T G vs ds → vs.length = ds.length
  | _, [], h => by cases h; rfl
  | _, d :: ds, h => by
    cases h with
    | cons a b => exact congrArg (· + 1) (RqAll.len b)
theorem RqAll.app {T : Addr} {G : Hp} : ∀ {vs us : List V} {ds es : List PyData}, RqAll T G vs ds → RqAll T G us es → RqAll T G (vs ++ us) (ds ++ es)
  | _, us, [], es, h, k => by cases h; exact k
  | _, us, d :: ds, es, h, k => by
    cases h with
    | cons a b => exact .cons a (RqAll.app b k)
theorem RqAll.at {T : Addr} {G : Hp} : ∀ {vs : List V} {ds : List PyData} (i : Nat), RqAll T G vs ds → (∃ v d, vs[i]? = some v ∧ ds[i]? = some d ∧ Rq T G v d) ∨ (vs[i]? = none ∧ ds[i]? = none)
  | _, [], i, h => by cases h; exact .inr ⟨rfl, rfl⟩
  | _, d :: ds, 0, h => by
    cases h with
    | cons a b => exact .inl ⟨_, _, rfl, rfl, a⟩
  | _, d :: ds, i + 1, h => by
    cases h with
    | cons a b => exact RqAll.at i b
theorem RqAll.get {T : Addr} {G : Hp} {vs : List V} {ds : List PyData} {i : Nat} {d : PyData} (h : RqAll T G vs ds) (e : ds[i]? = some d) : ∃ v, vs[i]? = some v ∧ Rq T G v d := by
  rcases h.at i with ⟨v, d', e1, e2, r⟩ | ⟨_, e2⟩
  · rw [e] at e2
    cases e2
    exact ⟨v, e1, r⟩
  · rw [e] at e2
    cases e2
theorem RqAll.got {T : Addr} {G : Hp} {vs : List V} {ds : List PyData} {i : Nat} {v : V} (h : RqAll T G vs ds) (e : vs[i]? = some v) : ∃ d, ds[i]? = some d ∧ Rq T G v d := by
  rcases h.at i with ⟨v', d', e1, e2, r⟩ | ⟨e1, _⟩
  · rw [e] at e1
    cases e1
    exact ⟨d', e2, r⟩
  · rw [e] at e1
    cases e1
theorem RqAll.take {T : Addr} {G : Hp} : ∀ {vs : List V} {ds : List PyData} (n : Nat), RqAll T G vs ds → RqAll T G (vs.take n) (ds.take n)
  | _, ds, 0, h => .nil
  | _, [], n + 1, h => by cases h; exact .nil
  | _, d :: ds, n + 1, h => by
    cases h with
    | cons a b => exact .cons a (RqAll.take n b)
theorem RqAll.drop {T : Addr} {G : Hp} : ∀ {vs : List V} {ds : List PyData} (n : Nat), RqAll T G vs ds → RqAll T G (vs.drop n) (ds.drop n)
  | _, ds, 0, h => h
  | _, [], n + 1, h => by cases h; exact .nil
  | _, d :: ds, n + 1, h => by
    cases h with
    | cons a b => exact RqAll.drop n b
theorem RqAll.set {T : Addr} {G : Hp} {v : V} {d : PyData} (r : Rq T G v d) : ∀ {vs : List V} {ds : List PyData} (i : Nat), RqAll T G vs ds → RqAll T G (vs.set i v) (ds.set i d)
  | _, [], i, h => by cases h; exact .nil
  | _, _ :: ds, 0, h => by
    cases h with
    | cons a b => exact .cons r b
  | _, _ :: ds, i + 1, h => by
    cases h with
    | cons a b => exact .cons a (RqAll.set r i b)
theorem RqAll.rev {T : Addr} {G : Hp} : ∀ {vs : List V} {ds : List PyData}, RqAll T G vs ds → RqAll T G vs.reverse ds.reverse
  | _, [], h => by cases h; exact .nil
  | _, d :: ds, h => by
    cases h with
    | cons a b =>
      rw [List.reverse_cons, List.reverse_cons]
      exact (RqAll.rev b).app (.cons a .nil)
mutual
/-- no tape in it -/
def noTape : PyData → Bool
  | .list ds => noTapes ds
  | .tuple ds => noTapes ds
  | .dict _ => false
  | _ => true
def noTapes : List PyData → Bool
  | [] => true
  | d :: ds => noTape d && noTapes ds
end
mutual
theorem Rq.dp {T : Addr} {K : PySem.W.Frag} {G H : Hp} (s : Le G H) : ∀ (d : PyData) (v : V), noTape d = true → Rq T G v d → Dp K H v d
  | .none, _, _, h => by cases h; exact .non
  | .bool b, _, _, h => by cases h; exact .bl b
  | .int i, _, _, h => by cases h; exact .int i
  | .str z, _, _, h => by cases h; exact .str z
  | .list ds, _, n, h => by
    cases h with
    | lst e a l => exact .lst (SqL.of (s _ _ e)) (RqAll.dp s ds _ n a)
  | .tuple ds, _, n, h => by
    cases h with
    | tup e a l => exact .tup (SqT.of (s _ _ e)) (RqAll.dp s ds _ n a)
  | .dict _, _, n, h => by cases n
theorem RqAll.dp {T : Addr} {K : PySem.W.Frag} {G H : Hp} (s : Le G H) : ∀ (ds : List PyData) (vs : List V), noTapes ds = true → RqAll T G vs ds → DpAll K H vs ds
  | [], _, _, h => by cases h; exact .nil
  | d :: ds, _, n, h => by
    have n' : (noTape d && noTapes ds) = true := n
    rw [Bool.and_eq_true] at n'
    cases h with
    | cons a b => exact .cons (Rq.dp s d _ n'.1 a) (RqAll.dp s ds _ n'.2 b)
end
/-! the pure machine: slots, the tape's numbers, results -/
inductive Sl where
  | un | fr (d : PyData) | ow (l : List PyData)
inductive OV where
  | fr (d : PyData) | ow (l : List PyData)
def OV.d : OV → PyData | .fr d => d | .ow l => .list l
/-- the tape's kind, its numbers, the numbers of its list -/
structure Tps where
  k : Nat
  n : List Int
  s : List Int
structure Pst where
  v : List Sl
  t : Tps
inductive Rs (α : Type) where
  | ok (a : α) (s : Pst) | err (c : Str) (fs : List (Str × V)) (t : Tps) | no
abbrev M (α : Type) := Pst → Rs α
def pur {α : Type} (a : α) : M α := fun s => .ok a s
def no {α : Type} : M α := fun _ => .no
def bnd {α β : Type} (m : M α) (k : α → M β) : M β := fun s => match m s with
  | .ok a s' => k a s'
  | .err c fs t => .err c fs t
  | .no => .no
/-- a result of a def: the tape is threaded by those that have it -/
inductive R1 where
  | ok (x : OV) | err (c : Str) (fs : List (Str × V)) | no
def R1.m (r : R1) : M OV := fun s => match r with
  | .ok x => .ok x s
  | .err c fs => .err c fs s.t
  | .no => .no
/-- the frame: the tape at T and its list at l, its kind, the heap B and what never changes G0 at the entry -/
structure Fr where
  T : Addr
  l : Addr
  k : Nat
  B : Hp
  G0 : Hp
def Fr.zone (f : Fr) (z : Addr) : Prop := (f.k ≠ 0 ∧ z = f.T) ∨ ((f.k = 1 ∨ f.k = 3) ∧ z = f.l)
/-- 0: no tape; 1: numbers, then the list; 2: numbers; 3: the list, then numbers -/
def Fr.R (f : Fr) (t : Tps) (H : Hp) : Prop := t.k = f.k ∧ (f.k = 0 ∨
  (f.k = 1 ∧ H f.T = some (.lst (t.n.map V.int ++ [.ref f.l])) ∧ H f.l = some (.lst (t.s.map V.int)) ∧ f.l ≠ f.T) ∨
  (f.k = 2 ∧ H f.T = some (.lst (t.n.map V.int))) ∨
  (f.k = 3 ∧ H f.T = some (.lst (.ref f.l :: t.n.map V.int)) ∧ H f.l = some (.lst (t.s.map V.int)) ∧ f.l ≠ f.T))
structure Fr.Ok (f : Fr) : Prop where
  stab : ∀ t H H', (∀ z o, f.zone z → H z = some o → H' z = some o) → f.R t H → f.R t H'
  ex : ∀ t H z, f.zone z → f.R t H → H z ≠ none
theorem Fr.okAll (f : Fr) : f.Ok where
  stab := fun t H H' k ⟨h, r⟩ => by
    refine ⟨h, ?_⟩
    have zT : f.k ≠ 0 → ∀ o, H f.T = some o → H' f.T = some o := fun n o e => k _ o (.inl ⟨n, rfl⟩) e
    have zl : f.k = 1 ∨ f.k = 3 → ∀ o, H f.l = some o → H' f.l = some o := fun n o e => k _ o (.inr ⟨n, rfl⟩) e
    rcases r with r | ⟨h1, h2, h3, h4⟩ | ⟨h1, h2⟩ | ⟨h1, h2, h3, h4⟩
    · exact .inl r
    · exact .inr (.inl ⟨h1, zT (by omega) _ h2, zl (by omega) _ h3, h4⟩)
    · exact .inr (.inr (.inl ⟨h1, zT (by omega) _ h2⟩))
    · exact .inr (.inr (.inr ⟨h1, zT (by omega) _ h2, zl (by omega) _ h3, h4⟩))
  ex := fun t H z hz ⟨h, r⟩ => by
    rcases r with r | ⟨h1, h2, h3, h4⟩ | ⟨h1, h2⟩ | ⟨h1, h2, h3, h4⟩ <;> rcases hz with ⟨z1, rfl⟩ | ⟨z1, rfl⟩ <;> (first | (rw [h2]; simp; done) | (rw [h3]; simp; done) | omega)
def SlOk (f : Fr) (G H : Hp) (σ : L2.St) (i : Nat) : Sl → Prop
  | .un => True
  | .fr d => ∃ v, σ[i]? = some (some v) ∧ Rq f.T G v d
  | .ow l => ∃ p vs, σ[i]? = some (some (.ref p)) ∧ H p = some (.lst vs) ∧ RqAll f.T G vs l ∧ l.length ≤ lim ∧ G p = none ∧ f.B p = none ∧ ¬ f.zone p
def sl (s : Pst) (i : Nat) : Sl := s.v.getD i .un
def isX (G : Hp) (b : Addr) : Prop := ∃ fs, G b = some (.xd fs)
theorem isX_upd {G : Hp} {b p : Addr} {o : HO} (hb : b ≠ p) (h : isX G b) : isX (upd G p o) b := ⟨h.choose, by rw [upd_ne hb]; exact h.choose_spec⟩
structure Rel (f : Fr) (G H : Hp) (σ : L2.St) (s : Pst) : Prop where
  ok : f.Ok
  sub : Le G H
  keep : ∀ b o, ¬ f.zone b → f.B b = some o → H b = some o
  g0 : Le f.G0 G
  new : ∀ b, G b ≠ none → f.G0 b ≠ none ∨ f.B b = none ∨ isX G b
  zn : ∀ b, f.zone b → G b = none
  tape : f.R s.t H
  vars : ∀ i, SlOk f G H σ i (sl s i)
  dist : ∀ i j l l', i ≠ j → sl s i = .ow l → sl s j = .ow l' → σ[i]? ≠ σ[j]?
  len : σ.length = s.v.length
def OVOk (f : Fr) (G H : Hp) (σ : L2.St) (s : Pst) (v : V) : OV → Prop
  | .fr d => Rq f.T G v d
  | .ow l => ∃ p vs, v = .ref p ∧ H p = some (.lst vs) ∧ RqAll f.T G vs l ∧ l.length ≤ lim ∧ G p = none ∧ f.B p = none ∧ ¬ f.zone p ∧ ∀ i l', sl s i = .ow l' → σ[i]? ≠ some (some (.ref p))
section
variable {ca : Str → Addr} {f : Fr} {E : XK} {G G' H : Hp} {σ : L2.St} {s : Pst} {Q : VK}
/-- what is wanted of an outcome that raises -/
def OutX (ca : Str → Addr) (f : Fr) (E : XK) (c : Str) (fs : List (Str × V)) (t : Tps) : Prop :=
  ∀ d H', H' d = some (.xd fs) → (∀ b o, ¬ f.zone b → f.B b = some o → H' b = some o) → f.R t H' → E (.ref (ca c)) (some d) H'
def Out (ca : Str → Addr) (f : Fr) (E : XK) (G : Hp) (σ : L2.St) (r : Rs OV) (Q : VK) : Prop := match r with
  | .ok x s => ∀ v H' G', Le G G' → Rel f G' H' σ s → OVOk f G' H' σ s v x → Q v H'
  | .err c fs t => OutX ca f E c fs t
  | .no => False
def OutA (ca : Str → Addr) (f : Fr) (E : XK) (G : Hp) (σ : L2.St) (r : Rs (List PyData)) (Q : List V → Hp → Prop) : Prop := match r with
  | .ok x s => ∀ v H' G', Le G G' → Rel f G' H' σ s → RqAll f.T G' v x → Q v H'
  | .err c fs t => OutX ca f E c fs t
  | .no => False
def OutT (ca : Str → Addr) (f : Fr) (E : XK) (G : Hp) (σ : L2.St) (r : Rs Bool) (Q : Bool → Hp → Prop) : Prop := match r with
  | .ok x s => ∀ H' G', Le G G' → Rel f G' H' σ s → Q x H'
  | .err c fs t => OutX ca f E c fs t
  | .no => False
theorem Out.le {r : Rs OV} (h : Out ca f E G σ r Q) (l : Le G G') : Out ca f E G' σ r Q := by
  cases r with
  | ok x s => exact fun v H' G'' l' rel ov => h v H' G'' (l.trans l') rel ov
  | err c fs t => exact h
  | no => exact h
theorem OutA.le {r : Rs (List PyData)} {Q : List V → Hp → Prop} (h : OutA ca f E G σ r Q) (l : Le G G') : OutA ca f E G' σ r Q := by
  cases r with
  | ok x s => exact fun v H' G'' l' rel ov => h v H' G'' (l.trans l') rel ov
  | err c fs t => exact h
  | no => exact h
theorem OutT.le {r : Rs Bool} {Q : Bool → Hp → Prop} (h : OutT ca f E G σ r Q) (l : Le G G') : OutT ca f E G' σ r Q := by
  cases r with
  | ok x s => exact fun H' G'' l' rel => h H' G'' (l.trans l') rel
  | err c fs t => exact h
  | no => exact h
def liftE (ca : Str → Addr) (E : XK) (F : M OV) : TE := fun σ H Q => ∃ f G s, Rel f G H σ s ∧ Out ca f E G σ (F s) Q
def liftA (ca : Str → Addr) (E : XK) (F : M (List PyData)) : TA := fun σ H Q => ∃ f G s, Rel f G H σ s ∧ OutA ca f E G σ (F s) Q
def liftT (ca : Str → Addr) (E : XK) (F : M Bool) : TT := fun σ H Q => ∃ f G s, Rel f G H σ s ∧ OutT ca f E G σ (F s) Q
/-! new objects, what one slot alone held -/
theorem Rel.alloc {p : Addr} {o : HO} (r : Rel f G H σ s) (n : H p = none) : Rel f (upd G p o) (upd H p o) σ s := by
  have gp : G p = none := by
    cases e : G p with
    | none => rfl
    | some o => rw [r.sub _ _ e] at n; cases n
  have nz : ¬ f.zone p := fun z => r.ok.ex _ _ _ z r.tape n
  have bp : f.B p = none := by
    cases e : f.B p with
    | none => rfl
    | some o => rw [r.keep _ _ nz e] at n; cases n
  have lg : Le G (upd G p o) := fun b o' e => by
    rw [upd_ne (fun z => by rw [z, gp] at e; cases e)]; exact e
  have lh : Le H (upd H p o) := fun b o' e => by
    rw [upd_ne (fun z => by rw [z, n] at e; cases e)]; exact e
  refine ⟨r.ok, fun b o' e => ?_, fun b o' z e => lh _ _ (r.keep _ _ z e), r.g0.trans lg, fun b h => ?_, fun b z => ?_, r.ok.stab _ _ _ (fun z o' _ e => lh _ _ e) r.tape, fun i => ?_, r.dist, r.len⟩
  · by_cases hb : b = p
    · subst hb
      rw [upd_same] at e ⊢
      exact e
    · rw [upd_ne hb] at e ⊢
      exact r.sub _ _ e
  · by_cases hb : b = p
    · subst hb
      exact .inr (.inl bp)
    · rw [upd_ne hb] at h
      exact (r.new _ h).imp id (Or.imp id (isX_upd hb))
  · have hb : b ≠ p := fun e => nz (e ▸ z)
    rw [upd_ne hb]
    exact r.zn _ z
  · have v := r.vars i
    cases e : sl s i with
    | un => trivial
    | fr d =>
      rw [e] at v
      obtain ⟨v, h1, h2⟩ := v
      exact ⟨v, h1, h2.le lg⟩
    | ow l =>
      rw [e] at v
      obtain ⟨q, vs, h1, h2, h3, h4, h5, h6, h7⟩ := v
      have hq : q ≠ p := fun z => by rw [z, n] at h2; cases h2
      exact ⟨q, vs, h1, lh _ _ h2, h3.le lg, h4, by rw [upd_ne hq]; exact h5, h6, h7⟩
theorem le_upd {G : Hp} {p : Addr} {o : HO} (n : G p = none) : Le G (upd G p o) := fun b o' e => by
  rw [upd_ne (fun z => by rw [z, n] at e; cases e)]; exact e
theorem Rel.gn {p : Addr} (r : Rel f G H σ s) (n : H p = none) : G p = none := by
  cases e : G p with
  | none => rfl
  | some o => rw [r.sub _ _ e] at n; cases n
/-- a new list that nothing holds yet -/
theorem Rel.fresh {p : Addr} {xs : List V} {l : List PyData} (r : Rel f G H σ s) (n : H p = none) (ra : RqAll f.T G xs l) (hl : l.length ≤ lim) : Rel f G (upd H p (.lst xs)) σ s ∧ OVOk f G (upd H p (.lst xs)) σ s (.ref p) (.ow l) := by
  have gp := r.gn n
  have nz : ¬ f.zone p := fun z => r.ok.ex _ _ _ z r.tape n
  have bp : f.B p = none := by
    cases e : f.B p with
    | none => rfl
    | some o => rw [r.keep _ _ nz e] at n; cases n
  have lh : Le H (upd H p (.lst xs)) := le_upd n
  refine ⟨⟨r.ok, r.sub.trans lh, fun b o' z e => lh _ _ (r.keep _ _ z e), r.g0, r.new, r.zn, r.ok.stab _ _ _ (fun z o' _ e => lh _ _ e) r.tape, fun i => ?_, r.dist, r.len⟩, p, xs, rfl, upd_same, ra, hl, gp, bp, nz, fun i l' e h => ?_⟩
  · have v := r.vars i
    cases e : sl s i with
    | un => trivial
    | fr d => rw [e] at v; exact v
    | ow l =>
      rw [e] at v
      obtain ⟨q, vs, h1, h2, h3⟩ := v
      exact ⟨q, vs, h1, lh _ _ h2, h3⟩
  · have v := r.vars i
    rw [e] at v
    obtain ⟨q, vs, h1, h2, h3⟩ := v
    rw [h] at h1
    cases h1
    rw [n] at h2
    cases h2
/-- what nothing holds may be kept as it is -/
theorem Rel.freeze {p : Addr} {vs : List V} {l : List PyData} (r : Rel f G H σ s) (h1 : H p = some (.lst vs)) (h2 : RqAll f.T G vs l) (h3 : l.length ≤ lim) (h4 : G p = none) (h5 : f.B p = none) (h6 : ¬ f.zone p)
    (h7 : ∀ i l', sl s i = .ow l' → σ[i]? ≠ some (some (.ref p))) : Le G (upd G p (.lst vs)) ∧ Rel f (upd G p (.lst vs)) H σ s ∧ Rq f.T (upd G p (.lst vs)) (.ref p) (.list l) := by
  have lg : Le G (upd G p (.lst vs)) := le_upd h4
  refine ⟨lg, ⟨r.ok, fun b o' e => ?_, r.keep, r.g0.trans lg, fun b h => ?_, fun b z => ?_, r.tape, fun i => ?_, r.dist, r.len⟩, .lst upd_same (h2.le lg) h3⟩
  · by_cases hb : b = p
    · subst hb
      rw [upd_same] at e
      rw [h1]; exact e
    · rw [upd_ne hb] at e
      exact r.sub _ _ e
  · by_cases hb : b = p
    · subst hb
      exact .inr (.inl h5)
    · rw [upd_ne hb] at h
      exact (r.new _ h).imp id (Or.imp id (isX_upd hb))
  · have hb : b ≠ p := fun e => h6 (e ▸ z)
    rw [upd_ne hb]
    exact r.zn _ z
  · have v := r.vars i
    cases e : sl s i with
    | un => trivial
    | fr d =>
      rw [e] at v
      obtain ⟨v, g1, g2⟩ := v
      exact ⟨v, g1, g2.le lg⟩
    | ow l =>
      rw [e] at v
      obtain ⟨q, vs', g1, g2, g3, g4, g5, g6, g7⟩ := v
      have hq : q ≠ p := fun z => h7 i l e (by rw [g1, z])
      exact ⟨q, vs', g1, g2, g3.le lg, g4, by rw [upd_ne hq]; exact g5, g6, g7⟩
theorem Rel.frz {v : V} {x : OV} (r : Rel f G H σ s) (o : OVOk f G H σ s v x) : ∃ G', Le G G' ∧ Rel f G' H σ s ∧ Rq f.T G' v x.d := by
  cases x with
  | fr d => exact ⟨G, .refl, r, o⟩
  | ow l =>
    obtain ⟨p, vs, rfl, h1, h2, h3, h4, h5, h6, h7⟩ := o
    exact ⟨_, r.freeze h1 h2 h3 h4 h5 h6 h7⟩
end
end Pu
end SecU0
section SecU1
set_option Elab.async false
set_option linter.all false
set_option maxRecDepth 100000
set_option maxHeartbeats 4000000
namespace Pu
open PySem PySem.Spec PyProof.Rows L2 Err
section
variable {ca : Str → Addr} {f : Fr} {E : XK} {G G' H : Hp} {σ : L2.St} {s : Pst} {Q : VK}
theorem Rel.at' (r : Rel f G H σ s) {v : V} {x : OV} (o : OVOk f G H σ s v x) : ∃ G', Le G G' ∧ Rel f G' H σ s ∧ Rq f.T G' v x.d := r.frz o
/-! ### sequences -/
theorem bnd_ok {α β : Type} {m : M α} {k : α → M β} {s s' : Pst} {a : α} (h : m s = .ok a s') : bnd m k s = k a s' := by unfold bnd; rw [h]
theorem bnd_err {α β : Type} {m : M α} {k : α → M β} {s : Pst} {c : Str} {fs : List (Str × V)} {t : Tps} (h : m s = .err c fs t) : bnd m k s = .err c fs t := by unfold bnd; rw [h]
theorem bnd_no {α β : Type} {m : M α} {k : α → M β} {s : Pst} (h : m s = .no) : bnd m k s = .no := by unfold bnd; rw [h]
/-- any continuation -/
theorem liftG {Fa : M OV} {k : OV → M OV} {R : V → Hp → Prop} (rel : Rel f G H σ s) (out : Out ca f E G σ (bnd Fa k s) Q)
    (h : ∀ x s1 v H' G', Le G G' → Rel f G' H' σ s1 → OVOk f G' H' σ s1 v x → Out ca f E G' σ (k x s1) Q → R v H') : liftE ca E Fa σ H R := by
  refine ⟨f, G, s, rel, ?_⟩
  cases e : Fa s with
  | ok x s1 =>
    rw [bnd_ok e] at out
    exact fun v H' G' le rel' ov => h x s1 v H' G' le rel' ov (out.le le)
  | err c fs t => rw [bnd_err e] at out; exact out
  | no => rw [bnd_no e] at out; exact out
theorem lift1 {Fa : M OV} {k : PyData → M OV} (h : liftE ca E (bnd Fa fun x => k x.d) σ H Q) :
    liftE ca E Fa σ H fun v H1 => ∃ f G1 s1 d, Rel f G1 H1 σ s1 ∧ Rq f.T G1 v d ∧ Out ca f E G1 σ (k d s1) Q := by
  obtain ⟨f, G, s, rel, out⟩ := h
  refine liftG rel out fun x s1 v H' G' le rel' ov out' => ?_
  obtain ⟨G2, l2, rel2, rq⟩ := rel'.frz ov
  exact ⟨f, G2, s1, x.d, rel2, rq, out'.le l2⟩
end
section
variable {ca : Str → Addr} {E : XK} {X : Cx} {a b c e : Expr} {pos : Pos} {Fa Fb Fc : M OV}
/-- an expression's meaning -/
abbrev PU (ca : Str → Addr) (E : XK) (X : Cx) (e : Expr) (F : M OV) : Prop := PE X e (liftE ca E F)
abbrev PUs (ca : Str → Addr) (E : XK) (X : Cx) (es : List Expr) (F : M (List PyData)) : Prop := PA X es (liftA ca E F)
abbrev PTU (ca : Str → Addr) (E : XK) (X : Cx) (e : Expr) (F : M Bool) : Prop := PT X e (liftT ca E F)
theorem pe_imp {te te' : TE} (h : PE X e te) (i : ∀ σ H Q, te' σ H Q → te σ H Q) : PE X e te' := ⟨fun pins s σ H Q I q => h.run pins s σ H Q I (i σ H Q q)⟩
theorem pa_imp {es : List Expr} {ta ta' : TA} (h : PA X es ta) (i : ∀ σ H Q, ta' σ H Q → ta σ H Q) : PA X es ta' := ⟨fun pos pins s σ H Q I q => h.run pos pins s σ H Q I (i σ H Q q)⟩
theorem pt_imp {tt tt' : TT} (h : PT X e tt) (i : ∀ σ H Q, tt' σ H Q → tt σ H Q) : PT X e tt' := ⟨fun pins s σ H Q I q => h.run pins s σ H Q I (i σ H Q q)⟩
/-! ### constants, names -/
def cst (d : PyData) : M OV := pur (.fr d)
theorem pu_c {v : V} {d : PyData} (h : PE X e (tC v)) (r : ∀ T G, Rq T G v d) : PU ca E X e (cst d) := pe_imp h fun σ H Q ⟨f, G, s, rel, out⟩ => out v H G .refl rel (r _ _)
def var (i : Nat) : M OV := fun s => match sl s i with
  | .fr d => .ok (.fr d) s
  | .ow l => .ok (.fr (.list l)) { s with v := s.v.set i (.fr (.list l)) }
  | .un => .no
theorem sl_set {s : Pst} {i j : Nat} {x : Sl} (h : sl s i ≠ .un) : sl { s with v := s.v.set i x } j = if j = i then x else sl s j := by
  unfold sl at h ⊢
  have hi : i < s.v.length := by
    by_cases z : i < s.v.length
    · exact z
    · exfalso
      apply h
      rw [List.getD_eq_getElem?_getD, List.getElem?_eq_none (by omega)]
      rfl
  rw [List.getD_eq_getElem?_getD, List.getD_eq_getElem?_getD]
  by_cases e : j = i
  · subst e
    rw [List.getElem?_set_self hi, if_pos rfl]; rfl
  · rw [List.getElem?_set_ne (fun z => e z.symm), if_neg e]
/-- a slot's list is kept for good -/
theorem Rel.publish {f : Fr} {G H : Hp} {σ : L2.St} {s : Pst} {i : Nat} {l : List PyData} (r : Rel f G H σ s) (h : sl s i = .ow l) : ∃ p G', σ[i]? = some (some (.ref p)) ∧ Le G G' ∧ Rel f G' H σ { s with v := s.v.set i (.fr (.list l)) } ∧ Rq f.T G' (.ref p) (.list l) := by
  have v := r.vars i
  rw [h] at v
  obtain ⟨p, vs, h1, h2, h3, h4, h5, h6, h7⟩ := v
  have ne : sl s i ≠ .un := by rw [h]; intro z; cases z
  have S := fun j => sl_set (j := j) (x := .fr (.list l)) ne
  have lg : Le G (upd G p (.lst vs)) := le_upd h5
  have rq : Rq f.T (upd G p (.lst vs)) (.ref p) (.list l) := .lst upd_same (h3.le lg) h4
  refine ⟨p, _, h1, lg, ⟨r.ok, fun b o' e => ?_, r.keep, r.g0.trans lg, fun b h => ?_, fun b z => ?_, r.tape, fun j => ?_, fun j k l1 l2 hjk e1 e2 => ?_, by rw [List.length_set]; exact r.len⟩, rq⟩
  · by_cases hb : b = p
    · subst hb
      rw [upd_same] at e
      rw [h2]; exact e
    · rw [upd_ne hb] at e
      exact r.sub _ _ e
  · by_cases hb : b = p
    · subst hb
      exact .inr (.inl h6)
    · rw [upd_ne hb] at h
      exact (r.new _ h).imp id (Or.imp id (isX_upd hb))
  · have hb : b ≠ p := fun e => h7 (e ▸ z)
    rw [upd_ne hb]
    exact r.zn _ z
  · rw [S j]
    by_cases e : j = i
    · rw [if_pos e]
      exact ⟨.ref p, by rw [e]; exact h1, rq⟩
    · rw [if_neg e]
      have v := r.vars j
      cases e' : sl s j with
      | un => trivial
      | fr d =>
        rw [e'] at v
        obtain ⟨v, g1, g2⟩ := v
        exact ⟨v, g1, g2.le lg⟩
      | ow l' =>
        rw [e'] at v
        obtain ⟨q, vs', g1, g2, g3, g4, g5, g6, g7⟩ := v
        have hq : q ≠ p := fun z => r.dist j i l' l e e' h (by rw [g1, h1, z])
        exact ⟨q, vs', g1, g2, g3.le lg, g4, by rw [upd_ne hq]; exact g5, g6, g7⟩
  · rw [S j] at e1
    rw [S k] at e2
    by_cases ej : j = i
    · rw [if_pos ej] at e1; cases e1
    · by_cases ek : k = i
      · rw [if_pos ek] at e2; cases e2
      · rw [if_neg ej] at e1
        rw [if_neg ek] at e2
        exact r.dist j k l1 l2 hjk e1 e2
theorem pu_var {i : Nat} (h : PE X e (tVar i)) : PU ca E X e (var i) := pe_imp h fun σ H Q ⟨f, G, s, rel, out⟩ => by
  unfold var at out
  cases e1 : sl s i with
  | un => rw [e1] at out; exact out.elim
  | fr d =>
    rw [e1] at out
    have v := rel.vars i
    rw [e1] at v
    obtain ⟨v, h1, h2⟩ := v
    exact ⟨v, h1, out v H G .refl rel h2⟩
  | ow l =>
    rw [e1] at out
    obtain ⟨p, G', h1, h2, h3, h4⟩ := rel.publish e1
    exact ⟨.ref p, h1, out _ H G' h2 h3 h4⟩
/-! ### operators -/
/-- r is kept by f -/
def Sim2 (r : R2) (g : PyData → PyData → R1) : Prop := ∀ (ca : Str → Addr) (f : Fr) (E : XK) (G H : Hp) (σ : L2.St) (s : Pst) (Q : VK) (v w : V) (x y : PyData),
  Rel f G H σ s → Rq f.T G v x → Rq f.T G w y → Out ca f E G σ ((g x y).m s) Q → r v w H Q
def bin (g : PyData → PyData → R1) (Fa Fb : M OV) : M OV := bnd Fa fun x => bnd Fb fun y => (g x.d y.d).m
theorem sim_op {r : R2} {g : PyData → PyData → R1} (hs : Sim2 r g) {σ : L2.St} {H : Hp} {Q : VK} (h : liftE ca E (bin g Fa Fb) σ H Q) : tOp r (liftE ca E Fa) (liftE ca E Fb) σ H Q := by
  obtain ⟨f, G, s, rel, out⟩ := h
  refine liftG rel out fun x s1 v H1 G1 l1 rel1 ov1 out1 => ?_
  obtain ⟨G2, l2, rel2, rq⟩ := rel1.frz ov1
  refine liftG rel2 (out1.le l2) fun y s2 w H3 G3 l3 rel3 ov3 out3 => ?_
  obtain ⟨G4, l4, rel4, rq4⟩ := rel3.frz ov3
  exact hs ca f E G4 H3 σ s2 Q v w x.d y.d rel4 (rq.le (l3.trans l4)) rq4 (out3.le l4)
theorem pu_op {op : Operator} {r : R2} {g : PyData → PyData → R1} (ho : OpR X (binaryOp op) r) (hs : Sim2 r g) (ha : PU ca E X a Fa) (hb : PU ca E X b Fb) : PU ca E X (.BinOp a op b pos) (bin g Fa Fb) :=
  pe_imp (pe_op ho ha hb) fun _ _ _ h => sim_op hs h
theorem pu_cmp {op : CmpOp} {r : R2} {g : PyData → PyData → R1} (ho : OpR X (compareOp op) r) (hs : Sim2 r g) (ha : PU ca E X a Fa) (hb : PU ca E X b Fb) (hm : behindInMarks op b = false) : PU ca E X (.Compare a [op] [b] pos) (bin g Fa Fb) :=
  pe_imp (pe_cmpR ho ha hb hm) fun _ _ _ h => sim_op hs h
/-- an index -/
theorem pu_ix {r : R2} {g : PyData → PyData → R1} (ho : IxR X r) (hs : Sim2 r g) (ha : PU ca E X a Fa) (hb : PU ca E X b Fb) (hp : PlainIx b) : PU ca E X (.Subscript a b pos) (bin g Fa Fb) :=
  pe_imp (pe_ix ho ha hb hp) fun _ _ _ h => sim_op hs h
theorem opr_or {h : Value → Value → Sem Value} {r r' : R2} (a : OpR X h r) (b : OpR X h r') : OpR X h (fun x y H Q => r x y H Q ∨ r' x y H Q) := fun pins s σ H x y v u Q I rx ry z =>
  z.elim (a pins s σ H x y v u Q I rx ry) (b pins s σ H x y v u Q I rx ry)
def okI (i : Int) : R1 := .ok (.fr (.int i))
def okB (b : Bool) : R1 := .ok (.fr (.bool b))
section
variable {f : Fr} {G H : Hp} {σ : L2.St} {s : Pst} {Q : VK}
theorem out_i {i : Int} (r : Rel f G H σ s) (o : Out ca f E G σ ((okI i).m s) Q) : Q (.int i) H := o _ H G .refl r (.int i)
theorem out_b {i : Bool} (r : Rel f G H σ s) (o : Out ca f E G σ ((okB i).m s) Q) : Q (.bl i) H := o _ H G .refl r (.bl i)
theorem out_s {i : Str} (r : Rel f G H σ s) (o : Out ca f E G σ ((R1.ok (.fr (.str i))).m s) Q) : Q (.str i) H := o _ H G .refl r (.str i)
theorem out_same {v : V} {d : PyData} (r : Rel f G H σ s) (q : Rq f.T G v d) (o : Out ca f E G σ ((R1.ok (.fr d)).m s) Q) : Q v H := o _ H G .refl r q
/-- a new tuple -/
theorem out_tup {xs : List V} {l : List PyData} (r : Rel f G H σ s) (q : RqAll f.T G xs l) (hl : l.length ≤ lim) (o : Out ca f E G σ ((R1.ok (.fr (.tuple l))).m s) Q) : ∀ p, H p = none → Q (.ref p) (upd H p (.tup xs)) := fun p n =>
  o _ _ (upd G p (.tup xs)) (le_upd (r.gn n)) (r.alloc n) (.tup upd_same (q.le (le_upd (r.gn n))) hl)
/-- a new list -/
theorem out_lst {xs : List V} {l : List PyData} (r : Rel f G H σ s) (q : RqAll f.T G xs l) (hl : l.length ≤ lim) (o : Out ca f E G σ ((R1.ok (.ow l)).m s) Q) : ∀ p, H p = none → Q (.ref p) (upd H p (.lst xs)) := fun p n =>
  o _ _ G .refl (r.fresh n q hl).1 (r.fresh n q hl).2
end
def fit (n : Nat) (r : R1) : R1 := if n ≤ lim then r else .no
/-- + -/
def dAdd : PyData → PyData → R1
  | .int i, .int j => okI (i + j)
  | .str a, .str b => fit (a.length + b.length) (.ok (.fr (.str (a ++ b))))
  | .list a, .list b => fit (a.length + b.length) (.ok (.ow (a ++ b)))
  | .tuple a, .tuple b => fit (a.length + b.length) (.ok (.fr (.tuple (a ++ b))))
  | _, _ => .no
theorem out_no {f : Fr} {G : Hp} {σ : L2.St} {s : Pst} {Q : VK} {P : Prop} (o : Out ca f E G σ (R1.no.m s) Q) : P := (show False from o).elim
theorem out_fit {f : Fr} {G : Hp} {σ : L2.St} {s : Pst} {Q : VK} {n : Nat} {r : R1} (o : Out ca f E G σ ((fit n r).m s) Q) : n ≤ lim ∧ Out ca f E G σ (r.m s) Q := by
  unfold fit at o
  split at o
  · exact ⟨by assumption, o⟩
  · exact out_no o
def rAddD (K : PySem.W.Frag) : R2 := fun x y H Q => ((rI0 (fun i j => .int (i + j))) x y H Q ∨ (∃ i j, x = .str i ∧ y = .str j ∧ i.length + j.length ≤ sizeLine ∧ Q (.str (i ++ j)) H)) ∨ (rCat x y H Q ∨ rCatA K x y H Q)
theorem sim_add {K : PySem.W.Frag} : Sim2 (rAddD K) dAdd := by
  intro ca f E G H σ s Q v w x y rel rx ry o
  cases rx <;> cases ry <;> first | exact out_no o | skip
  case int i j => exact .inl (.inl ⟨i, j, rfl, rfl, out_i rel o⟩)
  case str a b =>
    obtain ⟨hl, o⟩ := out_fit o
    exact .inl (.inr ⟨a, b, rfl, rfl, lim_line hl, out_s rel o⟩)
  case lst.lst p xs a e1 r1 l1 q ys b e2 r2 l2 =>
    obtain ⟨hl, o⟩ := out_fit o
    refine .inr (.inl ⟨p, q, xs, ys, rfl, rfl, rel.sub _ _ e1, rel.sub _ _ e2, ?_, out_lst rel (r1.app r2) (by rw [List.length_append]; exact hl) o⟩)
    rw [r1.len, r2.len]; exact lim_line hl
  case tup.tup p xs a e1 r1 l1 q ys b e2 r2 l2 =>
    obtain ⟨hl, o⟩ := out_fit o
    refine .inr (.inr ⟨p, q, xs, ys, rfl, rfl, SqT.of (rel.sub _ _ e1), SqT.of (rel.sub _ _ e2), ?_, fun h => ?_, fun h h' => ?_, fun _ _ => out_tup rel (r1.app r2) (by rw [List.length_append]; exact hl) o⟩)
    · rw [r1.len, r2.len]; exact lim_line hl
    · subst h
      have e : a = [] := List.eq_nil_of_length_eq_zero (by rw [← r1.len]; rfl)
      subst e
      exact out_same rel (.tup e2 r2 l2) o
    · subst h'
      have e : b = [] := List.eq_nil_of_length_eq_zero (by rw [← r2.len]; rfl)
      subst e
      rw [List.append_nil] at o
      exact out_same rel (.tup e1 r1 l1) o
theorem op_addD : OpR X (binaryOp .Add) (rAddD X.K) := opr_or (opr_or op_add op_add_str) (opr_or op_cat op_catA)
end
end Pu
end SecU1
section SecU2
set_option Elab.async false
set_option linter.all false
set_option maxRecDepth 100000
set_option maxHeartbeats 4000000
namespace Pu
open PySem PySem.Spec PyProof.Rows L2 Err
section
variable {ca : Str → Addr} {E : XK} {X : Cx} {a b c e : Expr} {pos : Pos} {Fa Fb Fc : M OV}
/-! ### numbers -/
def dSub : PyData → PyData → R1 | .int i, .int j => okI (i - j) | _, _ => .no
def dMul : PyData → PyData → R1
  | .int i, .int j => if i.natAbs.log2 + j.natAbs.log2 < 1000000 then okI (i * j) else .no
  | .list a, .int k => if k ≤ 1000 ∧ a.length ≤ 100 ∧ -1000 ≤ k then .ok (.ow (List.replicate k.toNat a).flatten) else .no
  | .tuple a, .int k => if 2 ≤ k ∧ k ≤ 1000 ∧ a.length ≤ 100 ∧ 0 < a.length then .ok (.fr (.tuple (List.replicate k.toNat a).flatten)) else .no
  | _, _ => .no
def dFdiv : PyData → PyData → R1
  | .int i, .int j => if 0 < j ∧ j.natAbs.log2 < 9000 then okI (i / j) else if j < 0 ∧ j.natAbs.log2 < 9000 then okI (i.fdiv j) else .no
  | _, _ => .no
def dMod : PyData → PyData → R1
  | .int i, .int j => if 0 < j then okI (i % j) else if j < 0 then okI (i.fmod j) else .no
  | _, _ => .no
def dPow : PyData → PyData → R1
  | .int i, .int j => if 0 ≤ j ∧ j ≤ 1000000 ∧ i.natAbs < 2 ^ 64 then okI (i ^ j.toNat) else .no
  | _, _ => .no
def dAnd : PyData → PyData → R1 | .int i, .int j => okI (Builtin.bitAnd i j) | _, _ => .no
def dOr : PyData → PyData → R1 | .int i, .int j => okI (Builtin.bitOr i j) | _, _ => .no
def dShl : PyData → PyData → R1
  | .int i, .int j => if 0 ≤ j ∧ (Builtin.Int.intBits i : Int) + j ≤ 2 ^ 27 then okI (i * 2 ^ j.toNat) else .no
  | _, _ => .no
def dShr : PyData → PyData → R1
  | .int i, .int j => if 0 ≤ j then okI (i / 2 ^ j.toNat) else .no
  | _, _ => .no
theorem sim_i0 {g : Int → Int → Int} {d : PyData → PyData → R1} (h : ∀ i j, d (.int i) (.int j) = okI (g i j)) (hn : ∀ x y, (∀ i j, x = .int i → y = .int j → False) → d x y = .no) : Sim2 (rI0 fun i j => .int (g i j)) d := by
  intro ca f E G H σ s Q v w x y rel rx ry o
  by_cases z : ∃ i j, x = .int i ∧ y = .int j
  · obtain ⟨i, j, rfl, rfl⟩ := z
    cases rx
    cases ry
    rw [h] at o
    exact ⟨i, j, rfl, rfl, out_i rel o⟩
  · rw [hn x y fun i j e1 e2 => z ⟨i, j, e1, e2⟩] at o
    exact out_no o
theorem sim_sub : Sim2 (rI0 fun i j => .int (i - j)) dSub := sim_i0 (fun _ _ => rfl) fun x y h => by
  cases x <;> cases y <;> first | rfl | exact (h _ _ rfl rfl).elim
theorem sim_and : Sim2 (rI0 fun i j => .int (Builtin.bitAnd i j)) dAnd := sim_i0 (fun _ _ => rfl) fun x y h => by
  cases x <;> cases y <;> first | rfl | exact (h _ _ rfl rfl).elim
theorem sim_or : Sim2 (rI0 fun i j => .int (Builtin.bitOr i j)) dOr := sim_i0 (fun _ _ => rfl) fun x y h => by
  cases x <;> cases y <;> first | rfl | exact (h _ _ rfl rfl).elim
def rMulD (K : PySem.W.Frag) : R2 := fun x y H Q => (rI CMulW fun i j => .int (i * j)) x y H Q ∨ (rRep x y H Q ∨ rRepT K x y H Q)
theorem op_mulD : OpR X (binaryOp .Mult) (rMulD X.K) := opr_or op_mulW (opr_or op_rep op_repT)
theorem rep_all {T : Addr} {G : Hp} {vs : List V} {ds : List PyData} (r : RqAll T G vs ds) : ∀ n, RqAll T G (List.replicate n vs).flatten (List.replicate n ds).flatten
  | 0 => .nil
  | n + 1 => by
    rw [List.replicate_succ, List.replicate_succ, List.flatten_cons, List.flatten_cons]
    exact r.app (rep_all r n)
theorem rep_len {α : Type} (n : Nat) (l : List α) : (List.replicate n l).flatten.length = n * l.length := by
  induction n with
  | zero => simp
  | succ n ih =>
    rw [List.replicate_succ, List.flatten_cons, List.length_append, ih, Nat.succ_mul]
    omega
theorem out_if {f : Fr} {G : Hp} {σ : L2.St} {s : Pst} {Q : VK} {c : Prop} [Decidable c] {r : R1} (o : Out ca f E G σ ((if c then r else .no).m s) Q) : c ∧ Out ca f E G σ (r.m s) Q := by
  split at o
  · exact ⟨by assumption, o⟩
  · exact out_no o
theorem sim_mul {K : PySem.W.Frag} : Sim2 (rMulD K) dMul := by
  intro ca f E G H σ s Q v w x y rel rx ry o
  cases rx <;> cases ry <;> first | exact out_no o | skip
  case int i j =>
    obtain ⟨hc, o⟩ := out_if o
    exact .inl ⟨i, j, rfl, rfl, hc, out_i rel o⟩
  case lst.int p xs a e1 r1 l1 k =>
    obtain ⟨⟨h1, h2, h3⟩, o⟩ := out_if o
    have hk : k.toNat ≤ 1000 := by omega
    have hz : (List.replicate k.toNat a).flatten.length ≤ lim := by
      rw [rep_len]
      exact Nat.le_trans (Nat.mul_le_mul hk h2) (by decide)
    refine .inr (.inl ⟨p, k, xs, rfl, rfl, rel.sub _ _ e1, by omega, by omega, ?_, out_lst rel (rep_all r1 _) hz o⟩)
    rw [r1.len]
    rw [rep_len] at hz
    rw [Nat.mul_comm]
    exact lim_line hz
  case tup.int p xs a e1 r1 l1 k =>
    obtain ⟨⟨h1, h2, h3, h4⟩, o⟩ := out_if o
    have hk : k.toNat ≤ 1000 := by omega
    have hz : (List.replicate k.toNat a).flatten.length ≤ lim := by
      rw [rep_len]
      exact Nat.le_trans (Nat.mul_le_mul hk h3) (by decide)
    have hl := r1.len
    refine .inr (.inr ⟨p, k, xs, rfl, rfl, SqT.of (rel.sub _ _ e1), fun z => ?_, h1, h2, by omega, out_tup rel (rep_all r1 _) hz o⟩)
    rw [z] at hl
    simp at hl
    omega
def rFdivD : R2 := fun x y H Q => (rI CDivW fun i j => .int (i / j)) x y H Q ∨ (rI (fun _ j => j ≠ 0 ∧ j.natAbs.log2 < 9000) fun i j => .int (i.fdiv j)) x y H Q
theorem op_fdivD : OpR X (binaryOp .FloorDiv) rFdivD := opr_or op_fdivW (opI fun _ _ _ _ _ _ _ hc q => floordiv_int hc.1 q (.inl (PyProof.noPylong_of_log2 hc.2)))
theorem sim_fdiv : Sim2 rFdivD dFdiv := by
  intro ca f E G H σ s Q v w x y rel rx ry o
  cases rx <;> cases ry <;> first | exact out_no o | skip
  case int i j =>
    have o' : Out ca f E G σ ((if 0 < j ∧ j.natAbs.log2 < 9000 then okI (i / j) else if j < 0 ∧ j.natAbs.log2 < 9000 then okI (i.fdiv j) else .no).m s) Q := o
    by_cases hc : 0 < j ∧ j.natAbs.log2 < 9000
    · rw [if_pos hc] at o'
      exact .inl ⟨i, j, rfl, rfl, hc, out_i rel o'⟩
    · rw [if_neg hc] at o'
      obtain ⟨hc, o'⟩ := out_if o'
      exact .inr ⟨i, j, rfl, rfl, ⟨by omega, hc.2⟩, out_i rel o'⟩
def rModD : R2 := fun x y H Q => (rI (fun _ j => 0 < j) fun i j => .int (i % j)) x y H Q ∨ (rI (fun _ j => j ≠ 0) fun i j => .int (i.fmod j)) x y H Q
theorem op_modD : OpR X (binaryOp .Mod) rModD := opr_or op_mod op_modN
theorem sim_mod : Sim2 rModD dMod := by
  intro ca f E G H σ s Q v w x y rel rx ry o
  cases rx <;> cases ry <;> first | exact out_no o | skip
  case int i j =>
    have o' : Out ca f E G σ ((if 0 < j then okI (i % j) else if j < 0 then okI (i.fmod j) else .no).m s) Q := o
    by_cases hc : 0 < j
    · rw [if_pos hc] at o'
      exact .inl ⟨i, j, rfl, rfl, hc, out_i rel o'⟩
    · rw [if_neg hc] at o'
      obtain ⟨hc, o'⟩ := out_if o'
      exact .inr ⟨i, j, rfl, rfl, by omega, out_i rel o'⟩
theorem sim_pow : Sim2 (rI CPow fun i j => .int (i ^ j.toNat)) dPow := by
  intro ca f E G H σ s Q v w x y rel rx ry o
  cases rx <;> cases ry <;> first | exact out_no o | skip
  case int i j =>
    obtain ⟨hc, o⟩ := out_if o
    exact ⟨i, j, rfl, rfl, hc, out_i rel o⟩
theorem sim_shl : Sim2 (rI CShl fun i j => .int (i * 2 ^ j.toNat)) dShl := by
  intro ca f E G H σ s Q v w x y rel rx ry o
  cases rx <;> cases ry <;> first | exact out_no o | skip
  case int i j =>
    obtain ⟨hc, o⟩ := out_if o
    exact ⟨i, j, rfl, rfl, hc, out_i rel o⟩
theorem sim_shr : Sim2 (rI (fun _ j => 0 ≤ j) fun i j => .int (i / 2 ^ j.toNat)) dShr := by
  intro ca f E G H σ s Q v w x y rel rx ry o
  cases rx <;> cases ry <;> first | exact out_no o | skip
  case int i j =>
    obtain ⟨hc, o⟩ := out_if o
    exact ⟨i, j, rfl, rfl, hc, out_i rel o⟩
/-! ### comparisons -/
def dLt : PyData → PyData → R1 | .int i, .int j => okB (decide (i < j)) | _, _ => .no
def dLe : PyData → PyData → R1 | .int i, .int j => okB (decide (i ≤ j)) | _, _ => .no
def dGt : PyData → PyData → R1 | .int i, .int j => okB (decide (j < i)) | _, _ => .no
def dGe : PyData → PyData → R1 | .int i, .int j => okB (decide (j ≤ i)) | _, _ => .no
theorem sim_b0 {g : Int → Int → Bool} {d : PyData → PyData → R1} (h : ∀ i j, d (.int i) (.int j) = okB (g i j)) (hn : ∀ x y, (∀ i j, x = .int i → y = .int j → False) → d x y = .no) : Sim2 (rI0 fun i j => .bl (g i j)) d := by
  intro ca f E G H σ s Q v w x y rel rx ry o
  by_cases z : ∃ i j, x = .int i ∧ y = .int j
  · obtain ⟨i, j, rfl, rfl⟩ := z
    cases rx
    cases ry
    rw [h] at o
    exact ⟨i, j, rfl, rfl, out_b rel o⟩
  · rw [hn x y fun i j e1 e2 => z ⟨i, j, e1, e2⟩] at o
    exact out_no o
theorem sim_lt : Sim2 (rI0 fun i j => .bl (decide (i < j))) dLt := sim_b0 (fun _ _ => rfl) fun x y h => by
  cases x <;> cases y <;> first | rfl | exact (h _ _ rfl rfl).elim
theorem sim_le : Sim2 (rI0 fun i j => .bl (decide (i ≤ j))) dLe := sim_b0 (fun _ _ => rfl) fun x y h => by
  cases x <;> cases y <;> first | rfl | exact (h _ _ rfl rfl).elim
theorem sim_gt : Sim2 (rI0 fun i j => .bl (decide (j < i))) dGt := sim_b0 (fun _ _ => rfl) fun x y h => by
  cases x <;> cases y <;> first | rfl | exact (h _ _ rfl rfl).elim
theorem sim_ge : Sim2 (rI0 fun i j => .bl (decide (j ≤ i))) dGe := sim_b0 (fun _ _ => rfl) fun x y h => by
  cases x <;> cases y <;> first | rfl | exact (h _ _ rfl rfl).elim
def plain (d : PyData) : Bool := noTape d && SeqAt.shaped d
def deepEq (d e : PyData) : R1 := if plain d = true ∧ plain e = true then okB (PyData.eqv d e) else .no
def deepNe (d e : PyData) : R1 := if plain d = true ∧ plain e = true then okB (!PyData.eqv d e) else .no
def dEq : PyData → PyData → R1 | .int i, .int j => okB (decide (i = j)) | d, e => deepEq d e
def dNe : PyData → PyData → R1 | .int i, .int j => okB (!decide (i = j)) | d, e => deepNe d e
theorem plain_iff {d : PyData} : plain d = true ↔ noTape d = true ∧ SeqAt.shaped d = true := by unfold plain; rw [Bool.and_eq_true]
theorem shaped_int (i : Int) : SeqAt.shaped (.int i) = true := by simp [SeqAt.shaped, PyData.canLay0, PyData.depth]
theorem sim_eq {K : PySem.W.Frag} : Sim2 (rEqD K) dEq := by
  intro ca f E G H σ s Q v w x y rel rx ry o
  by_cases z : ∃ i j, x = .int i ∧ y = .int j
  · obtain ⟨i, j, rfl, rfl⟩ := z
    cases rx
    cases ry
    refine ⟨.int i, .int j, .int i, .int j, shaped_int i, shaped_int j, ?_⟩
    exact out_b rel o
  · have o' : Out ca f E G σ ((deepEq x y).m s) Q := by
      unfold dEq at o
      split at o
      · exact (z ⟨_, _, rfl, rfl⟩).elim
      · exact o
    obtain ⟨⟨h1, h2⟩, o'⟩ := out_if o'
    rw [plain_iff] at h1 h2
    exact ⟨x, y, rx.dp rel.sub _ _ h1.1, ry.dp rel.sub _ _ h2.1, h1.2, h2.2, out_b rel o'⟩
theorem sim_ne {K : PySem.W.Frag} : Sim2 (rNeD K) dNe := by
  intro ca f E G H σ s Q v w x y rel rx ry o
  by_cases z : ∃ i j, x = .int i ∧ y = .int j
  · obtain ⟨i, j, rfl, rfl⟩ := z
    cases rx
    cases ry
    refine ⟨.int i, .int j, .int i, .int j, shaped_int i, shaped_int j, ?_⟩
    exact out_b rel o
  · have o' : Out ca f E G σ ((deepNe x y).m s) Q := by
      unfold dNe at o
      split at o
      · exact (z ⟨_, _, rfl, rfl⟩).elim
      · exact o
    obtain ⟨⟨h1, h2⟩, o'⟩ := out_if o'
    rw [plain_iff] at h1 h2
    exact ⟨x, y, rx.dp rel.sub _ _ h1.1, ry.dp rel.sub _ _ h2.1, h1.2, h2.2, out_b rel o'⟩
/-- is None, is True -/
def isNon : PyData → Bool | .none => true | _ => false
def isBl (b : Bool) : PyData → Bool | .bool c => decide (c = b) | _ => false
def dIs : PyData → PyData → R1
  | x, .none => okB (isNon x)
  | x, .bool b => okB (isBl b x)
  | _, _ => .no
def dIsNot : PyData → PyData → R1 | x, .none => okB (!isNon x) | _, _ => .no
theorem isNon_of {T : Addr} {G : Hp} {v : V} {d : PyData} (h : Rq T G v d) : decide (v = .non) = isNon d := by cases h <;> rfl
def rIsD : R2 := fun x y H Q => (y = .non ∧ Q (.bl (decide (x = .non))) H) ∨ Dt.rIsT x y H Q
theorem op_isD : OpR X (compareOp .Is) rIsD := opr_or op_isN Dt.op_is_bl
theorem sim_is : Sim2 rIsD dIs := by
  intro ca f E G H σ s Q v w x y rel rx ry o
  cases ry <;> first | exact out_no o | skip
  case non => exact .inl ⟨rfl, by rw [isNon_of rx]; exact out_b rel o⟩
  case bl b =>
    refine .inr ⟨b, rfl, ?_⟩
    have e : decide (v = .bl b) = isBl b x := by cases rx <;> simp [isBl]
    rw [e]
    exact out_b rel o
theorem sim_isNot : Sim2 (fun x y H Q => y = .non ∧ Q (.bl (!decide (x = .non))) H) dIsNot := by
  intro ca f E G H σ s Q v w x y rel rx ry o
  cases ry <;> first | exact out_no o | skip
  case non => exact ⟨rfl, by rw [isNon_of rx]; exact out_b rel o⟩
/-! ### in -/
def flatD : PyData → Bool | .none => true | .bool _ => true | .int _ => true | .str _ => true | _ => false
def items : PyData → Option (List PyData) | .list l => some l | .tuple l => some l | _ => none
def dIn (x y : PyData) : R1 := match items y with
  | some l => if flatD x = true ∧ l.all flatD = true then okB (l.any fun z => PyData.eqv z x) else .no
  | none => .no
def dNotIn (x y : PyData) : R1 := match items y with
  | some l => if flatD x = true ∧ l.all flatD = true then okB (!l.any fun z => PyData.eqv z x) else .no
  | none => .no
theorem flat_of {T : Addr} {G : Hp} {v : V} {d : PyData} (h : Rq T G v d) : flatV v = flatD d := by cases h <;> rfl
theorem flats_of {T : Addr} {G : Hp} : ∀ {vs : List V} {ds : List PyData}, RqAll T G vs ds → vs.all flatV = ds.all flatD
  | _, [], h => by cases h; rfl
  | _, d :: ds, h => by
    cases h with
    | cons a b => rw [List.all_cons, List.all_cons, flat_of a, flats_of b]
theorem eqV_of {T : Addr} {G : Hp} {v w : V} {d e : PyData} (h : Rq T G v d) (k : Rq T G w e) (fd : flatD d = true) (fe : flatD e = true) : eqV v w = PyData.eqv d e := by
  cases h <;> cases k <;> first | rfl | (exact absurd (show false = true from fd) Bool.false_ne_true) | (exact absurd (show false = true from fe) Bool.false_ne_true)
theorem inV_of {T : Addr} {G : Hp} {w : V} {e : PyData} (k : Rq T G w e) (fe : flatD e = true) : ∀ {vs : List V} {ds : List PyData}, RqAll T G vs ds → ds.all flatD = true → inV w vs = ds.any fun z => PyData.eqv z e
  | _, [], h, _ => by cases h; rfl
  | _, d :: ds, h, f => by
    rw [List.all_cons, Bool.and_eq_true] at f
    cases h with
    | cons a b =>
      unfold inV
      rw [List.any_cons, List.any_cons, eqV_of a k f.1 fe]
      have := inV_of k fe b f.2
      unfold inV at this
      rw [this]
theorem items_of {T : Addr} {K : PySem.W.Frag} {G H : Hp} {v : V} {d : PyData} {l : List PyData} (h : Rq T G v d) (sb : Le G H) (e : items d = some l) : ∃ p vs, v = .ref p ∧ (SqL K H p vs ∨ SqT K H p vs) ∧ RqAll T G vs l ∧ l.length ≤ lim := by
  cases h with
  | lst e1 r1 l1 => cases e; exact ⟨_, _, rfl, .inl (SqL.of (sb _ _ e1)), r1, l1⟩
  | tup e1 r1 l1 => cases e; exact ⟨_, _, rfl, .inr (SqT.of (sb _ _ e1)), r1, l1⟩
  | _ => cases e
theorem sim_in {K : PySem.W.Frag} : Sim2 (rIn K false) dIn := by
  intro ca f E G H σ s Q v w x y rel rx ry o
  unfold dIn at o
  split at o
  · rename_i l hl
    obtain ⟨⟨h1, h2⟩, o⟩ := out_if o
    obtain ⟨p, vs, rfl, hq, ra, _⟩ := items_of (K := K) ry rel.sub hl
    refine ⟨p, vs, rfl, hq, by rw [flat_of rx]; exact h1, by rw [flats_of ra]; exact h2, ?_⟩
    rw [if_neg Bool.false_ne_true, inV_of rx h1 ra h2]
    exact out_b rel o
  · exact out_no o
theorem sim_notIn {K : PySem.W.Frag} : Sim2 (rIn K true) dNotIn := by
  intro ca f E G H σ s Q v w x y rel rx ry o
  unfold dNotIn at o
  split at o
  · rename_i l hl
    obtain ⟨⟨h1, h2⟩, o⟩ := out_if o
    obtain ⟨p, vs, rfl, hq, ra, _⟩ := items_of (K := K) ry rel.sub hl
    refine ⟨p, vs, rfl, hq, by rw [flat_of rx]; exact h1, by rw [flats_of ra]; exact h2, ?_⟩
    rw [if_pos rfl, inV_of rx h1 ra h2]
    exact out_b rel o
  · exact out_no o
/-! ### an index -/
def dIx : PyData → PyData → R1
  | .list l, .int i => (match atI l i with | some d => .ok (.fr d) | none => .no)
  | .tuple l, .int i => (match atI l i with | some d => .ok (.fr d) | none => .no)
  | .str z, .int i => if z.length ≤ lim then (match atI z.cps.toList i with | some c => .ok (.fr (.str ⟨#[c]⟩)) | none => .no) else .no
  | _, _ => .no
theorem atI_of {T : Addr} {G : Hp} {vs : List V} {ds : List PyData} {i : Int} {d : PyData} (r : RqAll T G vs ds) (h : atI ds i = some d) : ∃ v, atI vs i = some v ∧ Rq T G v d := by
  unfold atI at h ⊢
  rw [r.len]
  cases e : ixN ds.length i with
  | none => rw [e] at h; cases h
  | some j =>
    rw [e] at h
    obtain ⟨v, h1, h2⟩ := r.get (i := j) (d := d) h
    exact ⟨v, h1, h2⟩
theorem sim_ix {K : PySem.W.Frag} : Sim2 (rIx K) dIx := by
  intro ca f E G H σ s Q v w x y rel rx ry o
  cases rx <;> cases ry <;> first | exact out_no o | skip
  case lst.int p xs l e1 r1 l1 i =>
    unfold dIx at o
    cases e : atI l i with
    | none => simp only [e] at o; exact out_no o
    | some d =>
      simp only [e] at o
      obtain ⟨v, h1, h2⟩ := atI_of r1 e
      exact .inl ⟨p, xs, i, v, rfl, rfl, SqL.of (rel.sub _ _ e1), h1, out_same rel h2 o⟩
  case tup.int p xs l e1 r1 l1 i =>
    unfold dIx at o
    cases e : atI l i with
    | none => simp only [e] at o; exact out_no o
    | some d =>
      simp only [e] at o
      obtain ⟨v, h1, h2⟩ := atI_of r1 e
      exact .inr (.inl ⟨p, xs, i, v, rfl, rfl, SqT.of (rel.sub _ _ e1), h1, out_same rel h2 o⟩)
  case str.int z i =>
    obtain ⟨hz, o⟩ := out_if o
    cases e : atI z.cps.toList i with
    | none => simp only [e] at o; exact out_no o
    | some d =>
      simp only [e] at o
      exact .inr (.inr ⟨z, i, d, rfl, rfl, lim_line hz, e, out_s rel o⟩)
/-- a slot's list is looked at, not handed on -/
def ixv (i : Nat) (Fb : M OV) : M OV := fun s => match sl s i with
  | .un => .no
  | _ => bnd Fb (fun y s2 => match sl s2 i with
    | .fr d => (dIx d y.d).m s2
    | .ow l => (dIx (.list l) y.d).m s2
    | .un => .no) s
theorem Rel.look {f : Fr} {G H : Hp} {σ : L2.St} {s : Pst} {i : Nat} (r : Rel f G H σ s) (h : sl s i ≠ .un) : ∃ v, σ[i]? = some (some v) ∧ ((∃ d, sl s i = .fr d ∧ Rq f.T G v d) ∨ ∃ l p vs, sl s i = .ow l ∧ v = .ref p ∧ H p = some (.lst vs) ∧ RqAll f.T G vs l ∧ l.length ≤ lim) := by
  have v := r.vars i
  cases e : sl s i with
  | un => exact (h e).elim
  | fr d =>
    rw [e] at v
    obtain ⟨v, h1, h2⟩ := v
    exact ⟨v, h1, .inl ⟨d, rfl, h2⟩⟩
  | ow l =>
    rw [e] at v
    obtain ⟨p, vs, h1, h2, h3, h4, _⟩ := v
    exact ⟨_, h1, .inr ⟨l, p, vs, rfl, rfl, h2, h3, h4⟩⟩
theorem pu_ixv {i : Nat} (ha : PE X a (tVar i)) (hb : PU ca E X b Fb) (hp : PlainIx b) : PU ca E X (.Subscript a b pos) (ixv i Fb) := pe_imp (pe_ix ix_seq ha hb hp) fun σ H Q ⟨f, G, s, rel, out⟩ => by
  unfold ixv at out
  have ne : sl s i ≠ .un := fun z => by rw [z] at out; exact out
  obtain ⟨v, hv, _⟩ := rel.look ne
  refine ⟨v, hv, ?_⟩
  have out' : Out ca f E G σ (bnd Fb (fun y s2 => match sl s2 i with | .fr d => (dIx d y.d).m s2 | .ow l => (dIx (.list l) y.d).m s2 | .un => .no) s) Q := by
    revert out
    split
    · exact fun z => z.elim
    · exact id
  refine liftG rel out' fun y s2 w H2 G2 l2 rel2 ov2 o => ?_
  have ne2 : sl s2 i ≠ .un := fun z => by rw [z] at o; exact o
  obtain ⟨G3, l3, rel3, rq⟩ := rel2.frz ov2
  have o := o.le l3
  obtain ⟨v', hv', hd⟩ := rel3.look ne2
  rw [hv] at hv'
  cases hv'
  rcases hd with ⟨d, e, r⟩ | ⟨l, p, vs, e, rfl, hp, ra, hl⟩
  · rw [e] at o
    exact sim_ix ca f E G3 H2 σ s2 Q v w d y.d rel3 r rq o
  · rw [e] at o
    dsimp only at o
    generalize y.d = yd at o rq
    cases rq <;> first | exact out_no o | skip
    rename_i j
    unfold dIx at o
    cases e : atI l j with
    | none => simp only [e] at o; exact out_no o
    | some d =>
      simp only [e] at o
      obtain ⟨v, h1, h2⟩ := atI_of ra e
      exact .inl ⟨p, vs, j, v, rfl, rfl, SqL.of hp, h1, out_same rel3 h2 o⟩
/-! ### what is looked at -/
inductive Pk (T : Addr) (G H : Hp) : V → PyData → Prop
  | fr {v : V} {d : PyData} : Rq T G v d → Pk T G H v d
  | ow {p : Addr} {vs : List V} {l : List PyData} : H p = some (.lst vs) → RqAll T G vs l → l.length ≤ lim → Pk T G H (.ref p) (.list l)
def OutP (ca : Str → Addr) (f : Fr) (E : XK) (G : Hp) (σ : L2.St) (r : Rs PyData) (Q : VK) : Prop := match r with
  | .ok x s => ∀ v H' G', Le G G' → Rel f G' H' σ s → Pk f.T G' H' v x → Q v H'
  | .err c fs t => OutX ca f E c fs t
  | .no => False
def liftP (ca : Str → Addr) (E : XK) (F : M PyData) : TE := fun σ H Q => ∃ f G s, Rel f G H σ s ∧ OutP ca f E G σ (F s) Q
abbrev PKU (ca : Str → Addr) (E : XK) (X : Cx) (e : Expr) (F : M PyData) : Prop := PE X e (liftP ca E F)
def peek (i : Nat) : M PyData := fun s => match sl s i with
  | .fr d => .ok d s
  | .ow l => .ok (.list l) s
  | .un => .no
theorem pk_var {i : Nat} (h : PE X e (tVar i)) : PKU ca E X e (peek i) := pe_imp h fun σ H Q ⟨f, G, s, rel, out⟩ => by
  unfold peek at out
  have ne : sl s i ≠ .un := fun z => by rw [z] at out; exact out
  obtain ⟨v, hv, hd⟩ := rel.look ne
  refine ⟨v, hv, ?_⟩
  rcases hd with ⟨d, e, r⟩ | ⟨l, p, vs, e, rfl, hp, ra, hl⟩
  · rw [e] at out
    exact out v H G .refl rel (.fr r)
  · rw [e] at out
    exact out _ H G .refl rel (.ow hp ra hl)
def dat (F : M OV) : M PyData := bnd F fun x => pur x.d
theorem pk_of (h : PU ca E X e Fa) : PKU ca E X e (dat Fa) := pe_imp h fun σ H Q ⟨f, G, s, rel, out⟩ => by
  refine ⟨f, G, s, rel, ?_⟩
  unfold dat at out
  cases e : Fa s with
  | ok x s1 =>
    rw [bnd_ok e] at out
    intro v H' G' le rel' ov
    refine out v H' G' le rel' ?_
    cases x with
    | fr d => exact .fr ov
    | ow l =>
      obtain ⟨p, vs, rfl, h1, h2, h3, _⟩ := ov
      exact .ow h1 h2 h3
  | err c fs t => rw [bnd_err e] at out; exact out
  | no => rw [bnd_no e] at out; exact out
def Sim1 (r : V → Hp → VK → Prop) (g : PyData → R1) : Prop := ∀ (ca : Str → Addr) (f : Fr) (E : XK) (G H : Hp) (σ : L2.St) (s : Pst) (Q : VK) (v : V) (x : PyData),
  Rel f G H σ s → Pk f.T G H v x → Out ca f E G σ ((g x).m s) Q → r v H Q
def un (g : PyData → R1) (F : M PyData) : M OV := bnd F fun x => (g x).m
theorem sim_un {r : V → Hp → VK → Prop} {g : PyData → R1} {F : M PyData} (hs : Sim1 r g) {σ : L2.St} {H : Hp} {Q : VK} (h : liftE ca E (un g F) σ H Q) : liftP ca E F σ H fun v H1 => r v H1 Q := by
  obtain ⟨f, G, s, rel, out⟩ := h
  refine ⟨f, G, s, rel, ?_⟩
  unfold un at out
  cases e : F s with
  | ok x s1 =>
    rw [bnd_ok e] at out
    exact fun v H' G' le rel' pk => hs ca f E G' H' σ s1 Q v x rel' pk (out.le le)
  | err c fs t => rw [bnd_err e] at out; exact out
  | no => rw [bnd_no e] at out; exact out
theorem pu_un {op : UnaryOp} {r : V → Hp → VK → Prop} {g : PyData → R1} {F : M PyData} (ho : UnR X (unaryOp op) r) (hs : Sim1 r g) (ha : PKU ca E X a F) : PU ca E X (.UnaryOp op a pos) (un g F) :=
  pe_imp (pe_un ho ha) fun _ _ _ h => sim_un hs h
/-- a built-in of one -/
theorem pu_c1 {r : List V → Hp → VK → Prop} {g : PyData → R1} {F : M PyData} (hs : Sim1 (fun v => r [v]) g) (h : PE X e (tCB r (tCons (liftP ca E F) tNil))) : PU ca E X e (un g F) := pe_imp h fun _ _ _ z => sim_un hs z
/-- a built-in of two -/
theorem pu_c2 {r : List V → Hp → VK → Prop} {g : PyData → PyData → R1} (hs : Sim2 (fun v w => r [v, w]) g) (h : PE X e (tCB r (tCons (liftE ca E Fa) (tCons (liftE ca E Fb) tNil)))) : PU ca E X e (bin g Fa Fb) := pe_imp h fun _ _ _ z => sim_op hs z
def dNeg : PyData → R1 | .int i => okI (-i) | _ => .no
theorem Pk.int {T : Addr} {G H : Hp} {v : V} {i : Int} (h : Pk T G H v (.int i)) : v = .int i := by
  cases h with
  | fr r => cases r; rfl
theorem Pk.items {T : Addr} {K : PySem.W.Frag} {G H : Hp} {v : V} {d : PyData} {l : List PyData} (h : Pk T G H v d) (sb : Le G H) (e : items d = some l) : ∃ p vs, v = .ref p ∧ (SqL K H p vs ∨ SqT K H p vs) ∧ RqAll T G vs l ∧ l.length ≤ lim := by
  cases h with
  | fr r => exact items_of r sb e
  | ow h1 h2 h3 => cases e; exact ⟨_, _, rfl, .inl (SqL.of h1), h2, h3⟩
theorem Pk.list {T : Addr} {G H : Hp} {v : V} {l : List PyData} (h : Pk T G H v (.list l)) (sb : Le G H) : ∃ p vs, v = .ref p ∧ H p = some (.lst vs) ∧ RqAll T G vs l ∧ l.length ≤ lim := by
  cases h with
  | fr r => cases r with | lst e1 r1 l1 => exact ⟨_, _, rfl, sb _ _ e1, r1, l1⟩
  | ow h1 h2 h3 => exact ⟨_, _, rfl, h1, h2, h3⟩
theorem Pk.tuple {T : Addr} {G H : Hp} {v : V} {l : List PyData} (h : Pk T G H v (.tuple l)) : Rq T G v (.tuple l) := by
  cases h with
  | fr r => exact r
theorem sim_neg : Sim1 (rU fun i => .int (-i)) dNeg := by
  intro ca f E G H σ s Q v x rel rx o
  cases x <;> first | exact out_no o | skip
  rename_i i
  cases rx.int
  exact ⟨i, rfl, out_i rel o⟩
def dLen : PyData → R1
  | .str z => if z.length ≤ lim then okI (z.length : Int) else .no
  | .list l => okI (l.length : Int)
  | .tuple l => okI (l.length : Int)
  | _ => .no
theorem sim_len {K : PySem.W.Frag} : Sim1 (fun v => (fun xs H Q => ∃ x n, xs = [x] ∧ LenV K x H n ∧ Q (.int (n : Nat)) H) [v]) dLen := by
  intro ca f E G H σ s Q v x rel rx o
  cases x <;> first | exact out_no o | skip
  case str z =>
    obtain ⟨hz, o⟩ := out_if o
    cases rx with
    | fr r => cases r; exact ⟨_, z.length, rfl, ⟨lim_line hz, rfl⟩, out_i rel o⟩
  case list l =>
    obtain ⟨p, vs, rfl, hp, ra, _⟩ := rx.list rel.sub
    refine ⟨_, vs.length, rfl, .inl ⟨vs, SqL.of hp, rfl⟩, ?_⟩
    rw [ra.len]
    exact out_i rel o
  case tuple l =>
    cases rx.tuple with
    | tup e1 r1 l1 =>
      refine ⟨_, _, rfl, .inr ⟨_, SqT.of (rel.sub _ _ e1), rfl⟩, ?_⟩
      rw [r1.len]
      exact out_i rel o
def dAbs : PyData → R1 | .int i => okI (if i < 0 then -i else i) | _ => .no
theorem sim_abs : Sim1 (fun v => (fun xs H Q => ∃ i, xs = [V.int i] ∧ Q (V.int (if i < 0 then -i else i)) H) [v]) dAbs := by
  intro ca f E G H σ s Q v x rel rx o
  cases x <;> first | exact out_no o | skip
  rename_i i
  cases rx.int
  exact ⟨i, rfl, out_i rel o⟩
def dInt : PyData → R1 | .int i => okI i | .bool b => okI (if b then 1 else 0) | _ => .no
theorem sim_int : Sim1 (fun v => (fun xs H Q => (∃ i, xs = [V.int i] ∧ Q (V.int i) H) ∨ ∃ k, xs = [V.bl k] ∧ Q (V.int (if k then 1 else 0)) H) [v]) dInt := by
  intro ca f E G H σ s Q v x rel rx o
  cases x <;> first | exact out_no o | skip
  case int i =>
    cases rx.int
    exact .inl ⟨i, rfl, out_i rel o⟩
  case bool b =>
    cases rx with
    | fr r => cases r; exact .inr ⟨b, rfl, out_i rel o⟩
def dTuple : PyData → R1 | .list l => .ok (.fr (.tuple l)) | .tuple l => .ok (.fr (.tuple l)) | _ => .no
theorem sim_tuple {K : PySem.W.Frag} : Sim1 (fun v => (fun xs H Q => ∃ p ys, xs = [V.ref p] ∧ ((SqL K H p ys ∧ ∀ l, H l = none → Q (V.ref l) (upd H l (.tup ys))) ∨ (SqT K H p ys ∧ Q (.ref p) H))) [v]) dTuple := by
  intro ca f E G H σ s Q v x rel rx o
  cases x <;> first | exact out_no o | skip
  case list l =>
    obtain ⟨p, vs, rfl, hp, ra, hl⟩ := rx.list rel.sub
    exact ⟨p, vs, rfl, .inl ⟨SqL.of hp, out_tup rel ra hl o⟩⟩
  case tuple l =>
    have r := rx.tuple
    cases r with
    | tup e1 r1 l1 => exact ⟨_, _, rfl, .inr ⟨SqT.of (rel.sub _ _ e1), out_same rel (.tup e1 r1 l1) o⟩⟩
def dList (x : PyData) : R1 := match items x with | some l => .ok (.ow l) | none => .no
theorem sim_list {K : PySem.W.Frag} : Sim1 (fun v => (fun xs H Q => ∃ p ys, xs = [V.ref p] ∧ (SqL K H p ys ∨ SqT K H p ys) ∧ ∀ l, H l = none → Q (V.ref l) (upd H l (.lst ys))) [v]) dList := by
  intro ca f E G H σ s Q v x rel rx o
  unfold dList at o
  cases e : items x with
  | none => rw [e] at o; exact out_no o
  | some l =>
    rw [e] at o
    obtain ⟨p, vs, rfl, hq, ra, hl⟩ := rx.items (K := K) rel.sub e
    exact ⟨p, vs, rfl, hq, out_lst rel ra hl o⟩
def intsOf : List PyData → Option (List Int)
  | [] => some []
  | .int i :: l => (intsOf l).map (i :: ·)
  | _ :: _ => none
theorem ints_of {T : Addr} {G : Hp} : ∀ {vs : List V} {ds : List PyData} {ns : List Int}, RqAll T G vs ds → intsOf ds = some ns → vs = ns.map V.int
  | _, [], _, h, e => by cases h; cases e; rfl
  | _, .int i :: ds, _, h, e => by
    cases h with
    | cons a b =>
      cases a
      unfold intsOf at e
      cases e2 : intsOf ds with
      | none => rw [e2] at e; cases e
      | some ns =>
        rw [e2] at e
        cases e
        rw [ints_of b e2]
        rfl
  | _, .none :: _, _, _, e => by cases e
  | _, .bool _ :: _, _, _, e => by cases e
  | _, .str _ :: _, _, _, e => by cases e
  | _, .list _ :: _, _, _, e => by cases e
  | _, .tuple _ :: _, _, _, e => by cases e
  | _, .dict _ :: _, _, _, e => by cases e
def boolsOf : List PyData → Option (List Bool)
  | [] => some []
  | .bool i :: l => (boolsOf l).map (i :: ·)
  | _ :: _ => none
theorem bools_of {T : Addr} {G : Hp} : ∀ {vs : List V} {ds : List PyData} {ns : List Bool}, RqAll T G vs ds → boolsOf ds = some ns → vs = ns.map V.bl
  | _, [], _, h, e => by cases h; cases e; rfl
  | _, .bool i :: ds, _, h, e => by
    cases h with
    | cons a b =>
      cases a
      unfold boolsOf at e
      cases e2 : boolsOf ds with
      | none => rw [e2] at e; cases e
      | some ns =>
        rw [e2] at e
        cases e
        rw [bools_of b e2]
        rfl
  | _, .none :: _, _, _, e => by cases e
  | _, .int _ :: _, _, _, e => by cases e
  | _, .str _ :: _, _, _, e => by cases e
  | _, .list _ :: _, _, _, e => by cases e
  | _, .tuple _ :: _, _, _, e => by cases e
  | _, .dict _ :: _, _, _, e => by cases e
def onInts (g : List Int → R1) : PyData → R1 | .list l => (match intsOf l with | some ns => g ns | none => .no) | _ => .no
def onBools (g : List Bool → R1) : PyData → R1 | .list l => (match boolsOf l with | some ns => g ns | none => .no) | _ => .no
theorem onInts_of {f : Fr} {G H : Hp} {σ : L2.St} {s : Pst} {Q : VK} {g : List Int → R1} {x : PyData} {v : V} (K : PySem.W.Frag) (rel : Rel f G H σ s) (rx : Pk f.T G H v x) (o : Out ca f E G σ ((onInts g x).m s) Q) :
    ∃ p ns, v = .ref p ∧ SqL K H p (ns.map V.int) ∧ Out ca f E G σ ((g ns).m s) Q := by
  cases x <;> first | exact out_no o | skip
  rename_i l
  unfold onInts at o
  cases e : intsOf l with
  | none => simp only [e] at o; exact out_no o
  | some ns =>
    simp only [e] at o
    obtain ⟨p, vs, rfl, hp, ra, hl⟩ := rx.list rel.sub
    rw [ints_of ra e] at hp
    exact ⟨p, ns, rfl, SqL.of hp, o⟩
theorem onBools_of {f : Fr} {G H : Hp} {σ : L2.St} {s : Pst} {Q : VK} {g : List Bool → R1} {x : PyData} {v : V} (K : PySem.W.Frag) (rel : Rel f G H σ s) (rx : Pk f.T G H v x) (o : Out ca f E G σ ((onBools g x).m s) Q) :
    ∃ p ns, v = .ref p ∧ SqL K H p (ns.map V.bl) ∧ Out ca f E G σ ((g ns).m s) Q := by
  cases x <;> first | exact out_no o | skip
  rename_i l
  unfold onBools at o
  cases e : boolsOf l with
  | none => simp only [e] at o; exact out_no o
  | some ns =>
    simp only [e] at o
    obtain ⟨p, vs, rfl, hp, ra, hl⟩ := rx.list rel.sub
    rw [bools_of ra e] at hp
    exact ⟨p, ns, rfl, SqL.of hp, o⟩
def dSum : PyData → R1 := onInts fun ns => okI ns.sum
def dAll : PyData → R1 := onBools fun bs => okB (bs.all id)
def dAny : PyData → R1 := onBools fun bs => okB (bs.any id)
def maxL : List Int → Int | [] => 0 | n :: ns => ns.foldl max n
def minL : List Int → Int | [] => 0 | n :: ns => ns.foldl min n
def dMaxL : PyData → R1 := onInts fun ns => if 0 < ns.length then okI (maxL ns) else .no
def dMinL : PyData → R1 := onInts fun ns => if 0 < ns.length then okI (minL ns) else .no
theorem sim_sum {K : PySem.W.Frag} : Sim1 (fun v => rSum K [v]) dSum := by
  intro ca f E G H σ s Q v x rel rx o
  obtain ⟨p, ns, rfl, h, o⟩ := onInts_of K rel rx o
  exact ⟨p, ns, rfl, h, out_i rel o⟩
theorem sim_all {K : PySem.W.Frag} : Sim1 (fun v => rAll K [v]) dAll := by
  intro ca f E G H σ s Q v x rel rx o
  obtain ⟨p, ns, rfl, h, o⟩ := onBools_of K rel rx o
  exact ⟨p, ns, rfl, h, out_b rel o⟩
theorem sim_any {K : PySem.W.Frag} : Sim1 (fun v => rAny K [v]) dAny := by
  intro ca f E G H σ s Q v x rel rx o
  obtain ⟨p, ns, rfl, h, o⟩ := onBools_of K rel rx o
  exact ⟨p, ns, rfl, h, out_b rel o⟩
theorem foldl_max : ∀ (ns : List Int) (a : Int), (ns.foldl max a = a ∨ ns.foldl max a ∈ ns) ∧ a ≤ ns.foldl max a ∧ ∀ y ∈ ns, y ≤ ns.foldl max a
  | [], a => ⟨.inl rfl, Int.le_refl _, fun y h => by cases h⟩
  | n :: ns, a => by
    obtain ⟨h1, h2, h3⟩ := foldl_max ns (max a n)
    refine ⟨?_, ?_, fun y hy => ?_⟩
    · rw [List.foldl_cons]
      rcases h1 with h1 | h1
      · rw [h1]
        rcases (by omega : max a n = a ∨ max a n = n) with e | e
        · exact .inl e
        · rw [e]; exact .inr List.mem_cons_self
      · exact .inr (List.mem_cons_of_mem _ h1)
    · rw [List.foldl_cons]; omega
    · rw [List.foldl_cons]
      rcases List.mem_cons.mp hy with rfl | hy
      · omega
      · exact h3 y hy
theorem foldl_min : ∀ (ns : List Int) (a : Int), (ns.foldl min a = a ∨ ns.foldl min a ∈ ns) ∧ ns.foldl min a ≤ a ∧ ∀ y ∈ ns, ns.foldl min a ≤ y
  | [], a => ⟨.inl rfl, Int.le_refl _, fun y h => by cases h⟩
  | n :: ns, a => by
    obtain ⟨h1, h2, h3⟩ := foldl_min ns (min a n)
    refine ⟨?_, ?_, fun y hy => ?_⟩
    · rw [List.foldl_cons]
      rcases h1 with h1 | h1
      · rw [h1]
        rcases (by omega : min a n = a ∨ min a n = n) with e | e
        · exact .inl e
        · rw [e]; exact .inr List.mem_cons_self
      · exact .inr (List.mem_cons_of_mem _ h1)
    · rw [List.foldl_cons]; omega
    · rw [List.foldl_cons]
      rcases List.mem_cons.mp hy with rfl | hy
      · omega
      · exact h3 y hy
theorem maxL_spec {ns : List Int} (h : 0 < ns.length) : maxL ns ∈ ns ∧ ∀ y ∈ ns, y ≤ maxL ns := by
  cases ns with
  | nil => cases h
  | cons n ns =>
    obtain ⟨h1, h2, h3⟩ := foldl_max ns n
    refine ⟨?_, fun y hy => ?_⟩
    · show ns.foldl max n ∈ _
      rcases h1 with h1 | h1
      · rw [h1]; exact List.mem_cons_self
      · exact List.mem_cons_of_mem _ h1
    · rcases List.mem_cons.mp hy with rfl | hy
      · exact h2
      · exact h3 y hy
theorem minL_spec {ns : List Int} (h : 0 < ns.length) : minL ns ∈ ns ∧ ∀ y ∈ ns, minL ns ≤ y := by
  cases ns with
  | nil => cases h
  | cons n ns =>
    obtain ⟨h1, h2, h3⟩ := foldl_min ns n
    refine ⟨?_, fun y hy => ?_⟩
    · show ns.foldl min n ∈ _
      rcases h1 with h1 | h1
      · rw [h1]; exact List.mem_cons_self
      · exact List.mem_cons_of_mem _ h1
    · rcases List.mem_cons.mp hy with rfl | hy
      · exact h2
      · exact h3 y hy
theorem sim_maxL {K : PySem.W.Frag} : Sim1 (fun v => rMax K [v]) dMaxL := by
  intro ca f E G H σ s Q v x rel rx o
  obtain ⟨p, ns, rfl, h, o⟩ := onInts_of K rel rx o
  obtain ⟨h0, o⟩ := out_if o
  obtain ⟨m1, m2⟩ := maxL_spec h0
  refine ⟨p, ns, rfl, h, h0, fun m hm hy => ?_⟩
  have e : m = maxL ns := Int.le_antisymm (m2 m hm) (hy _ m1)
  rw [e]
  exact out_i rel o
theorem sim_minL {K : PySem.W.Frag} : Sim1 (fun v => rMin K [v]) dMinL := by
  intro ca f E G H σ s Q v x rel rx o
  obtain ⟨p, ns, rfl, h, o⟩ := onInts_of K rel rx o
  obtain ⟨h0, o⟩ := out_if o
  obtain ⟨m1, m2⟩ := minL_spec h0
  refine ⟨p, ns, rfl, h, h0, fun m hm hy => ?_⟩
  have e : m = minL ns := Int.le_antisymm (hy _ m1) (m2 m hm)
  rw [e]
  exact out_i rel o
def dMax2 : PyData → PyData → R1 | .int i, .int j => okI (if j > i then j else i) | _, _ => .no
def dMin2 : PyData → PyData → R1 | .int i, .int j => okI (if j < i then j else i) | _, _ => .no
theorem sim_max2 : Sim2 (fun v w => (fun xs H Q => ∃ i j, xs = [V.int i, .int j] ∧ Q (V.int (if j > i then j else i)) H) [v, w]) dMax2 := by
  intro ca f E G H σ s Q v w x y rel rx ry o
  cases rx <;> cases ry <;> first | exact out_no o | skip
  rename_i i j
  exact ⟨i, j, rfl, out_i rel o⟩
theorem sim_min2 : Sim2 (fun v w => (fun xs H Q => ∃ i j, xs = [V.int i, .int j] ∧ Q (V.int (if j < i then j else i)) H) [v, w]) dMin2 := by
  intro ca f E G H σ s Q v w x y rel rx ry o
  cases rx <;> cases ry <;> first | exact out_no o | skip
  rename_i i j
  exact ⟨i, j, rfl, out_i rel o⟩
end
end Pu
end SecU2
section SecU3
set_option Elab.async false
set_option linter.all false
set_option maxRecDepth 100000
set_option maxHeartbeats 4000000
namespace Pu
open PySem PySem.Spec PyProof.Rows L2 Err
section
variable {ca : Str → Addr} {E : XK} {X : Cx} {a b c e : Expr} {pos : Pos} {Fa Fb Fc : M OV} {Ft Fu : M Bool}
/-! ### truth, and, or, not, if else -/
def truth : PyData → Option Bool
  | .none => some false
  | .bool b => some b
  | .int i => some (i != 0)
  | .str z => if z.length ≤ lim then some ((z.length : Int) != 0) else none
  | .list l => some (!l.isEmpty)
  | .tuple l => some (!l.isEmpty)
  | .dict _ => none
theorem tru_of {T : Addr} {K : PySem.W.Frag} {G H : Hp} {v : V} {d : PyData} {k : Bool} (h : Pk T G H v d) (sb : Le G H) (t : truth d = some k) : TruV K v H k := by
  cases h with
  | fr h =>
    cases h with
    | non => cases t; rfl
    | bl b => cases t; rfl
    | int i => cases t; rfl
    | str z =>
      have t' : (if z.length ≤ lim then some ((z.length : Int) != 0) else none) = some k := t
      by_cases hz : z.length ≤ lim
      · rw [if_pos hz] at t'
        cases t'
        exact ⟨lim_line hz, rfl⟩
      · rw [if_neg hz] at t'
        cases t'
    | lst e1 r1 l1 =>
      rename_i p vs ds
      cases t
      refine .inl ⟨vs, SqL.of (sb _ _ e1), ?_⟩
      cases r1 <;> rfl
    | tup e1 r1 l1 =>
      rename_i p vs ds
      cases t
      refine .inr (.inl ⟨vs, SqT.of (sb _ _ e1), ?_⟩)
      cases r1 <;> rfl
    | tape => cases t
    | scr => cases t
    | exc => cases t
  | ow h1 r1 l1 =>
    rename_i p vs ds
    cases t
    refine .inl ⟨vs, SqL.of h1, ?_⟩
    cases r1 <;> rfl
def tru (F : M PyData) : M Bool := bnd F fun x => match truth x with | some k => pur k | none => no
theorem OutT.bndP {f : Fr} {G H : Hp} {σ : L2.St} {s : Pst} {F : M PyData} {k : PyData → M Bool} {Q : Bool → Hp → Prop} {R : V → Hp → Prop} (rel : Rel f G H σ s) (out : OutT ca f E G σ (bnd F k s) Q)
    (h : ∀ x s1 v H' G', Le G G' → Rel f G' H' σ s1 → Pk f.T G' H' v x → OutT ca f E G' σ (k x s1) Q → R v H') : liftP ca E F σ H R := by
  refine ⟨f, G, s, rel, ?_⟩
  cases e : F s with
  | ok x s1 =>
    rw [bnd_ok e] at out
    exact fun v H' G' le rel' pk => h x s1 v H' G' le rel' pk (out.le le)
  | err c fs t => rw [bnd_err e] at out; exact out
  | no => rw [bnd_no e] at out; exact out
theorem Out.bndP {f : Fr} {G H : Hp} {σ : L2.St} {s : Pst} {F : M PyData} {k : PyData → M OV} {Q : VK} {R : V → Hp → Prop} (rel : Rel f G H σ s) (out : Out ca f E G σ (bnd F k s) Q)
    (h : ∀ x s1 v H' G', Le G G' → Rel f G' H' σ s1 → Pk f.T G' H' v x → Out ca f E G' σ (k x s1) Q → R v H') : liftP ca E F σ H R := by
  refine ⟨f, G, s, rel, ?_⟩
  cases e : F s with
  | ok x s1 =>
    rw [bnd_ok e] at out
    exact fun v H' G' le rel' pk => h x s1 v H' G' le rel' pk (out.le le)
  | err c fs t => rw [bnd_err e] at out; exact out
  | no => rw [bnd_no e] at out; exact out
theorem Out.bndT {f : Fr} {G H : Hp} {σ : L2.St} {s : Pst} {F : M Bool} {k : Bool → M OV} {Q : VK} {R : Bool → Hp → Prop} (rel : Rel f G H σ s) (out : Out ca f E G σ (bnd F k s) Q)
    (h : ∀ x s1 H' G', Le G G' → Rel f G' H' σ s1 → Out ca f E G' σ (k x s1) Q → R x H') : liftT ca E F σ H R := by
  refine ⟨f, G, s, rel, ?_⟩
  cases e : F s with
  | ok x s1 =>
    rw [bnd_ok e] at out
    exact fun H' G' le rel' => h x s1 H' G' le rel' (out.le le)
  | err c fs t => rw [bnd_err e] at out; exact out
  | no => rw [bnd_no e] at out; exact out
theorem OutT.bndT {f : Fr} {G H : Hp} {σ : L2.St} {s : Pst} {F : M Bool} {k : Bool → M Bool} {Q : Bool → Hp → Prop} {R : Bool → Hp → Prop} (rel : Rel f G H σ s) (out : OutT ca f E G σ (bnd F k s) Q)
    (h : ∀ x s1 H' G', Le G G' → Rel f G' H' σ s1 → OutT ca f E G' σ (k x s1) Q → R x H') : liftT ca E F σ H R := by
  refine ⟨f, G, s, rel, ?_⟩
  cases e : F s with
  | ok x s1 =>
    rw [bnd_ok e] at out
    exact fun H' G' le rel' => h x s1 H' G' le rel' (out.le le)
  | err c fs t => rw [bnd_err e] at out; exact out
  | no => rw [bnd_no e] at out; exact out
theorem pt_tru {F : M PyData} (ha : PKU ca E X a F) (he : ∀ whole, isTrue a X.env whole = (do let v ← whole; standAt a.pos; holding [v] (truthy v)) := by intro _; rfl) : PTU ca E X a (tru F) := pt_imp (pt_truth ha he) fun σ H Q ⟨f, G, s, rel, out⟩ => by
  refine OutT.bndP rel out fun x s1 v H' G' le rel' pk o => ?_
  cases t : truth x with
  | none => simp only [t] at o; exact o.elim
  | some k =>
    simp only [t] at o
    exact ⟨k, tru_of pk rel'.sub t, o H' G' .refl rel'⟩
def asB : PyData → M Bool | .bool b => pur b | _ => no
def tst (F : M OV) : M Bool := bnd F fun x => asB x.d
/-- a comparison as a test -/
theorem tst_of {f : Fr} {G : Hp} {σ : L2.St} {s : Pst} {F : M OV} {Q : Bool → Hp → Prop} (o : OutT ca f E G σ (tst F s) Q) : Out ca f E G σ (F s) fun x H' => ∃ k, x = .bl k ∧ Q k H' := by
  unfold tst at o
  cases e : F s with
  | ok x s1 =>
    rw [bnd_ok e] at o
    intro v H' G' le rel' ov
    have o' : OutT ca f E G σ (asB x.d s1) Q := o
    cases x with
    | fr d =>
      have ov' : Rq f.T G' v d := ov
      have o'' : OutT ca f E G σ (asB d s1) Q := o'
      cases ov' <;> first | exact o''.elim | skip
      rename_i b
      exact ⟨b, rfl, o'' H' G' le rel'⟩
    | ow l => exact (show False from o').elim
  | err c fs t => rw [bnd_err e] at o; exact o
  | no => rw [bnd_no e] at o; exact o
theorem pt_cmpU {op : CmpOp} {r : R2} {g : PyData → PyData → R1} (ho : OpR X (compareOp op) r) (hs : Sim2 r g) (ha : PU ca E X a Fa) (hb : PU ca E X b Fb) (hm : behindInMarks op b = false) : PTU ca E X (.Compare a [op] [b] pos) (tst (bin g Fa Fb)) :=
  pt_imp (pt_cmpR ho ha hb hm) fun σ H Q ⟨f, G, s, rel, out⟩ => sim_op hs ⟨f, G, s, rel, tst_of out⟩
/-- a test of what is True or False -/
theorem pt_valU (ha : PU ca E X a Fa) (he : ∀ whole, isTrue a X.env whole = (do let v ← whole; standAt a.pos; holding [v] (truthy v)) := by intro _; rfl) : PTU ca E X a (tst Fa) :=
  pt_imp (pt_val ha he) fun σ H Q ⟨f, G, s, rel, out⟩ => ⟨f, G, s, rel, tst_of out⟩
def andT (a b : M Bool) : M Bool := bnd a fun c => if c then b else pur false
def orT (a b : M Bool) : M Bool := bnd a fun c => if c then pur true else b
def notT (a : M Bool) : M Bool := bnd a fun c => pur (!c)
theorem OutT.ret {f : Fr} {G H : Hp} {σ : L2.St} {s : Pst} {k : Bool} {Q : Bool → Hp → Prop} (rel : Rel f G H σ s) (o : OutT ca f E G σ (Pu.pur k s) Q) : Q k H := o H G .refl rel
theorem i_and {σ : L2.St} {H : Hp} {Q : Bool → Hp → Prop} (h : liftT ca E (andT Ft Fu) σ H Q) : tAnd (liftT ca E Ft) (liftT ca E Fu) σ H Q := by
  obtain ⟨f, G, s, rel, out⟩ := h
  refine OutT.bndT rel out fun x s1 H' G' le rel' o => ?_
  cases x with
  | true => rw [if_pos rfl]; exact ⟨f, G', s1, rel', o⟩
  | false => rw [if_neg Bool.false_ne_true]; exact o.ret rel'
theorem i_or {σ : L2.St} {H : Hp} {Q : Bool → Hp → Prop} (h : liftT ca E (orT Ft Fu) σ H Q) : tOr (liftT ca E Ft) (liftT ca E Fu) σ H Q := by
  obtain ⟨f, G, s, rel, out⟩ := h
  refine OutT.bndT rel out fun x s1 H' G' le rel' o => ?_
  cases x with
  | true => rw [if_pos rfl]; exact o.ret rel'
  | false => rw [if_neg Bool.false_ne_true]; exact ⟨f, G', s1, rel', o⟩
theorem pt_notU (ha : PTU ca E X a Ft) : PTU ca E X (.UnaryOp .Not a pos) (notT Ft) := pt_imp (pt_not ha) fun σ H Q ⟨f, G, s, rel, out⟩ => OutT.bndT rel out fun x s1 H' G' le rel' o => o.ret rel'
abbrev PWU (ca : Str → Addr) (E : XK) (X : Cx) (e : Expr) (F : M Bool) : Prop := PW X e (liftT ca E F)
theorem pw_imp {e : Expr} {tt tt' : TT} (h : PW X e tt) (i : ∀ σ H Q, tt' σ H Q → tt σ H Q) : PW X e tt' := ⟨fun wh pins s σ H Q I q => h.run wh pins s σ H Q I (i σ H Q q)⟩
variable {rest : List Expr}
theorem pw_andU (ha : PTU ca E X a Ft) (hb : PWU ca E X (.BoolOp .And (b :: rest) pos) Fu) : PWU ca E X (.BoolOp .And (a :: b :: rest) pos) (andT Ft Fu) := pw_imp (pw_and ha hb) fun _ _ _ h => i_and h
theorem pw_orU (ha : PTU ca E X a Ft) (hb : PWU ca E X (.BoolOp .Or (b :: rest) pos) Fu) : PWU ca E X (.BoolOp .Or (a :: b :: rest) pos) (orT Ft Fu) := pw_imp (pw_or ha hb) fun _ _ _ h => i_or h
/-- as values -/
def andV (a b : M OV) : M OV := bnd a fun x => match truth x.d with | some true => b | some false => pur (.fr x.d) | none => no
def orV (a b : M OV) : M OV := bnd a fun x => match truth x.d with | some true => pur (.fr x.d) | some false => b | none => no
def dNot (x : PyData) : R1 := match truth x with | some k => okB (!k) | none => .no
theorem pu_andV (ha : PU ca E X a Fa) (hb : PU ca E X (.BoolOp .And (b :: rest) pos) Fb) : PU ca E X (.BoolOp .And (a :: b :: rest) pos) (andV Fa Fb) := pe_imp (pe_andT ha hb) fun σ H Q ⟨f, G, s, rel, out⟩ => by
  refine liftG rel out fun x s1 v H1 G1 l1 rel1 ov1 o => ?_
  obtain ⟨G2, l2, rel2, rq⟩ := rel1.frz ov1
  have o := o.le l2
  cases t : truth x.d with
  | none => simp only [t] at o; exact o.elim
  | some k =>
    simp only [t] at o
    refine ⟨k, tru_of (.fr rq) rel2.sub t, ?_⟩
    cases k with
    | true => rw [if_pos rfl]; exact ⟨f, G2, s1, rel2, o⟩
    | false => rw [if_neg Bool.false_ne_true]; exact o v H1 G2 .refl rel2 rq
theorem pu_orV (ha : PU ca E X a Fa) (hb : PU ca E X (.BoolOp .Or (b :: rest) pos) Fb) : PU ca E X (.BoolOp .Or (a :: b :: rest) pos) (orV Fa Fb) := pe_imp (pe_orT ha hb) fun σ H Q ⟨f, G, s, rel, out⟩ => by
  refine liftG rel out fun x s1 v H1 G1 l1 rel1 ov1 o => ?_
  obtain ⟨G2, l2, rel2, rq⟩ := rel1.frz ov1
  have o := o.le l2
  cases t : truth x.d with
  | none => simp only [t] at o; exact o.elim
  | some k =>
    simp only [t] at o
    refine ⟨k, tru_of (.fr rq) rel2.sub t, ?_⟩
    cases k with
    | true => rw [if_pos rfl]; exact o v H1 G2 .refl rel2 rq
    | false => rw [if_neg Bool.false_ne_true]; exact ⟨f, G2, s1, rel2, o⟩
theorem pu_notV {F : M PyData} (ha : PKU ca E X a F) : PU ca E X (.UnaryOp .Not a pos) (un dNot F) := pe_imp (pe_notT ha) fun σ H Q ⟨f, G, s, rel, out⟩ => by
  refine Out.bndP rel out fun x s1 v H' G' le rel' pk o => ?_
  unfold dNot at o
  cases t : truth x with
  | none => simp only [t] at o; exact out_no o
  | some k =>
    simp only [t] at o
    exact ⟨k, tru_of pk rel'.sub t, out_b rel' o⟩
def iteV (c : M Bool) (a b : M OV) : M OV := bnd c fun k => if k then a else b
theorem pu_ife (hc : PTU ca E X c Ft) (ha : PU ca E X a Fa) (hb : PU ca E X b Fb) : PU ca E X (.IfExp c a b pos) (iteV Ft Fa Fb) := pe_imp (pe_ifExp hc ha hb) fun σ H Q ⟨f, G, s, rel, out⟩ => by
  refine Out.bndT rel out fun x s1 H' G' le rel' o => ?_
  cases x with
  | true => rw [if_pos rfl]; exact ⟨f, G', s1, rel', o⟩
  | false => rw [if_neg Bool.false_ne_true]; exact ⟨f, G', s1, rel', o⟩
def chain (g g' : PyData → PyData → R1) (a b c : M OV) : M OV := bnd a fun x => bnd b fun y => bnd (g x.d y.d).m fun k => match k with | .fr (.bool true) => bnd c fun z => (g' y.d z.d).m | .fr (.bool false) => pur (.fr (.bool false)) | _ => no
/-- a comparison's answer is a bool -/
def Bl (g : PyData → PyData → R1) : Prop := ∀ x y, (∃ b, g x y = okB b) ∨ g x y = .no
theorem i_chain {r r' : R2} {g g' : PyData → PyData → R1} (hb : Bl g) (hs : Sim2 r g) (hs' : Sim2 r' g') {σ : L2.St} {H : Hp} {Q : VK} (h : liftE ca E (chain g g' Fa Fb Fc) σ H Q) : tChain r r' (liftE ca E Fa) (liftE ca E Fb) (liftE ca E Fc) σ H Q := by
  obtain ⟨f, G, s, rel, out⟩ := h
  refine liftG rel out fun x s1 v H1 G1 l1 rel1 ov1 out1 => ?_
  obtain ⟨G2, l2, rel2, rq⟩ := rel1.frz ov1
  refine liftG rel2 (out1.le l2) fun y s2 w H3 G3 l3 rel3 ov3 out3 => ?_
  obtain ⟨G4, l4, rel4, rq4⟩ := rel3.frz ov3
  have out4 := out3.le l4
  rcases hb x.d y.d with ⟨k, e⟩ | e
  · have e' : bnd (g x.d y.d).m (fun k => match k with | .fr (.bool true) => bnd Fc fun z => (g' y.d z.d).m | .fr (.bool false) => Pu.pur (.fr (.bool false)) | _ => no) s2 = (match OV.fr (.bool k) with | .fr (.bool true) => bnd Fc fun z => (g' y.d z.d).m | .fr (.bool false) => Pu.pur (.fr (.bool false)) | _ => no : M OV) s2 := by
      rw [e]; rfl
    rw [e'] at out4
    refine hs ca f E G4 H3 σ s2 _ v w x.d y.d rel4 (rq.le (l3.trans l4)) rq4 ?_
    rw [e]
    intro z H5 G5 l5 rel5 r5
    cases (show Rq f.T G5 z (.bool k) from r5)
    refine ⟨k, rfl, ?_⟩
    cases k with
    | true =>
      rw [if_pos rfl]
      refine liftG rel5 (out4.le l5) fun z s6 u H6 G6 l6 rel6 ov6 out6 => ?_
      obtain ⟨G7, l7, rel7, rq7⟩ := rel6.frz ov6
      exact hs' ca f E G7 H6 σ s6 Q w u y.d z.d rel7 (rq4.le (l5.trans (l6.trans l7))) rq7 (out6.le l7)
    | false =>
      rw [if_neg Bool.false_ne_true]
      exact out4 _ H5 G5 l5 rel5 (.bl false)
  · have e' : bnd (g x.d y.d).m (fun k => match k with | .fr (.bool true) => bnd Fc fun z => (g' y.d z.d).m | .fr (.bool false) => Pu.pur (.fr (.bool false)) | _ => no) s2 = .no := by
      rw [e]; rfl
    rw [e'] at out4
    exact out4.elim
theorem pu_chain {op op' : CmpOp} {r r' : R2} {g g' : PyData → PyData → R1} (ho : OpR X (compareOp op) r) (ho' : OpR X (compareOp op') r') (hb : Bl g) (hs : Sim2 r g) (hs' : Sim2 r' g') (ha : PU ca E X a Fa) (hb' : PU ca E X b Fb) (hc : PU ca E X c Fc) (hm : lastMarks [op, op'] [b, c] = false := by with_unfolding_all rfl) :
    PU ca E X (.Compare a [op, op'] [b, c] pos) (chain g g' Fa Fb Fc) := pe_imp (pe_chain ho ho' ha hb' hc hm) fun _ _ _ h => i_chain hb hs hs' h
theorem bl_le : Bl dLe := fun x y => by cases x <;> cases y <;> first | exact .inr rfl | exact .inl ⟨_, rfl⟩
theorem bl_lt : Bl dLt := fun x y => by cases x <;> cases y <;> first | exact .inr rfl | exact .inl ⟨_, rfl⟩
/-! ### rows of expressions; tuples, lists -/
def nilF : M (List PyData) := pur []
def consF (a : M OV) (r : M (List PyData)) : M (List PyData) := bnd a fun x => bnd r fun l => pur (x.d :: l)
theorem OutA.bndE {f : Fr} {G H : Hp} {σ : L2.St} {s : Pst} {F : M OV} {k : OV → M (List PyData)} {Q : List V → Hp → Prop} {R : V → Hp → Prop} (rel : Rel f G H σ s) (out : OutA ca f E G σ (bnd F k s) Q)
    (h : ∀ x s1 v H' G', Le G G' → Rel f G' H' σ s1 → OVOk f G' H' σ s1 v x → OutA ca f E G' σ (k x s1) Q → R v H') : liftE ca E F σ H R := by
  refine ⟨f, G, s, rel, ?_⟩
  cases e : F s with
  | ok x s1 =>
    rw [bnd_ok e] at out
    exact fun v H' G' le rel' pk => h x s1 v H' G' le rel' pk (out.le le)
  | err c fs t => rw [bnd_err e] at out; exact out
  | no => rw [bnd_no e] at out; exact out
theorem OutA.bndA {f : Fr} {G H : Hp} {σ : L2.St} {s : Pst} {F : M (List PyData)} {k : List PyData → M (List PyData)} {Q R : List V → Hp → Prop} (rel : Rel f G H σ s) (out : OutA ca f E G σ (bnd F k s) Q)
    (h : ∀ x s1 v H' G', Le G G' → Rel f G' H' σ s1 → RqAll f.T G' v x → OutA ca f E G' σ (k x s1) Q → R v H') : liftA ca E F σ H R := by
  refine ⟨f, G, s, rel, ?_⟩
  cases e : F s with
  | ok x s1 =>
    rw [bnd_ok e] at out
    exact fun v H' G' le rel' pk => h x s1 v H' G' le rel' pk (out.le le)
  | err c fs t => rw [bnd_err e] at out; exact out
  | no => rw [bnd_no e] at out; exact out
theorem Out.bndA {f : Fr} {G H : Hp} {σ : L2.St} {s : Pst} {F : M (List PyData)} {k : List PyData → M OV} {Q : VK} {R : List V → Hp → Prop} (rel : Rel f G H σ s) (out : Out ca f E G σ (bnd F k s) Q)
    (h : ∀ x s1 v H' G', Le G G' → Rel f G' H' σ s1 → RqAll f.T G' v x → Out ca f E G' σ (k x s1) Q → R v H') : liftA ca E F σ H R := by
  refine ⟨f, G, s, rel, ?_⟩
  cases e : F s with
  | ok x s1 =>
    rw [bnd_ok e] at out
    exact fun v H' G' le rel' pk => h x s1 v H' G' le rel' pk (out.le le)
  | err c fs t => rw [bnd_err e] at out; exact out
  | no => rw [bnd_no e] at out; exact out
theorem pus_nil : PUs ca E X [] nilF := pa_imp pa_nil fun σ H Q ⟨f, G, s, rel, out⟩ => out [] H G .refl rel .nil
theorem pus_cons {es : List Expr} {Fr' : M (List PyData)} (ha : PU ca E X e Fa) (hr : PUs ca E X es Fr') (hs : starEach (e :: es) X.env = (false, eval e X.env) :: starEach es X.env := by rfl) : PUs ca E X (e :: es) (consF Fa Fr') := pa_imp (pa_cons ha hr hs) fun σ H Q ⟨f, G, s, rel, out⟩ => by
  refine OutA.bndE rel out fun x s1 v H1 G1 l1 rel1 ov1 out1 => ?_
  obtain ⟨G2, l2, rel2, rq⟩ := rel1.frz ov1
  refine OutA.bndA rel2 (out1.le l2) fun y s2 w H3 G3 l3 rel3 ov3 out3 => ?_
  exact out3 (v :: w) H3 G3 .refl rel3 (.cons (rq.le l3) ov3)
def mkT (Fs : M (List PyData)) : M OV := bnd Fs fun l => (fit l.length (.ok (.fr (.tuple l)))).m
def mkL (Fs : M (List PyData)) : M OV := bnd Fs fun l => (fit l.length (.ok (.ow l))).m
theorem pu_tup {es : List Expr} {x1} {Fs : M (List PyData)} (h : PUs ca E X es Fs) : PU ca E X (.Tuple es x1 pos) (mkT Fs) := pe_imp (pe_tup h) fun σ H Q ⟨f, G, s, rel, out⟩ => by
  refine Out.bndA rel out fun l s1 vs H1 G1 l1 rel1 ra o => ?_
  obtain ⟨hl, o⟩ := out_fit o
  exact ⟨by rw [ra.len]; exact lim_line hl, out_tup rel1 ra hl o⟩
theorem pu_lst {es : List Expr} {Fs : M (List PyData)} (h : PUs ca E X es Fs) : PU ca E X (.List es pos) (mkL Fs) := pe_imp (pe_lst h) fun σ H Q ⟨f, G, s, rel, out⟩ => by
  refine Out.bndA rel out fun l s1 vs H1 G1 l1 rel1 ra o => ?_
  obtain ⟨hl, o⟩ := out_fit o
  exact ⟨by rw [ra.len]; exact lim_line hl, out_lst rel1 ra hl o⟩
/-! ### slices -/
def OutO (ca : Str → Addr) (f : Fr) (E : XK) (G : Hp) (σ : L2.St) (r : Rs (Option Int)) (Q : Option Int → Hp → Prop) : Prop := match r with
  | .ok x s => ∀ H' G', Le G G' → Rel f G' H' σ s → Q x H'
  | .err c fs t => OutX ca f E c fs t
  | .no => False
def liftO (ca : Str → Addr) (E : XK) (F : M (Option Int)) : TO := fun σ H Q => ∃ f G s, Rel f G H σ s ∧ OutO ca f E G σ (F s) Q
abbrev POU (ca : Str → Addr) (E : XK) (X : Cx) (e : Option Expr) (F : M (Option Int)) : Prop := PO X e (liftO ca E F)
theorem po_imp {e : Option Expr} {tt tt' : TO} (h : PO X e tt) (i : ∀ σ H Q, tt' σ H Q → tt σ H Q) : PO X e tt' := ⟨fun pins s σ H Q I q => h.run pins s σ H Q I (i σ H Q q)⟩
def noPart : M (Option Int) := pur none
def asI : PyData → M (Option Int) | .int i => pur (some i) | _ => no
def part (F : M OV) : M (Option Int) := bnd F fun x => asI x.d
theorem po_noneU : POU ca E X none noPart := po_imp po_none fun σ H Q ⟨f, G, s, rel, out⟩ => out H G .refl rel
theorem po_someU (h : PU ca E X e Fa) : POU ca E X (some e) (part Fa) := po_imp (po_some h) fun σ H Q ⟨f, G, s, rel, out⟩ => by
  refine ⟨f, G, s, rel, ?_⟩
  unfold part at out
  cases e1 : Fa s with
  | ok x s1 =>
    rw [bnd_ok e1] at out
    intro v H' G' le rel' ov
    cases x with
    | fr d =>
      have ov' : Rq f.T G' v d := ov
      have o' : OutO ca f E G σ (asI d s1) Q := out
      cases ov' <;> first | exact o'.elim | skip
      rename_i i
      exact ⟨i, rfl, o' H' G' le rel'⟩
    | ow l => exact (show False from out).elim
  | err c fs t => rw [bnd_err e1] at out; exact out
  | no => rw [bnd_no e1] at out; exact out
def cutD {α : Type} (xs : List α) (lo hi : Option Int) : List α := (xs.drop (HT.sIx xs.length 0 lo)).take (HT.sIx xs.length xs.length hi - HT.sIx xs.length 0 lo)
theorem cutD_len {α : Type} (xs : List α) (lo hi : Option Int) : (cutD xs lo hi).length ≤ xs.length := by
  unfold cutD
  rw [List.length_take, List.length_drop]
  omega
theorem cut_of {T : Addr} {G : Hp} {vs : List V} {ds : List PyData} {lo hi : Option Int} (r : RqAll T G vs ds) : RqAll T G (cutV vs lo hi) (cutD ds lo hi) := by
  unfold cutV cutD
  rw [r.len]
  exact (r.drop _).take _
def dSl (x : PyData) (lo hi : Option Int) : R1 := match x with
  | .list l => .ok (.ow (cutD l lo hi))
  | .tuple l => .ok (.fr (.tuple (cutD l lo hi)))
  | .str z => if z.length ≤ lim then .ok (.fr (.str (cutS z lo hi))) else .no
  | _ => .no
def rSlD (K : PySem.W.Frag) : V → Option Int → Option Int → Hp → VK → Prop := fun x lo hi H Q => rSlL K x lo hi H Q ∨ (rSlA K x lo hi H Q ∨ rSlS x lo hi H Q)
theorem sl_D : SlR X (rSlD X.K) := SlR.or sl_list (SlR.or sl_tupA sl_str)
theorem sim_sl {K : PySem.W.Frag} {f : Fr} {G H : Hp} {σ : L2.St} {s : Pst} {Q : VK} {v : V} {x : PyData} {lo hi : Option Int} (rel : Rel f G H σ s) (pk : Pk f.T G H v x) (o : Out ca f E G σ ((dSl x lo hi).m s) Q) : rSlD K v lo hi H Q := by
  cases x <;> first | exact out_no o | skip
  case list l =>
    obtain ⟨p, vs, rfl, hp, ra, hl⟩ := pk.list rel.sub
    exact .inl ⟨p, vs, rfl, SqL.of hp, out_lst rel (cut_of ra) (Nat.le_trans (cutD_len _ _ _) hl) o⟩
  case tuple l =>
    have r := pk.tuple
    cases r with
    | tup e1 r1 l1 =>
      rename_i p vs
      refine .inr (.inl ⟨p, vs, rfl, SqT.of (rel.sub _ _ e1), fun h => ?_, fun _ => out_tup rel (cut_of r1) (Nat.le_trans (cutD_len _ _ _) l1) o⟩)
      have e : cutD l lo hi = l := by
        unfold cutD
        rw [← r1.len, h.1, h.2, List.drop_zero, Nat.sub_zero, r1.len, List.take_length]
      rw [show dSl (.tuple l) lo hi = .ok (.fr (.tuple (cutD l lo hi))) from rfl, e] at o
      exact out_same rel (.tup e1 r1 l1) o
  case str z =>
    cases pk with
    | fr r =>
      cases r
      obtain ⟨hz, o⟩ := out_if o
      exact .inr (.inr ⟨z, rfl, lim_line hz, out_s rel o⟩)
def slc (Fa : M OV) (Fl Fh : M (Option Int)) : M OV := bnd Fa fun x => bnd Fl fun l => bnd Fh fun h => (dSl x.d l h).m
def slcv (i : Nat) (Fl Fh : M (Option Int)) : M OV := fun s => match sl s i with
  | .un => .no
  | _ => bnd Fl (fun l => bnd Fh fun h s2 => match sl s2 i with
    | .fr d => (dSl d l h).m s2
    | .ow d => (dSl (.list d) l h).m s2
    | .un => .no) s
theorem Out.bndO {f : Fr} {G H : Hp} {σ : L2.St} {s : Pst} {F : M (Option Int)} {k : Option Int → M OV} {Q : VK} {R : Option Int → Hp → Prop} (rel : Rel f G H σ s) (out : Out ca f E G σ (bnd F k s) Q)
    (h : ∀ x s1 H' G', Le G G' → Rel f G' H' σ s1 → Out ca f E G' σ (k x s1) Q → R x H') : liftO ca E F σ H R := by
  refine ⟨f, G, s, rel, ?_⟩
  cases e : F s with
  | ok x s1 =>
    rw [bnd_ok e] at out
    exact fun H' G' le rel' => h x s1 H' G' le rel' (out.le le)
  | err c fs t => rw [bnd_err e] at out; exact out
  | no => rw [bnd_no e] at out; exact out
variable {lo hi : Option Expr} {Fl Fh : M (Option Int)} {p2 : Pos}
theorem pu_slice (ha : PU ca E X a Fa) (hl : POU ca E X lo Fl) (hu : POU ca E X hi Fh) : PU ca E X (.Subscript a (.Slice lo hi none p2) pos) (slc Fa Fl Fh) := pe_imp (pe_slice sl_D ha hl hu) fun σ H Q ⟨f, G, s, rel, out⟩ => by
  refine liftG rel out fun x s1 v H1 G1 l1 rel1 ov1 out1 => ?_
  obtain ⟨G2, l2, rel2, rq⟩ := rel1.frz ov1
  refine Out.bndO rel2 (out1.le l2) fun l s3 H3 G3 l3 rel3 out3 => ?_
  refine Out.bndO rel3 out3 fun h s4 H4 G4 l4 rel4 out4 => ?_
  exact sim_sl rel4 (.fr (rq.le (l3.trans l4))) out4
theorem pu_slicev {i : Nat} (ha : PE X a (tVar i)) (hl : POU ca E X lo Fl) (hu : POU ca E X hi Fh) : PU ca E X (.Subscript a (.Slice lo hi none p2) pos) (slcv i Fl Fh) := pe_imp (pe_slice sl_D ha hl hu) fun σ H Q ⟨f, G, s, rel, out⟩ => by
  unfold slcv at out
  have ne : sl s i ≠ .un := fun z => by rw [z] at out; exact out
  obtain ⟨v, hv, _⟩ := rel.look ne
  refine ⟨v, hv, ?_⟩
  have out' : Out ca f E G σ (bnd Fl (fun l => bnd Fh fun h s2 => match sl s2 i with | .fr d => (dSl d l h).m s2 | .ow d => (dSl (.list d) l h).m s2 | .un => .no) s) Q := by
    revert out
    split
    · exact fun z => z.elim
    · exact id
  refine Out.bndO rel out' fun l s3 H3 G3 l3 rel3 out3 => ?_
  refine Out.bndO rel3 out3 fun h s4 H4 G4 l4 rel4 o => ?_
  have ne2 : sl s4 i ≠ .un := fun z => by rw [z] at o; exact o
  obtain ⟨v', hv', hd⟩ := rel4.look ne2
  rw [hv] at hv'
  cases hv'
  rcases hd with ⟨d, e, r⟩ | ⟨l', p, vs, e, rfl, hp, ra, hl⟩
  · rw [e] at o
    exact sim_sl rel4 (.fr r) o
  · rw [e] at o
    exact sim_sl rel4 (.ow hp ra hl) o
/-! ### isinstance -/
def kindIs (n : String) : PyData → Bool
  | .int _ => n == "int"
  | .bool _ => n == "int" || n == "bool"
  | .str _ => n == "str"
  | .list _ => n == "list"
  | .tuple _ => n == "tuple"
  | _ => false
def dIsi (n : String) (x : PyData) : R1 := match x with | .dict _ => .no | x => okB (kindIs n x)
theorem isi_of {K : PySem.W.Frag} {n : String} (k1 : PySem.W.kitOne K (.type "NoneType") (.type n) = some (kindIs n .none)) (k2 : ∀ b, PySem.W.kitOne K (.type "bool") (.type n) = some (kindIs n (.bool b))) (k3 : ∀ i, PySem.W.kitOne K (.type "int") (.type n) = some (kindIs n (.int i)))
    (k4 : ∀ z, PySem.W.kitOne K (.type "str") (.type n) = some (kindIs n (.str z))) (k5 : ∀ l, PySem.W.kitOne K (.type "list") (.type n) = some (kindIs n (.list l))) (k6 : ∀ l, PySem.W.kitOne K (.type "tuple") (.type n) = some (kindIs n (.tuple l)))
    : Sim1 (fun v => rIsi K [v, .ty n]) (dIsi n) := by
  intro ca f E G H σ s Q v x rel rx o
  cases x with
  | none => cases rx with | fr r => cases r; exact ⟨_, _, _, _, _, rfl, ClsV.ty _, TyX.base TyOf.non, k1, out_b rel o⟩
  | bool b => cases rx with | fr r => cases r; exact ⟨_, _, _, _, _, rfl, ClsV.ty _, TyX.base (TyOf.bl _), k2 b, out_b rel o⟩
  | int b => cases rx with | fr r => cases r; exact ⟨_, _, _, _, _, rfl, ClsV.ty _, TyX.base (TyOf.int _), k3 b, out_b rel o⟩
  | str b => cases rx with | fr r => cases r; exact ⟨_, _, _, _, _, rfl, ClsV.ty _, TyX.base (TyOf.str _), k4 b, out_b rel o⟩
  | list l =>
    obtain ⟨p, vs, rfl, hp, ra, hl⟩ := rx.list rel.sub
    exact ⟨_, _, _, _, _, rfl, ClsV.ty _, TyX.base (TyOf.lst hp), k5 l, out_b rel o⟩
  | tuple l =>
    have r := rx.tuple
    cases r with
    | tup e1 r1 l1 => exact ⟨_, _, _, _, _, rfl, ClsV.ty _, TyX.base (TyOf.tup (rel.sub _ _ e1)), k6 l, out_b rel o⟩
  | dict l => exact out_no o
theorem sim_isi_int {K : PySem.W.Frag} : Sim1 (fun v => rIsi K [v, .ty "int"]) (dIsi "int") := isi_of (kit_ty (r := false) (by decide +kernel)) (fun _ => kit_ty (r := true) (by decide +kernel)) (fun _ => kit_ty (r := true) (by decide +kernel)) (fun _ => kit_ty (r := false) (by decide +kernel)) (fun _ => kit_ty (r := false) (by decide +kernel)) (fun _ => kit_ty (r := false) (by decide +kernel))
theorem sim_isi_bool {K : PySem.W.Frag} : Sim1 (fun v => rIsi K [v, .ty "bool"]) (dIsi "bool") := isi_of (kit_ty (r := false) (by decide +kernel)) (fun _ => kit_ty (r := true) (by decide +kernel)) (fun _ => kit_ty (r := false) (by decide +kernel)) (fun _ => kit_ty (r := false) (by decide +kernel)) (fun _ => kit_ty (r := false) (by decide +kernel)) (fun _ => kit_ty (r := false) (by decide +kernel))
theorem sim_isi_str {K : PySem.W.Frag} : Sim1 (fun v => rIsi K [v, .ty "str"]) (dIsi "str") := isi_of (kit_ty (r := false) (by decide +kernel)) (fun _ => kit_ty (r := false) (by decide +kernel)) (fun _ => kit_ty (r := false) (by decide +kernel)) (fun _ => kit_ty (r := true) (by decide +kernel)) (fun _ => kit_ty (r := false) (by decide +kernel)) (fun _ => kit_ty (r := false) (by decide +kernel))
theorem sim_isi_list {K : PySem.W.Frag} : Sim1 (fun v => rIsi K [v, .ty "list"]) (dIsi "list") := isi_of (kit_ty (r := false) (by decide +kernel)) (fun _ => kit_ty (r := false) (by decide +kernel)) (fun _ => kit_ty (r := false) (by decide +kernel)) (fun _ => kit_ty (r := false) (by decide +kernel)) (fun _ => kit_ty (r := true) (by decide +kernel)) (fun _ => kit_ty (r := false) (by decide +kernel))
theorem sim_isi_tuple {K : PySem.W.Frag} : Sim1 (fun v => rIsi K [v, .ty "tuple"]) (dIsi "tuple") := isi_of (kit_ty (r := false) (by decide +kernel)) (fun _ => kit_ty (r := false) (by decide +kernel)) (fun _ => kit_ty (r := false) (by decide +kernel)) (fun _ => kit_ty (r := false) (by decide +kernel)) (fun _ => kit_ty (r := false) (by decide +kernel)) (fun _ => kit_ty (r := true) (by decide +kernel))
theorem pu_isi {n : String} {F : M PyData} (hs : Sim1 (fun v => rIsi X.K [v, .ty n]) (dIsi n)) (h : PE X e (tCB (rIsi X.K) (tCons (liftP ca E F) (tCons (tC (.ty n)) tNil)))) : PU ca E X e (un (dIsi n) F) := pe_imp h fun _ _ _ z => sim_un hs z
end
end Pu
end SecU3
section SecU4
set_option Elab.async false
set_option linter.all false
set_option maxRecDepth 100000
set_option maxHeartbeats 4000000
namespace Pu
open PySem PySem.Spec PyProof.Rows L2 Err
/-! ### what is walked -/
section
variable {ca : Str → Addr} {E : XK} {X : Cx} {a b c e tg : Expr} {pos : Pos} {Fa Fb Fc : M OV} {Ft Fu : M Bool}
def WalkOk (J : It) (ds : List PyData) (T : Addr) (G0 : Hp) : Prop := ∀ (f : Fr) (i : Nat) (G H : Hp) (σ : L2.St) (s : Pst), f.T = T → Le G0 G → Rel f G H σ s →
  (i < ds.length → J.go i H ∧ ∀ x H', J.yld i H x H' → ∃ G' d, Le G G' ∧ Rel f G' H' σ s ∧ ds[i]? = some d ∧ Rq T G' x d) ∧ (i = ds.length → J.stop i H)
theorem WalkOk.le {J : It} {ds : List PyData} {T : Addr} {G G' : Hp} (w : WalkOk J ds T G) (l : Le G G') : WalkOk J ds T G' := fun f i G1 H σ s e l1 rel => w f i G1 H σ s e (l.trans l1) rel
def OutI (ca : Str → Addr) (f : Fr) (E : XK) (G : Hp) (σ : L2.St) (r : Rs (List PyData)) (R : It → Hp → Prop) : Prop := match r with
  | .ok ds s => ∀ J H' G', Le G G' → Rel f G' H' σ s → WalkOk J ds f.T G' → R J H'
  | .err c fs t => OutX ca f E c fs t
  | .no => False
def liftI (ca : Str → Addr) (E : XK) (F : M (List PyData)) : TI := fun σ H R => ∃ f G s, Rel f G H σ s ∧ OutI ca f E G σ (F s) R
abbrev PIU (ca : Str → Addr) (E : XK) (X : Cx) (tg e : Expr) (F : M (List PyData)) : Prop := PI X tg e (liftI ca E F)
theorem pi_imp {w w' : TI} (h : PI X tg e w) (i : ∀ σ H R, w' σ H R → w σ H R) : PI X tg e w' := ⟨fun pins s σ H Q I q => h.run pins s σ H Q I (i σ H Q q)⟩
theorem OutI.le {f : Fr} {G G' : Hp} {σ : L2.St} {r : Rs (List PyData)} {R : It → Hp → Prop} (h : OutI ca f E G σ r R) (l : Le G G') : OutI ca f E G' σ r R := by
  cases r with
  | ok x s => exact fun v H' G'' l' rel ov => h v H' G'' (l.trans l') rel ov
  | err c fs t => exact h
  | no => exact h
theorem walk_lst {T p : Addr} {K : PySem.W.Frag} {G : Hp} {vs : List V} {ds : List PyData} (e : G p = some (.lst vs)) (ra : RqAll T G vs ds) : WalkOk (Itl K p) ds T G := fun f i G1 H σ s eT l rel => by
  have h : SqL K H p vs := SqL.of (rel.sub _ _ (l _ _ e))
  refine ⟨fun hi => ?_, fun hi => ⟨vs, h, by rw [ra.len]; omega⟩⟩
  obtain ⟨v, h1, h2⟩ := ra.get (List.getElem?_eq_getElem hi)
  refine ⟨⟨vs, v, h, h1⟩, fun x H' ⟨e1, e2⟩ => ?_⟩
  subst e1
  have e3 := e2 vs h
  rw [h1] at e3
  cases e3
  exact ⟨G1, _, .refl, rel, List.getElem?_eq_getElem hi, h2.le l⟩
theorem walk_tupl {T p : Addr} {K : PySem.W.Frag} {G : Hp} {vs : List V} {ds : List PyData} (e : G p = some (.tup vs)) (ra : RqAll T G vs ds) : WalkOk (Itt K p) ds T G := fun f i G1 H σ s eT l rel => by
  have h : SqT K H p vs := SqT.of (rel.sub _ _ (l _ _ e))
  refine ⟨fun hi => ?_, fun hi => ⟨vs, h, by rw [ra.len]; omega⟩⟩
  obtain ⟨v, h1, h2⟩ := ra.get (List.getElem?_eq_getElem hi)
  refine ⟨⟨vs, v, h, h1⟩, fun x H' ⟨e1, e2⟩ => ?_⟩
  subst e1
  have e3 := e2 vs h
  rw [h1] at e3
  cases e3
  exact ⟨G1, _, .refl, rel, List.getElem?_eq_getElem hi, h2.le l⟩
def signs (z : Str) : List PyData := z.cps.toList.map fun c => .str ⟨#[c]⟩
theorem walk_txt {T : Addr} {G : Hp} {z : Str} : WalkOk (Its z) (signs z) T G := fun f i G1 H σ s eT l rel => by
  have hl : (signs z).length = z.cps.size := by unfold signs; rw [List.length_map, Array.length_toList]
  refine ⟨fun hi => ?_, fun hi => by show z.cps.size ≤ i; omega⟩
  refine ⟨by show i < z.cps.size; omega, fun x H' ⟨e1, c, e2, e3⟩ => ?_⟩
  subst e1
  subst e3
  refine ⟨G1, .str ⟨#[c]⟩, .refl, rel, ?_, .str _⟩
  unfold signs
  rw [List.getElem?_map, Array.getElem?_toList, e2]
  rfl
def rangeL (lo : Int) (n : Nat) : List PyData := (List.range n).map fun k => .int (lo + (k : Nat))
theorem walk_rng {T : Addr} {G : Hp} {lo : Int} {n : Nat} : WalkOk (Itr lo n) (rangeL lo n) T G := fun f i G1 H σ s eT l rel => by
  have hl : (rangeL lo n).length = n := by unfold rangeL; rw [List.length_map, List.length_range]
  refine ⟨fun hi => ?_, fun hi => by show n ≤ i; omega⟩
  refine ⟨by show i < n; omega, fun x H' ⟨e1, e2⟩ => ?_⟩
  subst e1
  subst e2
  refine ⟨G1, .int (lo + (i : Nat)), .refl, rel, ?_, .int _⟩
  unfold rangeL
  rw [List.getElem?_map, List.getElem?_range (by omega)]
  rfl
def asL : PyData → M (List PyData) | .list l => pur l | .tuple l => pur l | .str z => pur (signs z) | _ => no
def itF (F : M OV) : M (List PyData) := bnd F fun x => asL x.d
theorem pi_any (h : PU ca E X e Fa) : PIU ca E X tg e (itF Fa) := pi_imp (Dt.pi_or (Dt.pi_or (pi_list h) (pi_tup h)) (pi_str h)) fun σ H R ⟨f, G, s, rel, out⟩ => by
  unfold itF at out
  cases e1 : Fa s with
  | err c fs t =>
    rw [bnd_err e1] at out
    exact .inr ⟨f, G, s, rel, by rw [e1]; exact out⟩
  | no => rw [bnd_no e1] at out; exact out.elim
  | ok x s1 =>
    rw [bnd_ok e1] at out
    have go : ∀ {P : V → Hp → Prop}, (∀ v H' G', Le G G' → Rel f G' H' σ s1 → Rq f.T G' v x.d → OutI ca f E G' σ (asL x.d s1) R → P v H') → liftE ca E Fa σ H P := fun k => ⟨f, G, s, rel, by
      rw [e1]
      intro v H' G' le rel' ov
      obtain ⟨G2, l2, rel2, rq⟩ := rel'.frz ov
      exact k v H' G2 (le.trans l2) rel2 rq (OutI.le out (le.trans l2))⟩
    generalize x.d = d at go
    cases d with
    | list l =>
      refine .inl (.inl (go fun v H' G' le rel' rq o => ?_))
      cases rq with
      | lst e2 ra hl => exact ⟨_, rfl, ⟨_, SqL.of (rel'.sub _ _ e2)⟩, o _ H' G' .refl rel' (walk_lst e2 ra)⟩
    | tuple l =>
      refine .inl (.inr (go fun v H' G' le rel' rq o => ?_))
      cases rq with
      | tup e2 ra hl => exact ⟨_, rfl, ⟨_, SqT.of (rel'.sub _ _ e2)⟩, o _ H' G' .refl rel' (walk_tupl e2 ra)⟩
    | str z =>
      refine .inr (go fun v H' G' le rel' rq o => ?_)
      cases rq with
      | str => exact ⟨z, rfl, o _ H' G' .refl rel' walk_txt⟩
    | _ => exact .inr (go fun v H' G' le rel' rq o => (show False from o).elim)
theorem OutI.bndA {f : Fr} {G H : Hp} {σ : L2.St} {s : Pst} {F : M (List PyData)} {k : List PyData → M (List PyData)} {Q : It → Hp → Prop} {R : List V → Hp → Prop} (rel : Rel f G H σ s) (out : OutI ca f E G σ (bnd F k s) Q)
    (h : ∀ x s1 v H' G', Le G G' → Rel f G' H' σ s1 → RqAll f.T G' v x → OutI ca f E G' σ (k x s1) Q → R v H') : liftA ca E F σ H R := by
  refine ⟨f, G, s, rel, ?_⟩
  cases e : F s with
  | ok x s1 =>
    rw [bnd_ok e] at out
    exact fun v H' G' le rel' pk => h x s1 v H' G' le rel' pk (out.le le)
  | err c fs t => rw [bnd_err e] at out; exact out
  | no => rw [bnd_no e] at out; exact out
theorem OutI.bndE {f : Fr} {G H : Hp} {σ : L2.St} {s : Pst} {F : M OV} {k : OV → M (List PyData)} {Q : It → Hp → Prop} {R : V → Hp → Prop} (rel : Rel f G H σ s) (out : OutI ca f E G σ (bnd F k s) Q)
    (h : ∀ x s1 v H' G', Le G G' → Rel f G' H' σ s1 → Rq f.T G' v x.d → OutI ca f E G' σ (k x s1) Q → R v H') : liftE ca E F σ H R := by
  refine ⟨f, G, s, rel, ?_⟩
  cases e : F s with
  | ok x s1 =>
    rw [bnd_ok e] at out
    intro v H' G' le rel' ov
    obtain ⟨G2, l2, rel2, rq⟩ := rel'.frz ov
    exact h x s1 v H' G2 (le.trans l2) rel2 rq (out.le (le.trans l2))
  | err c fs t => rw [bnd_err e] at out; exact out
  | no => rw [bnd_no e] at out; exact out
def rng1 : List PyData → M (List PyData)
  | [.int j] => if -(2 ^ 62) ≤ j ∧ j < 2 ^ 62 then pur (rangeL 0 j.toNat) else no
  | _ => no
def rng2 : List PyData → M (List PyData)
  | [.int i, .int j] => if -(2 ^ 62) ≤ i ∧ i < 2 ^ 62 ∧ -(2 ^ 62) ≤ j ∧ j < 2 ^ 62 then pur (rangeL i (j - i).toNat) else no
  | _ => no
theorem outI_if {f : Fr} {G : Hp} {σ : L2.St} {s : Pst} {R : It → Hp → Prop} {c : Prop} [Decidable c] {r : M (List PyData)} (o : OutI ca f E G σ ((if c then r else no) s) R) : c ∧ OutI ca f E G σ (r s) R := by
  split at o
  · exact ⟨by assumption, o⟩
  · exact (show False from o).elim
theorem rng1_to {Fs : M (List PyData)} {σ : L2.St} {H : Hp} {R : It → Hp → Prop} (z : liftI ca E (bnd Fs rng1) σ H R) : iRng1 (liftA ca E Fs) σ H R := by
  obtain ⟨f, G, s, rel, out⟩ := z
  refine OutI.bndA rel out fun x s1 v H' G' le rel' ra o => ?_
  match x, ra, o with
  | [.int j], ra, o =>
    obtain ⟨hc, o⟩ := outI_if o
    cases ra with
    | cons r1 r2 =>
      cases r1
      cases r2
      exact ⟨j, rfl, hc.1, hc.2, o _ H' G' .refl rel' walk_rng⟩
  | [], _, o => exact (show False from o).elim
  | [.none], _, o => exact (show False from o).elim
  | [.bool _], _, o => exact (show False from o).elim
  | [.str _], _, o => exact (show False from o).elim
  | [.list _], _, o => exact (show False from o).elim
  | [.tuple _], _, o => exact (show False from o).elim
  | [.dict _], _, o => exact (show False from o).elim
  | _ :: _ :: _, _, o => exact (show False from by simpa [rng1, OutI, no] using o).elim
theorem pi_rng1 {Fs : M (List PyData)} (h : PI X tg e (iRng1 (liftA ca E Fs))) : PIU ca E X tg e (bnd Fs rng1) := pi_imp h fun _ _ _ z => rng1_to z
theorem rng2_iff {l : List PyData} {s : Pst} : (∃ i j, l = [.int i, .int j]) ∨ rng2 l s = .no := by
  match l with
  | [.int i, .int j] => exact .inl ⟨i, j, rfl⟩
  | [] => exact .inr rfl
  | [x] => cases x <;> exact .inr rfl
  | x :: y :: z :: r => cases x <;> cases y <;> exact .inr rfl
  | [.int _, .none] | [.int _, .bool _] | [.int _, .str _] | [.int _, .list _] | [.int _, .tuple _] | [.int _, .dict _] => exact .inr rfl
  | [.none, _] | [.bool _, _] | [.str _, _] | [.list _, _] | [.tuple _, _] | [.dict _, _] => exact .inr rfl
theorem pi_rng2 {Fs : M (List PyData)} (h : PI X tg e (iRng2 (liftA ca E Fs))) : PIU ca E X tg e (bnd Fs rng2) := pi_imp h fun σ H R ⟨f, G, s, rel, out⟩ => by
  refine OutI.bndA rel out fun x s1 v H' G' le rel' ra o => ?_
  rcases rng2_iff (l := x) (s := s1) with ⟨i, j, rfl⟩ | z
  · obtain ⟨hc, o⟩ := outI_if o
    cases ra with
    | cons r1 r2 =>
      cases r1
      cases r2 with
      | cons r3 r4 =>
        cases r3
        cases r4
        exact ⟨i, j, rfl, hc, o _ H' G' .refl rel' walk_rng⟩
  · rw [z] at o; exact o.elim
/-- zip of two lists, of two tuples -/
def zipD (xs ys : List PyData) : List PyData := (xs.zip ys).map fun p => .tuple [p.1, p.2]
def zip2 : List PyData → M (List PyData)
  | [.list a, .list b] => pur (zipD a b)
  | [.tuple a, .tuple b] => pur (zipD a b)
  | _ => no
theorem zipD_at {xs ys : List PyData} {i : Nat} (hx : i < xs.length) (hy : i < ys.length) : (zipD xs ys)[i]? = some (.tuple [xs[i], ys[i]]) := by
  unfold zipD
  rw [List.getElem?_map, (List.getElem?_zip_eq_some (z := (xs[i], ys[i]))).mpr ⟨List.getElem?_eq_getElem hx, List.getElem?_eq_getElem hy⟩]
  rfl
theorem zipD_len {xs ys : List PyData} : (zipD xs ys).length = min xs.length ys.length := by unfold zipD; rw [List.length_map, List.length_zip]
theorem pair_step {f : Fr} {G H : Hp} {σ : L2.St} {s : Pst} {T : Addr} {x y : V} {d e : PyData} (rel : Rel f G H σ s) (n : H T = none) (r1 : Rq f.T G x d) (r2 : Rq f.T G y e) :
    Le G (upd G T (.tup [x, y])) ∧ Rel f (upd G T (.tup [x, y])) (upd H T (.tup [x, y])) σ s ∧ Rq f.T (upd G T (.tup [x, y])) (.ref T) (.tuple [d, e]) := by
  have l := le_upd (o := .tup [x, y]) (rel.gn n)
  exact ⟨l, rel.alloc n, .tup upd_same (.cons (r1.le l) (.cons (r2.le l) .nil)) (by show 2 ≤ lim; decide)⟩
theorem walk_zipL {T a b : Addr} {K : PySem.W.Frag} {G : Hp} {xs ys : List V} {ds es : List PyData} (e1 : G a = some (.lst xs)) (r1 : RqAll T G xs ds) (e2 : G b = some (.lst ys)) (r2 : RqAll T G ys es) : WalkOk (Itz K a b) (zipD ds es) T G := fun f i G1 H σ s eT l rel => by
  have h1 : SqL K H a xs := SqL.of (rel.sub _ _ (l _ _ e1))
  have h2 : SqL K H b ys := SqL.of (rel.sub _ _ (l _ _ e2))
  have w := walk_zip (K := K) (a := a) (b := b) (xs := xs) (ys := ys) (n := min xs.length ys.length) rfl
  have hl : (zipD ds es).length = min xs.length ys.length := by rw [zipD_len, r1.len, r2.len]
  refine ⟨fun hi => ?_, fun hi => by rw [hi, hl]; exact w.stops H ⟨h1, h2⟩⟩
  have hi1 : i < ds.length := by rw [zipD_len] at hi; omega
  have hi2 : i < es.length := by rw [zipD_len] at hi; omega
  rw [hl] at hi
  refine ⟨w.goes i H hi ⟨h1, h2⟩, fun x H' y => ?_⟩
  obtain ⟨T', u, v, rfl, n, rfl, eu, ev⟩ := w.yields i H x H' hi ⟨h1, h2⟩ y
  obtain ⟨u', eu', ru⟩ := r1.get (List.getElem?_eq_getElem hi1)
  obtain ⟨v', ev', rv⟩ := r2.get (List.getElem?_eq_getElem hi2)
  have a1 : xs[i]? = some u := eu
  have a2 : ys[i]? = some v := ev
  rw [eu'] at a1; cases a1
  rw [ev'] at a2; cases a2
  subst eT
  obtain ⟨q1, q2, q3⟩ := pair_step rel n (ru.le l) (rv.le l)
  exact ⟨_, _, q1, q2, zipD_at hi1 hi2, q3⟩
theorem walk_zipTT {T a b : Addr} {K : PySem.W.Frag} {G : Hp} {xs ys : List V} {ds es : List PyData} (e1 : G a = some (.tup xs)) (r1 : RqAll T G xs ds) (e2 : G b = some (.tup ys)) (r2 : RqAll T G ys es) : WalkOk (RZ.ItzT K a b) (zipD ds es) T G := fun f i G1 H σ s eT l rel => by
  have h1 : SqT K H a xs := SqT.of (rel.sub _ _ (l _ _ e1))
  have h2 : SqT K H b ys := SqT.of (rel.sub _ _ (l _ _ e2))
  refine ⟨fun hi => ?_, fun hi => ⟨xs, ys, h1, h2, ?_⟩⟩
  · have hi1 : i < ds.length := by rw [zipD_len] at hi; omega
    have hi2 : i < es.length := by rw [zipD_len] at hi; omega
    obtain ⟨u', eu', ru⟩ := r1.get (List.getElem?_eq_getElem hi1)
    obtain ⟨v', ev', rv⟩ := r2.get (List.getElem?_eq_getElem hi2)
    refine ⟨⟨xs, ys, u', v', h1, h2, eu', ev'⟩, fun x H' y => ?_⟩
    obtain ⟨T', u, v, rfl, n, rfl, eu, ev⟩ := y
    have a1 := eu xs h1
    have a2 := ev ys h2
    rw [eu'] at a1; cases a1
    rw [ev'] at a2; cases a2
    subst eT
    obtain ⟨q1, q2, q3⟩ := pair_step rel n (ru.le l) (rv.le l)
    exact ⟨_, _, q1, q2, zipD_at hi1 hi2, q3⟩
  · rw [zipD_len] at hi
    rw [r1.len, r2.len]
    omega
theorem zip2_iff {l : List PyData} {s : Pst} : (∃ a b, l = [.list a, .list b]) ∨ (∃ a b, l = [.tuple a, .tuple b]) ∨ zip2 l s = .no := by
  match l with
  | [.list i, .list j] => exact .inl ⟨i, j, rfl⟩
  | [.tuple i, .tuple j] => exact .inr (.inl ⟨i, j, rfl⟩)
  | [] => exact .inr (.inr rfl)
  | [x] => cases x <;> exact .inr (.inr rfl)
  | x :: y :: z :: r => cases x <;> cases y <;> exact .inr (.inr rfl)
  | [.list _, .none] | [.list _, .bool _] | [.list _, .str _] | [.list _, .int _] | [.list _, .tuple _] | [.list _, .dict _] => exact .inr (.inr rfl)
  | [.tuple _, .none] | [.tuple _, .bool _] | [.tuple _, .str _] | [.tuple _, .list _] | [.tuple _, .int _] | [.tuple _, .dict _] => exact .inr (.inr rfl)
  | [.none, _] | [.bool _, _] | [.str _, _] | [.int _, _] | [.dict _, _] => exact .inr (.inr rfl)
theorem pi_zipU {Fs : M (List PyData)} (h : PI X tg e (RZ.iZipA X.K (liftA ca E Fs))) : PIU ca E X tg e (bnd Fs zip2) := pi_imp h fun σ H R ⟨f, G, s, rel, out⟩ => by
  refine OutI.bndA rel out fun x s1 v H' G' le rel' ra o => ?_
  rcases zip2_iff (l := x) (s := s1) with ⟨i, j, rfl⟩ | ⟨i, j, rfl⟩ | z
  · cases ra with
    | cons r1 r2 =>
      cases r1 with
      | lst e1 a1 l1 =>
        cases r2 with
        | cons r3 r4 =>
          cases r3 with
          | lst e2 a2 l2 =>
            cases r4
            exact ⟨_, _, _, _, rfl, .inl ⟨SqL.of (rel'.sub _ _ e1), SqL.of (rel'.sub _ _ e2), o _ H' G' .refl rel' (walk_zipL e1 a1 e2 a2)⟩⟩
  · cases ra with
    | cons r1 r2 =>
      cases r1 with
      | tup e1 a1 l1 =>
        cases r2 with
        | cons r3 r4 =>
          cases r3 with
          | tup e2 a2 l2 =>
            cases r4
            exact ⟨_, _, _, _, rfl, .inr ⟨SqT.of (rel'.sub _ _ e1), SqT.of (rel'.sub _ _ e2), o _ H' G' .refl rel' (walk_zipTT e1 a1 e2 a2)⟩⟩
  · rw [z] at o; exact o.elim
/-- reversed -/
def revF (F : M OV) : M (List PyData) := bnd F fun x => match items x.d with | some l => pur l.reverse | none => no
/-! ### targets -/
def TGOk (g : TG) (A : PyData → Pst → Option Pst) (own : List Nat) : Prop := ∀ (f : Fr) (G H : Hp) (σ : L2.St) (s : Pst) (v : V) (d : PyData) (Q : L2.St → Hp → Prop), Rel f G H σ s → Rq f.T G v d →
  (∃ s', A d s = some s' ∧ ∀ σ', Rel f G H σ' s' → (∀ vs : List Nat, (∀ i ∈ own, i ∈ vs) → wipe σ' vs = wipe σ vs) → Q σ' H) → g v σ H Q
def TGsOk (g : TGs) (A : List PyData → Pst → Option Pst) (own : List Nat) : Prop := ∀ (f : Fr) (G H : Hp) (σ : L2.St) (s : Pst) (v : List V) (d : List PyData) (Q : L2.St → Hp → Prop), Rel f G H σ s → RqAll f.T G v d →
  (∃ s', A d s = some s' ∧ ∀ σ', Rel f G H σ' s' → (∀ vs : List Nat, (∀ i ∈ own, i ∈ vs) → wipe σ' vs = wipe σ vs) → Q σ' H) → g v σ H Q
def put (i : Nat) (x : Sl) (s : Pst) : Pst := { s with v := s.v.set i x }
theorem sl_put {s : Pst} {i j : Nat} {x : Sl} (h : i < s.v.length) : sl (put i x s) j = if j = i then x else sl s j := by
  unfold sl put
  rw [List.getD_eq_getElem?_getD, List.getD_eq_getElem?_getD]
  by_cases e : j = i
  · subst e
    rw [List.getElem?_set_self h, if_pos rfl]; rfl
  · rw [List.getElem?_set_ne (fun z => e z.symm), if_neg e]
end
end Pu
end SecU4
section SecU5
set_option Elab.async false
set_option linter.all false
set_option maxRecDepth 100000
set_option maxHeartbeats 4000000
namespace Pu
open PySem PySem.Spec PyProof.Rows L2 Err
section
variable {ca : Str → Addr} {E : XK} {X : Cx} {a b c e tg : Expr} {pos : Pos} {Fa Fb Fc : M OV} {Ft Fu : M Bool}
theorem SlOk.set {f : Fr} {G H : Hp} {σ : L2.St} {i j : Nat} {x : Sl} {v : Option V} (h : SlOk f G H σ j x) (n : j ≠ i) : SlOk f G H (σ.set i v) j x := by
  have e : (σ.set i v)[j]? = σ[j]? := by rw [List.getElem?_set_ne (fun z => n z.symm)]
  cases x with
  | un => trivial
  | fr d => obtain ⟨w, h1, h2⟩ := h; exact ⟨w, e.trans h1, h2⟩
  | ow l => obtain ⟨p, vs, h1, h2⟩ := h; exact ⟨p, vs, e.trans h1, h2⟩
/-- a value is put into a slot -/
theorem Rel.store {f : Fr} {G H : Hp} {σ : L2.St} {s : Pst} {i : Nat} {v : V} {x : OV} (r : Rel f G H σ s) (o : OVOk f G H σ s v x) (hi : i < s.v.length) : Rel f G H (σ.set i (some v)) (put i (match x with | .fr d => .fr d | .ow l => .ow l) s) := by
  have hσ : i < σ.length := by rw [r.len]; exact hi
  have self : (σ.set i (some v))[i]? = some (some v) := List.getElem?_set_self hσ
  refine ⟨r.ok, r.sub, r.keep, r.g0, r.new, r.zn, r.tape, fun j => ?_, fun j k l1 l2 hjk e1 e2 => ?_, by show (σ.set i (some v)).length = (s.v.set i _).length; rw [List.length_set, List.length_set]; exact r.len⟩
  · rw [sl_put hi]
    by_cases e : j = i
    · subst e
      rw [if_pos rfl]
      cases x with
      | fr d => exact ⟨v, self, o⟩
      | ow l =>
        obtain ⟨p, vs, rfl, h1, h2, h3, h4, h5, h6, h7⟩ := o
        exact ⟨p, vs, self, h1, h2, h3, h4, h5, h6⟩
    · rw [if_neg e]
      exact (r.vars j).set e
  · rw [sl_put hi] at e1 e2
    by_cases ej : j = i
    · subst ej
      have ek : k ≠ j := fun z => hjk z.symm
      rw [if_neg ek] at e2
      rw [if_pos rfl] at e1
      cases x with
      | fr d => cases e1
      | ow l =>
        obtain ⟨p, vs, rfl, h1, h2, h3, h4, h5, h6, h7⟩ := o
        rw [self, List.getElem?_set_ne (fun z => ek z.symm)]
        exact fun z => h7 k l2 e2 z.symm
    · rw [if_neg ej] at e1
      rw [List.getElem?_set_ne (fun z => ej z.symm)]
      by_cases ek : k = i
      · subst ek
        rw [if_pos rfl] at e2
        cases x with
        | fr d => cases e2
        | ow l =>
          obtain ⟨p, vs, rfl, h1, h2, h3, h4, h5, h6, h7⟩ := o
          rw [self]
          exact h7 j l1 e1
      · rw [if_neg ek] at e2
        rw [List.getElem?_set_ne (fun z => ek z.symm)]
        exact r.dist j k l1 l2 hjk e1 e2
theorem wipe_set {σ : L2.St} {i : Nat} {x : Option V} : ∀ {vs : List Nat}, i ∈ vs → wipe (σ.set i x) vs = wipe σ vs
  | [], h => by cases h
  | w :: vs, h => by
    unfold wipe
    by_cases e : i ∈ vs
    · rw [wipe_set e]
    · have hw : i = w := by
        rcases List.mem_cons.mp h with h | h
        · exact h
        · exact (e h).elim
      subst hw
      have : wipe (σ.set i x) vs = (wipe σ vs).set i x := by
        clear h
        induction vs with
        | nil => rfl
        | cons u vs ih =>
          unfold wipe
          rw [List.mem_cons, not_or] at e
          rw [ih e.2, List.set_comm _ _ e.1]
      rw [this, List.set_set]
def nmA (i : Nat) : PyData → Pst → Option Pst := fun d s => if i < s.v.length then some (put i (.fr d) s) else none
theorem tg_name {i : Nat} : TGOk (gName i) (nmA i) [i] := fun f G H σ s v d Q rel rq ⟨s', e, k⟩ => by
  unfold nmA at e
  by_cases hi : i < s.v.length
  · rw [if_pos hi] at e
    cases e
    exact k _ (rel.store (x := .fr d) rq hi) fun vs h => wipe_set (h i List.mem_cons_self)
  · rw [if_neg hi] at e; cases e
def nilA : List PyData → Pst → Option Pst | [], s => some s | _, _ => none
def consA (A : PyData → Pst → Option Pst) (B : List PyData → Pst → Option Pst) : List PyData → Pst → Option Pst
  | d :: ds, s => (A d s).bind (B ds)
  | [], _ => none
def tupA (n : Nat) (B : List PyData → Pst → Option Pst) : PyData → Pst → Option Pst
  | .tuple l, s => if l.length = n then B l s else none
  | _, _ => none
theorem tg_nil : TGsOk gNil nilA [] := fun f G H σ s v d Q rel rq ⟨s', e, k⟩ => by
  cases rq with
  | nil => cases e; exact ⟨rfl, k σ rel fun _ _ => rfl⟩
  | cons _ _ => cases e
theorem tg_cons {g : TG} {gs : TGs} {A : PyData → Pst → Option Pst} {B : List PyData → Pst → Option Pst} {o1 o2 : List Nat} (h1 : TGOk g A o1) (h2 : TGsOk gs B o2) : TGsOk (gCons g gs) (consA A B) (o1 ++ o2) := fun f G H σ s v d Q rel rq ⟨s', e, k⟩ => by
  cases rq with
  | nil => cases e
  | @cons v vs d ds a b =>
    have e' : (A d s).bind (B ds) = some s' := e
    cases e1 : A d s with
    | none => rw [e1] at e'; cases e'
    | some s1 =>
      rw [e1] at e'
      refine ⟨v, vs, rfl, h1 f G H σ s v d _ rel a ⟨s1, e1, fun σ1 rel1 w1 => h2 f G H σ1 s1 vs ds Q rel1 b ⟨s', e', fun σ2 rel2 w2 => k σ2 rel2 fun vs' hv => ?_⟩⟩⟩
      rw [w2 vs' fun i hi => hv i (List.mem_append_right _ hi), w1 vs' fun i hi => hv i (List.mem_append_left _ hi)]
theorem tupA_some {n : Nat} {B : List PyData → Pst → Option Pst} {d : PyData} {s s' : Pst} (e : tupA n B d s = some s') : ∃ l, d = .tuple l ∧ l.length = n ∧ B l s = some s' := by
  cases d <;> first | (cases e; done) | skip
  case tuple l =>
    have e' : (if l.length = n then B l s else none) = some s' := e
    by_cases hn : l.length = n
    · rw [if_pos hn] at e'
      exact ⟨l, rfl, hn, e'⟩
    · rw [if_neg hn] at e'; cases e'
theorem Rq.tupE {T : Addr} {G : Hp} {v : V} {l : List PyData} (h : Rq T G v (.tuple l)) : ∃ p vs, v = .ref p ∧ G p = some (.tup vs) ∧ RqAll T G vs l ∧ l.length ≤ lim := by
  cases h with
  | tup e1 ra hl => exact ⟨_, _, rfl, e1, ra, hl⟩
theorem tg_tup {K : PySem.W.Frag} {n : Nat} {gs : TGs} {B : List PyData → Pst → Option Pst} {o : List Nat} (h : TGsOk gs B o) : TGOk (gTup K n gs) (tupA n B) o := fun f G H σ s v d Q rel rq ⟨s', e, k⟩ => by
  obtain ⟨l, rfl, hn, e'⟩ := tupA_some e
  obtain ⟨p, vs, rfl, e1, ra, hl⟩ := rq.tupE
  exact ⟨p, vs, rfl, SqT.of (rel.sub _ _ e1), by rw [ra.len]; exact hn, h f G H σ s _ l Q rel ra ⟨s', e', k⟩⟩
/-! ### statements -/
inductive Fw where
  | nx | rt (x : OV) | bk | ct
def OutS (ca : Str → Addr) (f : Fr) (E : XK) (G : Hp) (r : Rs Fw) (D : Ends) : Prop := match r with
  | .ok .nx s => ∀ σ' H' G', Le G G' → Rel f G' H' σ' s → D.nx σ' H'
  | .ok (.rt x) s => ∀ v σ' H' G', Le G G' → Rel f G' H' σ' s → OVOk f G' H' σ' s v x → D.rt v H'
  | .ok .bk s => ∀ σ' H' G', Le G G' → Rel f G' H' σ' s → D.bk σ' H'
  | .ok .ct s => ∀ σ' H' G', Le G G' → Rel f G' H' σ' s → D.ct σ' H'
  | .err c fs t => OutX ca f E c fs t
  | .no => False
def liftS (ca : Str → Addr) (E : XK) (F : M Fw) : L2.TS := fun D σ H => ∃ f G s, Rel f G H σ s ∧ OutS ca f E G (F s) D
abbrev PSU (ca : Str → Addr) (E : XK) (X : Cx) (st : Stmt) (F : M Fw) : Prop := PS X st (liftS ca E F)
abbrev PSsU (ca : Str → Addr) (E : XK) (X : Cx) (st : List Stmt) (F : M Fw) : Prop := PSs X st (liftS ca E F)
theorem ps_imp {st : Stmt} {t t' : L2.TS} (h : PS X st t) (i : ∀ D σ H, t' D σ H → t D σ H) : PS X st t' := ⟨fun pins s σ H D I q => h.run pins s σ H D I (i D σ H q)⟩
theorem pss_imp {st : List Stmt} {t t' : L2.TS} (h : PSs X st t) (i : ∀ D σ H, t' D σ H → t D σ H) : PSs X st t' := ⟨fun pins s σ H D I q => h.run pins s σ H D I (i D σ H q)⟩
theorem OutS.le {f : Fr} {G G' : Hp} {r : Rs Fw} {D : Ends} (h : OutS ca f E G r D) (l : Le G G') : OutS ca f E G' r D := by
  cases r with
  | ok x s =>
    cases x with
    | nx => exact fun σ H' G'' l' => h σ H' G'' (l.trans l')
    | rt x => exact fun v σ H' G'' l' => h v σ H' G'' (l.trans l')
    | bk => exact fun σ H' G'' l' => h σ H' G'' (l.trans l')
    | ct => exact fun σ H' G'' l' => h σ H' G'' (l.trans l')
  | err c fs t => exact h
  | no => exact h
theorem OutS.bndE {f : Fr} {G H : Hp} {σ : L2.St} {s : Pst} {F : M OV} {k : OV → M Fw} {D : Ends} {R : V → Hp → Prop} (rel : Rel f G H σ s) (out : OutS ca f E G (bnd F k s) D)
    (h : ∀ x s1 v H' G', Le G G' → Rel f G' H' σ s1 → OVOk f G' H' σ s1 v x → OutS ca f E G' (k x s1) D → R v H') : liftE ca E F σ H R := by
  refine ⟨f, G, s, rel, ?_⟩
  cases e : F s with
  | ok x s1 =>
    rw [bnd_ok e] at out
    exact fun v H' G' le rel' pk => h x s1 v H' G' le rel' pk (out.le le)
  | err c fs t => rw [bnd_err e] at out; exact out
  | no => rw [bnd_no e] at out; exact out
theorem OutS.bndT {f : Fr} {G H : Hp} {σ : L2.St} {s : Pst} {F : M Bool} {k : Bool → M Fw} {D : Ends} {R : Bool → Hp → Prop} (rel : Rel f G H σ s) (out : OutS ca f E G (bnd F k s) D)
    (h : ∀ x s1 H' G', Le G G' → Rel f G' H' σ s1 → OutS ca f E G' (k x s1) D → R x H') : liftT ca E F σ H R := by
  refine ⟨f, G, s, rel, ?_⟩
  cases e : F s with
  | ok x s1 =>
    rw [bnd_ok e] at out
    exact fun H' G' le rel' => h x s1 H' G' le rel' (out.le le)
  | err c fs t => rw [bnd_err e] at out; exact out
  | no => rw [bnd_no e] at out; exact out
theorem OutS.bndI {f : Fr} {G H : Hp} {σ : L2.St} {s : Pst} {F : M (List PyData)} {k : List PyData → M Fw} {D : Ends} {R : It → Hp → Prop} (rel : Rel f G H σ s) (out : OutS ca f E G (bnd F k s) D)
    (h : ∀ x s1 J H' G', Le G G' → Rel f G' H' σ s1 → WalkOk J x f.T G' → OutS ca f E G' (k x s1) D → R J H') : liftI ca E F σ H R := by
  refine ⟨f, G, s, rel, ?_⟩
  cases e : F s with
  | ok x s1 =>
    rw [bnd_ok e] at out
    exact fun J H' G' le rel' w => h x s1 J H' G' le rel' w (out.le le)
  | err c fs t => rw [bnd_err e] at out; exact out
  | no => rw [bnd_no e] at out; exact out
variable {st : Stmt} {sts : List Stmt} {Fs Fs' : M Fw}
def seqF (a b : M Fw) : M Fw := bnd a fun w => match w with | .nx => b | w => pur w
theorem i_seq {D : Ends} {σ : L2.St} {H : Hp} (h : liftS ca E (seqF Fs Fs') D σ H) : tSeq (liftS ca E Fs) (liftS ca E Fs') D σ H := by
  obtain ⟨f, G, s, rel, out⟩ := h
  refine ⟨f, G, s, rel, ?_⟩
  unfold seqF at out
  cases e : Fs s with
  | ok x s1 =>
    rw [bnd_ok e] at out
    cases x with
    | nx => exact fun σ' H' G' l rel' => ⟨f, G', s1, rel', OutS.le out l⟩
    | rt x => exact out
    | bk => exact out
    | ct => exact out
  | err c fs t => rw [bnd_err e] at out; exact out
  | no => rw [bnd_no e] at out; exact out
theorem pss_nilU : PSsU ca E X [] (pur .nx) := pss_imp pss_nil fun D σ H ⟨f, G, s, rel, out⟩ => out σ H G .refl rel
theorem pss_oneU (h : PSU ca E X st Fs) : PSsU ca E X [st] Fs := pss_one h
theorem pss_consU (h : PSU ca E X st Fs) (h2 : PSsU ca E X sts Fs') : PSsU ca E X (st :: sts) (seqF Fs Fs') := pss_imp (pss_cons h h2) fun _ _ _ z => i_seq z
def OV.s : OV → Sl | .fr d => .fr d | .ow l => .ow l
def setF (i : Nat) (F : M OV) : M Fw := bnd F fun x s => if i < s.v.length then .ok .nx (put i x.s s) else .no
theorem ps_setU {i : Nat} (h : PS X st (tAsg (liftE ca E Fa) (gName i))) : PSU ca E X st (setF i Fa) := ps_imp h fun D σ H ⟨f, G, s, rel, out⟩ => by
  refine OutS.bndE rel out fun x s1 v H1 G1 l1 rel1 ov1 o => ?_
  by_cases hi : i < s1.v.length
  · rw [if_pos hi] at o
    refine o _ H1 G1 .refl ?_
    have z := rel1.store ov1 hi
    cases x <;> exact z
  · rw [if_neg hi] at o; exact o.elim
def asgF (A : PyData → Pst → Option Pst) (F : M OV) : M Fw := bnd F fun x s => match A x.d s with | some s' => .ok .nx s' | none => .no
theorem ps_asgU {g : TG} {A : PyData → Pst → Option Pst} {own : List Nat} (hg : TGOk g A own) (h : PS X st (tAsg (liftE ca E Fa) g)) : PSU ca E X st (asgF A Fa) := ps_imp h fun D σ H ⟨f, G, s, rel, out⟩ => by
  refine OutS.bndE rel out fun x s1 v H1 G1 l1 rel1 ov1 o => ?_
  obtain ⟨G2, l2, rel2, rq⟩ := rel1.frz ov1
  have o := o.le l2
  cases e : A x.d s1 with
  | none => simp only [e] at o; exact o.elim
  | some s' =>
    simp only [e] at o
    exact hg f G2 H1 σ s1 v x.d _ rel2 rq ⟨s', e, fun σ' rel' _ => o σ' H1 G2 .refl rel'⟩
def dropF (F : M OV) : M Fw := bnd F fun _ => pur .nx
theorem ps_exprU (h : PS X st (tDrop (liftE ca E Fa))) : PSU ca E X st (dropF Fa) := ps_imp h fun D σ H ⟨f, G, s, rel, out⟩ =>
  OutS.bndE rel out fun x s1 v H1 G1 l1 rel1 ov1 o => o σ H1 G1 .refl rel1
def retF (F : M OV) : M Fw := bnd F fun x => pur (.rt x)
theorem ps_retU (h : PS X st (tRet (liftE ca E Fa))) : PSU ca E X st (retF Fa) := ps_imp h fun D σ H ⟨f, G, s, rel, out⟩ =>
  OutS.bndE rel out fun x s1 v H1 G1 l1 rel1 ov1 o => o v σ H1 G1 .refl rel1 ov1
def retN : M Fw := pur (.rt (.fr .none))
theorem ps_retNU (h : PS X st tRetN) : PSU ca E X st retN := ps_imp h fun D σ H ⟨f, G, s, rel, out⟩ => out _ σ H G .refl rel .non
/-- a slot's own list is handed back -/
def retvF (i : Nat) : M Fw := fun s => match sl s i with
  | .fr d => .ok (.rt (.fr d)) s
  | .ow l => .ok (.rt (.ow l)) (put i .un s)
  | .un => .no
theorem Rel.drop {f : Fr} {G H : Hp} {σ : L2.St} {s : Pst} {i : Nat} (r : Rel f G H σ s) (hi : i < s.v.length) : Rel f G H σ (put i .un s) := by
  refine ⟨r.ok, r.sub, r.keep, r.g0, r.new, r.zn, r.tape, fun j => ?_, fun j k l1 l2 hjk e1 e2 => ?_, by show σ.length = (s.v.set i _).length; rw [List.length_set]; exact r.len⟩
  · rw [sl_put hi]
    by_cases e : j = i
    · rw [if_pos e]; trivial
    · rw [if_neg e]; exact r.vars j
  · rw [sl_put hi] at e1 e2
    by_cases ej : j = i
    · rw [if_pos ej] at e1; cases e1
    · by_cases ek : k = i
      · rw [if_pos ek] at e2; cases e2
      · rw [if_neg ej] at e1
        rw [if_neg ek] at e2
        exact r.dist j k l1 l2 hjk e1 e2
theorem sl_lt {s : Pst} {i : Nat} (h : sl s i ≠ .un) : i < s.v.length := by
  by_cases z : i < s.v.length
  · exact z
  · exfalso
    apply h
    unfold sl
    rw [List.getD_eq_getElem?_getD, List.getElem?_eq_none (by omega)]
    rfl
theorem ps_retvU {i : Nat} (h : PS X st (tRet (tVar i))) : PSU ca E X st (retvF i) := ps_imp h fun D σ H ⟨f, G, s, rel, out⟩ => by
  unfold retvF at out
  cases e : sl s i with
  | un => rw [e] at out; exact out.elim
  | fr d =>
    rw [e] at out
    have v := rel.vars i
    rw [e] at v
    obtain ⟨v, h1, h2⟩ := v
    exact ⟨v, h1, out v σ H G .refl rel h2⟩
  | ow l =>
    rw [e] at out
    have v := rel.vars i
    rw [e] at v
    obtain ⟨p, vs, h1, h2, h3, h4, h5, h6, h7⟩ := v
    have hi : i < s.v.length := sl_lt (by rw [e]; intro z; cases z)
    refine ⟨_, h1, out _ σ H G .refl (rel.drop hi) ⟨p, vs, rfl, h2, h3, h4, h5, h6, h7, fun j l' ej z => ?_⟩⟩
    rw [sl_put hi] at ej
    by_cases hj : j = i
    · rw [if_pos hj] at ej; cases ej
    · rw [if_neg hj] at ej
      exact rel.dist j i l' l hj ej e (by rw [z, h1])
def ifF (c : M Bool) (a b : M Fw) : M Fw := bnd c fun k => if k then a else b
theorem ps_ifU {s1 s2 : List Stmt} (hc : PTU ca E X c Ft) (ha : PSsU ca E X s1 Fs) (hb : PSsU ca E X s2 Fs') : PSU ca E X (.If c s1 s2 pos) (ifF Ft Fs Fs') := ps_imp (ps_if hc ha hb) fun D σ H ⟨f, G, s, rel, out⟩ => by
  refine OutS.bndT rel out fun x s1 H' G' le rel' o => ?_
  cases x with
  | true => rw [if_pos rfl]; exact ⟨f, G', s1, rel', o⟩
  | false => rw [if_neg Bool.false_ne_true]; exact ⟨f, G', s1, rel', o⟩
theorem ps_passU : PSU ca E X (.Pass pos) (pur .nx) := ps_imp ps_pass fun D σ H ⟨f, G, s, rel, out⟩ => out σ H G .refl rel
theorem ps_breakU (h : PS X st tBreak) : PSU ca E X st (pur .bk) := ps_imp h fun D σ H ⟨f, G, s, rel, out⟩ => out σ H G .refl rel
theorem ps_contU (h : PS X st tCont) : PSU ca E X st (pur .ct) := ps_imp h fun D σ H ⟨f, G, s, rel, out⟩ => out σ H G .refl rel
/-! ### a slot's list grows, changes -/
theorem Rel.poke {f : Fr} {G H : Hp} {σ : L2.St} {s : Pst} {i : Nat} {l l' : List PyData} {vs vs' : List V} {p : Addr} (r : Rel f G H σ s) (e : sl s i = .ow l) (hp : σ[i]? = some (some (.ref p))) (ra : RqAll f.T G vs' l') (hl : l'.length ≤ lim) :
    Rel f G (upd H p (.lst vs')) σ (put i (.ow l') s) := by
  have v := r.vars i
  rw [e] at v
  obtain ⟨q, us, h1, h2, h3, h4, h5, h6, h7⟩ := v
  rw [hp] at h1
  cases h1
  have hi : i < s.v.length := sl_lt (by rw [e]; intro z; cases z)
  refine ⟨r.ok, fun b o g => ?_, fun b o z g => ?_, r.g0, r.new, r.zn, r.ok.stab _ _ _ (fun z o' hz e' => ?_) r.tape, fun j => ?_, fun j k l1 l2 hjk e1 e2 => ?_, by show σ.length = (s.v.set i _).length; rw [List.length_set]; exact r.len⟩
  · have hb : b ≠ p := fun z => by rw [z, h5] at g; cases g
    rw [upd_ne hb]; exact r.sub _ _ g
  · have hb : b ≠ p := fun z => by rw [z, h6] at g; cases g
    rw [upd_ne hb]; exact r.keep _ _ z g
  · have hb : z ≠ p := fun w => h7 (w ▸ hz)
    rw [upd_ne hb]; exact e'
  · rw [sl_put hi]
    by_cases ej : j = i
    · subst ej
      rw [if_pos rfl]
      exact ⟨p, vs', hp, upd_same, ra, hl, h5, h6, h7⟩
    · rw [if_neg ej]
      have v := r.vars j
      cases e' : sl s j with
      | un => trivial
      | fr d => rw [e'] at v; exact v
      | ow l2 =>
        rw [e'] at v
        obtain ⟨q, us2, g1, g2, g3⟩ := v
        have hq : q ≠ p := fun z => r.dist j i l2 l ej e' e (by rw [g1, hp, z])
        exact ⟨q, us2, g1, by rw [upd_ne hq]; exact g2, g3⟩
  · rw [sl_put hi] at e1 e2
    by_cases ej : j = i
    · subst ej
      rw [if_neg (fun z => hjk z.symm)] at e2
      exact r.dist j k l l2 hjk e e2
    · rw [if_neg ej] at e1
      by_cases ek : k = i
      · subst ek
        exact r.dist j k l1 l hjk e1 e
      · rw [if_neg ek] at e2
        exact r.dist j k l1 l2 hjk e1 e2
def onOw (i : Nat) (k : M Fw) : M Fw := fun s => match sl s i with | .ow _ => k s | _ => .no
theorem onOw_of {f : Fr} {G H : Hp} {σ : L2.St} {s : Pst} {i : Nat} {k : M Fw} {D : Ends} (rel : Rel f G H σ s) (o : OutS ca f E G (onOw i k s) D) : OutS ca f E G (k s) D ∧ ∃ p vs, σ[i]? = some (some (.ref p)) ∧ H p = some (.lst vs) := by
  unfold onOw at o
  cases e : sl s i with
  | un => rw [e] at o; exact o.elim
  | fr d => rw [e] at o; exact o.elim
  | ow l =>
    rw [e] at o
    have v := rel.vars i
    rw [e] at v
    obtain ⟨p, vs, h1, h2, _⟩ := v
    exact ⟨o, p, vs, h1, h2⟩
def grow (i : Nat) (g : List PyData → Option (List PyData)) : M Fw := fun s => match sl s i with
  | .ow l => (match g l with | some l' => if l'.length ≤ lim then .ok .nx (put i (.ow l') s) else .no | none => .no)
  | _ => .no
theorem grow_of {f : Fr} {G H : Hp} {σ : L2.St} {s : Pst} {i : Nat} {g : List PyData → Option (List PyData)} {D : Ends} {p : Addr} (rel : Rel f G H σ s) (hp : σ[i]? = some (some (.ref p))) (o : OutS ca f E G (grow i g s) D) :
    ∃ l l' vs, sl s i = .ow l ∧ H p = some (.lst vs) ∧ RqAll f.T G vs l ∧ l.length ≤ lim ∧ g l = some l' ∧ l'.length ≤ lim ∧ ∀ vs', RqAll f.T G vs' l' → D.nx σ (upd H p (.lst vs')) := by
  unfold grow at o
  cases e : sl s i with
  | un => rw [e] at o; exact o.elim
  | fr d => rw [e] at o; exact o.elim
  | ow l =>
    rw [e] at o
    dsimp only at o
    have v := rel.vars i
    rw [e] at v
    obtain ⟨q, vs, h1, h2, h3, h4, _⟩ := v
    rw [hp] at h1
    cases h1
    cases e2 : g l with
    | none => simp only [e2] at o; exact o.elim
    | some l' =>
      simp only [e2] at o
      by_cases hl : l'.length ≤ lim
      · rw [if_pos hl] at o
        exact ⟨l, l', vs, rfl, h2, h3, h4, e2, hl, fun vs' ra => o σ _ G .refl (rel.poke e hp ra hl (vs := vs))⟩
      · rw [if_neg hl] at o; exact o.elim
/-- xs.append(e) -/
def appF (i : Nat) (F : M OV) : M Fw := onOw i (bnd F fun x => grow i fun l => some (l ++ [x.d]))
theorem ps_appU {i : Nat} (h : PS X st (tDrop (tBM X.K "list" rAppend (tVar i) (tCons (liftE ca E Fa) tNil)))) : PSU ca E X st (appF i Fa) := ps_imp h fun D σ H ⟨f, G, s, rel, out⟩ => by
  obtain ⟨out, p, vs, hp, hH⟩ := onOw_of rel out
  refine ⟨.ref p, hp, .inl ⟨rfl, _, SqL.of hH⟩, ?_⟩
  refine OutS.bndE rel out fun x s1 v H1 G1 l1 rel1 ov1 o => ?_
  obtain ⟨G2, l2, rel2, rq⟩ := rel1.frz ov1
  obtain ⟨l, l', us, e1, h2, h3, h4, e2, h5, k⟩ := grow_of rel2 hp (o.le l2)
  cases e2
  refine ⟨p, us, v, rfl, rfl, h2, ?_, k _ (h3.app (.cons rq .nil))⟩
  rw [h3.len]
  rw [List.length_append] at h5
  have : ([x.d] : List PyData).length = 1 := rfl
  rw [sizeLine_eq]
  unfold lim at h5
  omega
/-- xs.extend(e), e a list -/
def extF (i : Nat) (F : M OV) : M Fw := onOw i (bnd F fun x => match x.d with | .list m => grow i fun l => some (l ++ m) | _ => fun _ => .no)
theorem ps_extU {i : Nat} (h : PS X st (tDrop (tBM X.K "list" rExtend (tVar i) (tCons (liftE ca E Fa) tNil)))) : PSU ca E X st (extF i Fa) := ps_imp h fun D σ H ⟨f, G, s, rel, out⟩ => by
  obtain ⟨out, p, vs, hp, hH⟩ := onOw_of rel out
  refine ⟨.ref p, hp, .inl ⟨rfl, _, SqL.of hH⟩, ?_⟩
  refine OutS.bndE rel out fun x s1 v H1 G1 l1 rel1 ov1 o => ?_
  obtain ⟨G2, l2, rel2, rq⟩ := rel1.frz ov1
  have o := o.le l2
  generalize x.d = d at o rq
  cases d <;> first | exact (show False from o).elim | skip
  rename_i m
  cases rq with
  | lst em rm lm =>
    obtain ⟨l, l', us, e1, h2, h3, h4, e2, h5, k⟩ := grow_of rel2 hp o
    cases e2
    refine ⟨p, _, us, _, rfl, rfl, h2, rel2.sub _ _ em, ?_, k _ (h3.app rm)⟩
    rw [h3.len, rm.len]
    rw [List.length_append] at h5
    exact lim_line h5
/-- xs[j] = e -/
def setAt (j : PyData) (x : PyData) : List PyData → Option (List PyData) := fun l => match j with | .int k => (ixN l.length k).map fun n => l.set n x | _ => none
def setAtF (i : Nat) (F Fj : M OV) : M Fw := bnd F fun x => onOw i (bnd Fj fun j => grow i (setAt j.d x.d))
theorem ps_setAtU {i : Nat} (h : PS X st (tAsg (liftE ca E Fa) (gSub (tVar i) (liftE ca E Fb) rSetL))) : PSU ca E X st (setAtF i Fa Fb) := ps_imp h fun D σ H ⟨f, G, s, rel, out⟩ => by
  refine OutS.bndE rel out fun x s1 v H1 G1 l1 rel1 ov1 o => ?_
  obtain ⟨G2, l2, rel2, rq⟩ := rel1.frz ov1
  obtain ⟨o, p, vs, hp, hH⟩ := onOw_of rel2 (o.le l2)
  refine ⟨.ref p, hp, ?_⟩
  refine OutS.bndE rel2 o fun y s3 w H3 G3 l3 rel3 ov3 o3 => ?_
  obtain ⟨G4, l4, rel4, rq4⟩ := rel3.frz ov3
  obtain ⟨l, l', us, e1, h2, h3, h4, e2, h5, k⟩ := grow_of rel4 hp (o3.le l4)
  generalize y.d = d at e2 rq4
  unfold setAt at e2
  cases rq4 <;> first | (cases e2; done) | skip
  rename_i j
  dsimp only at e2
  cases e3 : ixN l.length j with
  | none => rw [e3] at e2; cases e2
  | some n =>
    rw [e3] at e2
    cases e2
    exact ⟨p, us, j, n, rfl, rfl, h2, by rw [h3.len]; exact e3, k _ (h3.set (rq.le (l3.trans l4)) n)⟩
end
end Pu
end SecU5
section SecU6
set_option Elab.async false
set_option linter.all false
set_option maxRecDepth 100000
set_option maxHeartbeats 4000000
namespace Pu
open PySem PySem.Spec PyProof.Rows L2 Err
section
variable {ca : Str → Addr} {E : XK} {X : Cx} {a b c e tg : Expr} {pos : Pos} {Fa Fb Fc : M OV} {Ft Fu : M Bool} {st : Stmt} {sts : List Stmt} {Fs Fs' : M Fw}
/-! ### for, while -/
def forGo (A : PyData → Pst → Option Pst) (B : M Fw) : List PyData → M Fw
  | [], s => .ok .nx s
  | d :: ds, s => match A d s with
    | none => .no
    | some s1 => match B s1 with
      | .ok .nx s2 => forGo A B ds s2
      | .ok .ct s2 => forGo A B ds s2
      | .ok .bk s2 => .ok .nx s2
      | .ok (.rt x) s2 => .ok (.rt x) s2
      | .err c fs t => .err c fs t
      | .no => .no
def forF (A : PyData → Pst → Option Pst) (I : M (List PyData)) (B : M Fw) : M Fw := bnd I fun l => forGo A B l
theorem ps_forU {g : TG} {A : PyData → Pst → Option Pst} {own : List Nat} {Fi : M (List PyData)} (hg : TGOk g A own) (h : PS X st (tFor (liftI ca E Fi) g (liftS ca E Fs))) : PSU ca E X st (forF A Fi Fs) := ps_imp h fun D σ H ⟨f, G, s, rel, out⟩ => by
  refine OutS.bndI rel out fun ds s1 J H1 G1 l1 rel1 w o => ?_
  refine ⟨fun i m σ H => m = ds.length - i ∧ i ≤ ds.length ∧ ∃ G s, Le G1 G ∧ Rel f G H σ s ∧ OutS ca f E G (forGo A Fs (ds.drop i) s) D, ⟨ds.length, by simp, Nat.zero_le _, G1, s1, .refl, rel1, o⟩, ?_⟩
  rintro i m σ H ⟨rfl, hi, G, s, lg, rel, o⟩
  obtain ⟨w1, w2⟩ := w f i G H σ s rfl lg rel
  by_cases hlt : i < ds.length
  · obtain ⟨hgo, hy⟩ := w1 hlt
    refine .inr ⟨hgo, fun σ' H' => ∃ G s, Le G1 G ∧ Rel f G H' σ' s ∧ OutS ca f E G (forGo A Fs (ds.drop (i + 1)) s) D, fun σ' H' ⟨G, s, a1, a2, a3⟩ => ⟨ds.length - (i + 1), by omega, rfl, hlt, G, s, a1, a2, a3⟩, fun x H' y => ?_⟩
    obtain ⟨G', d, l', rel', ed, rq⟩ := hy x H' y
    have ed' : ds.drop i = d :: ds.drop (i + 1) := by
      rw [List.drop_eq_getElem_cons hlt]
      rw [List.getElem?_eq_getElem hlt] at ed
      cases ed
      rfl
    rw [ed'] at o
    unfold forGo at o
    cases e1 : A d s with
    | none => simp only [e1] at o; exact o.elim
    | some s2 =>
      simp only [e1] at o
      refine hg f G' H' σ s x d _ rel' rq ⟨s2, e1, fun σ' rel2 _ => ⟨f, G', s2, rel2, ?_⟩⟩
      have o := OutS.le o l'
      cases e2 : Fs s2 with
      | err c fs t => simp only [e2] at o; exact o
      | no => simp only [e2] at o; exact o.elim
      | ok fw s3 =>
        simp only [e2] at o
        cases fw with
        | nx => exact fun σ3 H3 G3 l3 rel3 => ⟨G3, s3, lg.trans (l'.trans l3), rel3, OutS.le o l3⟩
        | ct => exact fun σ3 H3 G3 l3 rel3 => ⟨G3, s3, lg.trans (l'.trans l3), rel3, OutS.le o l3⟩
        | bk => exact o
        | rt x => exact o
  · have e : i = ds.length := by omega
    refine .inl ⟨w2 e, ?_⟩
    subst e
    rw [List.drop_length] at o
    exact o σ H G .refl rel
def whGo (c : M Bool) (B : M Fw) : Nat → M Fw
  | 0, _ => .no
  | n + 1, s => match c s with
    | .ok false s1 => .ok .nx s1
    | .ok true s1 => (match B s1 with
      | .ok .nx s2 => whGo c B n s2
      | .ok .ct s2 => whGo c B n s2
      | .ok .bk s2 => .ok .nx s2
      | .ok (.rt x) s2 => .ok (.rt x) s2
      | .err c fs t => .err c fs t
      | .no => .no)
    | .err c fs t => .err c fs t
    | .no => .no
theorem ps_whileU {n : Nat} (h : PS X st (tWhile (liftT ca E Ft) (liftS ca E Fs))) : PSU ca E X st (whGo Ft Fs n) := ps_imp h fun D σ H ⟨f, G, s, rel, out⟩ => by
  refine ⟨fun m σ H => ∃ G s, Rel f G H σ s ∧ OutS ca f E G (whGo Ft Fs m s) D, ⟨n, G, s, rel, out⟩, ?_⟩
  rintro m σ H ⟨G, s, rel, o⟩
  cases m with
  | zero => exact o.elim
  | succ m =>
    unfold whGo at o
    refine ⟨f, G, s, rel, ?_⟩
    cases e1 : Ft s with
    | err c fs t => simp only [e1] at o; exact o
    | no => simp only [e1] at o; exact o.elim
    | ok k s1 =>
      simp only [e1] at o
      intro H1 G1 l1 rel1
      have o := OutS.le o l1
      cases k with
      | false => rw [if_neg Bool.false_ne_true]; exact o σ H1 G1 .refl rel1
      | true =>
        rw [if_pos rfl]
        refine ⟨fun σ' H' => ∃ G s, Rel f G H' σ' s ∧ OutS ca f E G (whGo Ft Fs m s) D, fun σ' H' z => ⟨m, Nat.lt_succ_self _, z⟩, f, G1, s1, rel1, ?_⟩
        cases e2 : Fs s1 with
        | err c fs t => simp only [e2] at o; exact o
        | no => simp only [e2] at o; exact o.elim
        | ok fw s3 =>
          simp only [e2] at o
          cases fw with
          | nx => exact fun σ3 H3 G3 l3 rel3 => ⟨G3, s3, rel3, OutS.le o l3⟩
          | ct => exact fun σ3 H3 G3 l3 rel3 => ⟨G3, s3, rel3, OutS.le o l3⟩
          | bk => exact o
          | rt x => exact o
/-! ### comprehensions -/
def wipeS (own : List Nat) (s : Pst) : Pst := { s with v := own.foldr (fun i v => v.set i .un) s.v }
theorem wipeS_len (own : List Nat) (s : Pst) : (wipeS own s).v.length = s.v.length := by
  unfold wipeS
  induction own with
  | nil => rfl
  | cons i own ih => rw [List.foldr_cons]; show (List.set _ _ _).length = _; rw [List.length_set]; exact ih
theorem getD_set_un {v : List Sl} {i j : Nat} : (v.set i .un).getD j .un = if j = i then .un else v.getD j .un := by
  rw [List.getD_eq_getElem?_getD, List.getD_eq_getElem?_getD]
  by_cases e : j = i
  · subst e
    rw [if_pos rfl]
    by_cases h : j < v.length
    · rw [List.getElem?_set_self h]; rfl
    · rw [List.getElem?_eq_none (by rw [List.length_set]; omega)]; rfl
  · rw [List.getElem?_set_ne (fun z => e z.symm), if_neg e]
theorem sl_wipeS {own : List Nat} {s : Pst} {j : Nat} : sl (wipeS own s) j = if j ∈ own then .un else sl s j := by
  unfold sl wipeS
  dsimp only
  induction own with
  | nil => rfl
  | cons i own ih =>
    rw [List.foldr_cons, getD_set_un, ih]
    by_cases e : j = i
    · subst e
      rw [if_pos rfl, if_pos List.mem_cons_self]
    · rw [if_neg e]
      by_cases h : j ∈ own
      · rw [if_pos h, if_pos (List.mem_cons_of_mem _ h)]
      · rw [if_neg h, if_neg (fun z => (List.mem_cons.mp z).elim e h)]
theorem wipe_at {σ : L2.St} {j : Nat} : ∀ {vs : List Nat}, j ∉ vs → (wipe σ vs)[j]? = σ[j]?
  | [], _ => rfl
  | v :: vs, h => by
    rw [List.mem_cons, not_or] at h
    unfold wipe
    rw [List.getElem?_set_ne (fun z => h.1 z.symm), wipe_at h.2]
theorem wipe_wipe (σ : L2.St) (vs : List Nat) : wipe (wipe σ vs) vs = wipe σ vs := by
  have go : ∀ us : List Nat, (∀ i ∈ us, i ∈ vs) → wipe (wipe σ us) vs = wipe σ vs := fun us => by
    induction us with
    | nil => intro _; rfl
    | cons i us ih =>
      intro h
      have e : wipe σ (i :: us) = (wipe σ us).set i none := rfl
      rw [e, wipe_set (h i List.mem_cons_self), ih fun j hj => h j (List.mem_cons_of_mem _ hj)]
  exact go vs fun _ h => h
theorem Rel.wipe {f : Fr} {G H : Hp} {σ : L2.St} {s : Pst} (r : Rel f G H σ s) (own : List Nat) : Rel f G H (wipe σ own) (wipeS own s) := by
  refine ⟨r.ok, r.sub, r.keep, r.g0, r.new, r.zn, r.tape, fun j => ?_, fun j k l1 l2 hjk e1 e2 => ?_, by rw [wipe_length, wipeS_len]; exact r.len⟩
  · rw [sl_wipeS]
    by_cases h : j ∈ own
    · rw [if_pos h]; trivial
    · rw [if_neg h]
      have v := r.vars j
      have e := wipe_at (σ := σ) h
      cases e' : sl s j with
      | un => trivial
      | fr d => rw [e'] at v; obtain ⟨w, h1, h2⟩ := v; exact ⟨w, e.trans h1, h2⟩
      | ow l => rw [e'] at v; obtain ⟨p, vs, h1, h2⟩ := v; exact ⟨p, vs, e.trans h1, h2⟩
  · rw [sl_wipeS] at e1 e2
    by_cases hj : j ∈ own
    · rw [if_pos hj] at e1; cases e1
    · by_cases hk : k ∈ own
      · rw [if_pos hk] at e2; cases e2
      · rw [if_neg hj] at e1
        rw [if_neg hk] at e2
        rw [wipe_at hj, wipe_at hk]
        exact r.dist j k l1 l2 hjk e1 e2
def backSl : Sl → Sl | .fr d => .fr d | _ => .un
def restore (own : List Nat) (s0 s : Pst) : Pst := { s with v := (List.range s.v.length).map fun i => if i ∈ own then backSl (sl s0 i) else sl s i }
theorem sl_restore {own : List Nat} {s0 s : Pst} {j : Nat} (h : j < s.v.length) : sl (restore own s0 s) j = if j ∈ own then backSl (sl s0 j) else sl s j := by
  unfold restore
  conv => lhs; unfold sl
  rw [List.getD_eq_getElem?_getD, List.getElem?_map, List.getElem?_range h]
  rfl
theorem sl_restore_out {own : List Nat} {s0 s : Pst} {j : Nat} (h : ¬ j < s.v.length) : sl (restore own s0 s) j = .un := by
  unfold restore sl
  rw [List.getD_eq_getElem?_getD, List.getElem?_eq_none (by rw [List.length_map, List.length_range]; omega)]
  rfl
theorem Rel.restore {f : Fr} {G0 G H0 H : Hp} {σ : L2.St} {s0 s : Pst} {own : List Nat} (r0 : Rel f G0 H0 σ s0) (l : Le G0 G) (r : Rel f G H (L2.wipe σ own) s) : Rel f G H σ (Pu.restore own s0 s) := by
  refine ⟨r.ok, r.sub, r.keep, r.g0, r.new, r.zn, r.tape, fun j => ?_, fun j k l1 l2 hjk e1 e2 => ?_, by show σ.length = (List.map _ (List.range s.v.length)).length; rw [List.length_map, List.length_range, ← r.len, wipe_length]⟩
  · by_cases hl : j < s.v.length
    · rw [sl_restore hl]
      by_cases h : j ∈ own
      · rw [if_pos h]
        have v := r0.vars j
        cases e' : sl s0 j with
        | un => trivial
        | fr d => rw [e'] at v; obtain ⟨w, h1, h2⟩ := v; exact ⟨w, h1, h2.le l⟩
        | ow l => trivial
      · rw [if_neg h]
        have v := r.vars j
        have e := wipe_at (σ := σ) h
        cases e' : sl s j with
        | un => trivial
        | fr d => rw [e'] at v; obtain ⟨w, h1, h2⟩ := v; exact ⟨w, e.symm.trans h1, h2⟩
        | ow l => rw [e'] at v; obtain ⟨p, vs, h1, h2⟩ := v; exact ⟨p, vs, e.symm.trans h1, h2⟩
    · rw [sl_restore_out hl]; trivial
  · have ow_of : ∀ {j l1}, sl (Pu.restore own s0 s) j = .ow l1 → j ∉ own ∧ sl s j = .ow l1 := fun {j l1} e => by
      by_cases hl : j < s.v.length
      · rw [sl_restore hl] at e
        by_cases h : j ∈ own
        · rw [if_pos h] at e
          cases e' : sl s0 j <;> (rw [e'] at e; cases e)
        · rw [if_neg h] at e
          exact ⟨h, e⟩
      · rw [sl_restore_out hl] at e; cases e
    obtain ⟨a1, a2⟩ := ow_of e1
    obtain ⟨b1, b2⟩ := ow_of e2
    have z := r.dist j k l1 l2 hjk a2 b2
    rw [wipe_at a1, wipe_at b1] at z
    exact z
/-! a list that is being made beside -/
def Fr.pin (f : Fr) (D : Addr) (o : HO) : Fr := { f with B := upd f.B D o }
structure Beside (f : Fr) (G H : Hp) (σ : L2.St) (s : Pst) (D : Addr) (o : HO) : Prop where
  h : H D = some o
  g : G D = none
  b : f.B D = none
  z : ¬ f.zone D
  ow : ∀ i l, sl s i = .ow l → σ[i]? ≠ some (some (.ref D))
theorem Rel.pin {f : Fr} {G H : Hp} {σ : L2.St} {s : Pst} {D : Addr} {o : HO} (r : Rel f G H σ s) (b : Beside f G H σ s D o) : Rel (f.pin D o) G H σ s := by
  refine ⟨⟨r.ok.stab, r.ok.ex⟩, r.sub, fun x u z e => ?_, r.g0, fun x h => ?_, r.zn, r.tape, fun i => ?_, r.dist, r.len⟩
  · have e' : upd f.B D o x = some u := e
    by_cases hx : x = D
    · subst hx
      rw [upd_same] at e'
      cases e'
      exact b.h
    · rw [upd_ne hx] at e'
      exact r.keep x u z e'
  · rcases r.new x h with z | z | z
    · exact .inl z
    · by_cases hx : x = D
      · subst hx; exact (h b.g).elim
      · exact .inr (.inl (by show upd f.B D o x = none; rw [upd_ne hx]; exact z))
    · exact .inr (.inr z)
  · have v := r.vars i
    cases e : sl s i with
    | un => trivial
    | fr d => rw [e] at v; exact v
    | ow l =>
      rw [e] at v
      obtain ⟨p, vs, h1, h2, h3, h4, h5, h6, h7⟩ := v
      have hp : p ≠ D := fun z => b.ow i l e (by rw [h1, z])
      exact ⟨p, vs, h1, h2, h3, h4, h5, by show upd f.B D o p = none; rw [upd_ne hp]; exact h6, h7⟩
theorem Rel.unpin {f : Fr} {G H : Hp} {σ : L2.St} {s : Pst} {D : Addr} {o : HO} (b : f.B D = none) (z : ¬ f.zone D) (g0 : f.G0 D = none) (ho : ∀ fs, o ≠ .xd fs) (r : Rel (f.pin D o) G H σ s) : Rel f G H σ s ∧ Beside f G H σ s D o := by
  have hD : H D = some o := r.keep D o z (by show upd f.B D o D = some o; rw [upd_same])
  have gD : G D = none := by
    cases e : G D with
    | none => rfl
    | some u =>
      rcases r.new D (by rw [e]; simp) with h | h | ⟨fs, h⟩
      · exact (h g0).elim
      · have h' : upd f.B D o D = none := h
        rw [upd_same] at h'; cases h'
      · have h' := r.sub _ _ h
        rw [hD] at h'
        exact (ho fs (Option.some.inj h')).elim
  have bn : ∀ x, upd f.B D o x = none → f.B x = none := fun x h => by
    by_cases hx : x = D
    · subst hx; exact b
    · rwa [upd_ne hx] at h
  refine ⟨⟨⟨r.ok.stab, r.ok.ex⟩, r.sub, fun x u z' e => ?_, r.g0, fun x h => ?_, r.zn, r.tape, fun i => ?_, r.dist, r.len⟩, hD, gD, b, z, fun i l e h => ?_⟩
  · refine r.keep x u z' ?_
    show upd f.B D o x = some u
    rw [upd_ne (fun w => by rw [w, b] at e; cases e)]; exact e
  · exact (r.new x h).imp id (Or.imp (bn x) id)
  · have v := r.vars i
    cases e : sl s i with
    | un => trivial
    | fr d => rw [e] at v; exact v
    | ow l =>
      rw [e] at v
      obtain ⟨p, vs, h1, h2, h3, h4, h5, h6, h7⟩ := v
      exact ⟨p, vs, h1, h2, h3, h4, h5, bn p h6, h7⟩
  · have v := r.vars i
    rw [e] at v
    obtain ⟨p, vs, h1, h2, h3, h4, h5, h6, h7⟩ := v
    rw [h] at h1
    cases h1
    have h6' : upd f.B D o D = none := h6
    rw [upd_same] at h6'; cases h6'
theorem Rel.pokeB {f : Fr} {G H : Hp} {σ : L2.St} {s : Pst} {D : Addr} {o o' : HO} (r : Rel f G H σ s) (b : Beside f G H σ s D o) : Rel f G (upd H D o') σ s ∧ Beside f G (upd H D o') σ s D o' := by
  refine ⟨⟨r.ok, fun x u e => ?_, fun x u z e => ?_, r.g0, r.new, r.zn, r.ok.stab _ _ _ (fun x u hz e => ?_) r.tape, fun i => ?_, r.dist, r.len⟩, upd_same, b.g, b.b, b.z, b.ow⟩
  · rw [upd_ne (fun w => by rw [w, b.g] at e; cases e)]; exact r.sub _ _ e
  · rw [upd_ne (fun w => by rw [w, b.b] at e; cases e)]; exact r.keep _ _ z e
  · rw [upd_ne (fun w => b.z (by rw [← w]; exact hz))]; exact e
  · have v := r.vars i
    cases e : sl s i with
    | un => trivial
    | fr d => rw [e] at v; exact v
    | ow l =>
      rw [e] at v
      obtain ⟨p, vs, h1, h2, h3⟩ := v
      have hp : p ≠ D := fun z => b.ow i l e (by rw [h1, z])
      exact ⟨p, vs, h1, by rw [upd_ne hp]; exact h2, h3⟩
/-- one turn's item: a target, a test, an element -/
def lcGo (own : List Nat) (A : PyData → Pst → Option Pst) (Ft : M Bool) (Fe : M OV) : List PyData → List PyData → M (List PyData)
  | [], acc, s => .ok acc s
  | d :: ds, acc, s => match A d s with
    | none => .no
    | some s1 => match Ft s1 with
      | .ok false s2 => lcGo own A Ft Fe ds acc (wipeS own s2)
      | .ok true s2 => (match Fe s2 with
        | .ok x s3 => if acc.length < lim then lcGo own A Ft Fe ds (acc ++ [x.d]) (wipeS own s3) else .no
        | _ => .no)
      | _ => .no
def lcF (own : List Nat) (A : PyData → Pst → Option Pst) (Fi : M (List PyData)) (Ft : M Bool) (Fe : M OV) : M OV := bnd Fi fun ds s => match lcGo own A Ft Fe ds [] (wipeS own s) with
  | .ok acc s' => .ok (.ow acc) (restore own s s')
  | _ => .no
theorem Out.bndI {f : Fr} {G H : Hp} {σ : L2.St} {s : Pst} {F : M (List PyData)} {k : List PyData → M OV} {Q : VK} {R : It → Hp → Prop} (rel : Rel f G H σ s) (out : Out ca f E G σ (bnd F k s) Q)
    (h : ∀ x s1 J H' G', Le G G' → Rel f G' H' σ s1 → WalkOk J x f.T G' → Out ca f E G' σ (k x s1) Q → R J H') : liftI ca E F σ H R := by
  refine ⟨f, G, s, rel, ?_⟩
  cases e : F s with
  | ok x s1 =>
    rw [bnd_ok e] at out
    exact fun J H' G' le rel' w => h x s1 J H' G' le rel' w (out.le le)
  | err c fs t => rw [bnd_err e] at out; exact out
  | no => rw [bnd_no e] at out; exact out
theorem lc_ok {g : TG} {A : PyData → Pst → Option Pst} {o1 own : List Nat} {Fi : M (List PyData)} (hg : TGOk g A o1) (hown : ∀ i ∈ o1, i ∈ own) {σ : L2.St} {H : Hp} {Q : VK} (h : liftE ca E (lcF own A Fi Ft Fa) σ H Q) :
    tLc (liftI ca E Fi) g (liftT ca E0 Ft) (liftE ca E0 Fa) own σ H Q := by
  obtain ⟨f, G, s, rel, out⟩ := h
  refine Out.bndI rel out fun ds s1 J H1 G1 l1 rel1 w o => ?_
  intro D nD
  have gD := rel1.gn nD
  have zD : ¬ f.zone D := fun z => rel1.ok.ex _ _ _ z rel1.tape nD
  have bD : f.B D = none := by
    cases e : f.B D with
    | none => rfl
    | some o => rw [rel1.keep _ _ zD e] at nD; cases nD
  have g0D : f.G0 D = none := by
    cases e : f.G0 D with
    | none => rfl
    | some o => rw [rel1.g0 _ _ e] at gD; cases gD
  obtain ⟨relF, ovF⟩ := rel1.fresh (xs := []) (l := []) nD .nil (by decide)
  have bes : Beside f G1 (upd H1 D (.lst [])) (wipe σ own) (wipeS own s1) D (.lst []) := by
    obtain ⟨p, vs, e, h1, h2, h3, h4, h5, h6, h7⟩ := ovF
    cases e
    refine ⟨upd_same, gD, bD, zD, fun i l e h => ?_⟩
    rw [sl_wipeS] at e
    by_cases hi : i ∈ own
    · rw [if_pos hi] at e; cases e
    · rw [if_neg hi] at e
      rw [wipe_at hi] at h
      exact h7 i l e h
  -- the run of the turns gives a list
  cases eg : lcGo own A Ft Fa ds [] (wipeS own s1) with
  | err c fs t => rw [eg] at o; exact o.elim
  | no => rw [eg] at o; exact o.elim
  | ok accF sF =>
  rw [eg] at o
  dsimp only at o
  refine ⟨fun i m H => m = ds.length - i ∧ i ≤ ds.length ∧ ∃ G s acc vs, Le G1 G ∧ Rel f G H (wipe σ own) s ∧ Beside f G H (wipe σ own) s D (.lst vs) ∧ RqAll f.T G vs acc ∧ acc.length ≤ lim ∧ lcGo own A Ft Fa (ds.drop i) acc s = .ok accF sF,
    ⟨ds.length, by simp, Nat.zero_le _, G1, wipeS own s1, [], [], .refl, relF.wipe own, bes, .nil, by decide, eg⟩, ?_⟩
  rintro i m H ⟨rfl, hi, G, s, acc, vs, lg, rel, bs, ra, hl, eg⟩
  have relP := rel.pin bs
  obtain ⟨w1, w2⟩ := w (f.pin D (.lst vs)) i G H (wipe σ own) s rfl lg relP
  by_cases hlt : i < ds.length
  · obtain ⟨hgo, hy⟩ := w1 hlt
    refine .inr ⟨hgo, fun H' => ∃ G s acc vs, Le G1 G ∧ Rel f G H' (wipe σ own) s ∧ Beside f G H' (wipe σ own) s D (.lst vs) ∧ RqAll f.T G vs acc ∧ acc.length ≤ lim ∧ lcGo own A Ft Fa (ds.drop (i + 1)) acc s = .ok accF sF,
      fun H' ⟨G, s, acc, vs, a⟩ => ⟨ds.length - (i + 1), by omega, rfl, hlt, G, s, acc, vs, a⟩, fun x H' y => ?_⟩
    obtain ⟨G', d, l', rel', ed, rq⟩ := hy x H' y
    have ed' : ds.drop i = d :: ds.drop (i + 1) := by
      rw [List.drop_eq_getElem_cons hlt]
      rw [List.getElem?_eq_getElem hlt] at ed
      cases ed
      rfl
    rw [ed'] at eg
    unfold lcGo at eg
    cases e1 : A d s with
    | none => rw [e1] at eg; cases eg
    | some s2 =>
      rw [e1] at eg
      dsimp only at eg
      refine hg (f.pin D (.lst vs)) G' H' (wipe σ own) s x d _ rel' rq ⟨s2, e1, fun σ2 rel2 wp => ⟨?_, ?_⟩⟩
      · rw [wp own hown, wipe_wipe]
      · have wσ : wipe σ2 own = wipe σ own := by rw [wp own hown, wipe_wipe]
        -- the next turn begins with the slots wiped
        have nextB : ∀ {G3 H3 : Hp} {s3 : Pst} {us : List V}, Rel f G3 H3 σ2 s3 → Beside f G3 H3 σ2 s3 D (.lst us) → Rel f G3 H3 (wipe σ own) (wipeS own s3) ∧ Beside f G3 H3 (wipe σ own) (wipeS own s3) D (.lst us) := fun {G3 H3 s3 us} r b => by
          have r' := r.wipe own
          rw [wσ] at r'
          refine ⟨r', b.h, b.g, b.b, b.z, fun i l e h => ?_⟩
          rw [sl_wipeS] at e
          by_cases hi : i ∈ own
          · rw [if_pos hi] at e; cases e
          · rw [if_neg hi] at e
            rw [← wσ, wipe_at hi] at h
            exact b.ow i l e h
        refine ⟨f.pin D (.lst vs), G', s2, rel2, ?_⟩
        cases e2 : Ft s2 with
        | err c fs t => rw [e2] at eg; cases eg
        | no => rw [e2] at eg; cases eg
        | ok k s3 =>
          rw [e2] at eg
          intro H3 G3 l3 rel3
          cases k with
          | false =>
            rw [if_neg Bool.false_ne_true]
            obtain ⟨r4, b4⟩ := rel3.unpin bD zD g0D (fun _ z => (by cases z))
            obtain ⟨r5, b5⟩ := nextB r4 b4
            exact ⟨G3, wipeS own s3, acc, vs, lg.trans (l'.trans l3), r5, b5, ra.le (l'.trans l3), hl, eg⟩
          | true =>
            rw [if_pos rfl]
            refine ⟨f.pin D (.lst vs), G3, s3, rel3, ?_⟩
            dsimp only at eg
            cases e3 : Fa s3 with
            | err c fs t => rw [e3] at eg; cases eg
            | no => rw [e3] at eg; cases eg
            | ok x s4 =>
              rw [e3] at eg
              dsimp only at eg
              intro v H4 G4 l4 rel4 ov4
              obtain ⟨G5, l5, rel5, rq5⟩ := rel4.frz ov4
              obtain ⟨r6, b6⟩ := rel5.unpin bD zD g0D (fun _ z => (by cases z))
              have lall : Le G G5 := l'.trans (l3.trans (l4.trans l5))
              by_cases hla : acc.length < lim
              · rw [if_pos hla] at eg
                refine ⟨vs, b6.h, by rw [ra.len]; exact lim_line (Nat.le_of_lt hla) |> fun z => Nat.lt_of_lt_of_le hla (by rw [sizeLine_eq]; decide), ?_⟩
                obtain ⟨r7, b7⟩ := r6.pokeB (o' := .lst (vs ++ [v])) b6
                obtain ⟨r8, b8⟩ := nextB r7 b7
                refine ⟨G5, wipeS own s4, acc ++ [x.d], vs ++ [v], lg.trans lall, r8, b8, (ra.le lall).app (.cons rq5 .nil), ?_, eg⟩
                rw [List.length_append]
                exact hla
              · rw [if_neg hla] at eg; cases eg
  · have e : i = ds.length := by omega
    refine .inl ⟨w2 e, ?_⟩
    subst e
    rw [List.drop_length] at eg
    cases eg
    have r9 := Rel.restore (own := own) rel1 lg rel
    refine o _ H G lg r9 ⟨D, vs, rfl, bs.h, ra, hl, bs.g, bD, zD, fun i l e h => ?_⟩
    by_cases hi : i ∈ own
    · by_cases hl' : i < sF.v.length
      · rw [sl_restore hl', if_pos hi] at e
        cases e' : sl s1 i <;> (rw [e'] at e; cases e)
      · rw [sl_restore_out hl'] at e; cases e
    · by_cases hl' : i < sF.v.length
      · rw [sl_restore hl', if_neg hi] at e
        exact bs.ow i l e (by rw [wipe_at hi]; exact h)
      · rw [sl_restore_out hl'] at e; cases e
theorem pu_lc {g : TG} {A : PyData → Pst → Option Pst} {o1 own : List Nat} {Fi : M (List PyData)} (hg : TGOk g A o1) (hown : ∀ i ∈ o1, i ∈ own) (h : PE X e (tLc (liftI ca E Fi) g (liftT ca E0 Ft) (liftE ca E0 Fa) own)) : PU ca E X e (lcF own A Fi Ft Fa) := pe_imp h fun _ _ _ z => lc_ok hg hown z
theorem ps_setLcU {i : Nat} {g : TG} {A : PyData → Pst → Option Pst} {o1 own : List Nat} {Fi : M (List PyData)} (hg : TGOk g A o1) (hown : ∀ i ∈ o1, i ∈ own) (h : PS X st (tAsg (tLc (liftI ca E Fi) g (liftT ca E0 Ft) (liftE ca E0 Fa) own) (gName i))) : PSU ca E X st (setF i (lcF own A Fi Ft Fa)) :=
  ps_setU (ps_imp h fun D σ H z => lc_ok hg hown z)
def yesT : M Bool := pur true
theorem i_yes {σ : L2.St} {H : Hp} {Q : Bool → Hp → Prop} (h : liftT ca E yesT σ H Q) : tYes σ H Q := by
  obtain ⟨f, G, s, rel, out⟩ := h
  exact out H G .refl rel
theorem pts_nilU {X : Cx} : PTs X [] (liftT ca E yesT) := ⟨fun pins s σ H Q I h => pts_nil.run pins s σ H Q I (i_yes h)⟩
end
end Pu
end SecU6
section SecU7
set_option Elab.async false
set_option linter.all false
set_option maxRecDepth 100000
set_option maxHeartbeats 4000000
namespace Pu
open PySem PySem.Spec PyProof.Rows L2 L2H Err
section
variable {ca : Str → Addr} {E : XK} {X : Cx} {a b c e tg : Expr} {pos : Pos} {Fa Fb Fc : M OV} {Ft Fu : M Bool} {st : Stmt} {sts : List Stmt} {Fs Fs' : M Fw}
/-! ### defs -/
inductive RT where
  | ok (x : OV) (t : Tps) | err (c : Str) (fs : List (Str × V)) (t : Tps) | no
abbrev Fn := List PyData → Tps → RT
def fin (r : Rs Fw) : RT := match r with
  | .ok (.rt x) s => .ok x s.t
  | .ok .nx s => .ok (.fr .none) s.t
  | .err c fs t => .err c fs t
  | _ => .no
/-- the slots of a def that begins -/
def begin (n : Nat) (ds : List PyData) (t : Tps) : Pst := ⟨ds.map .fr ++ List.replicate (n - ds.length) .un, t⟩
def fnF (n : Nat) (body : M Fw) : Fn := fun ds t => fin (body (begin n ds t))
structure RelR (f : Fr) (G H : Hp) (t : Tps) : Prop where
  ok : f.Ok
  sub : Le G H
  keep : ∀ b o, ¬ f.zone b → f.B b = some o → H b = some o
  g0 : Le f.G0 G
  new : ∀ b, G b ≠ none → f.G0 b ≠ none ∨ f.B b = none ∨ isX G b
  zn : ∀ b, f.zone b → G b = none
  tape : f.R t H
theorem Rel.r {f : Fr} {G H : Hp} {σ : L2.St} {s : Pst} (r : Rel f G H σ s) : RelR f G H s.t := ⟨r.ok, r.sub, r.keep, r.g0, r.new, r.zn, r.tape⟩
def OVR (f : Fr) (G H : Hp) (v : V) : OV → Prop
  | .fr d => Rq f.T G v d
  | .ow l => ∃ p vs, v = .ref p ∧ H p = some (.lst vs) ∧ RqAll f.T G vs l ∧ l.length ≤ lim ∧ G p = none ∧ f.B p = none ∧ ¬ f.zone p
theorem OVOk.r {f : Fr} {G H : Hp} {σ : L2.St} {s : Pst} {v : V} {x : OV} (o : OVOk f G H σ s v x) : OVR f G H v x := by
  cases x with
  | fr d => exact o
  | ow l => obtain ⟨p, vs, h1, h2, h3, h4, h5, h6, h7, _⟩ := o; exact ⟨p, vs, h1, h2, h3, h4, h5, h6, h7⟩
def OutR (ca : Str → Addr) (f : Fr) (E : XK) (G : Hp) (r : RT) (Q : VK) : Prop := match r with
  | .ok x t => ∀ v H' G', Le G G' → RelR f G' H' t → OVR f G' H' v x → Q v H'
  | .err c fs t => OutX ca f E c fs t
  | .no => False
/-- a def's promise: it does what p says -/
def spF (ca : Str → Addr) (n : Nat) (p : Fn) : Sp := fun vs H Q E => vs.length = n ∧ ∃ f G ds t, f.B = H ∧ f.G0 = G ∧ RelR f G H t ∧ RqAll f.T G vs ds ∧ OutR ca f E G (p ds t) Q
theorem begin_rel {f : Fr} {G H : Hp} {t : Tps} {N : List Str} {vs : List V} {ds : List PyData} (r : RelR f G H t) (ra : RqAll f.T G vs ds) (hl : vs.length ≤ N.length) : Rel f G H (L2.start N vs) (begin N.length ds t) := by
  have hd := ra.len
  have slv : ∀ i, sl (begin N.length ds t) i = (match ds[i]? with | some d => .fr d | none => .un) := fun i => by
    unfold sl begin
    dsimp only
    rw [List.getD_eq_getElem?_getD]
    by_cases h : i < ds.length
    · rw [List.getElem?_append_left (by rw [List.length_map]; exact h), List.getElem?_map, List.getElem?_eq_getElem h]
      rfl
    · rw [List.getElem?_append_right (by rw [List.length_map]; omega), List.getElem?_eq_none (l := ds) (by omega), List.getElem?_replicate]
      split <;> rfl
  refine ⟨r.ok, r.sub, r.keep, r.g0, r.new, r.zn, r.tape, fun i => ?_, fun i j l l' _ e => ?_, ?_⟩
  · rw [slv i]
    rcases ra.at i with ⟨v, d, e1, e2, rq⟩ | ⟨e1, e2⟩
    · rw [e2]
      refine ⟨v, ?_, rq⟩
      unfold L2.start
      rw [List.getElem?_append_left (by rw [List.length_map]; exact (List.getElem?_eq_some_iff.mp e1).1), List.getElem?_map, e1]
      rfl
    · rw [e2]; trivial
  · rw [slv i] at e
    cases e' : ds[i]? <;> (rw [e'] at e; cases e)
  · unfold L2.start begin
    rw [List.length_append, List.length_append, List.length_map, List.length_map, List.length_replicate, List.length_replicate, hd]
variable {P : Program} {w : World} {K : PySem.W.Frag} {mg : Str → Option Value} {base : Heap}
/-- a def by its body's meaning -/
theorem ok_fn {x qual : Str} {f : Addr} {fd : FuncData} {N ps : List Str} {k : Nat} {body : M Fw} (F : Fun K x qual st f fd) (S : FnScope N ps (defScope st)) (hl : ps.length ≤ N.length)
    (h : ∀ (cdv : Value) (A : Around) (outer : List Env) (s : Shared) (H : Hp) (E : XK), Room k (A.deeper (envOfC qual (defScope st) s.heap.objs.size f cdv)) →
      PSsU ca E (cxOf (L2N.CX P w) P w K mg base N qual (defScope st) f cdv A outer s H E) (defBody st) body) : FnOk P w K mg base (L2N.CX P w) (k + 1) f fd ps (spF ca ps.length (fnF N.length body)) := by
  refine Dt.okN F S (fun vs H Q E z => z.1) fun cdv A outer s H vs Q E hr z => ⟨_, h cdv A outer s H E hr, ?_⟩
  obtain ⟨hv, f', G, ds, t, e1, e2, r, ra, o⟩ := z
  refine ⟨f', G, begin N.length ds t, begin_rel r ra (by omega), ?_⟩
  unfold fnF at o
  cases er : body (begin N.length ds t) with
  | err c fs t => rw [er] at o; exact o
  | no => rw [er] at o; exact o.elim
  | ok fw s' =>
    rw [er] at o
    cases fw with
    | nx => exact fun σ' H' G' l rel => o .non H' G' l rel.r .non
    | rt x => exact fun v σ' H' G' l rel ov => o v H' G' l rel.r ov.r
    | bk => exact o.elim
    | ct => exact o.elim
/-! ### calls -/
def callF (n : Nat) (p : Fn) (Fs : M (List PyData)) : M OV := bnd Fs fun ds s => if ds.length = n then (match p ds s.t with
  | .ok x t => .ok x { s with t := t }
  | .err c fs t => .err c fs t
  | .no => .no) else .no
/-- back from a call -/
theorem back {f : Fr} {G H G' H' : Hp} {σ : L2.St} {s : Pst} {t : Tps} (r : Rel f G H σ s) (r' : RelR { f with B := H, G0 := G } G' H' t) : Rel f G' H' σ { s with t := t } := by
  have hb : ∀ b, H b = none → f.B b = none := fun b h => by
    by_cases z : f.zone b
    · exact (r.ok.ex _ _ _ z r.tape h).elim
    · cases e : f.B b with
      | none => rfl
      | some o => rw [r.keep _ _ z e] at h; cases h
  refine ⟨r.ok, r'.sub, fun b o z e => r'.keep b o z (r.keep b o z e), r.g0.trans r'.g0, fun b h => ?_, r'.zn, r'.tape, fun i => ?_, r.dist, r.len⟩
  · rcases r'.new b h with h | h | h
    · rcases r.new b h with h | h | ⟨fs, h⟩
      · exact .inl h
      · exact .inr (.inl h)
      · exact .inr (.inr ⟨fs, r'.g0 _ _ h⟩)
    · exact .inr (.inl (hb b h))
    · exact .inr (.inr h)
  · have v := r.vars i
    show SlOk f G' H' σ i (sl s i)
    cases e : sl s i with
    | un => trivial
    | fr d =>
      rw [e] at v
      obtain ⟨v, h1, h2⟩ := v
      exact ⟨v, h1, h2.le r'.g0⟩
    | ow l =>
      rw [e] at v
      obtain ⟨p, vs, h1, h2, h3, h4, h5, h6, h7⟩ := v
      refine ⟨p, vs, h1, r'.keep p _ h7 h2, h3.le r'.g0, h4, ?_, h6, h7⟩
      cases e2 : G' p with
      | none => rfl
      | some o =>
        rcases r'.new p (by rw [e2]; simp) with h | h | ⟨fs, h⟩
        · exact (h h5).elim
        · have h' : H p = none := h
          rw [h2] at h'; cases h'
        · have h' := r'.sub _ _ h
          rw [r'.keep p _ h7 h2] at h'; cases h'
theorem call_ok {n : Nat} {p : Fn} {Fs : M (List PyData)} {σ : L2.St} {H : Hp} {Q : VK} (h : liftE ca E (callF n p Fs) σ H Q) : tCall (spF ca n p) [] E (liftA ca E Fs) σ H Q := by
  obtain ⟨f, G, s, rel, out⟩ := h
  refine Out.bndA rel out fun ds s1 vs H1 G1 l1 rel1 ra o => ?_
  rw [List.append_nil]
  by_cases hn : ds.length = n
  · rw [if_pos hn] at o
    refine ⟨by rw [ra.len]; exact hn, { f with B := H1, G0 := G1 }, G1, ds, s1.t, rfl, rfl, ⟨⟨rel1.ok.stab, rel1.ok.ex⟩, rel1.sub, fun _ _ _ e => e, .refl, fun _ h => .inl h, rel1.zn, rel1.tape⟩, ra, ?_⟩
    cases er : p ds s1.t with
    | err c fs t =>
      simp only [er] at o
      exact fun d H' e k t' => o d H' e (fun b u z e => k b u z (rel1.keep b u z e)) t'
    | no => simp only [er] at o; exact o.elim
    | ok x t =>
      simp only [er] at o
      intro v H' G' l r' ov
      have rel' := back rel1 r'
      refine o v H' G' l rel' ?_
      cases x with
      | fr d => exact ov
      | ow l' =>
        obtain ⟨q, us, rfl, h2, h3, h4, h5, h6, h7⟩ := ov
        have h6' : H1 q = none := h6
        refine ⟨q, us, rfl, h2, h3, h4, h5, ?_, h7, fun i l2 e h => ?_⟩
        · cases e : f.B q with
          | none => rfl
          | some o => rw [rel1.keep _ _ h7 e] at h6'; cases h6'
        · have v := rel1.vars i
          have e' : sl s1 i = .ow l2 := e
          rw [e'] at v
          obtain ⟨q', us', g1, g2, _⟩ := v
          rw [h] at g1
          cases g1
          rw [h6'] at g2; cases g2
  · rw [if_neg hn] at o; exact o.elim
theorem pu_call {n : Nat} {p : Fn} {Fs : M (List PyData)} (h : PE X e (tCall (spF ca n p) [] E (liftA ca E Fs))) : PU ca E X e (callF n p Fs) := pe_imp h fun _ _ _ z => call_ok z
/-- called by names, from the last parameter to the first -/
def callR (n : Nat) (p : Fn) (Fs : M (List PyData)) : M OV := callF n (fun ds => p ds.reverse) Fs
theorem callR_ok {n : Nat} {p : Fn} {Fs : M (List PyData)} {σ : L2.St} {H : Hp} {Q : VK} (h : liftE ca E0 (callR n p Fs) σ H Q) : Dt.tCallR (spF ca n p) n (liftA ca E0 Fs) σ H Q := by
  have z := call_ok h
  unfold tCall at z
  unfold Dt.tCallR
  obtain ⟨f, G, s, rel, out⟩ := z
  refine ⟨f, G, s, rel, ?_⟩
  revert out
  unfold OutA
  split
  · intro out v H' G' l r ra
    have y : spF ca n (fun ds => p ds.reverse) (v ++ []) H' Q E0 := out v H' G' l r ra
    rw [List.append_nil] at y
    obtain ⟨y1, f', G1, ds, t, e1, e2, r', ra', o⟩ := y
    exact ⟨y1, by rw [List.length_reverse]; exact y1, f', G1, ds.reverse, t, e1, e2, r', ra'.rev, o⟩
  · exact id
  · exact id
theorem pu_callR {n : Nat} {p : Fn} {Fs : M (List PyData)} (h : PE X e (Dt.tCallR (spF ca n p) n (liftA ca E0 Fs))) : PU ca E0 X e (callR n p Fs) := pe_imp h fun _ _ _ z => callR_ok z
end
section
variable {ca : Str → Addr} {E : XK} {X : Cx} {e : Expr} {Fa : M OV}
/-- what raises nothing -/
def quiet (F : M OV) : M OV := fun s => match F s with | .ok x s' => .ok x s' | _ => .no
theorem pu_quiet (h : PU ca E0 X e Fa) : PU ca E X e (quiet Fa) := pe_imp h fun σ H Q ⟨f, G, s, rel, out⟩ => by
  refine ⟨f, G, s, rel, ?_⟩
  unfold quiet at out
  cases e : Fa s with
  | ok x s1 => rw [e] at out; exact out
  | err c fs t => rw [e] at out; exact out.elim
  | no => rw [e] at out; exact out.elim
abbrev PKs (ca : Str → Addr) (E : XK) (X : Cx) (kws : List Keyword) (F : M (List PyData)) : Prop := PK X kws (liftA ca E F)
/-! ### raise -/
def valOf : PyData → Option V | .none => some .non | .bool b => some (.bl b) | .int i => some (.int i) | .str z => some (.str z) | _ => none
def valsOf : List PyData → Option (List V)
  | [] => some []
  | d :: ds => (valOf d).bind fun v => (valsOf ds).map (v :: ·)
theorem vals_of {T : Addr} {G : Hp} : ∀ {ds : List PyData} {vs us : List V}, RqAll T G vs ds → valsOf ds = some us → vs = us
  | [], _, _, h, e => by cases h; cases e; rfl
  | d :: ds, _, _, h, e => by
    cases h with
    | cons a b =>
      unfold valsOf at e
      cases e1 : valOf d with
      | none => rw [e1] at e; cases e
      | some v =>
        rw [e1] at e
        cases e2 : valsOf ds with
        | none => rw [e2] at e; cases e
        | some us =>
          rw [e2] at e
          cases e
          rw [vals_of b e2]
          cases a <;> (first | (cases e1; rfl) | cases e1)
def raiseF (c : Str) (nm : List Str) (Fs : M (List PyData)) : M Fw := bnd Fs fun ds s => match valsOf ds with
  | some vs => if vs.length = nm.length ∧ nm.length ≤ 1000 ∧ nm ≠ [] then .err c (nm.zip vs).reverse s.t else .no
  | none => .no
theorem ps_raiseU {st : Stmt} {C : Addr} {c : Str} {nm : List Str} {Fs : M (List PyData)} (hC : ca c = C) (h : PS X st (fun _ σ H => tMkO C (Dt.spI C nm) [] (liftA ca E Fs) σ H fun cls d H' => E cls d H')) : PSU ca E X st (raiseF c nm Fs) := ps_imp h fun D σ H ⟨f, G, s, rel, out⟩ => by
  subst hC
  refine ⟨f, G, s, rel, ?_⟩
  unfold raiseF at out
  cases e : Fs s with
  | err c fs t => rw [bnd_err e] at out; exact out
  | no => rw [bnd_no e] at out; exact out.elim
  | ok ds s1 =>
    rw [bnd_ok e] at out
    intro vs H1 G1 l1 rel1 ra
    cases ev : valsOf ds with
    | none => simp only [ev] at out; exact out.elim
    | some us =>
      simp only [ev] at out
      cases vals_of ra ev
      by_cases hc : vs.length = nm.length ∧ nm.length ≤ 1000 ∧ nm ≠ []
      · rw [if_pos hc] at out
        refine Dt.raised_end hc.1 (by omega) hc.2.2 fun d H' e' sm => out d H' e' (fun b o z eb => sm _ _ (rel1.keep b o z eb)) (rel1.ok.stab _ _ _ (fun z o _ ez => sm _ _ ez) rel1.tape)
      · rw [if_neg hc] at out; exact out.elim
theorem pks_nil : PKs ca E X [] nilF := ⟨fun pos pins s σ H Q I h => pk_nil.run pos pins s σ H Q I (by obtain ⟨f, G, s, rel, out⟩ := h; exact out [] H G .refl rel .nil)⟩
theorem pks_cons {nm : Option Str} {kpos : Pos} {kws : List Keyword} {Fk : M (List PyData)} (ha : PU ca E X e Fa) (hr : PKs ca E X kws Fk) : PKs ca E X (⟨nm, e, kpos⟩ :: kws) (consF Fa Fk) := ⟨fun pos pins s σ H Q I h => (pk_cons ha hr).run pos pins s σ H Q I (by
  obtain ⟨f, G, s, rel, out⟩ := h
  refine OutA.bndE rel out fun x s1 v H1 G1 l1 rel1 ov1 out1 => ?_
  obtain ⟨G2, l2, rel2, rq⟩ := rel1.frz ov1
  refine OutA.bndA rel2 (out1.le l2) fun y s2 w H3 G3 l3 rel3 ov3 out3 => ?_
  exact out3 (v :: w) H3 G3 .refl rel3 (.cons (rq.le l3) ov3))⟩
end
end Pu
end SecU7
section SecUT
set_option Elab.async false
set_option linter.all false
set_option maxRecDepth 100000
set_option maxHeartbeats 4000000
namespace Pu
open PySem PySem.Spec PyProof.Rows L2 L2H Err
section
variable {ca : Str → Addr} {E : XK} {X : Cx} {a b c e tg : Expr} {pos : Pos} {Fa Fb Fc : M OV} {Ft Fu : M Bool} {st : Stmt} {sts : List Stmt} {Fs Fs' : M Fw}
abbrev tapeD : PyData := .dict []
/-- the place of the tape's k-th item among its numbers -/
def tpos (t : Tps) (k : Nat) : Option Nat := match t.k, k with
  | 1, k => if k < t.n.length then some k else none
  | 2, k => if k < t.n.length then some k else none
  | 3, k + 1 => if k < t.n.length then some k else none
  | _, _ => none
def onTape {α : Type} (i : Nat) (m : M α) : M α := fun s => match sl s i with
  | .fr (.dict []) => m s
  | _ => .no
theorem onTape_out {α : Type} {i : Nat} {m : M α} {s : Pst} {P : Rs α → Prop} (hP : P .no → False) (h : P (onTape i m s)) : sl s i = .fr tapeD ∧ P (m s) := by
  unfold onTape at h
  split at h
  · exact ⟨by assumption, h⟩
  · exact (hP h).elim
theorem Rel.isTape {f : Fr} {G H : Hp} {σ : L2.St} {s : Pst} {i : Nat} (r : Rel f G H σ s) (h : sl s i = .fr tapeD) : σ[i]? = some (some (.ref f.T)) := by
  have v := r.vars i
  rw [h] at v
  obtain ⟨v, h1, h2⟩ := v
  cases h2
  exact h1
/-- the tape as it stands: what stands at its k-th place, and what changes if a number is put there -/
theorem Rel.num {f : Fr} {G H : Hp} {σ : L2.St} {s : Pst} {k j : Nat} (r : Rel f G H σ s) (h : tpos s.t k = some j) : ∃ vs n, H f.T = some (.lst vs) ∧ s.t.n[j]? = some n ∧ j < s.t.n.length ∧ vs[k]? = some (.int n) ∧ f.k ≠ 0 ∧
    ∀ v, Rel f G (upd H f.T (.lst (vs.set k (.int v)))) σ { s with t := { s.t with n := s.t.n.set j v } } := by
  have poke : f.k ≠ 0 → ∀ o t', f.R t' (upd H f.T o) → Rel f G (upd H f.T o) σ { s with t := t' } := fun hk o t' ht => by
    have hz : f.zone f.T := .inl ⟨hk, rfl⟩
    have gT := r.zn _ hz
    refine ⟨r.ok, fun b u e => ?_, fun b u z e => ?_, r.g0, r.new, r.zn, ht, fun i => ?_, r.dist, r.len⟩
    · rw [upd_ne (fun w => by rw [w, gT] at e; cases e)]; exact r.sub _ _ e
    · rw [upd_ne (fun w => z (by rw [w]; exact hz))]; exact r.keep _ _ z e
    · have v := r.vars i
      show SlOk f G _ σ i (sl s i)
      cases e : sl s i with
      | un => trivial
      | fr d => rw [e] at v; exact v
      | ow l =>
        rw [e] at v
        obtain ⟨p, vs, h1, h2, h3, h4, h5, h6, h7⟩ := v
        exact ⟨p, vs, h1, by rw [upd_ne (fun w => h7 (by rw [w]; exact hz))]; exact h2, h3, h4, h5, h6, h7⟩
  obtain ⟨tk, rr⟩ := r.tape
  have fin : ∀ (k0 : Nat), j < s.t.n.length → ∃ n, s.t.n[j]? = some n := fun _ hj => ⟨_, List.getElem?_eq_getElem hj⟩
  rcases rr with hk | ⟨hk, e1, e2, e3⟩ | ⟨hk, e1⟩ | ⟨hk, e1, e2, e3⟩
  · exfalso
    unfold tpos at h
    rw [tk, hk] at h
    cases h
  · have h' : (if k < s.t.n.length then some k else none) = some j := by
      unfold tpos at h; rw [tk, hk] at h; exact h
    by_cases hl : k < s.t.n.length
    · rw [if_pos hl] at h'
      cases h'
      refine ⟨_, _, e1, List.getElem?_eq_getElem hl, hl, ?_, by omega, fun v => poke (by omega) _ _ ⟨tk, .inr (.inl ⟨hk, ?_, ?_, e3⟩)⟩⟩
      · rw [List.getElem?_append_left (by rw [List.length_map]; exact hl), List.getElem?_map, List.getElem?_eq_getElem hl]; rfl
      · rw [upd_same, List.map_set, List.set_append_left _ _ (by rw [List.length_map]; exact hl)]
      · rw [upd_ne e3]; exact e2
    · rw [if_neg hl] at h'; cases h'
  · have h' : (if k < s.t.n.length then some k else none) = some j := by
      unfold tpos at h; rw [tk, hk] at h; exact h
    by_cases hl : k < s.t.n.length
    · rw [if_pos hl] at h'
      cases h'
      refine ⟨_, _, e1, List.getElem?_eq_getElem hl, hl, ?_, by omega, fun v => poke (by omega) _ _ ⟨tk, .inr (.inr (.inl ⟨hk, ?_⟩))⟩⟩
      · rw [List.getElem?_map, List.getElem?_eq_getElem hl]; rfl
      · rw [upd_same, List.map_set]
    · rw [if_neg hl] at h'; cases h'
  · cases k with
    | zero => exfalso; unfold tpos at h; rw [tk, hk] at h; cases h
    | succ k =>
      have h' : (if k < s.t.n.length then some k else none) = some j := by
        unfold tpos at h; rw [tk, hk] at h; exact h
      by_cases hl : k < s.t.n.length
      · rw [if_pos hl] at h'
        cases h'
        refine ⟨_, _, e1, List.getElem?_eq_getElem hl, hl, ?_, by omega, fun v => poke (by omega) _ _ ⟨tk, .inr (.inr (.inr ⟨hk, ?_, ?_, e3⟩))⟩⟩
        · rw [List.getElem?_cons_succ, List.getElem?_map, List.getElem?_eq_getElem hl]; rfl
        · rw [upd_same, List.set_cons_succ, List.map_set]
        · rw [upd_ne e3]; exact e2
      · rw [if_neg hl] at h'; cases h'
/-- tape[k] -/
def tgetF (i k : Nat) : M OV := onTape i fun s => match tpos s.t k with
  | some j => .ok (.fr (.int (s.t.n.getD j 0))) s
  | none => .no
theorem pu_tget {i k : Nat} (h : PE X e (tOp (rIxL X.K) (tVar i) (tC (.int (k : Nat))))) : PU ca E X e (tgetF i k) := pe_imp h fun σ H Q ⟨f, G, s, rel, out⟩ => by
  obtain ⟨h1, out⟩ := onTape_out (P := fun r => Out ca f E G σ r Q) id out
  cases e1 : tpos s.t k with
  | none => simp only [e1] at out; exact out.elim
  | some j =>
    simp only [e1] at out
    obtain ⟨vs, n, hT, hn, hj, hv, _⟩ := rel.num e1
    refine ⟨_, rel.isTape h1, f.T, vs, (k : Nat), .int n, rfl, rfl, SqL.of hT, atI_nat hv, ?_⟩
    have e2 : s.t.n.getD j 0 = n := by rw [List.getD_eq_getElem?_getD, hn]; rfl
    rw [e2] at out
    exact out _ H G .refl rel (.int n)
/-- tape[k] = e -/
def tsetF (i k : Nat) (F : M OV) : M Fw := bnd F fun x => onTape i fun s => match x.d, tpos s.t k with
  | .int v, some j => .ok .nx { s with t := { s.t with n := s.t.n.set j v } }
  | _, _ => .no
theorem ps_tset {i k : Nat} (h : PS X st (tAsg (liftE ca E Fa) (gSub (tVar i) (tC (.int (k : Nat))) rSetL))) : PSU ca E X st (tsetF i k Fa) := ps_imp h fun D σ H ⟨f, G, s, rel, out⟩ => by
  refine OutS.bndE rel out fun x s1 v H1 G1 l1 rel1 ov1 o => ?_
  obtain ⟨G2, l2, rel2, rq⟩ := rel1.frz ov1
  have o := o.le l2
  obtain ⟨h1, o⟩ := onTape_out (P := fun r => OutS ca f E G2 r D) id o
  generalize x.d = d at o rq
  dsimp only at o
  cases d <;> first | exact (show False from o).elim | skip
  rename_i w
  cases rq
  cases e1 : tpos s1.t k with
  | none => simp only [e1] at o; exact o.elim
  | some j =>
    simp only [e1] at o
    obtain ⟨vs, n, hT, hn, hj, hv, _, k2⟩ := rel2.num e1
    refine ⟨_, rel2.isTape h1, f.T, vs, (k : Nat), k, rfl, rfl, hT, ?_, o σ _ G2 .refl (k2 w)⟩
    have hk : k < vs.length := (List.getElem?_eq_some_iff.mp hv).1
    unfold ixN
    rw [if_pos (by omega), if_pos (by omega)]
    rfl
/-! the tape's list -/
def tlist (t : Tps) (k : Nat) : Bool := (decide (t.k = 1) && decide (k = t.n.length)) || (decide (t.k = 3) && decide (k = 0))
theorem Rel.lst {f : Fr} {G H : Hp} {σ : L2.St} {s : Pst} {k : Nat} (r : Rel f G H σ s) (h : tlist s.t k = true) : ∃ vs, H f.T = some (.lst vs) ∧ vs[k]? = some (.ref f.l) ∧ H f.l = some (.lst (s.t.s.map V.int)) ∧ f.l ≠ f.T ∧ (f.k = 1 ∨ f.k = 3) ∧
    ∀ ns, Rel f G (upd H f.l (.lst (ns.map V.int))) σ { s with t := { s.t with s := ns } } := by
  have poke : (f.k = 1 ∨ f.k = 3) → ∀ o t', f.R t' (upd H f.l o) → Rel f G (upd H f.l o) σ { s with t := t' } := fun hk o t' ht => by
    have hz : f.zone f.l := .inr ⟨hk, rfl⟩
    have gT := r.zn _ hz
    refine ⟨r.ok, fun b u e => ?_, fun b u z e => ?_, r.g0, r.new, r.zn, ht, fun i => ?_, r.dist, r.len⟩
    · rw [upd_ne (fun w => by rw [w, gT] at e; cases e)]; exact r.sub _ _ e
    · rw [upd_ne (fun w => z (by rw [w]; exact hz))]; exact r.keep _ _ z e
    · have v := r.vars i
      show SlOk f G _ σ i (sl s i)
      cases e : sl s i with
      | un => trivial
      | fr d => rw [e] at v; exact v
      | ow l =>
        rw [e] at v
        obtain ⟨p, vs, h1, h2, h3, h4, h5, h6, h7⟩ := v
        exact ⟨p, vs, h1, by rw [upd_ne (fun w => h7 (by rw [w]; exact hz))]; exact h2, h3, h4, h5, h6, h7⟩
  obtain ⟨tk, rr⟩ := r.tape
  unfold tlist at h
  rw [tk, Bool.or_eq_true, Bool.and_eq_true, Bool.and_eq_true, decide_eq_true_eq, decide_eq_true_eq, decide_eq_true_eq, decide_eq_true_eq] at h
  rcases rr with hk | ⟨hk, e1, e2, e3⟩ | ⟨hk, e1⟩ | ⟨hk, e1, e2, e3⟩
  · exfalso; omega
  · obtain ⟨_, rfl⟩ : f.k = 1 ∧ k = s.t.n.length := by rcases h with h | h; exact h; omega
    refine ⟨_, e1, ?_, e2, e3, .inl hk, fun ns => poke (.inl hk) _ _ ⟨tk, .inr (.inl ⟨hk, ?_, upd_same, e3⟩)⟩⟩
    · rw [List.getElem?_append_right (by rw [List.length_map]; exact Nat.le_refl _), List.length_map, Nat.sub_self]; rfl
    · rw [upd_ne e3.symm]; exact e1
  · exfalso; omega
  · obtain ⟨_, rfl⟩ : f.k = 3 ∧ k = 0 := by rcases h with h | h; omega; exact h
    refine ⟨_, e1, rfl, e2, e3, .inr hk, fun ns => poke (.inr hk) _ _ ⟨tk, .inr (.inr (.inr ⟨hk, ?_, upd_same, e3⟩))⟩⟩
    rw [upd_ne e3.symm]; exact e1
/-- len(tape[k]) -/
def tlenF (i k : Nat) : M OV := onTape i fun s => if tlist s.t k = true then .ok (.fr (.int (s.t.s.length : Nat))) s else .no
theorem pu_tlen {i k : Nat} (h : PE X e (tCB (fun xs H Q => ∃ x n, xs = [x] ∧ LenV X.K x H n ∧ Q (.int n) H) (tCons (tOp (rIxL X.K) (tVar i) (tC (.int (k : Nat)))) tNil))) : PU ca E X e (tlenF i k) := pe_imp h fun σ H Q ⟨f, G, s, rel, out⟩ => by
  obtain ⟨h1, out⟩ := onTape_out (P := fun r => Out ca f E G σ r Q) id out
  by_cases e1 : tlist s.t k = true
  · simp only [e1, if_true] at out
    obtain ⟨vs, hT, hv, hl, _⟩ := rel.lst e1
    refine ⟨_, rel.isTape h1, f.T, vs, (k : Nat), _, rfl, rfl, SqL.of hT, atI_nat hv, ?_⟩
    refine ⟨_, (s.t.s.map V.int).length, rfl, .inl ⟨_, SqL.of hl, rfl⟩, ?_⟩
    rw [List.length_map]
    exact out _ H G .refl rel (.int _)
  · rw [if_neg e1] at out; exact out.elim
/-- tape[k][e] -/
def tatF' (i k : Nat) (F : M OV) : M OV := onTape i fun s => if tlist s.t k = true then (match F s with
  | .ok y s1 => if s1.t.k = s.t.k ∧ s1.t.s = s.t.s then (match y.d with
    | .int j => (match atI s.t.s j with | some n => .ok (.fr (.int n)) s1 | none => .no)
    | _ => .no) else .no
  | .err c fs t => .err c fs t
  | .no => .no) else .no
theorem pu_tat {i k : Nat} (h : PE X e (tOp (rIxL X.K) (tOp (rIxL X.K) (tVar i) (tC (.int (k : Nat)))) (liftE ca E Fa))) : PU ca E X e (tatF' i k Fa) := pe_imp h fun σ H Q ⟨f, G, s, rel, out⟩ => by
  obtain ⟨h1, out⟩ := onTape_out (P := fun r => Out ca f E G σ r Q) id out
  by_cases e1 : tlist s.t k = true
  · rw [if_pos e1] at out
    obtain ⟨vs, hT, hv, hl, hne, hfk, _⟩ := rel.lst e1
    refine ⟨_, rel.isTape h1, f.T, vs, (k : Nat), _, rfl, rfl, SqL.of hT, atI_nat hv, ?_⟩
    refine ⟨f, G, s, rel, ?_⟩
    cases e2 : Fa s with
    | err c fs t => simp only [e2] at out; exact out
    | no => simp only [e2] at out; exact out.elim
    | ok y s1 =>
      simp only [e2] at out
      intro v H1 G1 l1 rel1 ov1
      obtain ⟨G2, l2, rel2, rq⟩ := rel1.frz ov1
      by_cases e3 : s1.t.k = s.t.k ∧ s1.t.s = s.t.s
      · rw [if_pos e3] at out
        generalize y.d = d at out rq
        cases d <;> first | exact (show False from out).elim | skip
        rename_i j
        cases rq
        dsimp only at out
        cases e4 : atI s.t.s j with
        | none => simp only [e4] at out; exact out.elim
        | some n =>
          simp only [e4] at out
          -- the list stands as it stood
          obtain ⟨tk, rr⟩ := rel2.tape
          have hl1 : H1 f.l = some (.lst (s1.t.s.map V.int)) := by
            rcases rr with hk | ⟨hk, a1, a2, a3⟩ | ⟨hk, a1⟩ | ⟨hk, a1, a2, a3⟩
            · exfalso; omega
            · exact a2
            · exfalso; omega
            · exact a2
          rw [e3.2] at hl1
          refine ⟨f.l, _, j, .int n, rfl, rfl, SqL.of hl1, ?_, out _ H1 G2 (l1.trans l2) rel2 (.int n)⟩
          unfold atI at e4 ⊢
          rw [List.length_map]
          cases e5 : ixN s.t.s.length j with
          | none => rw [e5] at e4; cases e4
          | some m =>
            rw [e5] at e4
            have e4' : s.t.s[m]? = some n := e4
            show (s.t.s.map V.int)[m]? = _
            rw [List.getElem?_map, e4']
            rfl
      · rw [if_neg e3] at out; exact out.elim
  · rw [if_neg e1] at out; exact out.elim
/-- tape[k] as a test -/
def tanyT (i k : Nat) : M Bool := onTape i fun s => if tlist s.t k = true then .ok (!s.t.s.isEmpty) s else .no
theorem pt_tany {i k : Nat} (h : PT X e (fun σ H Q => tOp (rIxL X.K) (tVar i) (tC (.int (k : Nat))) σ H fun x H' => ∃ b, TruV X.K x H' b ∧ Q b H')) : PTU ca E X e (tanyT i k) := pt_imp h fun σ H Q ⟨f, G, s, rel, out⟩ => by
  obtain ⟨h1, out⟩ := onTape_out (P := fun r => OutT ca f E G σ r Q) id out
  by_cases e1 : tlist s.t k = true
  · simp only [e1, if_true] at out
    obtain ⟨vs, hT, hv, hl, _⟩ := rel.lst e1
    refine ⟨_, rel.isTape h1, f.T, vs, (k : Nat), _, rfl, rfl, SqL.of hT, atI_nat hv, !(s.t.s.map V.int).isEmpty, .inl ⟨_, SqL.of hl, rfl⟩, ?_⟩
    rw [List.isEmpty_map]
    exact out H G .refl rel
  · rw [if_neg e1] at out; exact out.elim
/-- tape[k].pop(0) -/
def tpopF (i k : Nat) : M OV := onTape i fun s => if tlist s.t k = true then (match s.t.s with
  | n :: r => .ok (.fr (.int n)) { s with t := { s.t with s := r } }
  | [] => .no) else .no
theorem pu_tpop {i k : Nat} (h : PE X e (tBM X.K "list" rPopAt (tOp (rIxL X.K) (tVar i) (tC (.int (k : Nat)))) (tCons (tC (.int 0)) tNil))) : PU ca E X e (tpopF i k) := pe_imp h fun σ H Q ⟨f, G, s, rel, out⟩ => by
  obtain ⟨h1, out⟩ := onTape_out (P := fun r => Out ca f E G σ r Q) id out
  by_cases e1 : tlist s.t k = true
  · simp only [e1, if_true] at out
    obtain ⟨vs, hT, hv, hl, _, _, put⟩ := rel.lst e1
    cases e2 : s.t.s with
    | nil => simp only [e2] at out; exact out.elim
    | cons n r =>
      simp only [e2] at out
      refine ⟨_, rel.isTape h1, f.T, vs, (k : Nat), _, rfl, rfl, SqL.of hT, atI_nat hv, .inl ⟨rfl, _, SqL.of hl⟩, ?_⟩
      rw [e2] at hl
      refine ⟨f.l, _, 0, 0, .int n, rfl, rfl, hl, by decide, by decide, ?_, rfl, ?_⟩
      · show seqIndex? 0 _ = some 0
        unfold seqIndex?
        simp
      · exact out _ _ G .refl (put r) (.int n)
  · rw [if_neg e1] at out; exact out.elim
end
end Pu
end SecUT
section SecZM
set_option Elab.async false
set_option linter.all false
set_option maxRecDepth 100000
set_option maxHeartbeats 4000000
/-! zip of a tuple and a list, of a list and a tuple -/
namespace ZTL
open PySem PySem.Spec PyProof.Rows L2
def ItM (K : PySem.W.Frag) (a b : Addr) : It where
  go := fun i H => ∃ (xs ys : List V), (SqT K H a xs ∧ SqL K H b ys) ∧ i < xs.length ∧ i < ys.length
  yld := fun i H v H' => ∃ T x y, v = .ref T ∧ H T = none ∧ H' = upd H T (.tup [x, y]) ∧ (∀ xs, SqT K H a xs → xs[i]? = some x) ∧ ∀ ys, SqL K H b ys → ys[i]? = some y
  stop := fun i H => ∃ (xs ys : List V), (SqT K H a xs ∧ SqL K H b ys) ∧ i = min xs.length ys.length
structure Lay (n a b : Nat) : Prop where
  ha : a < n
  hb : b < n
theorem Lay.sep {n a b : Nat} (D : Lay n a b) : ZipSep2 (n + 4) (n + 2) (n + 3) n (n + 1) [n, a] [n + 1, b] := by
  have h1 := D.ha
  have h2 := D.hb
  constructor <;> first | exact List.mem_cons_self | exact Z3.nm2 (by omega) (by omega) | exact Z3.ne_nat (by omega)
def Tn (n a b : Addr) (i : Nat) (h : Heap) : Prop :=
  IsZip h (n + 4) (n + 2) (n + 3) .none ∧ IsTupOf2 h (n + 2) (.ref n) (.ref (n + 1)) ∧ (∃ x y, IsTupOf2 h (n + 3) x y) ∧ h.IsTupleIter n a i ∧ h.IsListIter (n + 1) b i
abbrev fpZ (n : Addr) : List Addr := [n + 4, n + 2, n + 3, n, n + 1]
theorem fp_cases {n x : Addr} (h : x ∈ fpZ n) : x = n + 4 ∨ x = n + 2 ∨ x = n + 3 ∨ x = n ∨ x = n + 1 := by simpa using h
theorem wsub {n o : Addr} (h : o ∈ [n + 4, n + 3, n, n + 1]) : o ∈ fpZ n := by
  rcases List.mem_cons.mp h with rfl | h
  · exact .head _
  · exact .tail _ (.tail _ h)
theorem fp_lt {n m o : Nat} (k : n + 4 < m) (h : @Membership.mem Addr (List Addr) _ (fpZ n) o) : o < m := by
  rcases fp_cases h with e | e | e | e | e <;> (have e : o = _ := e; omega)
theorem turn {P : Program} {w : World} {K : PySem.W.Frag} {elts : List Expr} {kk : Nat} {tpos : Pos} {n a b : Addr} (D : Lay n a b) : Turn P w K (.Tuple elts kk tpos) (ItM K a b) (fpZ n) (n + 4) (Tn n a b) where
  mem := by simp
  obj := fun i h st x hx => by
    obtain ⟨t1, t2, ⟨_, _, t3⟩, ⟨o1, e1, _, d1⟩, ⟨o2, e2, _, d2⟩⟩ := st
    rcases fp_cases hx with rfl | rfl | rfl | rfl | rfl
    · exact ⟨_, t1, fun v z => by cases z⟩
    · exact ⟨_, t2, fun v z => by cases z⟩
    · exact ⟨_, t3, fun v z => by cases z⟩
    · exact ⟨o1, e1, fun v z => by rw [z] at d1; cases d1⟩
    · exact ⟨o2, e2, fun v z => by rw [z] at d2; cases d2⟩
  keep := fun i h h' st k => by
    obtain ⟨t1, t2, ⟨x, y, t3⟩, j1, j2⟩ := st
    exact ⟨k _ (by simp) _ t1, k _ (by simp) _ t2, ⟨x, y, k _ (by simp) _ t3⟩, j1.at fun o e => k _ (by simp) o e, j2.at fun o e => k _ (by simp) o e⟩
  item := by
    intro X hP hw hK hc i pins s σ H E I hf st hg
    subst hP hw hK
    obtain ⟨t1, t2, t3, j1, j2⟩ := st
    obtain ⟨xs, ys, ⟨q1, q2⟩, l1, l2⟩ := hg
    obtain ⟨m1, r1, p1, _⟩ := I.tuple q1
    obtain ⟨m2, r2, p2, _⟩ := I.list q2
    have hd : X.A.in1.handled = none := I.ok.hd hc
    have G := GoesN.zip2 (prog := X.prog) (w := X.w) (A := X.A) (elts := elts) (x1 := kk) (pos := tpos) D.sep (Draws.tuple hd n a (Z3.ne_nat (Nat.ne_of_lt D.ha)) m1.toArray) (Draws.list hd (n + 1) b (Z3.ne_nat (Nat.ne_of_lt (Nat.lt_succ_of_lt D.hb))) m2.toArray)
    have e1 := r1.length
    have e2 := r2.length
    have top : n + 4 < s.heap.objs.size := Heap.lt_size t1
    refine G.goes i s _ E (by simp only [List.size_toArray]; omega) ⟨t1, t2, t3, ⟨j1, p1⟩, ⟨j2, p2.isList⟩⟩ fun v h' tk hy st' hk htk => ?_
    obtain ⟨T, x, y, rfl, hT, x1, x2, tt⟩ := hy
    obtain ⟨s1, s2, s3, ⟨k1, _⟩, ⟨k2, _⟩⟩ := st'
    have g1 : m1[i]? = some x := by simpa using x1
    have g2 : m2[i]? = some y := by simpa using x2
    have f1 : xs[i]? = some xs[i] := List.getElem?_eq_getElem l1
    have f2 : ys[i]? = some ys[i] := List.getElem?_eq_getElem l2
    obtain ⟨u1, v1, w1⟩ := r1.get f1
    obtain ⟨u2, v2, w2⟩ := r2.get f2
    rw [g1] at v1
    rw [g2] at v2
    cases v1
    cases v2
    have I1 := I.turnedNew (t' := tk) (T := T) (ob := .tup [xs[i], ys[i]]) (ch := fpZ n) (fun o u ho hu => hk o u (fun z => ho (wsub z)) hu) hf hT ⟨by show 2 ≤ sizeLine; decide, _, .cons w1 (.cons w2 .nil), tt⟩
    refine ⟨.ref T, _, I1, rfl, ⟨T, _, _, rfl, I.hok.fresh hT, rfl, fun l hl => by rw [I.tuple_inj hl q1]; exact f1, fun l hl => by rw [I.list_inj hl q2]; exact f2⟩, ⟨s1, s2, s3, k1, k2⟩, fun o ho => ?_⟩
    rw [upd_ne (Z3.ne_nat (Nat.ne_of_lt (Nat.lt_of_lt_of_le (fp_lt top ho) hT)))]
    exact (hf o ho).1
  done := by
    intro X hP hw hK hc i pins s σ H E I hf st hg
    subst hP hw hK
    obtain ⟨t1, t2, t3, j1, j2⟩ := st
    obtain ⟨xs, ys, ⟨q1, q2⟩, ei⟩ := hg
    obtain ⟨m1, r1, p1, _⟩ := I.tuple q1
    obtain ⟨m2, r2, p2, _⟩ := I.list q2
    have hd : X.A.in1.handled = none := I.ok.hd hc
    have G := GoesN.zip2 (prog := X.prog) (w := X.w) (A := X.A) (elts := elts) (x1 := kk) (pos := tpos) D.sep (Draws.tuple hd n a (Z3.ne_nat (Nat.ne_of_lt D.ha)) m1.toArray) (Draws.list hd (n + 1) b (Z3.ne_nat (Nat.ne_of_lt (Nat.lt_succ_of_lt D.hb))) m2.toArray)
    have e1 := r1.length
    have e2 := r2.length
    have ei : i = min m1.toArray.size m2.toArray.size := by simp only [List.size_toArray]; omega
    rw [ei] at j1 j2
    exact G.stops s _ E ⟨t1, t2, t3, ⟨j1, p1⟩, ⟨j2, p2.isList⟩⟩ fun h' tk hk htk => I.turnedL (t' := tk) (ch := fpZ n) (fun o u ho hu => hk o u (fun z => ho (wsub z)) hu) hf
  self := fun A i s Q E st h => wpAny_pyIter_zip st.1 h
def iZipM (K : PySem.W.Frag) (ta : TA) : TI := fun σ H R => ta σ H fun vs H1 => ∃ a b xs ys, vs = [.ref a, .ref b] ∧ SqT K H1 a xs ∧ SqL K H1 b ys ∧ R (ItM K a b) H1
theorem pi_zipM {X : Cx} {e e2 : Expr} {ta : TA} {p pos tpos : Pos} {elts : List Expr} {kk : Nat} (hg : Gl X "zip") (hm : X.mg "zip" = none) (ha : PA X [e, e2] ta)
    (hs : starEach [e, e2] X.env = (false, eval e X.env) :: starEach [e2] X.env := by rfl) (hpl : (backTo pos (starEach [e2] X.env)).any (·.1) = false := by rfl) :
    PI X (.Tuple elts kk tpos) (.Call (.Name "zip" p) [e, e2] [] pos) (iZipM X.K ta) := by
  refine ⟨fun pins s σ H R I h => Call_ (ld_blt I hg hm PyProof.Rows.boot_zip (PyProof.Rows.callWith_type1 (thn (ha.run pos pins s σ H _ I h) fun us s1 ⟨vs, H1, I1, r1, q1⟩ => ?_) hs hpl))⟩
  obtain ⟨a, b, xs, ys, ex, q1, q2, q⟩ := q1
  subst ex
  cases r1 with
  | cons r rr =>
    cases rr with
    | cons r' rr =>
      cases rr
      cases r
      cases r'
      obtain ⟨m1, v1, p1, _⟩ := I1.tuple q1
      obtain ⟨m2, v2, p2, _⟩ := I1.list q2
      have lt1 : a < s1.heap.objs.size := by obtain ⟨o, e, _⟩ := p1; exact Heap.lt_size e
      have lt2 : b < s1.heap.objs.size := p2.lt
      refine zip_begins2 (begins_tuple a m1.toArray) (begins_list b m2.toArray) p1 p2.isList fun h' z0 z1 z2 z3 z4 sz hk => wpAny_pyIter_zip z0 ?_
      refine ⟨s1.heap.objs.size + 4, fpZ s1.heap.objs.size, Tn s1.heap.objs.size a b, ItM X.K a b, H1, rfl, I1.kept (t' := s1.toks) hk, turn ⟨lt1, lt2⟩, ⟨z0, z1, ⟨_, _, z2⟩, ⟨_, z3, rfl, rfl⟩, ⟨_, z4, rfl, rfl⟩⟩, fun o ho => ?_, q⟩
      have hle : s1.heap.objs.size ≤ o := by rcases fp_cases ho with rfl | rfl | rfl | rfl | rfl <;> omega
      exact I1.fpOk hle (I1.hok.fresh hle)
end ZTL
namespace ZLT
open PySem PySem.Spec PyProof.Rows L2
def ItM (K : PySem.W.Frag) (a b : Addr) : It where
  go := fun i H => ∃ (xs ys : List V), (SqL K H a xs ∧ SqT K H b ys) ∧ i < xs.length ∧ i < ys.length
  yld := fun i H v H' => ∃ T x y, v = .ref T ∧ H T = none ∧ H' = upd H T (.tup [x, y]) ∧ (∀ xs, SqL K H a xs → xs[i]? = some x) ∧ ∀ ys, SqT K H b ys → ys[i]? = some y
  stop := fun i H => ∃ (xs ys : List V), (SqL K H a xs ∧ SqT K H b ys) ∧ i = min xs.length ys.length
structure Lay (n a b : Nat) : Prop where
  ha : a < n
  hb : b < n
theorem Lay.sep {n a b : Nat} (D : Lay n a b) : ZipSep2 (n + 4) (n + 2) (n + 3) n (n + 1) [n, a] [n + 1, b] := by
  have h1 := D.ha
  have h2 := D.hb
  constructor <;> first | exact List.mem_cons_self | exact Z3.nm2 (by omega) (by omega) | exact Z3.ne_nat (by omega)
def Tn (n a b : Addr) (i : Nat) (h : Heap) : Prop :=
  IsZip h (n + 4) (n + 2) (n + 3) .none ∧ IsTupOf2 h (n + 2) (.ref n) (.ref (n + 1)) ∧ (∃ x y, IsTupOf2 h (n + 3) x y) ∧ h.IsListIter n a i ∧ h.IsTupleIter (n + 1) b i
abbrev fpZ (n : Addr) : List Addr := [n + 4, n + 2, n + 3, n, n + 1]
theorem fp_cases {n x : Addr} (h : x ∈ fpZ n) : x = n + 4 ∨ x = n + 2 ∨ x = n + 3 ∨ x = n ∨ x = n + 1 := by simpa using h
theorem wsub {n o : Addr} (h : o ∈ [n + 4, n + 3, n, n + 1]) : o ∈ fpZ n := by
  rcases List.mem_cons.mp h with rfl | h
  · exact .head _
  · exact .tail _ (.tail _ h)
theorem fp_lt {n m o : Nat} (k : n + 4 < m) (h : @Membership.mem Addr (List Addr) _ (fpZ n) o) : o < m := by
  rcases fp_cases h with e | e | e | e | e <;> (have e : o = _ := e; omega)
theorem turn {P : Program} {w : World} {K : PySem.W.Frag} {elts : List Expr} {kk : Nat} {tpos : Pos} {n a b : Addr} (D : Lay n a b) : Turn P w K (.Tuple elts kk tpos) (ItM K a b) (fpZ n) (n + 4) (Tn n a b) where
  mem := by simp
  obj := fun i h st x hx => by
    obtain ⟨t1, t2, ⟨_, _, t3⟩, ⟨o1, e1, _, d1⟩, ⟨o2, e2, _, d2⟩⟩ := st
    rcases fp_cases hx with rfl | rfl | rfl | rfl | rfl
    · exact ⟨_, t1, fun v z => by cases z⟩
    · exact ⟨_, t2, fun v z => by cases z⟩
    · exact ⟨_, t3, fun v z => by cases z⟩
    · exact ⟨o1, e1, fun v z => by rw [z] at d1; cases d1⟩
    · exact ⟨o2, e2, fun v z => by rw [z] at d2; cases d2⟩
  keep := fun i h h' st k => by
    obtain ⟨t1, t2, ⟨x, y, t3⟩, j1, j2⟩ := st
    exact ⟨k _ (by simp) _ t1, k _ (by simp) _ t2, ⟨x, y, k _ (by simp) _ t3⟩, j1.at fun o e => k _ (by simp) o e, j2.at fun o e => k _ (by simp) o e⟩
  item := by
    intro X hP hw hK hc i pins s σ H E I hf st hg
    subst hP hw hK
    obtain ⟨t1, t2, t3, j1, j2⟩ := st
    obtain ⟨xs, ys, ⟨q1, q2⟩, l1, l2⟩ := hg
    obtain ⟨m1, r1, p1, _⟩ := I.list q1
    obtain ⟨m2, r2, p2, _⟩ := I.tuple q2
    have hd : X.A.in1.handled = none := I.ok.hd hc
    have G := GoesN.zip2 (prog := X.prog) (w := X.w) (A := X.A) (elts := elts) (x1 := kk) (pos := tpos) D.sep (Draws.list hd n a (Z3.ne_nat (Nat.ne_of_lt D.ha)) m1.toArray) (Draws.tuple hd (n + 1) b (Z3.ne_nat (Nat.ne_of_lt (Nat.lt_succ_of_lt D.hb))) m2.toArray)
    have e1 := r1.length
    have e2 := r2.length
    have top : n + 4 < s.heap.objs.size := Heap.lt_size t1
    refine G.goes i s _ E (by simp only [List.size_toArray]; omega) ⟨t1, t2, t3, ⟨j1, p1.isList⟩, ⟨j2, p2⟩⟩ fun v h' tk hy st' hk htk => ?_
    obtain ⟨T, x, y, rfl, hT, x1, x2, tt⟩ := hy
    obtain ⟨s1, s2, s3, ⟨k1, _⟩, ⟨k2, _⟩⟩ := st'
    have g1 : m1[i]? = some x := by simpa using x1
    have g2 : m2[i]? = some y := by simpa using x2
    have f1 : xs[i]? = some xs[i] := List.getElem?_eq_getElem l1
    have f2 : ys[i]? = some ys[i] := List.getElem?_eq_getElem l2
    obtain ⟨u1, v1, w1⟩ := r1.get f1
    obtain ⟨u2, v2, w2⟩ := r2.get f2
    rw [g1] at v1
    rw [g2] at v2
    cases v1
    cases v2
    have I1 := I.turnedNew (t' := tk) (T := T) (ob := .tup [xs[i], ys[i]]) (ch := fpZ n) (fun o u ho hu => hk o u (fun z => ho (wsub z)) hu) hf hT ⟨by show 2 ≤ sizeLine; decide, _, .cons w1 (.cons w2 .nil), tt⟩
    refine ⟨.ref T, _, I1, rfl, ⟨T, _, _, rfl, I.hok.fresh hT, rfl, fun l hl => by rw [I.list_inj hl q1]; exact f1, fun l hl => by rw [I.tuple_inj hl q2]; exact f2⟩, ⟨s1, s2, s3, k1, k2⟩, fun o ho => ?_⟩
    rw [upd_ne (Z3.ne_nat (Nat.ne_of_lt (Nat.lt_of_lt_of_le (fp_lt top ho) hT)))]
    exact (hf o ho).1
  done := by
    intro X hP hw hK hc i pins s σ H E I hf st hg
    subst hP hw hK
    obtain ⟨t1, t2, t3, j1, j2⟩ := st
    obtain ⟨xs, ys, ⟨q1, q2⟩, ei⟩ := hg
    obtain ⟨m1, r1, p1, _⟩ := I.list q1
    obtain ⟨m2, r2, p2, _⟩ := I.tuple q2
    have hd : X.A.in1.handled = none := I.ok.hd hc
    have G := GoesN.zip2 (prog := X.prog) (w := X.w) (A := X.A) (elts := elts) (x1 := kk) (pos := tpos) D.sep (Draws.list hd n a (Z3.ne_nat (Nat.ne_of_lt D.ha)) m1.toArray) (Draws.tuple hd (n + 1) b (Z3.ne_nat (Nat.ne_of_lt (Nat.lt_succ_of_lt D.hb))) m2.toArray)
    have e1 := r1.length
    have e2 := r2.length
    have ei : i = min m1.toArray.size m2.toArray.size := by simp only [List.size_toArray]; omega
    rw [ei] at j1 j2
    exact G.stops s _ E ⟨t1, t2, t3, ⟨j1, p1.isList⟩, ⟨j2, p2⟩⟩ fun h' tk hk htk => I.turnedL (t' := tk) (ch := fpZ n) (fun o u ho hu => hk o u (fun z => ho (wsub z)) hu) hf
  self := fun A i s Q E st h => wpAny_pyIter_zip st.1 h
def iZipM (K : PySem.W.Frag) (ta : TA) : TI := fun σ H R => ta σ H fun vs H1 => ∃ a b xs ys, vs = [.ref a, .ref b] ∧ SqL K H1 a xs ∧ SqT K H1 b ys ∧ R (ItM K a b) H1
theorem pi_zipM {X : Cx} {e e2 : Expr} {ta : TA} {p pos tpos : Pos} {elts : List Expr} {kk : Nat} (hg : Gl X "zip") (hm : X.mg "zip" = none) (ha : PA X [e, e2] ta)
    (hs : starEach [e, e2] X.env = (false, eval e X.env) :: starEach [e2] X.env := by rfl) (hpl : (backTo pos (starEach [e2] X.env)).any (·.1) = false := by rfl) :
    PI X (.Tuple elts kk tpos) (.Call (.Name "zip" p) [e, e2] [] pos) (iZipM X.K ta) := by
  refine ⟨fun pins s σ H R I h => Call_ (ld_blt I hg hm PyProof.Rows.boot_zip (PyProof.Rows.callWith_type1 (thn (ha.run pos pins s σ H _ I h) fun us s1 ⟨vs, H1, I1, r1, q1⟩ => ?_) hs hpl))⟩
  obtain ⟨a, b, xs, ys, ex, q1, q2, q⟩ := q1
  subst ex
  cases r1 with
  | cons r rr =>
    cases rr with
    | cons r' rr =>
      cases rr
      cases r
      cases r'
      obtain ⟨m1, v1, p1, _⟩ := I1.list q1
      obtain ⟨m2, v2, p2, _⟩ := I1.tuple q2
      have lt1 : a < s1.heap.objs.size := p1.lt
      have lt2 : b < s1.heap.objs.size := by obtain ⟨o, e, _⟩ := p2; exact Heap.lt_size e
      refine zip_begins2 (begins_list a m1.toArray) (begins_tuple b m2.toArray) p1.isList p2 fun h' z0 z1 z2 z3 z4 sz hk => wpAny_pyIter_zip z0 ?_
      refine ⟨s1.heap.objs.size + 4, fpZ s1.heap.objs.size, Tn s1.heap.objs.size a b, ItM X.K a b, H1, rfl, I1.kept (t' := s1.toks) hk, turn ⟨lt1, lt2⟩, ⟨z0, z1, ⟨_, _, z2⟩, ⟨_, z3, rfl, rfl⟩, ⟨_, z4, rfl, rfl⟩⟩, fun o ho => ?_, q⟩
      have hle : s1.heap.objs.size ≤ o := by rcases fp_cases ho with rfl | rfl | rfl | rfl | rfl <;> omega
      exact I1.fpOk hle (I1.hok.fresh hle)
end ZLT
end SecZM
section SecU8
set_option Elab.async false
set_option linter.all false
set_option maxRecDepth 100000
set_option maxHeartbeats 4000000
namespace Pu
open PySem PySem.Spec PyProof.Rows L2 L2H Err
section
variable {ca : Str → Addr} {E : XK} {X : Cx} {a b c e tg : Expr} {pos : Pos} {Fa Fb Fc : M OV} {Ft Fu : M Bool} {st : Stmt} {sts : List Stmt} {Fs Fs' : M Fw}
def dGcd : PyData → PyData → R1 | .int i, .int j => okI (Nat.gcd i.natAbs j.natAbs : Nat) | _, _ => .no
theorem sim_gcd : Sim2 (fun v w => rGcd [v, w]) dGcd := by
  intro ca f E G H σ s Q v w x y rel rx ry o
  cases rx <;> cases ry <;> first | exact out_no o | skip
  rename_i i j
  exact ⟨i, j, rfl, out_i rel o⟩
/-! bit_length -/
def bitsF (F : M OV) : M OV := bnd F fun x => match x.d with | .int i => pur (.fr (.int (Builtin.Int.intBits i : Nat))) | _ => no
/-! ### a tuple's sum, least, greatest -/
/-! ### names for a row: a tuple or a list -/
def unlA (n : Nat) (B : List PyData → Pst → Option Pst) : PyData → Pst → Option Pst
  | .list l, s => if l.length = n then B l s else none
  | _, _ => none
theorem unlA_some {n : Nat} {B : List PyData → Pst → Option Pst} {d : PyData} {s s' : Pst} (e : unlA n B d s = some s') : ∃ l, d = .list l ∧ l.length = n ∧ B l s = some s' := by
  cases d <;> first | (cases e; done) | skip
  case list l =>
    have e' : (if l.length = n then B l s else none) = some s' := e
    by_cases hn : l.length = n
    · rw [if_pos hn] at e'
      exact ⟨l, rfl, hn, e'⟩
    · rw [if_neg hn] at e'; cases e'
theorem Rq.lstE {T : Addr} {G : Hp} {v : V} {l : List PyData} (h : Rq T G v (.list l)) : ∃ p vs, v = .ref p ∧ G p = some (.lst vs) ∧ RqAll T G vs l ∧ l.length ≤ lim := by
  cases h with
  | lst e1 ra hl => exact ⟨_, _, rfl, e1, ra, hl⟩
theorem tg_unl {K : PySem.W.Frag} {n : Nat} {gs : TGs} {B : List PyData → Pst → Option Pst} {o : List Nat} (h : TGsOk gs B o) : TGOk (gUnl K n gs) (unlA n B) o := fun f G H σ s v d Q rel rq ⟨s', e, k⟩ => by
  obtain ⟨l, rfl, hn, e'⟩ := unlA_some e
  obtain ⟨p, vs, rfl, e1, ra, hl⟩ := rq.lstE
  exact ⟨p, vs, rfl, SqL.of (rel.sub _ _ e1), by rw [ra.len]; exact hn, h f G H σ s _ l Q rel ra ⟨s', e', k⟩⟩
/-! zip of any two rows -/
def zipA : List PyData → M (List PyData)
  | [a, b] => match items a, items b with
    | some xs, some ys => pur (zipD xs ys)
    | _, _ => no
  | _ => no
theorem zip_cases {a b : PyData} {xs ys : List PyData} (h1 : items a = some xs) (h2 : items b = some ys) : (a = .list xs ∧ b = .list ys) ∨ (a = .tuple xs ∧ b = .tuple ys) ∨ (a = .tuple xs ∧ b = .list ys) ∨ (a = .list xs ∧ b = .tuple ys) := by
  cases a <;> (first | (cases h1; done) | skip) <;> cases b <;> (first | (cases h2; done) | skip) <;> (cases h1; cases h2)
  · exact .inl ⟨rfl, rfl⟩
  · exact .inr (.inr (.inr ⟨rfl, rfl⟩))
  · exact .inr (.inr (.inl ⟨rfl, rfl⟩))
  · exact .inr (.inl ⟨rfl, rfl⟩)
theorem walk_zipTL {T a b : Addr} {K : PySem.W.Frag} {G : Hp} {xs ys : List V} {ds es : List PyData} (e1 : G a = some (.tup xs)) (r1 : RqAll T G xs ds) (e2 : G b = some (.lst ys)) (r2 : RqAll T G ys es) : WalkOk (ZTL.ItM K a b) (zipD ds es) T G := fun f i G1 H σ s eT l rel => by
  have h1 : SqT K H a xs := SqT.of (rel.sub _ _ (l _ _ e1))
  have h2 : SqL K H b ys := SqL.of (rel.sub _ _ (l _ _ e2))
  refine ⟨fun hi => ?_, fun hi => ⟨xs, ys, ⟨h1, h2⟩, by rw [hi, zipD_len, r1.len, r2.len]⟩⟩
  have hi1 : i < ds.length := by rw [zipD_len] at hi; omega
  have hi2 : i < es.length := by rw [zipD_len] at hi; omega
  obtain ⟨u', eu', ru⟩ := r1.get (List.getElem?_eq_getElem hi1)
  obtain ⟨v', ev', rv⟩ := r2.get (List.getElem?_eq_getElem hi2)
  refine ⟨⟨xs, ys, ⟨h1, h2⟩, by rw [r1.len]; exact hi1, by rw [r2.len]; exact hi2⟩, fun x H' y => ?_⟩
  obtain ⟨T', u, v, rfl, n, rfl, eu, ev⟩ := y
  have a1 := eu xs h1
  have a2 := ev ys h2
  rw [eu'] at a1; cases a1
  rw [ev'] at a2; cases a2
  subst eT
  obtain ⟨q1, q2, q3⟩ := pair_step rel n (ru.le l) (rv.le l)
  exact ⟨_, _, q1, q2, zipD_at hi1 hi2, q3⟩
theorem walk_zipLT {T a b : Addr} {K : PySem.W.Frag} {G : Hp} {xs ys : List V} {ds es : List PyData} (e1 : G a = some (.lst xs)) (r1 : RqAll T G xs ds) (e2 : G b = some (.tup ys)) (r2 : RqAll T G ys es) : WalkOk (ZLT.ItM K a b) (zipD ds es) T G := fun f i G1 H σ s eT l rel => by
  have h1 : SqL K H a xs := SqL.of (rel.sub _ _ (l _ _ e1))
  have h2 : SqT K H b ys := SqT.of (rel.sub _ _ (l _ _ e2))
  refine ⟨fun hi => ?_, fun hi => ⟨xs, ys, ⟨h1, h2⟩, by rw [hi, zipD_len, r1.len, r2.len]⟩⟩
  have hi1 : i < ds.length := by rw [zipD_len] at hi; omega
  have hi2 : i < es.length := by rw [zipD_len] at hi; omega
  obtain ⟨u', eu', ru⟩ := r1.get (List.getElem?_eq_getElem hi1)
  obtain ⟨v', ev', rv⟩ := r2.get (List.getElem?_eq_getElem hi2)
  refine ⟨⟨xs, ys, ⟨h1, h2⟩, by rw [r1.len]; exact hi1, by rw [r2.len]; exact hi2⟩, fun x H' y => ?_⟩
  obtain ⟨T', u, v, rfl, n, rfl, eu, ev⟩ := y
  have a1 := eu xs h1
  have a2 := ev ys h2
  rw [eu'] at a1; cases a1
  rw [ev'] at a2; cases a2
  subst eT
  obtain ⟨q1, q2, q3⟩ := pair_step rel n (ru.le l) (rv.le l)
  exact ⟨_, _, q1, q2, zipD_at hi1 hi2, q3⟩
/-- what zip walks, whatever its two rows are -/
def iZipAll (K : PySem.W.Frag) (ta : TA) : TI := fun σ H R => (RZ.iZipA K ta σ H R ∨ ZTL.iZipM K ta σ H R) ∨ ZLT.iZipM K ta σ H R
theorem pi_zipAll {e e2 : Expr} {ta : TA} {p pos tpos : Pos} {elts : List Expr} {kk : Nat} (hg : Gl X "zip") (hm : X.mg "zip" = none) (ha : PA X [e, e2] ta)
    (hs : starEach [e, e2] X.env = (false, eval e X.env) :: starEach [e2] X.env := by rfl) (hpl : (backTo pos (starEach [e2] X.env)).any (·.1) = false := by rfl) :
    PI X (.Tuple elts kk tpos) (.Call (.Name "zip" p) [e, e2] [] pos) (iZipAll X.K ta) := Dt.pi_or (Dt.pi_or (RZ.pi_zipA hg hm ha hs hpl) (ZTL.pi_zipM hg hm ha hs hpl)) (ZLT.pi_zipM hg hm ha hs hpl)
theorem pi_zipAllU {Fs : M (List PyData)} (h : PI X tg e (iZipAll X.K (liftA ca E Fs))) : PIU ca E X tg e (bnd Fs zipA) := pi_imp h fun σ H R ⟨f, G, s, rel, out⟩ => by
  cases e1 : Fs s with
  | err c fs t =>
    rw [bnd_err e1] at out
    exact .inl (.inl ⟨f, G, s, rel, by rw [e1]; exact out⟩)
  | no => rw [bnd_no e1] at out; exact out.elim
  | ok ds s1 =>
    rw [bnd_ok e1] at out
    have go : ∀ (P : List V → Hp → Prop), (∀ v H' G', Le G G' → Rel f G' H' σ s1 → RqAll f.T G' v ds → OutI ca f E G' σ (zipA ds s1) R → P v H') → liftA ca E Fs σ H P := fun P k => ⟨f, G, s, rel, by
      rw [e1]
      exact fun v H' G' le rel' ra => k v H' G' le rel' ra (OutI.le out le)⟩
    match ds, go, out with
    | [a, b], go, out =>
      cases h1 : items a with
      | none => exact (show False by simpa [zipA, h1, no, OutI] using out).elim
      | some xs =>
        cases h2 : items b with
        | none => exact (show False by simpa [zipA, h1, h2, no, OutI] using out).elim
        | some ys =>
          have z : zipA [a, b] = pur (zipD xs ys) := by simp [zipA, h1, h2]
          rw [z] at go
          rcases zip_cases h1 h2 with ⟨rfl, rfl⟩ | ⟨rfl, rfl⟩ | ⟨rfl, rfl⟩ | ⟨rfl, rfl⟩
          · refine .inl (.inl (go _ fun v H' G' le rel' ra o => ?_))
            cases ra with
            | cons r1 r2 => cases r2 with
              | cons r3 r4 =>
                cases r4
                obtain ⟨p, vs, rfl, e1, a1, l1⟩ := r1.lstE
                obtain ⟨q, us, rfl, e2, a2, l2⟩ := r3.lstE
                exact ⟨_, _, _, _, rfl, .inl ⟨SqL.of (rel'.sub _ _ e1), SqL.of (rel'.sub _ _ e2), o _ H' G' .refl rel' (walk_zipL e1 a1 e2 a2)⟩⟩
          · refine .inl (.inl (go _ fun v H' G' le rel' ra o => ?_))
            cases ra with
            | cons r1 r2 => cases r2 with
              | cons r3 r4 =>
                cases r4
                obtain ⟨p, vs, rfl, e1, a1, l1⟩ := r1.tupE
                obtain ⟨q, us, rfl, e2, a2, l2⟩ := r3.tupE
                exact ⟨_, _, _, _, rfl, .inr ⟨SqT.of (rel'.sub _ _ e1), SqT.of (rel'.sub _ _ e2), o _ H' G' .refl rel' (walk_zipTT e1 a1 e2 a2)⟩⟩
          · refine .inl (.inr (go _ fun v H' G' le rel' ra o => ?_))
            cases ra with
            | cons r1 r2 => cases r2 with
              | cons r3 r4 =>
                cases r4
                obtain ⟨p, vs, rfl, e1, a1, l1⟩ := r1.tupE
                obtain ⟨q, us, rfl, e2, a2, l2⟩ := r3.lstE
                exact ⟨_, _, _, _, rfl, SqT.of (rel'.sub _ _ e1), SqL.of (rel'.sub _ _ e2), o _ H' G' .refl rel' (walk_zipTL e1 a1 e2 a2)⟩
          · refine .inr (go _ fun v H' G' le rel' ra o => ?_)
            cases ra with
            | cons r1 r2 => cases r2 with
              | cons r3 r4 =>
                cases r4
                obtain ⟨p, vs, rfl, e1, a1, l1⟩ := r1.lstE
                obtain ⟨q, us, rfl, e2, a2, l2⟩ := r3.tupE
                exact ⟨_, _, _, _, rfl, SqL.of (rel'.sub _ _ e1), SqT.of (rel'.sub _ _ e2), o _ H' G' .refl rel' (walk_zipLT e1 a1 e2 a2)⟩
    | [], _, out => exact (show False from out).elim
    | [_], _, out => exact (show False from out).elim
    | _ :: _ :: _ :: _, _, out => exact (show False from out).elim
end
end Pu
end SecU8
section SecTS
set_option Elab.async false
set_option linter.all false
set_option maxRecDepth 100000
set_option maxHeartbeats 4000000
namespace Tsu
open PySem PySem.Spec PyProof.Rows L2
section
variable {prog : Program} {w : World} {A : Around} {E : Value → Shared → Prop} {s : Shared} {t : Addr} {xs : Array (Int × Tok)}
theorem iter_tup {Q : Value → Shared → Prop} (hl : s.heap.IsTuple t (intItems xs))
    (h : ∀ s₂ : Shared, s₂ = { s with heap := s.heap.push { cls := .type "tuple_iterator", data := .fields #[.ref t, .int 0 0] } } →
      (s₂.heap.IsTupleIter s.heap.objs.size t 0 ∧ s₂.heap.IsTuple t (intItems xs)) → (∀ b ∈ [s.heap.objs.size, t], b < s₂.heap.objs.size) → t ≠ s.heap.objs.size → Q (.ref s.heap.objs.size) s₂) :
    wpAny (model prog w) A (pyIter (.ref t)) Q E s := by
  have hlt : t < s.heap.objs.size := by obtain ⟨_, e, _⟩ := hl; exact Heap.lt_size e
  refine wpAny_pyIter_tuple hl (h _ rfl ⟨⟨_, Heap.get?_push_size _ rfl, rfl, rfl⟩, hl.push _⟩ (fun b hb => ?_) (Nat.ne_of_lt hlt))
  show b < (s.heap.push _).objs.size
  rw [Heap.size_push]
  rcases List.mem_cons.mp hb with rfl | hb
  · exact Nat.lt_succ_self _
  · rcases List.mem_cons.mp hb with rfl | hb
    · exact Nat.lt_succ_of_lt hlt
    · cases hb
theorem old_keptT {h' : Heap} (hk : ∀ b o, b ∉ [s.heap.objs.size] → (s.heap.push { cls := .type "tuple_iterator", data := .fields #[.ref t, .int 0 0] }).get? b = some o → h'.get? b = some o) :
    ∀ b o, s.heap.get? b = some o → h'.get? b = some o := fun b o e => by
  refine hk b o (fun hm => ?_) (Heap.get?_push_of_some _ e)
  rcases List.mem_cons.mp hm with e1 | hm
  · exact absurd (e1 ▸ Heap.lt_size e) (Nat.lt_irrefl _)
  · cases hm
theorem sum_intTup {Q : Value → Shared → Prop} (hh : A.handled = none) (hl : s.heap.IsTuple t (intItems xs))
    (h : ∀ h' tk t', (∀ b o, s.heap.get? b = some o → h'.get? b = some o) → Q (.int (preSum (numAt xs) xs.size) t') { s with heap := h', toks := tk }) :
    wpAny (model prog w) A (call (.builtin "sum") [.ref t]) Q E s := by
  refine call_sum_walkG (iter_tup hl fun s₂ e st hfp hlI => ?_)
  subst e
  refine ⟨_, _, _, _, _, _, numAt xs, rfl, Walks.tuple (A := A.in1) hh _ t hlI (intItems xs), st, hfp, (fun _ _ => intItems_at), fun h' tk t' hk => ?_⟩
  have := h h' tk t' (old_keptT hk)
  simpa [intItems] using this
theorem min_intTup {Q : Value → Shared → Prop} (hh : A.handled = none) (hl : s.heap.IsTuple t (intItems xs)) (hne : 0 < xs.size)
    (h : ∀ v h' tk, (intItems xs)[argBest (fun i j => decide (numAt xs i < numAt xs j)) (xs.size - 1)]? = some v → (∀ b o, s.heap.get? b = some o → h'.get? b = some o) → Q v { s with heap := h', toks := tk }) :
    wpAny (model prog w) A (call (.builtin "min") [.ref t]) Q E s := by
  refine call_min_walk (iter_tup hl fun s₂ e st hfp hlI => ?_)
  subst e
  refine ⟨_, _, _, _, _, _, _, rfl, Walks.tuple (A := A.in1) hh _ t hlI (intItems xs), st, hfp, by simpa [intItems] using hne, CmpOf.ints_lt (numAt xs) (fun _ _ => intItems_at), fun v h' tk hP hk => ?_⟩
  exact h v h' tk (by simpa [intItems] using hP) (old_keptT hk)
theorem max_intTup {Q : Value → Shared → Prop} (hh : A.handled = none) (hl : s.heap.IsTuple t (intItems xs)) (hne : 0 < xs.size)
    (h : ∀ v h' tk, (intItems xs)[argBest (fun i j => decide (numAt xs i > numAt xs j)) (xs.size - 1)]? = some v → (∀ b o, s.heap.get? b = some o → h'.get? b = some o) → Q v { s with heap := h', toks := tk }) :
    wpAny (model prog w) A (call (.builtin "max") [.ref t]) Q E s := by
  refine call_max_walk (iter_tup hl fun s₂ e st hfp hlI => ?_)
  subst e
  refine ⟨_, _, _, _, _, _, _, rfl, Walks.tuple (A := A.in1) hh _ t hlI (intItems xs), st, hfp, by simpa [intItems] using hne, CmpOf.ints_gt (numAt xs) (fun _ _ => intItems_at), fun v h' tk hP hk => ?_⟩
  exact h v h' tk (by simpa [intItems] using hP) (old_keptT hk)
variable {its : List Value} {ns : List Int} {Q : Value → Shared → Prop}
theorem sum_rawT (hh : A.handled = none) (hl : s.heap.IsTuple t its.toArray) (hi : IntsAre its ns)
    (h : ∀ h' tk t', (∀ b o, s.heap.get? b = some o → h'.get? b = some o) → Q (.int ns.sum t') { s with heap := h', toks := tk }) : wpAny (model prog w) A (call (.builtin "sum") [.ref t]) Q E s := by
  obtain ⟨xs, e⟩ := hi.allInts.items
  have hn : numsOf (intItems xs).toList = ns := by rw [← e]; exact hi.numsOf
  rw [nums_intItems] at hn
  rw [e] at hl
  refine sum_intTup hh hl fun h' tk t' hk => ?_
  have := h h' tk t' hk
  rw [preSum_eq, List.take_of_length_le (by simp), hn]; exact this
theorem min_rawT (hh : A.handled = none) (hl : s.heap.IsTuple t its.toArray) (hi : IntsAre its ns) (hne : 0 < ns.length)
    (h : ∀ h' tk M t', (∀ b o, s.heap.get? b = some o → h'.get? b = some o) → M ∈ ns → (∀ a, a ∈ ns → M ≤ a) → Q (.int M t') { s with heap := h', toks := tk }) : wpAny (model prog w) A (call (.builtin "min") [.ref t]) Q E s := by
  obtain ⟨xs, e⟩ := hi.allInts.items
  have hn : numsOf (intItems xs).toList = ns := by rw [← e]; exact hi.numsOf
  rw [nums_intItems] at hn
  subst hn
  rw [e] at hl
  have hsz : 0 < xs.size := by simpa using hne
  refine min_intTup hh hl hsz fun v h' tk hv hk => ?_
  obtain ⟨t, rfl⟩ := intItems_at hv
  obtain ⟨h1, h2⟩ := argBest_lt (numAt xs) (xs.size - 1)
  refine h h' tk _ t hk ?_ fun a ha => ?_
  · rw [numAt_eq]; exact PySem.getD_mem (by rw [List.length_map, Array.length_toList]; omega)
  · obtain ⟨j, hj, rfl⟩ := mem_getD ha
    rw [List.length_map, Array.length_toList] at hj
    rw [← numAt_eq]; exact h2 j (by omega)
theorem max_rawT (hh : A.handled = none) (hl : s.heap.IsTuple t its.toArray) (hi : IntsAre its ns) (hne : 0 < ns.length)
    (h : ∀ h' tk M t', (∀ b o, s.heap.get? b = some o → h'.get? b = some o) → M ∈ ns → (∀ a, a ∈ ns → a ≤ M) → Q (.int M t') { s with heap := h', toks := tk }) : wpAny (model prog w) A (call (.builtin "max") [.ref t]) Q E s := by
  obtain ⟨xs, e⟩ := hi.allInts.items
  have hn : numsOf (intItems xs).toList = ns := by rw [← e]; exact hi.numsOf
  rw [nums_intItems] at hn
  subst hn
  rw [e] at hl
  have hsz : 0 < xs.size := by simpa using hne
  refine max_intTup hh hl hsz fun v h' tk hv hk => ?_
  obtain ⟨t, rfl⟩ := intItems_at hv
  obtain ⟨h1, h2⟩ := argBest_gt (numAt xs) (xs.size - 1)
  refine h h' tk _ t hk ?_ fun a ha => ?_
  · rw [numAt_eq]; exact PySem.getD_mem (by rw [List.length_map, Array.length_toList]; omega)
  · obtain ⟨j, hj, rfl⟩ := mem_getD ha
    rw [List.length_map, Array.length_toList] at hj
    rw [← numAt_eq]; exact h2 j (by omega)
end
section
variable {X : Cx}
def rSumT (K : PySem.W.Frag) : List V → Hp → VK → Prop := fun vs H Q => ∃ (a : Addr) (ns : List Int), vs = [V.ref a] ∧ SqT K H a (ns.map V.int) ∧ Q (.int ns.sum) H
def rMaxT (K : PySem.W.Frag) : List V → Hp → VK → Prop := fun vs H Q => ∃ (a : Addr) (ns : List Int), vs = [V.ref a] ∧ SqT K H a (ns.map V.int) ∧ 0 < ns.length ∧ ∀ m, m ∈ ns → (∀ y, y ∈ ns → y ≤ m) → Q (.int m) H
def rMinT (K : PySem.W.Frag) : List V → Hp → VK → Prop := fun vs H Q => ∃ (a : Addr) (ns : List Int), vs = [V.ref a] ∧ SqT K H a (ns.map V.int) ∧ 0 < ns.length ∧ ∀ m, m ∈ ns → (∀ y, y ∈ ns → m ≤ y) → Q (.int m) H
theorem cr_sumT (hc : X.calm = true) : CallR X (.builtin "sum") (rSumT X.K) := by
  intro pins s σ H vs us Q I r h
  obtain ⟨a, ns, rfl, hs, q⟩ := h
  obtain ⟨its, rv, hl, _⟩ := I.tuple hs
  rw [Vals.ref1 r]
  exact sum_rawT (I.ok.hd hc) hl rv.ints fun h' tk t' hk => ⟨.int _, H, I.kept hk, ⟨_, rfl⟩, q⟩
theorem cr_maxT (hc : X.calm = true) : CallR X (.builtin "max") (rMaxT X.K) := by
  intro pins s σ H vs us Q I r h
  obtain ⟨a, ns, rfl, hs, hne, q⟩ := h
  obtain ⟨its, rv, hl, _⟩ := I.tuple hs
  rw [Vals.ref1 r]
  exact max_rawT (I.ok.hd hc) hl rv.ints hne fun h' tk m t' hk h1 h2 => ⟨.int _, H, I.kept hk, ⟨_, rfl⟩, q m h1 h2⟩
theorem cr_minT (hc : X.calm = true) : CallR X (.builtin "min") (rMinT X.K) := by
  intro pins s σ H vs us Q I r h
  obtain ⟨a, ns, rfl, hs, hne, q⟩ := h
  obtain ⟨its, rv, hl, _⟩ := I.tuple hs
  rw [Vals.ref1 r]
  exact min_rawT (I.ok.hd hc) hl rv.ints hne fun h' tk m t' hk h1 h2 => ⟨.int _, H, I.kept hk, ⟨_, rfl⟩, q m h1 h2⟩
/-- either kind of row -/
theorem cr_or {fn : Value} {r r' : List V → Hp → VK → Prop} (a : CallR X fn r) (b : CallR X fn r') : CallR X fn (fun vs H Q => r vs H Q ∨ r' vs H Q) := fun pins s σ H vs us Q I rv h => h.elim (a pins s σ H vs us Q I rv) (b pins s σ H vs us Q I rv)
end
end Tsu
namespace Pu
open PySem PySem.Spec PyProof.Rows L2 L2H Err
section
variable {ca : Str → Addr}
def onRow (g : List Int → R1) : PyData → R1
  | .list l => (match intsOf l with | some ns => g ns | none => .no)
  | .tuple l => (match intsOf l with | some ns => g ns | none => .no)
  | _ => .no
theorem onRow_of {f : Fr} {E : XK} {G H : Hp} {σ : L2.St} {s : Pst} {Q : VK} {g : List Int → R1} {x : PyData} {v : V} (K : PySem.W.Frag) (rel : Rel f G H σ s) (rx : Pk f.T G H v x) (o : Out ca f E G σ ((onRow g x).m s) Q) :
    ∃ p ns, v = .ref p ∧ (SqL K H p (ns.map V.int) ∨ SqT K H p (ns.map V.int)) ∧ Out ca f E G σ ((g ns).m s) Q := by
  cases x <;> first | exact out_no o | skip
  case list l =>
    unfold onRow at o
    cases e : intsOf l with
    | none => simp only [e] at o; exact out_no o
    | some ns =>
      simp only [e] at o
      obtain ⟨p, vs, rfl, hp, ra, hl⟩ := rx.list rel.sub
      rw [ints_of ra e] at hp
      exact ⟨p, ns, rfl, .inl (SqL.of hp), o⟩
  case tuple l =>
    unfold onRow at o
    cases e : intsOf l with
    | none => simp only [e] at o; exact out_no o
    | some ns =>
      simp only [e] at o
      obtain ⟨p, vs, rfl, hp, ra, hl⟩ := rx.tuple.tupE
      rw [ints_of ra e] at hp
      exact ⟨p, ns, rfl, .inr (SqT.of (rel.sub _ _ hp)), o⟩
def dSumA : PyData → R1 := onRow fun ns => okI ns.sum
def dMaxA : PyData → R1 := onRow fun ns => if 0 < ns.length then okI (maxL ns) else .no
def dMinA : PyData → R1 := onRow fun ns => if 0 < ns.length then okI (minL ns) else .no
theorem sim_sumA {K : PySem.W.Frag} : Sim1 (fun v => (fun vs H Q => rSum K vs H Q ∨ Tsu.rSumT K vs H Q) [v]) dSumA := by
  intro ca f E G H σ s Q v x rel rx o
  obtain ⟨p, ns, rfl, h, o⟩ := onRow_of K rel rx o
  exact h.imp (fun h => ⟨p, ns, rfl, h, out_i rel o⟩) fun h => ⟨p, ns, rfl, h, out_i rel o⟩
theorem sim_maxA {K : PySem.W.Frag} : Sim1 (fun v => (fun vs H Q => rMax K vs H Q ∨ Tsu.rMaxT K vs H Q) [v]) dMaxA := by
  intro ca f E G H σ s Q v x rel rx o
  obtain ⟨p, ns, rfl, h, o⟩ := onRow_of K rel rx o
  obtain ⟨h0, o⟩ := out_if o
  obtain ⟨m1, m2⟩ := maxL_spec h0
  have k : ∀ m, m ∈ ns → (∀ y, y ∈ ns → y ≤ m) → Q (.int m) H := fun m hm hy => by
    have e : m = maxL ns := Int.le_antisymm (m2 m hm) (hy _ m1)
    rw [e]
    exact out_i rel o
  exact h.imp (fun h => ⟨p, ns, rfl, h, h0, k⟩) fun h => ⟨p, ns, rfl, h, h0, k⟩
theorem sim_minA {K : PySem.W.Frag} : Sim1 (fun v => (fun vs H Q => rMin K vs H Q ∨ Tsu.rMinT K vs H Q) [v]) dMinA := by
  intro ca f E G H σ s Q v x rel rx o
  obtain ⟨p, ns, rfl, h, o⟩ := onRow_of K rel rx o
  obtain ⟨h0, o⟩ := out_if o
  obtain ⟨m1, m2⟩ := minL_spec h0
  have k : ∀ m, m ∈ ns → (∀ y, y ∈ ns → m ≤ y) → Q (.int m) H := fun m hm hy => by
    have e : m = minL ns := Int.le_antisymm (hy _ m1) (m2 m hm)
    rw [e]
    exact out_i rel o
  exact h.imp (fun h => ⟨p, ns, rfl, h, h0, k⟩) fun h => ⟨p, ns, rfl, h, h0, k⟩
end
end Pu
end SecTS
section SecSO
set_option Elab.async false
set_option linter.all false
set_option maxRecDepth 100000
set_option maxHeartbeats 4000000
namespace Pu
open PySem PySem.Spec PyProof.Rows L2 L2H Err
/-! sorted of any data that are alike -/
/-- the sorted row -/
def sortD (ds : List PyData) : List PyData := ds.mergeSort fun x y => !PySem.W.dataLt y x
theorem sortD_eq (ds : List PyData) : ds.mergeSort (PySem.W.sortLe (listOrd itemOrd) false PySem.W.keyToks) = sortD ds := rfl
def alikeB (ds : List PyData) : Bool := ds.all fun x => ds.all fun y => PySem.W.alike x y
def sortableB (ds : List PyData) : Bool := (ds.all fun d => match d with | .tuple (_ :: _) => true | _ => false) || (ds.all fun d => match d with | .tuple _ => false | .none => false | _ => true)
def dSorted (x : PyData) : R1 := match items x with
  | some l => if alikeB l = true ∧ sortableB l = true ∧ l.all plain = true then .ok (.ow (sortD l)) else .no
  | none => .no
theorem alikeB_of {ds : List PyData} (h : alikeB ds = true) : PySem.W.AllAlike ds := by
  unfold alikeB at h
  rw [List.all_eq_true] at h
  intro d hd d' hd'
  have z := h d hd
  rw [List.all_eq_true] at z
  exact z d' hd'
theorem sortableB_of {ds : List PyData} (h : sortableB ds = true) : PySem.W.Sortable ds := by
  unfold sortableB at h
  rw [Bool.or_eq_true] at h
  rcases h with h | h
  · refine .inl fun d hd => ?_
    rw [List.all_eq_true] at h
    have z := h d hd
    cases d <;> first | (cases z; done) | skip
    rename_i l
    cases l with
    | nil => cases z
    | cons x r => exact ⟨x, r, rfl⟩
  · refine .inr fun d hd => ?_
    rw [List.all_eq_true] at h
    have z := h d hd
    refine ⟨fun e => (by rw [e] at z; cases z), fun xs e => (by rw [e] at z; cases z)⟩
section
variable {X : Cx}
/-- sorted(xs) of a list of alike data -/
def rSortD (K : PySem.W.Frag) : List V → Hp → VK → Prop := fun us H Q => ∃ (a T : Addr) (xs : List V) (G : Hp) (ds : List PyData), us = [.ref a] ∧ Le G H ∧ SqL K H a xs ∧ RqAll T G xs ds ∧ ds.length ≤ lim ∧ alikeB ds = true ∧ sortableB ds = true ∧ ds.all plain = true ∧
  ∀ ys p, RqAll T G ys (sortD ds) → H p = none → Q (.ref p) (upd H p (.lst ys))
theorem sortD_len (ds : List PyData) : (sortD ds).length = ds.length := List.length_mergeSort _
theorem each_of {T : Addr} {G : Hp} : ∀ {xs : List V} {us : List Value} {ds : List PyData}, Vals xs us → RqAll T G xs ds → PySem.W.EachIs (fun u d => ∃ v, RelV v u ∧ Rq T G v d) us ds
  | _, _, [], .nil, h => .nil
  | _, _, d :: ds, .cons r t, h => by
    cases h with
    | cons a b => exact .cons ⟨_, r, a⟩ (each_of t b)
theorem of_each {T : Addr} {G : Hp} : ∀ {us : List Value} {ds : List PyData}, PySem.W.EachIs (fun u d => ∃ v, RelV v u ∧ Rq T G v d) us ds → ∃ ys, Vals ys us ∧ RqAll T G ys ds
  | _, _, .nil => ⟨[], .nil, .nil⟩
  | _, _, .cons ⟨v, r, q⟩ t => by
    obtain ⟨ys, h1, h2⟩ := of_each t
    exact ⟨v :: ys, .cons r h1, .cons q h2⟩
theorem reads_each {T : Addr} {G : Hp} {pins : List (Addr × Obj)} {σ : L2.St} {H : Hp} {s : Shared} (I : Inv X pins σ H s) (sb : Le G H) : ∀ {xs : List V} {us : List Value} {ds : List PyData}, Vals xs us → RqAll T G xs ds → ds.all plain = true → PySem.W.EachIs (fun v d => ∃ as, Reads s.heap v d as) us ds
  | _, _, [], .nil, h, _ => .nil
  | _, _, d :: ds, .cons r t, h, p => by
    rw [List.all_cons, Bool.and_eq_true] at p
    cases h with
    | cons a b => exact .cons (Dp.reads I d _ _ (a.dp sb _ _ (plain_iff.mp p.1).1) r) (reads_each I sb t b p.2)
theorem each_and {α β : Type} {R : α → β → Prop} {P : β → Prop} : ∀ {as : List α} {bs : List β}, PySem.W.EachIs R as bs → (∀ b ∈ bs, P b) → PySem.W.EachIs (fun a b => R a b ∧ P b) as bs
  | _, _, .nil, _ => .nil
  | _, _, .cons r t, h => .cons ⟨r, h _ List.mem_cons_self⟩ (each_and t fun b hb => h b (List.mem_cons_of_mem _ hb))
theorem cr_sortD (hu : X.A.units + 70 < cLine) : CallR X (.builtin "sorted") (rSortD X.K) := by
  intro pins s σ H vs us Q I r h
  obtain ⟨a, T, xs, G, ds, rfl, sb, hs, ra, hl, h1, h2, h3, q⟩ := h
  obtain ⟨its, rv, pl, hz⟩ := I.list hs
  rw [Vals.ref1 r]
  have e1 := reads_each I sb rv ra h3
  have hal := alikeB_of h1
  have lz : its.length ≤ sizeLine := by rw [← rv.length]; exact hz
  have keep : ∀ b o, s.heap.get? b = some o → (PySem.W.sortingHeap (PySem.W.copyHeap s.heap its) (s.heap.objs.size + 1) its).get? b = some o := fun b o e => PySem.W.sorting_copy_old e
  have e2 : PySem.W.EachIs (fun v d => ∃ as, Reads (PySem.W.sortingHeap (PySem.W.copyHeap s.heap its) (s.heap.objs.size + 1) its) v d as) its ds := e1.mono fun v d ⟨as, z⟩ => ⟨as, PyProof.Rows.Reads.keeps keep z⟩
  have dep : ∀ d ∈ ds, X.A.in1.in1.units + d.depth < cLine := fun d hd => by
    have p := List.all_eq_true.mp h3 d hd
    have z := SeqAt.depth_of_shaped (plain_iff.mp p).2
    show X.A.units + 1 + 1 + d.depth < cLine
    omega
  have S := PySem.W.SortsAt.data (prog := X.prog) (w := X.w) (A := X.A.in1.in1) (s := { s with heap := PySem.W.sortingHeap (PySem.W.copyHeap s.heap its) (s.heap.objs.size + 1) its }) e2 hal (sortableB_of h2) dep
  refine PySem.W.sorted_vals pl.isList S lz ?_
  have key : PySem.W.EachIs (fun v b => (PySem.W.dataKind (PySem.W.sortingHeap (PySem.W.copyHeap s.heap its) (s.heap.objs.size + 1) its) ds).keyOf v = some (PySem.W.keyToks b)) its ds :=
    (each_and e2 fun b hb => hb).mono fun v d ⟨⟨as, z⟩, hd⟩ => PySem.W.dataKind_some hal hd z
  have out := PySem.W.sortVals_each (rev := false) (κ := PySem.W.dataKind (PySem.W.sortingHeap (PySem.W.copyHeap s.heap its) (s.heap.objs.size + 1) its) ds) PySem.W.keyToks (each_of rv ra) key
  obtain ⟨ys, y1, y2⟩ := of_each out
  have y2' : RqAll T G ys (sortD ds) := y2
  obtain ⟨ep, he'⟩ := PyProof.Rows.sortedAll_at s.heap its (PySem.W.sortVals (PySem.W.dataKind (PySem.W.sortingHeap (PySem.W.copyHeap s.heap its) (s.heap.objs.size + 1) its) ds) false its its).toArray
  have hlen : ys.length ≤ sizeLine := by rw [y2'.len, sortD_len]; exact lim_line hl
  exact ⟨.ref _, upd H (s.heap.objs.size + 1) (.lst ys), I.laid (t' := s.toks) (fun _ _ => PyProof.Rows.sortedAll_old) (Nat.le_succ _) ⟨hlen, _, ep, y1, he'⟩, rfl, q ys _ y2' (I.hok.fresh (Nat.le_succ _))⟩
end
def dSortL (x : PyData) : R1 := match x with | .list l => dSorted (.list l) | _ => .no
theorem sim_sorted {K : PySem.W.Frag} : Sim1 (fun v => rSortD K [v]) dSortL := by
  intro ca f E G H σ s Q v x rel rx o
  cases x <;> first | exact out_no o | skip
  rename_i l
  obtain ⟨⟨h1, h2, h3⟩, o⟩ := out_if o
  obtain ⟨p, vs, rfl, hp, ra, hl⟩ := rx.list rel.sub
  refine ⟨p, f.T, vs, G, l, rfl, rel.sub, SqL.of hp, ra, hl, h1, h2, h3, fun ys q rq nq => ?_⟩
  exact out_lst rel rq (by rw [sortD_len]; exact hl) o q nq
end Pu
end SecSO
section SecU9
set_option Elab.async false
set_option linter.all false
set_option maxRecDepth 100000
set_option maxHeartbeats 4000000
namespace Pu
open PySem PySem.Spec PyProof.Rows L2 L2H Err
theorem u70 {k : Nat} {A : Around} (r : Room k A) : A.units + 70 < cLine := by have := r.un; omega
section
variable {ca : Str → Addr} {E : XK} {X : Cx} {a b c e tg : Expr} {pos : Pos} {Fa Fb Fc : M OV} {Ft Fu : M Bool} {st : Stmt} {sts : List Stmt} {Fs Fs' : M Fw}
/-! n.bit_length() -/
def dBits : PyData → R1 | .int i => okI (Builtin.Int.intBits i : Nat) | _ => .no
theorem pu_bits {F : M PyData} (h : PE X e (tBits (liftP ca E F))) : PU ca E X e (un dBits F) := pe_imp h fun σ H Q z => by
  refine sim_un (r := fun v H Q => ∃ i, v = .int i ∧ Q (.int (Builtin.Int.intBits i : Nat)) H) ?_ z
  intro ca f E G H σ s Q v x rel rx o
  cases x <;> first | exact out_no o | skip
  rename_i i
  cases rx.int
  exact ⟨i, rfl, out_i rel o⟩
end
end Pu
end SecU9
section SecU10
set_option Elab.async false
set_option linter.all false
set_option maxRecDepth 100000
set_option maxHeartbeats 4000000
namespace Pu
open PySem PySem.Spec PyProof.Rows L2 L2H Err
section
variable {ca : Str → Addr} {E : XK} {X : Cx} {a b c e tg : Expr} {pos : Pos} {Fa Fb Fc : M OV} {Ft Fu : M Bool} {st : Stmt} {sts : List Stmt} {Fs Fs' : M Fw}
/-! ### the script -/
def scrF (F : M OV) : M (List PyData) := bnd F fun x => match x.d with | .dict [(.none, .list l)] => pur l | _ => no
theorem walk_scr {T p : Addr} {K : PySem.W.Frag} {G : Hp} {o : Obj} {vs : List V} {ds : List PyData} (e : G p = some (.frz o (.lst vs))) (ra : RqAll T G vs ds) : WalkOk (Itl K p) ds T G := fun f i G1 H σ s eT l rel => by
  have h : SqL K H p vs := .inl (.inr ⟨o, rel.sub _ _ (l _ _ e)⟩)
  refine ⟨fun hi => ?_, fun hi => ⟨vs, h, by rw [ra.len]; omega⟩⟩
  obtain ⟨v, h1, h2⟩ := ra.get (List.getElem?_eq_getElem hi)
  refine ⟨⟨vs, v, h, h1⟩, fun x H' ⟨e1, e2⟩ => ?_⟩
  subst e1
  have e3 := e2 vs h
  rw [h1] at e3
  cases e3
  exact ⟨G1, _, .refl, rel, List.getElem?_eq_getElem hi, h2.le l⟩
theorem pi_scr (h : PU ca E X e Fa) : PIU ca E X tg e (scrF Fa) := pi_imp (pi_list h) fun σ H R ⟨f, G, s, rel, out⟩ => by
  unfold scrF at out
  refine OutI.bndE rel out fun x s1 v H' G' le rel' rq o => ?_
  generalize x.d = d at rq o
  split at o
  · cases rq with
    | @scr p o' vs ds e2 ra hl => exact ⟨_, rfl, ⟨_, .inl (.inr ⟨o', rel'.sub _ _ e2⟩)⟩, o _ H' G' .refl rel' (walk_scr e2 ra)⟩
  · exact (show False from o).elim
/-! ### law: the tape is made, then it stands in a frame of its own -/
def intsD : List PyData → Option (List Int)
  | [] => some []
  | .int i :: r => (intsD r).map (i :: ·)
  | _ => none
theorem intsD_of {T : Addr} {G : Hp} : ∀ {l : List PyData} {vs : List V} {ns : List Int}, RqAll T G vs l → intsD l = some ns → vs = ns.map V.int
  | [], _, _, h, e => by cases h; cases e; rfl
  | d :: r, _, ns, h, e => by
    cases h with
    | cons a b =>
      cases a <;> first | (cases e; done) | skip
      unfold intsD at e
      cases e2 : intsD r with
      | none => rw [e2] at e; cases e
      | some ms =>
        rw [e2] at e
        cases e
        rw [intsD_of b e2]
        rfl
def tapeOf (k : Nat) : Sl → Option Tps
  | .ow l => match k, l with
    | 2, l => (intsD l).map (⟨2, ·, []⟩)
    | 3, .list b :: r => (intsD b).bind fun bs => (intsD r).map (⟨3, ·, bs⟩)
    | _, _ => none
  | _ => none
def swi (i : Nat) (t : Tps) (s : Pst) : Pst := ⟨(List.replicate s.v.length .un).set i (.fr tapeD), t⟩
theorem sl_swi {i j : Nat} {t : Tps} {s : Pst} : sl (swi i t s) j = if j = i ∧ i < s.v.length then .fr tapeD else .un := by
  unfold sl swi
  dsimp only
  rw [List.getD_eq_getElem?_getD, List.getElem?_set, List.length_replicate, List.getElem?_replicate]
  by_cases h : i = j
  · subst h
    by_cases h2 : i < s.v.length
    · rw [if_pos rfl, if_pos h2, if_pos (And.intro rfl h2)]; rfl
    · rw [if_pos rfl, if_neg h2, if_neg (fun z : i = i ∧ i < s.v.length => h2 z.2)]; rfl
  · rw [if_neg h, if_neg (c := j = i ∧ i < s.v.length) (fun z => h z.1.symm)]
    split <;> rfl
theorem Rel.swi {f : Fr} {G H : Hp} {σ : L2.St} {s : Pst} {i k : Nat} {t : Tps} (r : Rel f G H σ s) (h : tapeOf k (sl s i) = some t) :
    ∃ p l, Rel ⟨p, l, k, fun _ => none, fun _ => none⟩ (fun _ => none) H σ (swi i t s) := by
  have v := r.vars i
  cases e : sl s i with
  | un => rw [e] at h; cases h
  | fr d => rw [e] at h; cases h
  | ow l =>
    rw [e] at h v
    obtain ⟨p, vs, h1, h2, h3, h4, h5, h6, h7⟩ := v
    have go : ∀ (b : Addr) (t : Tps), Fr.R ⟨p, b, k, fun _ => none, fun _ => none⟩ t H → Rel ⟨p, b, k, fun _ => none, fun _ => none⟩ (fun _ => none) H σ (Pu.swi i t s) := fun b t hR =>
      ⟨Fr.okAll _, fun _ _ z => (by cases z), fun _ _ _ z => (by cases z), fun _ _ z => z, fun _ z => absurd rfl z, fun _ _ => rfl, hR, fun j => (by
        rw [sl_swi]
        by_cases hj : j = i ∧ i < s.v.length
        · rw [if_pos hj, hj.1]
          exact ⟨_, h1, .tape⟩
        · rw [if_neg hj]; trivial), fun j j' l l' _ z => (by
        rw [sl_swi] at z
        split at z <;> cases z), (by
        show σ.length = ((List.replicate s.v.length Sl.un).set i (.fr tapeD)).length
        rw [List.length_set, List.length_replicate]; exact r.len)⟩
    unfold tapeOf at h
    dsimp only at h
    split at h
    · cases e2 : intsD l with
      | none => rw [e2] at h; cases h
      | some ns =>
        rw [e2] at h
        cases h
        exact ⟨p, 0, go 0 _ ⟨rfl, .inr (.inr (.inl ⟨rfl, by rw [← intsD_of h3 e2]; exact h2⟩))⟩⟩
    · rename_i b r'
      cases e2 : intsD b with
      | none => rw [e2] at h; cases h
      | some bs =>
        rw [e2] at h
        cases e3 : intsD r' with
        | none => rw [e3] at h; cases h
        | some ns =>
          rw [e3] at h
          cases h
          cases h3 with
          | cons a1 a2 =>
            cases a1 with
            | lst c1 c2 c3 =>
              rename_i q us
              refine ⟨p, q, go q _ ⟨rfl, .inr (.inr (.inr ⟨rfl, by rw [← intsD_of a2 e3]; exact h2, by rw [← intsD_of c2 e2]; exact r.sub _ _ c1, fun z => ?_⟩))⟩⟩
              have z' : q = p := z
              rw [z', h5] at c1
              cases c1
    · cases h
def lawF (i k : Nat) (F1 F2 : M Fw) (s : Pst) : Prop := match F1 s with
  | .ok .nx s1 => (match tapeOf k (sl s1 i) with
    | some t => (match F2 (swi i t s1) with
      | .ok (.rt (.fr (.bool true))) _ => True
      | _ => False)
    | none => False)
  | _ => False
def liftL (ca : Str → Addr) (E : XK) (i k : Nat) (F1 F2 : M Fw) : L2.TS := fun D σ H => (∃ f G s, Rel f G H σ s ∧ lawF i k F1 F2 s) ∧ ∀ H', D.rt (.bl true) H'
theorem pss_law {i k : Nat} {F1 F2 : M Fw} (h1 : PSU ca E X st F1) (h2 : PSsU ca E X sts F2) : PSs X (st :: sts) (liftL ca E i k F1 F2) := pss_imp (pss_cons h1 h2) fun D σ H ⟨⟨f, G, s, rel, ok⟩, kk⟩ => by
  refine ⟨f, G, s, rel, ?_⟩
  unfold lawF at ok
  split at ok
  · rename_i s1 e1
    rw [e1]
    intro σ' H' G' le rel'
    split at ok
    · rename_i t e2
      obtain ⟨p, l, r2⟩ := rel'.swi e2
      refine ⟨_, _, _, r2, ?_⟩
      split at ok
      · rename_i s3 e3
        rw [e3]
        intro v σ3 H3 G3 l3 rel3 ov
        cases ov with
        | bl => exact kk H3
      · exact ok.elim
    · exact ok.elim
  · exact ok.elim
end
section
variable {P : Program} {w : World} {K : PySem.W.Frag} {mg : Str → Option Value} {base : Heap} {ca : Str → Addr} {st : Stmt}
def scrD (ns : List Int) : PyData := .dict [(.none, .list (ns.map .int))]
def spLaw : Sp := fun vs H Q E => ∃ (a : Addr) (o : Obj) (ns : List Int), vs = [.ref a] ∧ H a = some (.frz o (.lst (ns.map V.int))) ∧ ns.length ≤ 63 ∧ (∀ z ∈ ns, Builtin.Int.intBits z ≤ 1048576) ∧ ∀ H', Q (.bl true) H'
theorem rq_ints {T : Addr} {G : Hp} : ∀ {ns : List Int}, RqAll T G (ns.map V.int) (ns.map PyData.int)
  | [] => .nil
  | n :: r => .cons (.int n) rq_ints
theorem ok_law {f : Addr} {fd : FuncData} {N : List Str} {k i kd : Nat} {F1 F2 : M Fw} {st1 : Stmt} {sts : List Stmt} (F : Fun K "law" "law" st f fd) (S : FnScope N ["script"] (defScope st)) (hl : 1 ≤ N.length) (hb : defBody st = st1 :: sts)
    (h : ∀ (cdv : Value) (A : Around) (outer : List Env) (s : Shared) (H : Hp) (E : XK), Room k (A.deeper (envOfC "law" (defScope st) s.heap.objs.size f cdv)) →
      PSs (cxOf (L2N.CX P w) P w K mg base N "law" (defScope st) f cdv A outer s H E) (st1 :: sts) (liftL ca E i kd F1 F2))
    (ok : ∀ ns : List Int, ns.length ≤ 63 → (∀ z ∈ ns, Builtin.Int.intBits z ≤ 1048576) → lawF i kd F1 F2 (begin N.length [scrD ns] ⟨0, [], []⟩)) : FnOk P w K mg base (L2N.CX P w) (k + 1) f fd ["script"] spLaw := by
  refine Dt.okN F S (fun vs H Q E z => by obtain ⟨a, o, ns, rfl, _⟩ := z; rfl) fun cdv A outer s H vs Q E hr z => ⟨_, by rw [hb]; exact h cdv A outer s H E hr, ?_⟩
  obtain ⟨a, o, ns, rfl, hH, hn, hz, kk⟩ := z
  refine ⟨⟨⟨0, 0, 0, H, H⟩, H, begin N.length [scrD ns] ⟨0, [], []⟩, begin_rel (f := ⟨0, 0, 0, H, H⟩) ⟨Fr.okAll _, .refl, fun _ _ _ z => z, .refl, fun _ z => .inl z, fun b z => ?_, ⟨rfl, .inl rfl⟩⟩ (.cons (.scr hH rq_ints ?_) .nil) ?_, ok ns hn hz⟩, kk⟩
  · rcases z with ⟨z, _⟩ | ⟨z, _⟩
    · exact absurd rfl z
    · rcases z with z | z <;> cases z
  · rw [List.length_map]; exact Nat.le_trans hn (by decide)
  · exact hl
end
end Pu
end SecU10
section SecU11
set_option Elab.async false
set_option linter.all false
set_option maxRecDepth 100000
set_option maxHeartbeats 4000000
namespace Pu
open PySem PySem.Spec PyProof.Rows L2 L2H Err
/-! ### both moods -/
section
variable {ca : Str → Addr} {E : XK} {X : Cx} {a b c e tg : Expr} {pos : Pos} {Fa Fb Fc : M OV} {Ft Fu : M Bool} {st : Stmt} {sts : List Stmt} {Fs Fs' : M Fw} {bm : Bool} {pl : List (Addr × Obj)}
theorem pu_callB {n : Nat} {p : Fn} {Fs : M (List PyData)} (h : PE X e (tCallB (fun _ => spF ca n p) pl (liftA ca E0 Fs))) : PU ca E0 X e (callF n p Fs) := pe_imp h fun σ H Q z => by
  have y := call_ok z
  unfold tCall at y
  simp only [List.append_nil] at y
  exact y
theorem ps_forR {n : Expr} {ta : TA} {g : TG} {tb : TS} {body : List Stmt} {p2 p3 : Pos} (mc : MoodC X bm pl) (hp : PassesOwn (model X.prog X.w) X.A X.env X.xe) (hgl : Gl X "range") (hm : X.mg "range" = none) (ha : PA X [n] ta) (hg : PG X tg g) (hb : PSs X body tb)
    (hn : starEach [n] X.env = [(false, eval n X.env)] := by rfl) (hs : ∀ x, foldedSetIterable (.Call (.Name "range" p2) [n] [] p3) X.env x = pure x := by intro _; rfl) :
    PS X (.For tg (.Call (.Name "range" p2) [n] [] p3) body [] pos) (tFor (iRng1 ta) g tb) := by
  cases mc with
  | calm h => exact ps_for hp h (pi_range1 hgl hm ha hn) hg hb hs
  | hot p h m => exact ps_forH hp ⟨p, h, m⟩ (pi_range1H hgl hm ha hn) hg hb hs
theorem ps_forRU {g : TG} {A : PyData → Pst → Option Pst} {own : List Nat} {Fi : M (List PyData)} (hg : TGOk g A own) (h : PS X st (tFor (iRng1 (liftA ca E Fi)) g (liftS ca E Fs))) : PSU ca E X st (forF A (bnd Fi rng1) Fs) :=
  ps_forU hg (ps_imp h fun _ _ _ z => rng1_to z)
variable {P : Program} {w : World} {K : PySem.W.Frag} {mg : Str → Option Value} {base : Heap}
theorem ok_fnB {x qual : Str} {f : Addr} {fd : FuncData} {N ps : List Str} {k : Nat} {body : M Fw} (F : Fun K x qual st f fd) (S : FnScope N ps (defScope st)) (hl : ps.length ≤ N.length)
    (h : ∀ (cdv : Value) (A : Around) (outer : List Env) (s : Shared) (H : Hp) (b : Bool) (pl : List (Addr × Obj)), RoomH k (A.deeper (envOfC qual (defScope st) s.heap.objs.size f cdv)) → MoodC (cxB P w K mg base N qual (defScope st) f cdv A outer s H b pl) b pl →
      PSsU ca E0 (cxB P w K mg base N qual (defScope st) f cdv A outer s H b pl) (defBody st) body) : FnB P w K mg base (k + 1) f fd ps (fun _ => spF ca ps.length (fnF N.length body)) := by
  refine fnB_of F S (fun pl vs H Q E z => z.1) fun cdv A outer s H vs Q b pl hr mc z => ⟨_, h cdv A outer s H b pl hr mc, ?_⟩
  obtain ⟨hv, f', G, ds, t, e1, e2, r, ra, o⟩ := z
  refine ⟨f', G, begin N.length ds t, begin_rel r ra (by omega), ?_⟩
  unfold fnF at o
  cases er : body (begin N.length ds t) with
  | err c fs t => rw [er] at o; exact o
  | no => rw [er] at o; exact o.elim
  | ok fw s' =>
    rw [er] at o
    cases fw with
    | nx => exact fun σ' H' G' l rel => o .non H' G' l rel.r .non
    | rt x => exact fun v σ' H' G' l rel ov => o v H' G' l rel.r ov.r
    | bk => exact o.elim
    | ct => exact o.elim
/-- what means nothing may stand for any def -/
theorem fn_none {f : Addr} {fd : FuncData} {ps : List Str} {k : Nat} (CX : CXT) : FnOk P w K mg base CX k f fd ps (spF ca ps.length fun _ _ => .no) :=
  ⟨fun vs H Q E h => h.1, fun A outer s H args us vs Q E hr e0 hb r h => by
    obtain ⟨_, f', G, ds, t, _, _, _, _, o⟩ := h
    exact o.elim⟩
theorem fnB_none {f : Addr} {fd : FuncData} {ps : List Str} {k : Nat} : FnB P w K mg base k f fd ps (fun _ => spF ca ps.length fun _ _ => .no) :=
  ⟨fun pl vs H Q E h => h.1, fun A outer s H args us vs Q b pl hr md e0 hb r h => by
    obtain ⟨_, f', G, ds, t, _, _, _, _, o⟩ := h
    exact o.elim⟩
end
/-! ### errors that are caught -/
section
variable {ca : Str → Addr} {E : XK} {X : Cx} {a b c e tg : Expr} {pos : Pos} {Fa Fc : M OV} {Ft Fu : M Bool} {st : Stmt} {sts : List Stmt}
def tokX (a d : Nat) (kvs : List (PyData × PyData)) : PyData := .dict ((.int a, .int d) :: kvs)
def lookD (n : Str) : List (PyData × PyData) → Option PyData
  | [] => none
  | (k, v) :: r => match k with
    | .str m => if n == m then some v else lookD n r
    | _ => lookD n r
theorem look_of {n : Str} : ∀ {fs : List (Str × V)} {kvs : List (PyData × PyData)} {d : PyData}, excD fs = some kvs → lookD n kvs = some d → ∃ v, fs.lookup n = some v ∧ ∀ T G, Rq T G v d
  | [], _, _, e, l => by cases e; cases l
  | (m, v) :: fs, kvs, d, e, l => by
    have go : ∀ x : PyData, (∀ T G, Rq T G v x) → (excD fs).map ((PyData.str m, x) :: ·) = some kvs → ∃ v', ((m, v) :: fs).lookup n = some v' ∧ ∀ T G, Rq T G v' d := fun x hx e => by
      cases e2 : excD fs with
      | none => rw [e2] at e; cases e
      | some r =>
        rw [e2] at e
        cases e
        have l' : (if n == m then some x else lookD n r) = some d := l
        rw [List.lookup_cons]
        cases hn : n == m with
        | true =>
          rw [hn, if_pos rfl] at l'
          cases l'
          exact ⟨v, rfl, hx⟩
        | false =>
          rw [hn, if_neg (by decide)] at l'
          exact look_of e2 l'
    cases v <;> first | exact go _ (fun _ _ => by constructor) e | (cases e; done)
def excF (i a d : Nat) (n : Str) : M OV := fun s => match sl s i with
  | .fr (.dict ((.int x, .int y) :: kvs)) => if x = a ∧ y = d then (match lookD n kvs with | some v => .ok (.fr v) s | none => .no) else .no
  | _ => .no
theorem pu_exAt {i : Nat} {a d : Addr} {C : Addr} {n : Str} (hs : ∀ H, Err.Seen X H a C (some d)) (ec : Ec X.K C) (no : PySem.W.findIn X.K (.ref C) n = some none) (h : PE X e (tAt X n (tVar i))) : PU ca E X e (excF i a d n) := pe_imp h fun σ H Q ⟨f, G, s, rel, out⟩ => by
  unfold excF at out
  have v := rel.vars i
  split at out
  · rename_i x y kvs e1
    rw [e1] at v
    obtain ⟨v, h1, rq⟩ := v
    by_cases hc : x = (a : Int) ∧ y = (d : Int)
    · rw [if_pos hc] at out
      cases e2 : lookD n kvs with
      | none => simp only [e2] at out; exact out.elim
      | some dv =>
        simp only [e2] at out
        cases rq with
        | @exc a' d' fs _ g1 g2 =>
          obtain ⟨c1, c2⟩ := hc
          have c1' : a' = a := Int.ofNat.inj c1
          have c2' : d' = d := Int.ofNat.inj c2
          subst c1' c2'
          obtain ⟨u, l1, l2⟩ := look_of g2 e2
          exact ⟨_, h1, a', C, d', fs, u, rfl, ec, no, hs H, .inl (rel.sub _ _ g1), l1, out u H G .refl rel (l2 _ _)⟩
    · rw [if_neg hc] at out; exact out.elim
  · exact out.elim
def excIs (i a d : Nat) (b : Bool) : M OV := fun s => match sl s i with
  | .fr (.dict ((.int x, .int y) :: kvs)) => if x = a ∧ y = d then .ok (.fr (.bool b)) s else .no
  | _ => .no
theorem pu_exIs {i : Nat} {a d : Addr} {C : Addr} {cv : Value} {c : V} {b : Bool} (hs : ∀ H, Err.Seen X H a C (some d)) (ec : Ec X.K C) (hc : ClsV c cv) (k : PySem.W.kitOne X.K (.ref C) cv = some b) (h : PE X e (tCB (rIsA X) (tCons (tVar i) (tCons (tC c) tNil)))) : PU ca E X e (excIs i a d b) := pe_imp h fun σ H Q ⟨f, G, s, rel, out⟩ => by
  unfold excIs at out
  have v := rel.vars i
  split at out
  · rename_i x y kvs e1
    rw [e1] at v
    obtain ⟨v, h1, rq⟩ := v
    by_cases hxy : x = (a : Int) ∧ y = (d : Int)
    · rw [if_pos hxy] at out
      cases rq with
      | @exc a' d' fs _ g1 g2 =>
        obtain ⟨c1, c2⟩ := hxy
        have c1' : a' = a := Int.ofNat.inj c1
        have c2' : d' = d := Int.ofNat.inj c2
        subst c1' c2'
        exact ⟨_, h1, a', C, some d', c, cv, b, rfl, hc, ec, hs H, (fun dd e => by cases e; exact ⟨fs, .inl (rel.sub _ _ g1)⟩), k, out (.bl b) H G .refl rel (.bl b)⟩
    · rw [if_neg hxy] at out; exact out.elim
  · exact out.elim
end
end Pu
end SecU11
section SecU12
set_option Elab.async false
set_option linter.all false
set_option maxRecDepth 100000
set_option maxHeartbeats 4000000
namespace Pu
open PySem PySem.Spec PyProof.Rows L2 L2H Err
section
variable {ca : Str → Addr} {E : XK} {W : WX} {X : Cx} {a b c e tg : Expr} {pos : Pos} {Fa : M OV} {Ft Fu : M Bool} {st : Stmt} {sts : List Stmt}
/-! ### what stands in a try: an error leaves the slots as they stand -/
def liftX (ca : Str → Addr) (W : WX) (F : M Fw) : L2.TS := fun D σ H => liftS ca (fun cls d H' => W cls d σ H') F D σ H
def quietT (F : M Bool) : M Bool := fun s => match F s with | .ok x s' => .ok x s' | _ => .no
def quietA (F : M (List PyData)) : M (List PyData) := fun s => match F s with | .ok x s' => .ok x s' | _ => .no
theorem psx_one {F : M Fw} (h : PS X st (liftX ca W F)) : PSs X [st] (liftX ca W F) := pss_one h
theorem psx_nil : PSs X [] (liftX ca W (pur .nx)) := pss_imp pss_nil fun D σ H ⟨f, G, s, rel, out⟩ => out σ H G .refl rel
theorem psx_if {s1 s2 : List Stmt} {F1 F2 : M Fw} (hc : PTU ca E0 X c Ft) (ha : PSs X s1 (liftX ca W F1)) (hb : PSs X s2 (liftX ca W F2)) : PS X (.If c s1 s2 pos) (liftX ca W (ifF (quietT Ft) F1 F2)) := ps_imp (ps_if hc ha hb) fun D σ H ⟨f, G, s, rel, out⟩ => by
  refine ⟨f, G, s, rel, ?_⟩
  unfold ifF at out
  cases e : Ft s with
  | err c fs t => rw [bnd_no (by unfold quietT; rw [e])] at out; exact out.elim
  | no => rw [bnd_no (by unfold quietT; rw [e])] at out; exact out.elim
  | ok x s1 =>
    rw [bnd_ok (a := x) (s' := s1) (by unfold quietT; rw [e])] at out
    intro H' G' le rel'
    cases x with
    | true => exact ⟨f, G', s1, rel', out.le le⟩
    | false => exact ⟨f, G', s1, rel', out.le le⟩
theorem quietA_to {F : M (List PyData)} {σ : L2.St} {H : Hp} {R : List V → Hp → Prop} (h : liftA ca E (quietA F) σ H R) : liftA ca E0 F σ H R := by
  obtain ⟨f, G, s, rel, out⟩ := h
  refine ⟨f, G, s, rel, ?_⟩
  unfold quietA at out
  cases e : F s with
  | ok x s1 => rw [e] at out; exact out
  | err c fs t => rw [e] at out; exact out.elim
  | no => rw [e] at out; exact out.elim
theorem psx_expr {n : Nat} {p : Fn} {Fs : M (List PyData)} (h : PS X st (tDrop (tCallS (spF ca n p) (WE W) (liftA ca E0 Fs)))) : PS X st (liftX ca W (dropF (callF n p (quietA Fs)))) := ps_imp h fun D σ H z => by
  have z' : liftE ca (fun cls d H' => W cls d σ H') (callF n p (quietA Fs)) σ H fun _ H1 => D.nx σ H1 := by
    obtain ⟨f, G, s, rel, out⟩ := z
    exact OutS.bndE rel out fun x s1 v H1 G1 l1 rel1 ov1 o => o σ H1 G1 .refl rel1
  have y := call_ok z'
  unfold tCall at y
  simp only [List.append_nil] at y
  exact quietA_to y
/-! ### try .. except -/
def noOw (s : Pst) : Bool := s.v.all fun x => match x with | .ow _ => false | _ => true
theorem noOw_at {s : Pst} (h : noOw s = true) {i : Nat} {l : List PyData} : sl s i ≠ .ow l := fun z => by
  unfold noOw at h
  rw [List.all_eq_true] at h
  unfold sl at z
  rw [List.getD_eq_getElem?_getD] at z
  cases e : s.v[i]? with
  | none => rw [e] at z; cases z
  | some x =>
    rw [e] at z
    have z' : x = .ow l := z
    subst z'
    have := h _ (List.mem_of_getElem? e)
    cases this
def clr (i : Nat) : Rs Fw → Rs Fw | .ok fw s => .ok fw (put i .un s) | r => r
open Classical in
noncomputable def tryF (i : Nat) (cs : List Str) (Fb : M Fw) (Fh : Addr → Addr → M Fw) : M Fw := fun s => if noOw s = true ∧ i < s.v.length then (match Fb s with
  | .ok fw s1 => .ok fw s1
  | .no => .no
  | .err c fs t => if c ∈ cs then (match excD fs with
    | some kvs => if h : ∃ r, ∀ a d : Nat, clr i (Fh a d (put i (.fr (tokX a d kvs)) { s with t := t })) = r then h.choose else .no
    | none => .no) else .no) else .no
theorem tryF_ok {i : Nat} {cs : List Str} {Fb : M Fw} {Fh : Addr → Addr → M Fw} {s s1 : Pst} {fw : Fw} (h0 : noOw s = true) (h1 : i < s.v.length) (h : Fb s = .ok fw s1) : tryF i cs Fb Fh s = .ok fw s1 := by
  unfold tryF
  rw [if_pos ⟨h0, h1⟩, h]
theorem tryF_err {i : Nat} {cs : List Str} {Fb : M Fw} {Fh : Addr → Addr → M Fw} {s : Pst} {c : Str} {fs : List (Str × V)} {t : Tps} {kvs : List (PyData × PyData)} {r : Rs Fw} (h0 : noOw s = true) (h1 : i < s.v.length) (h : Fb s = .err c fs t) (hc : c ∈ cs) (hx : excD fs = some kvs)
    (hr : ∀ a d : Nat, clr i (Fh a d (put i (.fr (tokX a d kvs)) { s with t := t })) = r) : tryF i cs Fb Fh s = r := by
  unfold tryF
  rw [if_pos ⟨h0, h1⟩, h]
  dsimp only
  rw [if_pos hc, hx]
  dsimp only
  have ex : ∃ r, ∀ a d : Nat, clr i (Fh a d (put i (.fr (tokX a d kvs)) { s with t := t })) = r := ⟨r, hr⟩
  rw [dif_pos ex, ← ex.choose_spec 0 0, hr 0 0]
/-- after the try's suite -/
theorem relax {f : Fr} {G H G' H' : Hp} {σ σ' : L2.St} {s s' : Pst} (r : Rel f G H σ s) (r' : Rel { f with B := H, G0 := G } G' H' σ' s') : Rel f G' H' σ' s' := by
  have hb : ∀ b, H b = none → f.B b = none := fun b h => by
    by_cases z : f.zone b
    · exact (r.ok.ex _ _ _ z r.tape h).elim
    · cases e : f.B b with
      | none => rfl
      | some o => rw [r.keep _ _ z e] at h; cases h
  refine ⟨r.ok, r'.sub, fun b o z e => r'.keep b o z (r.keep b o z e), r.g0.trans r'.g0, fun b h => ?_, r'.zn, r'.tape, fun i => ?_, r'.dist, r'.len⟩
  · rcases r'.new b h with h | h | h
    · rcases r.new b h with h | h | ⟨fs, h⟩
      · exact .inl h
      · exact .inr (.inl h)
      · exact .inr (.inr ⟨fs, r'.g0 _ _ h⟩)
    · exact .inr (.inl (hb b h))
    · exact .inr (.inr h)
  · have v := r'.vars i
    cases e : sl s' i with
    | un => trivial
    | fr d => rw [e] at v; exact v
    | ow l =>
      rw [e] at v
      obtain ⟨p, vs, h1, h2, h3, h4, h5, h6, h7⟩ := v
      exact ⟨p, vs, h1, h2, h3, h4, h5, hb _ h6, h7⟩
theorem relaxO {f : Fr} {G H G' H' : Hp} {σ σ' : L2.St} {s s' : Pst} {v : V} {x : OV} (r : Rel f G H σ s) (o : OVOk { f with B := H, G0 := G } G' H' σ' s' v x) : OVOk f G' H' σ' s' v x := by
  have hb : ∀ b, H b = none → f.B b = none := fun b h => by
    by_cases z : f.zone b
    · exact (r.ok.ex _ _ _ z r.tape h).elim
    · cases e : f.B b with
      | none => rfl
      | some o => rw [r.keep _ _ z e] at h; cases h
  cases x with
  | fr d => exact o
  | ow l => obtain ⟨p, vs, h1, h2, h3, h4, h5, h6, h7, h8⟩ := o; exact ⟨p, vs, h1, h2, h3, h4, h5, hb _ h6, h7, h8⟩
theorem Rel.clear {f : Fr} {G H : Hp} {σ : L2.St} {s : Pst} {i : Nat} (r : Rel f G H σ s) (hi : i < s.v.length) : Rel f G H (σ.set i none) (put i .un s) := by
  refine ⟨r.ok, r.sub, r.keep, r.g0, r.new, r.zn, r.tape, fun j => ?_, fun j k l1 l2 hjk e1 e2 => ?_, by show (σ.set i none).length = (s.v.set i _).length; rw [List.length_set, List.length_set]; exact r.len⟩
  · rw [sl_put hi]
    by_cases h : j = i
    · rw [if_pos h]; trivial
    · rw [if_neg h]
      have g : (σ.set i none)[j]? = σ[j]? := List.getElem?_set_ne (fun z => h z.symm)
      have v := r.vars j
      cases e : sl s j with
      | un => trivial
      | fr d => rw [e] at v; obtain ⟨v, h1, h2⟩ := v; exact ⟨v, g.trans h1, h2⟩
      | ow l => rw [e] at v; obtain ⟨p, vs, h1, h2⟩ := v; exact ⟨p, vs, g.trans h1, h2⟩
  · rw [sl_put hi] at e1 e2
    by_cases h : j = i
    · rw [if_pos h] at e1; cases e1
    · by_cases h' : k = i
      · rw [if_pos h'] at e2; cases e2
      · rw [if_neg h] at e1
        rw [if_neg h'] at e2
        rw [List.getElem?_set_ne (fun z => h z.symm), List.getElem?_set_ne (fun z => h' z.symm)]
        exact r.dist j k l1 l2 hjk e1 e2
theorem endAt_out {f : Fr} {G : Hp} {i : Nat} {r : Rs Fw} {D : Ends} (o : OutS ca f E G (clr i r) D) : OutS ca f E G r (endAt (some i) D) := by
  have go : ∀ {σ' : L2.St} {H' G' : Hp} {s' : Pst}, Rel f G' H' σ' s' → Rel f G' H' (σ'.set i none) (put i .un s') := fun {σ' H' G' s'} rel => by
    by_cases hi : i < s'.v.length
    · exact rel.clear hi
    · have e1 : σ'.set i none = σ' := List.set_eq_of_length_le (by rw [rel.len]; omega)
      have e2 : put i .un s' = s' := by
        show Pst.mk (s'.v.set i .un) s'.t = s'
        rw [List.set_eq_of_length_le (by omega)]
      rw [e1, e2]; exact rel
  cases r with
  | no => exact o
  | err c fs t => exact o
  | ok fw s' =>
    cases fw with
    | nx => exact fun σ' H' G' l rel => o _ H' G' l (go rel)
    | bk => exact fun σ' H' G' l rel => o _ H' G' l (go rel)
    | ct => exact fun σ' H' G' l rel => o _ H' G' l (go rel)
    | rt x =>
      refine fun v σ' H' G' l rel ov => o v _ H' G' l (go rel) ?_
      cases x with
      | fr d => exact ov
      | ow l' =>
        obtain ⟨p, vs, h1, h2, h3, h4, h5, h6, h7, h8⟩ := ov
        refine ⟨p, vs, h1, h2, h3, h4, h5, h6, h7, fun j l2 e z => ?_⟩
        by_cases hi : i < s'.v.length
        · rw [sl_put hi] at e
          by_cases hj : j = i
          · rw [if_pos hj] at e; cases e
          · rw [if_neg hj] at e
            rw [List.getElem?_set_ne (fun z => hj z.symm)] at z
            exact h8 j l2 e z
        · have e2 : put i .un s' = s' := by
            show Pst.mk (s'.v.set i .un) s'.t = s'
            rw [List.set_eq_of_length_le (by omega)]
          rw [e2] at e
          rw [List.set_eq_of_length_le (by rw [rel.len]; omega)] at z
          exact h8 j l2 e z
theorem Rel.caught {f : Fr} {G H H' : Hp} {σ : L2.St} {s : Pst} {i : Nat} {a d : Addr} {fs : List (Str × V)} {kvs : List (PyData × PyData)} {t : Tps} (r : Rel f G H σ s) (h0 : noOw s = true) (hi : i < s.v.length) (hd : H' d = some (.xd fs)) (hx : excD fs = some kvs)
    (k : ∀ b o, ¬ f.zone b → H b = some o → H' b = some o) (ht : f.R t H') : Rel f (upd G d (.xd fs)) H' (σ.set i (some (.ref a))) (put i (.fr (tokX a d kvs)) { s with t := t }) := by
  have sub : ∀ b o, G b = some o → H' b = some o := fun b o e => k b o (fun z => by rw [r.zn _ z] at e; cases e) (r.sub _ _ e)
  have lg : Le G (upd G d (.xd fs)) := fun b o e => by
    by_cases hb : b = d
    · subst hb
      rw [upd_same]
      exact (hd.symm.trans (sub _ _ e))
    · rw [upd_ne hb]; exact e
  refine ⟨r.ok, fun b o e => ?_, fun b o z e => k b o z (r.keep b o z e), r.g0.trans lg, fun b h => ?_, fun b z => ?_, ht, fun j => ?_, fun j k l1 l2 hjk e1 e2 => ?_, ?_⟩
  · by_cases hb : b = d
    · subst hb
      rw [upd_same] at e
      exact hd.trans e
    · rw [upd_ne hb] at e; exact sub _ _ e
  · by_cases hb : b = d
    · subst hb
      exact .inr (.inr ⟨fs, upd_same⟩)
    · rw [upd_ne hb] at h
      exact (r.new _ h).imp id (Or.imp id (isX_upd hb))
  · have hb : b ≠ d := fun e => by
      subst e
      rcases z with ⟨hk, rfl⟩ | ⟨hk, rfl⟩ <;> rcases ht with ⟨_, hk' | ⟨hk', e1, e2, _⟩ | ⟨hk', e1⟩ | ⟨hk', e1, e2, _⟩⟩ <;> first | exact absurd hk' hk | (rw [hd] at e1; cases e1; done) | (rw [hd] at e2; cases e2; done) | omega
    rw [upd_ne hb]; exact r.zn _ z
  · have hi' : i < ({ s with t := t } : Pst).v.length := hi
    rw [sl_put hi']
    by_cases h : j = i
    · rw [if_pos h, h]
      exact ⟨.ref a, by rw [List.getElem?_set_self (by rw [r.len]; exact hi)], .exc upd_same hx⟩
    · rw [if_neg h]
      have g : (σ.set i (some (V.ref a)))[j]? = σ[j]? := List.getElem?_set_ne (fun z => h z.symm)
      have v := r.vars j
      show SlOk f _ H' _ j (sl s j)
      cases e : sl s j with
      | un => trivial
      | fr dd => rw [e] at v; obtain ⟨v, h1, h2⟩ := v; exact ⟨v, g.trans h1, h2.le lg⟩
      | ow l => exact (noOw_at h0 e).elim
  · have hi' : i < ({ s with t := t } : Pst).v.length := hi
    rw [sl_put hi'] at e1
    by_cases h : j = i
    · rw [if_pos h] at e1; cases e1
    · rw [if_neg h] at e1
      exact (noOw_at h0 (show sl s j = _ from e1)).elim
  · show (σ.set i _).length = (s.v.set i _).length
    rw [List.length_set, List.length_set]; exact r.len
theorem ps_tryU {i : Nat} {cs : List Str} {Fb : M Fw} {Fh : Addr → Addr → M Fw} {body : List Stmt} {t : Expr} {n : Str} {cv : Value} {b0 : Stmt} {suite : List Stmt} {pos' : Pos} (hs : X.stack = X.env :: X.outer) (hf : X.env.frame = some X.env.locals) (hN : X.N.Nodup)
    (ht : Tst X t fun cls b => PySem.W.exmOne X.K cls cv = some b) (hm : ∀ c ∈ cs, PySem.W.exmOne X.K (.ref (ca c)) cv = some true) (hi : X.N[i]? = some n) (hl : X.env.kindOf n = some .local)
    (hb : ∀ (W : WX) (pn : List (Addr × Obj)) (xe : Value → Shared → Prop), L2N.Takes (X.tr pn xe) W → PSs (X.tr pn xe) body (liftX ca W Fb))
    (hh : ∀ (a : Addr) (oe : Obj) (d : Addr) (pn : List (Addr × Obj)) (c : Str), c ∈ cs → L2N.Zn (.ref (ca c)) (some d) oe → (∃ vs, oe.data = .fields vs) → PSsU ca E (X.suite a ((a, oe) :: pn)) (b0 :: suite) (Fh a d)) :
    PSU ca E X (.Try body [.ExceptHandler (some t) (some n) (b0 :: suite) pos'] [] [] pos) (tryF i cs Fb Fh) := by
  let ts : Addr → Value → Option Addr → L2.TS := fun a cls d D σ H => ∃ c dd, c ∈ cs ∧ cls = .ref (ca c) ∧ d = some dd ∧ liftS ca E (Fh a dd) D σ H
  refine ps_imp (ps_trys (Wout := fun _ _ _ _ => False) (l := [((fun cls b => PySem.W.exmOne X.K cls cv = some b), some i, ts)]) hs hf hN Dt.takes0N (fun W pn xe tk _ => hb W pn xe tk)
    (ClOk.as ht hi hl (fun a oe cls d pn hz hfd => ⟨fun pins s σ H D I ⟨c, dd, hc, e1, e2, q⟩ => by
      subst e1 e2
      exact (hh a oe dd pn c hc hz hfd).run pins s σ H D I q⟩) .nil)) fun D σ H ⟨f, G, s, rel, out⟩ => ?_
  unfold tryF at out
  split at out
  · rename_i hg
    obtain ⟨h0, h1⟩ := hg
    refine ⟨{ f with B := H, G0 := G }, G, s, ⟨⟨rel.ok.stab, rel.ok.ex⟩, rel.sub, fun _ _ _ e => e, .refl, fun _ h => .inl h, rel.zn, rel.tape, fun j => ?_, fun j k l1 l2 _ e => (noOw_at h0 e).elim, rel.len⟩, ?_⟩
    · have v := rel.vars j
      cases e : sl s j with
      | un => trivial
      | fr d => rw [e] at v; exact v
      | ow l => exact (noOw_at h0 e).elim
    · split at out
      · rename_i fw s1 e1
        rw [e1]
        cases fw with
        | nx => exact fun σ' H' G' l r' => out σ' H' G' l (relax rel r')
        | bk => exact fun σ' H' G' l r' => out σ' H' G' l (relax rel r')
        | ct => exact fun σ' H' G' l r' => out σ' H' G' l (relax rel r')
        | rt x => exact fun v σ' H' G' l r' ov => out v σ' H' G' l (relax rel r') (relaxO rel ov)
      · exact out.elim
      · rename_i c fs t e1
        rw [e1]
        split at out
        · rename_i hc
          split at out
          · rename_i kvs hx
            split at out
            · rename_i ex
              intro d H' hd k ht'
              refine ⟨true, hm c hc, fun _ a na => ?_, fun z => by cases z⟩
              refine ⟨c, d, hc, rfl, rfl, f, _, _, rel.caught h0 h1 hd hx (fun b o z e => k b o z e) ht', ?_⟩
              have y := ex.choose_spec a d
              rw [← y] at out
              have lg : Le G (upd G d (.xd fs)) := fun b o e => by
                by_cases hb : b = d
                · subst hb
                  rw [upd_same]
                  exact hd.symm.trans (k b o (fun z => by rw [rel.zn _ z] at e; cases e) (rel.sub _ _ e))
                · rw [upd_ne hb]; exact e
              exact endAt_out (out.le lg)
            · exact out.elim
          · exact out.elim
        · exact out.elim
  · exact out.elim
/-- one class that is caught -/
theorem ps_tryU1 {i : Nat} {c0 : Str} {C : Addr} {Fb : M Fw} {Fh : Addr → Addr → M Fw} {body : List Stmt} {t : Expr} {n : Str} {cv : Value} {b0 : Stmt} {suite : List Stmt} {pos' : Pos} (hC : ca c0 = C) (hm : PySem.W.exmOne X.K (.ref C) cv = some true) (hs : X.stack = X.env :: X.outer) (hf : X.env.frame = some X.env.locals) (hN : X.N.Nodup)
    (ht : Tst X t fun cls b => PySem.W.exmOne X.K cls cv = some b) (hi : X.N[i]? = some n) (hl : X.env.kindOf n = some .local)
    (hb : ∀ (W : WX) (pn : List (Addr × Obj)) (xe : Value → Shared → Prop), L2N.Takes (X.tr pn xe) W → PSs (X.tr pn xe) body (liftX ca W Fb))
    (hh : ∀ (a : Addr) (oe : Obj) (d : Addr) (pn : List (Addr × Obj)), (∀ H, Err.Seen (X.suite a ((a, oe) :: pn)) H a C (some d)) → MoodC (X.suite a ((a, oe) :: pn)) false [(a, oe)] → PSsU ca E (X.suite a ((a, oe) :: pn)) (b0 :: suite) (Fh a d)) :
    PSU ca E X (.Try body [.ExceptHandler (some t) (some n) (b0 :: suite) pos'] [] [] pos) (tryF i [c0] Fb Fh) := by
  subst hC
  refine ps_tryU hs hf hN ht (fun c hc => by obtain rfl := List.mem_singleton.mp hc; exact hm) hi hl hb fun a oe d pn c hc hz hfd => ?_
  obtain rfl := List.mem_singleton.mp hc
  exact hh a oe d pn (fun H => Dt.EAt.seen (.inr ⟨oe, List.mem_cons_self, ⟨hz.1, hz.2.1⟩, hfd⟩)) (Dt.mood_suite hz hfd)
end
/-! ### defs that call themselves -/
def recF (b : Fn → Fn) : Nat → Fn
  | 0 => fun _ _ => .no
  | n + 1 => b (recF b n)
section
variable {P : Program} {w : World} {K : PySem.W.Frag} {mg : Str → Option Value} {base : Heap} {ca : Str → Addr}
theorem dn_rec {b : Fn → Fn} {x : Str} {f : Addr} {fd : FuncData} {ps : List Str} {c : Nat} (r : mg x = some (.ref f) ∧ PySem.W.keepIn K (.ref f) = true ∧ Binds K fd ps [])
    (step : ∀ (k : Nat) (pr : Fn), c ≤ k → Dt.Dn P w K mg base (L2N.CX P w) x k ps (spF ca ps.length pr) → FnOk P w K mg base (L2N.CX P w) (k + 1) f fd ps (spF ca ps.length (b pr))) : ∀ n, Dt.Dn P w K mg base (L2N.CX P w) x (c + n) ps (spF ca ps.length (recF b n))
  | 0 => ⟨f, fd, fn_none _, r⟩
  | n + 1 => ⟨f, fd, step (c + n) _ (by omega) (dn_rec r step n), r⟩
theorem dm_rec {b : Fn → Fn} {x : Str} {f : Addr} {fd : FuncData} {ps : List Str} {c : Nat} (r : mg x = some (.ref f) ∧ PySem.W.keepIn K (.ref f) = true ∧ Binds K fd ps [])
    (step : ∀ (k : Nat) (pr : Fn), c ≤ k → Dt.Dm P w K mg base x k ps (fun _ => spF ca ps.length pr) → FnB P w K mg base (k + 1) f fd ps (fun _ => spF ca ps.length (b pr))) : ∀ n, Dt.Dm P w K mg base x (c + n) ps (fun _ => spF ca ps.length (recF b n))
  | 0 => ⟨f, fd, fnB_none, r⟩
  | n + 1 => ⟨f, fd, step (c + n) _ (by omega) (dm_rec r step n), r⟩
end
end Pu
end SecU12
section SecU13
set_option Elab.async false
set_option linter.all false
set_option maxRecDepth 100000
set_option maxHeartbeats 4000000
namespace Pu
open PySem PySem.Spec PyProof.Rows L2 L2H Err Dt
def eqO (a b : Option (Option Value)) : Bool := decide (a = b)
/-- what a class of errors must show -/
def clsB (K : PySem.W.Frag) (C f : Addr) (nm : List Str) : Bool :=
  eqO (PySem.W.findIn K (.ref C) "__setattr__") (some (some (.builtin "object.__setattr__"))) && (decide (PySem.W.subIn K (.ref C) (.type "BaseException") = some true) && (decide (PySem.W.typeIn K (.ref C) = some (.type "type")) && (PySem.W.keepIn K (.ref C) &&
  ((PySem.W.clsIn K C).isSome && (eqO (PySem.W.findIn K (.ref C) "__getattribute__") (some (some (.builtin "BaseException.__getattribute__"))) && (eqO (PySem.W.findIn K (.ref C) "__getattr__") (some none) && (PySem.W.hasDictIn K C &&
  (eqO (PySem.W.findIn K (.ref C) "__class__") (some (some (.builtin "object.__class__"))) && (eqO (PySem.W.specialIn K (.builtin "object.__class__") "__get__") (some (some (.builtin "getset_descriptor.__get__"))) && (decide (PySem.W.takesIn K (.builtin "object.__class__") = some true) &&
  (decide (PySem.W.mroIn K C (.type "object") = some true) && (nm.all (fun x => eqO (PySem.W.findIn K (.ref C) x) (some none)) && (eqO (PySem.W.findIn K (.ref C) "__init__") (some (some (.ref f))) && decide (PySem.W.typeIn K (.ref f) = some (.type "function")))))))))))))))
theorem ba {a b : Bool} (h : (a && b) = true) : a = true ∧ b = true := Bool.and_eq_true_iff.mp h
structure ClsS (K : PySem.W.Frag) (C f : Addr) (nm : List Str) : Prop where
  sa : PySem.W.findIn K (.ref C) "__setattr__" = some (some (.builtin "object.__setattr__"))
  exC : PySem.W.subIn K (.ref C) (.type "BaseException") = some true
  tyC : PySem.W.typeIn K (.ref C) = some (.type "type")
  kC : PySem.W.keepIn K (.ref C) = true
  cl : (PySem.W.clsIn K C).isSome = true
  ga : PySem.W.findIn K (.ref C) "__getattribute__" = some (some (.builtin "BaseException.__getattribute__"))
  gg : PySem.W.findIn K (.ref C) "__getattr__" = some none
  hd : PySem.W.hasDictIn K C = true
  ca : PySem.W.findIn K (.ref C) "__class__" = some (some (.builtin "object.__class__"))
  cn : PySem.W.specialIn K (.builtin "object.__class__") "__get__" = some (some (.builtin "getset_descriptor.__get__"))
  ct : PySem.W.takesIn K (.builtin "object.__class__") = some true
  cm : PySem.W.mroIn K C (.type "object") = some true
  no : ∀ x ∈ nm, PySem.W.findIn K (.ref C) x = some none
  iC : PySem.W.findIn K (.ref C) "__init__" = some (some (.ref f))
  tI : PySem.W.typeIn K (.ref f) = some (.type "function")
theorem clsB_ok {K : PySem.W.Frag} {C f : Addr} {nm : List Str} (h : clsB K C f nm = true) : ClsS K C f nm := by
  obtain ⟨h1, h⟩ := ba h
  obtain ⟨h2, h⟩ := ba h
  obtain ⟨h3, h⟩ := ba h
  obtain ⟨h4, h⟩ := ba h
  obtain ⟨h5, h⟩ := ba h
  obtain ⟨h6, h⟩ := ba h
  obtain ⟨h7, h⟩ := ba h
  obtain ⟨h8, h⟩ := ba h
  obtain ⟨h9, h⟩ := ba h
  obtain ⟨h10, h⟩ := ba h
  obtain ⟨h11, h⟩ := ba h
  obtain ⟨h12, h⟩ := ba h
  obtain ⟨h13, h⟩ := ba h
  obtain ⟨h14, h15⟩ := ba h
  exact ⟨of_decide_eq_true h1, of_decide_eq_true h2, of_decide_eq_true h3, h4, h5, of_decide_eq_true h6, of_decide_eq_true h7, h8, of_decide_eq_true h9, of_decide_eq_true h10, of_decide_eq_true h11, of_decide_eq_true h12, fun x hx => of_decide_eq_true (List.all_eq_true.mp h13 x hx), of_decide_eq_true h14, of_decide_eq_true h15⟩
section
variable {P : Program} {w : World} {K : PySem.W.Frag} {mg : Str → Option Value} {base : Heap}
theorem mk_kl {x : Str} {C fI : Addr} {nm : List Str} {fd : FuncData} (g : mg x = some (.ref C)) (hC : ∃ nm q N bs bm sn sub ab col dd k0 k1 k2 k3 k5, K.lookup C = some (excClassObj nm q C N bs bm true sn sub ab col dd k0 k1 k2 k3 k5 "ValueError.__new__") ∧ PySem.HandSPX.refsVE bm = true)
    (c : ClsS K C fI nm) (F1 : OexC K C → FnOk P w K mg base CX0 1 fI fd (("self" : Str) :: nm) (spI C nm)) (b : Binds K fd (("self" : Str) :: nm) [])
    (bk : ∀ (s : Shared) (u0 : Value) (ws : List Value), K.In s.heap → ws.length = nm.reverse.length → BindsTo s fd ⟨[u0], nm.reverse.zip ws⟩ ((("self" : Str) :: nm).zip (u0 :: ws.reverse))) : Kl P w K mg base x C nm := by
  have oex : OexC K C := ⟨hC, c.sa, c.exC, c.tyC, c.kC⟩
  exact ⟨⟨oex, c.cl, c.ga, c.gg, c.hd, c.ca, c.cn, c.ct, c.cm⟩, g, c.no, fI, fd, c.iC, c.tI, F1 oex, b, bk⟩
end
/-! ### the end -/
def noLst : PySem.W.Frag → Bool
  | [] => true
  | (_, o) :: r => (match o.cls with | .type n => !decide (n = "list") | _ => true) && noLst r
theorem noLst_ok : ∀ {K : PySem.W.Frag} {a : Addr} {o : Obj}, noLst K = true → K.lookup a = some o → o.cls ≠ .type "list"
  | [], _, _, _, e => by cases e
  | (b, o') :: r, a, o, h, e => by
    have h' : ((match o'.cls with | .type n => !decide (n = "list") | _ => true) && noLst r) = true := h
    rw [Bool.and_eq_true] at h'
    rw [List.lookup_cons] at e
    cases hb : a == b with
    | true =>
      rw [hb] at e
      cases e
      intro z
      have y := h'.1
      rw [z] at y
      simp at y
    | false =>
      rw [hb] at e
      exact noLst_ok h'.2 e
theorem script_at {K : PySem.W.Frag} {H : Hp} {a : Addr} {xs : List V} (hk : noLst K = true) (hO : Only H) (hS : SqL K H a xs) : ∃ o, H a = some (.frz o (.lst xs)) := by
  rcases hS with (h | ⟨o, h⟩) | ⟨o, its, n, e, hc, _⟩
  · rcases hO a with z | ⟨o, ys, z⟩
    · rw [h] at z; cases z
    · rw [h] at z; cases z
  · exact ⟨o, h⟩
  · exact (noLst_ok hk e hc).elim
theorem noCX {P : Program} {w : World} {H : Hp} {s : Shared} {e : Value} {s' : Shared} (c : L2N.CX P w [] H s (fun _ _ _ => False) e s') : False := by
  obtain ⟨_, _, _, _, _, _, _, _, _, _, _, _, h⟩ := c
  exact h
theorem walkP {l : PySem.W.OpenLaw} {q : Program} {loose : List Str} {XP : (Str → Option Value) → Heap → Prop} {YP : World → Heap → Prop} {d : DefRec} {K : Params → PySem.W.Frag} {k : Nat} (hn : l.most = some 63) (hdf : d.params.defaults = []) (hr : Room k callerA)
    (hY : ∀ (w : World) (h : Heap), YP w h → (K w.params).In h) (hk : ∀ w : World, noLst (K w.params) = true)
    (F : ∀ (w : World) (mg : Str → Option Value) (fa : Addr) (h : Heap), (K w.params).In h → h.Ns mainGlobals mg → mg d.name = some (.ref fa) →
      ∃ fd : FuncData, (∀ (s : Shared) (u : Value), BindsTo s fd ⟨[u], []⟩ [("script", u)]) ∧ ∀ base : Heap, (K w.params).In base → base.Ns mainGlobals mg → FnOk l.prog w (K w.params) mg base (L2N.CX l.prog w) k fa fd ["script"] spLaw) :
    PySem.W.WalkO q loose XP YP l.row.toRowW d [] (fun f vs => PySem.call f vs) :=
  L2.walk_ofB (n := 63) (k := k) (x := "script") (CX := fun w => L2N.CX l.prog w) (sp := fun _ => spLaw) hn (by decide) hdf hr hY F (fun w H a ns hl hb hO hS => by
    obtain ⟨o, e⟩ := script_at (hk w) hO hS
    exact ⟨a, o, ns, rfl, e, hl, hb, fun _ => rfl⟩) fun _ _ _ _ _ z => noCX z
end Pu
end SecU13
section SecV0
set_option Elab.async false
set_option linter.all false
set_option maxRecDepth 100000
set_option maxHeartbeats 4000000
namespace Pu
open PySem PySem.Spec
/-! ### sizes -/
def Sz (n : Nat) (x : Int) : Prop := x.natAbs < 2 ^ n
theorem Sz.mono {n m : Nat} {x : Int} (h : Sz n x) (l : n ≤ m) : Sz m x := Nat.lt_of_lt_of_le h (Nat.pow_le_pow_right (by decide) l)
theorem Sz.add {n m : Nat} {x y : Int} (h : Sz n x) (g : Sz m y) : Sz (max n m + 1) (x + y) := by
  unfold Sz at *
  have a : x.natAbs < 2 ^ (max n m) := Nat.lt_of_lt_of_le h (Nat.pow_le_pow_right (by decide) (Nat.le_max_left _ _))
  have b : y.natAbs < 2 ^ (max n m) := Nat.lt_of_lt_of_le g (Nat.pow_le_pow_right (by decide) (Nat.le_max_right _ _))
  rw [Nat.pow_succ]
  omega
theorem Sz.neg {n : Nat} {x : Int} (h : Sz n x) : Sz n (-x) := by unfold Sz at *; rw [Int.natAbs_neg]; exact h
theorem Sz.sub {n m : Nat} {x y : Int} (h : Sz n x) (g : Sz m y) : Sz (max n m + 1) (x - y) := by
  have := h.add g.neg
  rwa [← Int.sub_eq_add_neg] at this
theorem Sz.mul {n m : Nat} {x y : Int} (h : Sz n x) (g : Sz m y) : Sz (n + m) (x * y) := by
  unfold Sz at *
  rw [Int.natAbs_mul, Nat.pow_add]
  exact Nat.mul_lt_mul'' h g
theorem Sz.log {n : Nat} {x : Int} (h : Sz n x) : x.natAbs.log2 ≤ n := by
  by_cases hx : x.natAbs = 0
  · rw [hx]; exact Nat.zero_le _
  · exact Nat.le_of_lt ((Nat.log2_lt hx).mpr h)
theorem mul_ok {n m : Nat} {x y : Int} (h : Sz n x) (g : Sz m y) (l : n + m < 1000000) : x.natAbs.log2 + y.natAbs.log2 < 1000000 := by
  have := h.log; have := g.log; omega
theorem dMul_ii {n m : Nat} {x y : Int} (h : Sz n x) (g : Sz m y) (l : n + m < 1000000) : dMul (.int x) (.int y) = okI (x * y) := by
  show (if _ then _ else _) = _
  rw [if_pos (mul_ok h g l)]
theorem sz_lit {x : Int} (h : x.natAbs < 2 ^ 64 := by decide) : Sz 64 x := h
local macro_rules | `(tactic| walk_at "v sz") => `(tactic| repeat (first | assumption | apply Sz.mul | apply Sz.sub | apply Sz.add | apply Sz.neg | exact sz_lit))
end Pu
end SecV0
local macro_rules | `(tactic| walk_at "v sz") => `(tactic| repeat (first | assumption | apply Pu.Sz.mul | apply Pu.Sz.sub | apply Pu.Sz.add | apply Pu.Sz.neg | exact Pu.sz_lit))
section SecV1
set_option Elab.async false
set_option linter.all false
set_option maxRecDepth 100000
set_option maxHeartbeats 4000000
namespace Pu
open PySem PySem.Spec
/-! ### a comprehension is a map -/
def Off (own : List Nat) (s s' : Pst) : Prop := s'.t = s.t ∧ s'.v.length = s.v.length ∧ ∀ i, i ∉ own → s'.v[i]? = s.v[i]?
theorem Off.refl {own : List Nat} {s : Pst} : Off own s s := ⟨rfl, rfl, fun _ _ => rfl⟩
theorem Off.trans {own : List Nat} {s s' s'' : Pst} (a : Off own s s') (b : Off own s' s'') : Off own s s'' := ⟨b.1.trans a.1, b.2.1.trans a.2.1, fun i h => (b.2.2 i h).trans (a.2.2 i h)⟩
theorem Off.wipe {own : List Nat} {s : Pst} : Off own s (wipeS own s) := by
  refine ⟨rfl, wipeS_len own s, fun i hi => ?_⟩
  unfold wipeS
  dsimp only
  induction own with
  | nil => rfl
  | cons j own ih =>
    rw [List.foldr_cons, List.getElem?_set_ne (fun z => hi (by rw [z]; exact List.mem_cons_self))]
    exact ih fun z => hi (List.mem_cons_of_mem _ z)
theorem Off.put {own : List Nat} {s : Pst} {i : Nat} {x : Sl} (h : i ∈ own) : Off own s (put i x s) := by
  refine ⟨rfl, by unfold Pu.put; exact List.length_set, fun j hj => ?_⟩
  unfold Pu.put
  exact List.getElem?_set_ne (fun z : i = j => hj (by rw [← z]; exact h))
theorem Off.one {i : Nat} {s s' : Pst} (h : Off [i] s s') : ∃ u, s' = Pu.put i u s := by
  obtain ⟨v, t⟩ := s
  obtain ⟨v', t'⟩ := s'
  obtain ⟨h1, h2, h3⟩ := h
  have h1 : t' = t := h1
  have h2 : v'.length = v.length := h2
  have h3 : ∀ j, j ∉ [i] → v'[j]? = v[j]? := h3
  subst h1
  refine ⟨v'.getD i .un, ?_⟩
  unfold Pu.put
  dsimp only
  congr 1
  apply List.ext_getElem?
  intro j
  by_cases hj : j = i
  · subst hj
    by_cases hl : j < v.length
    · rw [List.getElem?_set_self hl, List.getD_eq_getElem?_getD, List.getElem?_eq_getElem (by omega)]; rfl
    · rw [List.getElem?_eq_none (by omega), List.getElem?_eq_none (by rw [List.length_set]; omega)]
  · rw [List.getElem?_set_ne (fun z => hj z.symm)]
    exact h3 j (by simpa using hj)
theorem Off.two {i k : Nat} {s s' : Pst} (h : Off [i, k] s s') : ∃ u v, s' = Pu.put k v (Pu.put i u s) := by
  have h' : Off [k] (Pu.put i (s'.v.getD i .un) s) s' := by
    refine ⟨h.1, by rw [h.2.1]; unfold Pu.put; exact List.length_set.symm, fun j hj => ?_⟩
    by_cases hji : j = i
    · subst hji
      unfold Pu.put
      dsimp only
      by_cases hl : j < s.v.length
      · rw [List.getElem?_set_self hl, List.getD_eq_getElem?_getD, List.getElem?_eq_getElem (by rw [h.2.1]; exact hl)]; rfl
      · rw [List.getElem?_eq_none (by rw [h.2.1]; omega), List.getElem?_eq_none (by rw [List.length_set]; omega)]
    · unfold Pu.put
      rw [List.getElem?_set_ne (fun z => hji z.symm)]
      refine h.2.2 j ?_
      simp only [List.mem_cons, List.not_mem_nil, or_false] at hj ⊢
      omega
  obtain ⟨v, e⟩ := h'.one
  exact ⟨_, v, e⟩
theorem restore_off {own : List Nat} {s s' : Pst} (h : Off own s s') (ho : ∀ i ∈ own, backSl (sl s i) = sl s i) : restore own s s' = s := by
  obtain ⟨v, t⟩ := s
  obtain ⟨v', t'⟩ := s'
  obtain ⟨h1, h2, h3⟩ := h
  have h1 : t' = t := h1
  have h2 : v'.length = v.length := h2
  have h3 : ∀ j, j ∉ own → v'[j]? = v[j]? := h3
  subst h1
  unfold restore
  congr 1
  apply List.ext_getElem?
  intro j
  dsimp only
  rw [List.getElem?_map]
  by_cases hl : j < v'.length
  · rw [List.getElem?_range hl]
    show some (if j ∈ own then _ else _) = _
    by_cases hj : j ∈ own
    · rw [if_pos hj, ho j hj]
      unfold sl
      dsimp only
      rw [List.getD_eq_getElem?_getD, List.getElem?_eq_getElem (by rw [← h2]; exact hl)]; rfl
    · rw [if_neg hj]
      unfold sl
      dsimp only
      rw [List.getD_eq_getElem?_getD, h3 j hj, List.getElem?_eq_getElem (by rw [← h2]; exact hl)]; rfl
  · have hl' : ¬ j < v.length := by rw [← h2]; exact hl
    rw [List.getElem?_eq_none (by rw [List.length_range]; omega), List.getElem?_eq_none (by omega)]; rfl
theorem lcGo_ok {own : List Nat} {A : PyData → Pst → Option Pst} {Ft : M Bool} {Fe : M OV} {s : Pst} {g : PyData → PyData} {c : PyData → Bool} : ∀ (ds acc : List PyData) (s' : Pst), Off own s s' → acc.length + ds.length ≤ lim →
    (∀ d ∈ ds, ∀ s', Off own s s' → ∃ s1 s2, A d s' = some s1 ∧ Ft s1 = .ok (c d) s2 ∧ Off own s s2 ∧ (c d = true → ∃ x s3, Fe s2 = .ok x s3 ∧ x.d = g d ∧ Off own s s3)) →
    ∃ s3, lcGo own A Ft Fe ds acc s' = .ok (acc ++ (ds.filter c).map g) s3 ∧ Off own s s3
  | [], acc, s', o, _, _ => ⟨s', by rw [lcGo]; simp, o⟩
  | d :: ds, acc, s', o, hl, h => by
    obtain ⟨s1, s2, h1, h2, h5, h3⟩ := h d List.mem_cons_self s' o
    rw [List.length_cons] at hl
    rw [lcGo, h1]
    dsimp only
    rw [h2]
    cases hc : c d with
    | false =>
      rw [List.filter_cons_of_neg (by rw [hc]; exact Bool.false_ne_true)]
      exact lcGo_ok ds acc _ (h5.trans .wipe) (by omega) fun d' hd => h d' (List.mem_cons_of_mem _ hd)
    | true =>
      obtain ⟨x, s3, h3, h4, h6⟩ := h3 hc
      dsimp only
      rw [h3]
      dsimp only
      rw [if_pos (by omega), h4, List.filter_cons_of_pos hc, List.map_cons]
      obtain ⟨s4, e, o4⟩ := lcGo_ok ds (acc ++ [g d]) _ (h6.trans .wipe) (by rw [List.length_append]; simp; omega) fun d' hd => h d' (List.mem_cons_of_mem _ hd)
      exact ⟨s4, by rw [e]; simp, o4⟩
theorem lc_val {own : List Nat} {A : PyData → Pst → Option Pst} {Fi : M (List PyData)} {Ft : M Bool} {Fe : M OV} {s : Pst} {ds : List PyData} {g : PyData → PyData} {c : PyData → Bool} (hi : Fi s = .ok ds s) (hl : ds.length ≤ lim) (ho : ∀ i ∈ own, backSl (sl s i) = sl s i)
    (h : ∀ d ∈ ds, ∀ s', Off own s s' → ∃ s1 s2, A d s' = some s1 ∧ Ft s1 = .ok (c d) s2 ∧ Off own s s2 ∧ (c d = true → ∃ x s3, Fe s2 = .ok x s3 ∧ x.d = g d ∧ Off own s s3)) :
    lcF own A Fi Ft Fe s = .ok (.ow ((ds.filter c).map g)) s := by
  unfold lcF
  rw [bnd_ok hi]
  obtain ⟨s3, e, o⟩ := lcGo_ok (g := g) (c := c) ds [] (wipeS own s) .wipe (by simpa using hl) h
  rw [e]
  dsimp only
  rw [restore_off o ho]
  rfl
/-- without a condition -/
theorem lc_map {own : List Nat} {A : PyData → Pst → Option Pst} {Fi : M (List PyData)} {Fe : M OV} {s : Pst} {ds : List PyData} {g : PyData → PyData} (hi : Fi s = .ok ds s) (hl : ds.length ≤ lim) (ho : ∀ i ∈ own, backSl (sl s i) = sl s i)
    (h : ∀ d ∈ ds, ∀ s', Off own s s' → ∃ s1 x s3, A d s' = some s1 ∧ Off own s s1 ∧ Fe s1 = .ok x s3 ∧ x.d = g d ∧ Off own s s3) :
    lcF own A Fi yesT Fe s = .ok (.ow (ds.map g)) s := by
  rw [lc_val (g := g) (c := fun _ => true) hi hl ho fun d hd s' o => ?_]
  · rw [List.filter_eq_self.mpr fun _ _ => rfl]
  · obtain ⟨s1, x, s3, h1, h2, h3, h4, h5⟩ := h d hd s' o
    exact ⟨s1, s1, h1, rfl, h2, fun _ => ⟨x, s3, h3, h4, h5⟩⟩
/-- one target, i -/
theorem lc_map1 {i : Nat} {Fi : M (List PyData)} {Fe : M OV} {s : Pst} {ds : List PyData} {g : PyData → PyData} (hi : Fi s = .ok ds s) (hl : ds.length ≤ lim) (hn : i < s.v.length) (ho : backSl (sl s i) = sl s i)
    (h : ∀ d ∈ ds, ∃ x, Fe (put i (.fr d) s) = .ok x (put i (.fr d) s) ∧ x.d = g d) : lcF [i] (nmA i) Fi yesT Fe s = .ok (.ow (ds.map g)) s := by
  refine lc_map hi hl (fun j hj => by rw [List.mem_singleton.mp hj]; exact ho) fun d hd s' o => ?_
  obtain ⟨u, rfl⟩ := o.one
  have e : put i (.fr d) (put i u s) = put i (.fr d) s := by
    unfold put
    dsimp only
    rw [List.set_set]
  obtain ⟨x, hx, hg⟩ := h d hd
  refine ⟨put i (.fr d) s, x, put i (.fr d) s, ?_, .put List.mem_cons_self, hx, hg, .put List.mem_cons_self⟩
  unfold nmA
  rw [if_pos (by unfold put; dsimp only; rw [List.length_set]; exact hn), e]
/-- two targets, i and k, of a pair -/
theorem lc_map2 {i k : Nat} {Fi : M (List PyData)} {Fe : M OV} {s : Pst} {ps : List (PyData × PyData)} {g : PyData → PyData → PyData} (hi : Fi s = .ok (ps.map fun p => .tuple [p.1, p.2]) s) (hl : ps.length ≤ lim) (hik : i ≠ k) (hn : i < s.v.length) (hn2 : k < s.v.length) (ho : backSl (sl s i) = sl s i) (ho2 : backSl (sl s k) = sl s k)
    (h : ∀ p ∈ ps, ∃ x, Fe (put k (.fr p.2) (put i (.fr p.1) s)) = .ok x (put k (.fr p.2) (put i (.fr p.1) s)) ∧ x.d = g p.1 p.2) :
    lcF [i, k] (tupA 2 (consA (nmA i) (consA (nmA k) nilA))) Fi yesT Fe s = .ok (.ow (ps.map fun p => g p.1 p.2)) s := by
  have e0 : (ps.map fun p => g p.1 p.2) = (ps.map fun p => PyData.tuple [p.1, p.2]).map (fun d => match d with | .tuple [a, b] => g a b | _ => .none) := by rw [List.map_map]; rfl
  rw [e0]
  refine lc_map hi (by rw [List.length_map]; exact hl) (fun j hj => by
    rcases List.mem_cons.mp hj with rfl | hj
    · exact ho
    · rw [List.mem_singleton.mp hj]; exact ho2) fun d hd s' o => ?_
  obtain ⟨p, hp, rfl⟩ := List.mem_map.mp hd
  obtain ⟨u, v, rfl⟩ := o.two
  have e : put k (.fr p.2) (put i (.fr p.1) (put k v (put i u s))) = put k (.fr p.2) (put i (.fr p.1) s) := by
    unfold put
    dsimp only
    congr 1
    rw [List.set_comm (a := v) (b := Sl.fr p.1) (fun z => hik z.symm), List.set_set, List.set_set]
  obtain ⟨x, hx, hg⟩ := h p hp
  have o2 : Off [i, k] s (put k (.fr p.2) (put i (.fr p.1) s)) := (Off.put (own := [i, k]) List.mem_cons_self).trans (.put (List.mem_cons_of_mem _ List.mem_cons_self))
  refine ⟨_, x, _, ?_, o2, hx, hg, o2⟩
  have l1 : ∀ (j : Nat) (w : Sl) (q : Pst), (put j w q).v.length = q.v.length := fun j w q => by unfold put; exact List.length_set
  have a1 : nmA i p.1 (put k v (put i u s)) = some (put i (.fr p.1) (put k v (put i u s))) := by
    unfold nmA
    rw [if_pos (by rw [l1, l1]; exact hn)]
  have a2 : nmA k p.2 (put i (.fr p.1) (put k v (put i u s))) = some (put k (.fr p.2) (put i (.fr p.1) (put k v (put i u s)))) := by
    unfold nmA
    rw [if_pos (by rw [l1, l1, l1]; exact hn2)]
  have a3 : tupA 2 (consA (nmA i) (consA (nmA k) nilA)) (.tuple [p.1, p.2]) (put k v (put i u s)) = (nmA i p.1 (put k v (put i u s))).bind fun s => (nmA k p.2 s).bind fun s => some s := rfl
  rw [a3, a1]
  show (nmA k p.2 _).bind _ = _
  rw [a2, e]
  rfl
end Pu
end SecV1
section SecV2
set_option Elab.async false
set_option linter.all false
set_option maxRecDepth 100000
set_option maxHeartbeats 4000000
namespace Pu
open PySem PySem.Spec
section
variable {α β : Type}
theorem lcGo_one {i : Nat} {Fe : M OV} {s : Pst} {xs : List α} (f g : α → PyData) (hn : i < s.v.length)
    (h : ∀ a ∈ xs, ∃ x, Fe (put i (.fr (f a)) s) = .ok x (put i (.fr (f a)) s) ∧ x.d = g a) : ∀ (ys : List α) (acc : List PyData) (s' : Pst), (∀ a ∈ ys, a ∈ xs) → Off [i] s s' → acc.length + ys.length ≤ lim → ∃ s3, lcGo [i] (nmA i) yesT Fe (ys.map f) acc s' = .ok (acc ++ ys.map g) s3 ∧ Off [i] s s3 := by
  intro ys
  induction ys with
  | nil => exact fun acc s' _ o _ => ⟨s', by rw [List.map_nil, lcGo]; simp, o⟩
  | cons a ys ih =>
    intro acc s' hm o hl
    obtain ⟨u, rfl⟩ := o.one
    have e : put i (.fr (f a)) (put i u s) = put i (.fr (f a)) s := by
      unfold put
      dsimp only
      rw [List.set_set]
    obtain ⟨x, hx, hg⟩ := h a (hm a List.mem_cons_self)
    rw [List.length_cons] at hl
    rw [List.map_cons, lcGo]
    have h1 : nmA i (f a) (put i u s) = some (put i (.fr (f a)) s) := by
      unfold nmA
      rw [if_pos (by unfold put; dsimp only; rw [List.length_set]; exact hn), e]
    rw [h1]
    dsimp only
    rw [show yesT (put i (.fr (f a)) s) = .ok true (put i (.fr (f a)) s) from rfl]
    dsimp only
    rw [hx]
    dsimp only
    rw [if_pos (by omega), hg]
    obtain ⟨s4, e4, o4⟩ := ih (acc ++ [g a]) _ (fun b hb => hm b (List.mem_cons_of_mem _ hb)) ((Off.put (s := s) (x := .fr (f a)) (List.mem_cons_self (a := i) (l := []))).trans .wipe) (by rw [List.length_append]; simp; omega)
    exact ⟨s4, by rw [e4]; simp, o4⟩
theorem lc_one {i : Nat} {Fi : M (List PyData)} {Fe : M OV} {s00 s : Pst} {xs : List α} (f g : α → PyData) (hi : Fi s00 = .ok (xs.map f) s) (hl : xs.length ≤ lim) (hn : i < s.v.length) (ho : backSl (sl s i) = sl s i)
    (h : ∀ a ∈ xs, ∃ x, Fe (put i (.fr (f a)) s) = .ok x (put i (.fr (f a)) s) ∧ x.d = g a) : lcF [i] (nmA i) Fi yesT Fe s00 = .ok (.ow (xs.map g)) s := by
  unfold lcF
  rw [bnd_ok hi]
  obtain ⟨s3, e, o⟩ := lcGo_one f g hn h xs [] (wipeS [i] s) (fun _ h => h) .wipe (by simpa using hl)
  rw [e]
  dsimp only
  rw [restore_off o (fun j hj => by rw [List.mem_singleton.mp hj]; exact ho)]
  rfl
theorem restore_to {own : List Nat} {s0 s s' : Pst} (h : Off own s s') (hl : s0.v.length = s.v.length) (ho : ∀ i ∈ own, backSl (sl s0 i) = sl s i) : restore own s0 s' = s := by
  obtain ⟨v, t⟩ := s
  obtain ⟨v', t'⟩ := s'
  obtain ⟨h1, h2, h3⟩ := h
  have h1 : t' = t := h1
  have h2 : v'.length = v.length := h2
  have h3 : ∀ j, j ∉ own → v'[j]? = v[j]? := h3
  subst h1
  unfold restore
  congr 1
  apply List.ext_getElem?
  intro j
  dsimp only
  rw [List.getElem?_map]
  by_cases hlj : j < v'.length
  · rw [List.getElem?_range hlj]
    show some (if j ∈ own then _ else _) = _
    by_cases hj : j ∈ own
    · rw [if_pos hj, ho j hj]
      unfold sl
      dsimp only
      rw [List.getD_eq_getElem?_getD, List.getElem?_eq_getElem (by rw [← h2]; exact hlj)]; rfl
    · rw [if_neg hj]
      unfold sl
      dsimp only
      rw [List.getD_eq_getElem?_getD, h3 j hj, List.getElem?_eq_getElem (by rw [← h2]; exact hlj)]; rfl
  · have hl' : ¬ j < v.length := by rw [← h2]; exact hlj
    rw [List.getElem?_eq_none (by rw [List.length_range]; omega), List.getElem?_eq_none (by omega)]; rfl
/-- the first turn freezes a slot -/
theorem lc_frz {i : Nat} {Fi : M (List PyData)} {Fe : M OV} {s s' : Pst} {xs : List α} (f g : α → PyData) (hi : Fi s = .ok (xs.map f) s) (hne : xs ≠ []) (hl : xs.length ≤ lim) (hn : i < s.v.length) (hlen : s.v.length = s'.v.length) (ho : backSl (sl s i) = sl s' i)
    (h0 : ∀ a ∈ xs, ∃ x, Fe (put i (.fr (f a)) s) = .ok x (put i (.fr (f a)) s') ∧ x.d = g a) (h : ∀ a ∈ xs, ∃ x, Fe (put i (.fr (f a)) s') = .ok x (put i (.fr (f a)) s') ∧ x.d = g a) : lcF [i] (nmA i) Fi yesT Fe s = .ok (.ow (xs.map g)) s' := by
  cases xs with
  | nil => exact (hne rfl).elim
  | cons a ys =>
    unfold lcF
    rw [bnd_ok hi]
    obtain ⟨u, e0⟩ := (Off.wipe (own := [i]) (s := s)).one
    have e : put i (.fr (f a)) (put i u s) = put i (.fr (f a)) s := by
      unfold put
      dsimp only
      rw [List.set_set]
    obtain ⟨x, hx, hg⟩ := h0 a List.mem_cons_self
    have h1 : nmA i (f a) (put i u s) = some (put i (.fr (f a)) s) := by
      unfold nmA
      rw [if_pos (by unfold put; dsimp only; rw [List.length_set]; exact hn), e]
    rw [e0, List.map_cons, lcGo, h1]
    dsimp only
    rw [show yesT (put i (.fr (f a)) s) = .ok true (put i (.fr (f a)) s) from rfl]
    dsimp only
    rw [hx]
    dsimp only
    rw [if_pos (by decide), hg]
    obtain ⟨s4, e4, o4⟩ := lcGo_one f g (by rw [← hlen]; exact hn) h ys ([] ++ [g a]) (wipeS [i] (put i (.fr (f a)) s')) (fun b hb => List.mem_cons_of_mem _ hb) ((Off.put (s := s') (x := .fr (f a)) (List.mem_cons_self (a := i) (l := []))).trans .wipe) (by rw [List.length_cons] at hl; simp; omega)
    rw [e4]
    dsimp only
    rw [restore_to o4 hlen (fun j hj => by rw [List.mem_singleton.mp hj]; exact ho)]
    rfl
theorem dIx_zero {x : PyData} {l : List PyData} : dIx (.list (x :: l)) (.int 0) = .ok (.fr x) := by
  have e : L2.atI (x :: l) 0 = some x := L2.atI_nat (j := 0) rfl
  show (match L2.atI (x :: l) 0 with | some d => R1.ok (.fr d) | none => .no) = _
  rw [e]
theorem dIx_zeroT {x : PyData} {l : List PyData} : dIx (.tuple (x :: l)) (.int 0) = .ok (.fr x) := by
  have e : L2.atI (x :: l) 0 = some x := L2.atI_nat (j := 0) rfl
  show (match L2.atI (x :: l) 0 with | some d => R1.ok (.fr d) | none => .no) = _
  rw [e]
/-- an item of a slot -/
theorem ixv_fr {i : Nat} {s s1 : Pst} {d : PyData} {Fb : M OV} {y z : OV} (h : sl s i = .fr d) (hb : Fb s = .ok y s1) (h1 : sl s1 i = .fr d) (e : dIx d y.d = .ok z) : ixv i Fb s = .ok z s1 := by
  unfold ixv
  rw [h]
  dsimp only
  rw [bnd_ok hb, h1]
  dsimp only
  rw [e]; rfl
theorem ixv_ow {i : Nat} {s s1 : Pst} {l : List PyData} {Fb : M OV} {y z : OV} (h : sl s i = .ow l) (hb : Fb s = .ok y s1) (h1 : sl s1 i = .ow l) (e : dIx (.list l) y.d = .ok z) : ixv i Fb s = .ok z s1 := by
  unfold ixv
  rw [h]
  dsimp only
  rw [bnd_ok hb, h1]
  dsimp only
  rw [e]; rfl
theorem zipD_map {xs : List α} {ys : List β} (f : α → PyData) (g : β → PyData) : zipD (xs.map f) (ys.map g) = (xs.zip ys).map fun p => .tuple [f p.1, g p.2] := by
  unfold zipD
  induction xs generalizing ys with
  | nil => simp
  | cons a xs ih =>
    cases ys with
    | nil => simp
    | cons b ys => simpa using ih
theorem lc_two {i k : Nat} {Fi : M (List PyData)} {Fe : M OV} {s00 s : Pst} {ps : List (α × β)} (f : α → PyData) (f2 : β → PyData) (g : α → β → PyData) (hi : Fi s00 = .ok (ps.map fun p => .tuple [f p.1, f2 p.2]) s) (hl : ps.length ≤ lim) (hik : i ≠ k) (hn : i < s.v.length) (hn2 : k < s.v.length) (ho : backSl (sl s i) = sl s i) (ho2 : backSl (sl s k) = sl s k)
    (h : ∀ p ∈ ps, ∃ x, Fe (put k (.fr (f2 p.2)) (put i (.fr (f p.1)) s)) = .ok x (put k (.fr (f2 p.2)) (put i (.fr (f p.1)) s)) ∧ x.d = g p.1 p.2) :
    lcF [i, k] (tupA 2 (consA (nmA i) (consA (nmA k) nilA))) Fi yesT Fe s00 = .ok (.ow (ps.map fun p => g p.1 p.2)) s := by
  have key : ∀ (qs : List (α × β)) (acc : List PyData) (s' : Pst), (∀ a ∈ qs, a ∈ ps) → Off [i, k] s s' → acc.length + qs.length ≤ lim → ∃ s3, lcGo [i, k] (tupA 2 (consA (nmA i) (consA (nmA k) nilA))) yesT Fe (qs.map fun p => .tuple [f p.1, f2 p.2]) acc s' = .ok (acc ++ qs.map fun p => g p.1 p.2) s3 ∧ Off [i, k] s s3 := by
    intro qs
    induction qs with
    | nil => exact fun acc s' _ o _ => ⟨s', by rw [List.map_nil, lcGo]; simp, o⟩
    | cons p qs ih =>
      intro acc s' hm o hl
      obtain ⟨u, v, rfl⟩ := o.two
      have l1 : ∀ (j : Nat) (w : Sl) (q : Pst), (put j w q).v.length = q.v.length := fun j w q => by unfold put; exact List.length_set
      have e : put k (.fr (f2 p.2)) (put i (.fr (f p.1)) (put k v (put i u s))) = put k (.fr (f2 p.2)) (put i (.fr (f p.1)) s) := by
        unfold put
        dsimp only
        congr 1
        rw [List.set_comm (a := v) (b := Sl.fr (f p.1)) (fun z => hik z.symm), List.set_set, List.set_set]
      obtain ⟨x, hx, hg⟩ := h p (hm p List.mem_cons_self)
      rw [List.length_cons] at hl
      rw [List.map_cons, lcGo]
      have a1 : nmA i (f p.1) (put k v (put i u s)) = some (put i (.fr (f p.1)) (put k v (put i u s))) := by
        unfold nmA
        rw [if_pos (by rw [l1, l1]; exact hn)]
      have a2 : nmA k (f2 p.2) (put i (.fr (f p.1)) (put k v (put i u s))) = some (put k (.fr (f2 p.2)) (put i (.fr (f p.1)) (put k v (put i u s)))) := by
        unfold nmA
        rw [if_pos (by rw [l1, l1, l1]; exact hn2)]
      have a3 : tupA 2 (consA (nmA i) (consA (nmA k) nilA)) (.tuple [f p.1, f2 p.2]) (put k v (put i u s)) = (nmA i (f p.1) (put k v (put i u s))).bind fun s => (nmA k (f2 p.2) s).bind fun s => some s := rfl
      have a4 : tupA 2 (consA (nmA i) (consA (nmA k) nilA)) (.tuple [f p.1, f2 p.2]) (put k v (put i u s)) = some (put k (.fr (f2 p.2)) (put i (.fr (f p.1)) s)) := by
        rw [a3, a1]
        show (nmA k (f2 p.2) _).bind _ = _
        rw [a2, e]
        rfl
      rw [a4]
      dsimp only
      rw [show ∀ q, yesT q = .ok true q from fun _ => rfl]
      dsimp only
      rw [hx]
      dsimp only
      rw [if_pos (by omega), hg]
      have o2 : Off [i, k] s (put k (.fr (f2 p.2)) (put i (.fr (f p.1)) s)) := (Off.put (own := [i, k]) List.mem_cons_self).trans (.put (List.mem_cons_of_mem _ List.mem_cons_self))
      obtain ⟨s4, e4, o4⟩ := ih (acc ++ [g p.1 p.2]) _ (fun b hb => hm b (List.mem_cons_of_mem _ hb)) (o2.trans .wipe) (by rw [List.length_append]; simp; omega)
      exact ⟨s4, by rw [e4]; simp, o4⟩
  unfold lcF
  rw [bnd_ok hi]
  obtain ⟨s3, e, o⟩ := key ps [] (wipeS [i, k] s) (fun _ h => h) .wipe (by simpa using hl)
  rw [e]
  dsimp only
  rw [restore_off o (fun j hj => by
    rcases List.mem_cons.mp hj with rfl | hj
    · exact ho
    · rw [List.mem_singleton.mp hj]; exact ho2)]
  rfl
end
/-! ### reading a meaning off, forward -/
section
variable {s s1 s2 : Pst} {x y z : OV} {d e : PyData} {Fa Fb : M OV} {Fd : M PyData} {Ft Fu : M Bool} {Fs Fs' : M Fw} {F : M (List PyData)}
theorem bin_ok {g : PyData → PyData → R1} (a : Fa s = .ok x s1) (b : Fb s1 = .ok y s2) (c : g x.d y.d = .ok z) : bin g Fa Fb s = .ok z s2 := by
  unfold bin; rw [bnd_ok a, bnd_ok b, c]; rfl
theorem un_ok {g : PyData → R1} (a : Fd s = .ok d s1) (c : g d = .ok z) : un g Fd s = .ok z s1 := by
  unfold un; rw [bnd_ok a, c]; rfl
theorem dat_ok (a : Fa s = .ok x s1) : dat Fa s = .ok x.d s1 := by unfold dat; rw [bnd_ok a]; rfl
theorem fin_ret {t : Tps} (a : Fa s = .ok x s1) (h : s1.t = t) : fin (retF Fa s) = .ok x t := by unfold retF; rw [bnd_ok a]; subst h; rfl
theorem set_ok {i : Nat} (a : Fa s = .ok x s1) (h : i < s1.v.length) : setF i Fa s = .ok .nx (put i x.s s1) := by
  unfold setF; rw [bnd_ok a]; show (if _ then _ else _) = _; rw [if_pos h]
theorem seq_ok (a : Fs s = .ok .nx s1) : seqF Fs Fs' s = Fs' s1 := by unfold seqF; rw [bnd_ok a]
theorem asg_ok {A : PyData → Pst → Option Pst} (a : Fa s = .ok x s1) (h : A x.d s1 = some s2) : asgF A Fa s = .ok .nx s2 := by
  unfold asgF; rw [bnd_ok a]; show (match A x.d s1 with | some s' => _ | none => _) = _; rw [h]
theorem call_eq {n : Nat} {p : Fn} {ds : List PyData} {t : Tps} (a : F s = .ok ds s1) (h : ds.length = n) (b : p ds s1.t = .ok x t) : callF n p F s = .ok x { s1 with t := t } := by
  unfold callF; rw [bnd_ok a]; show (if _ then _ else _) = _; rw [if_pos h, b]
theorem cons_ok {ds : List PyData} (a : Fa s = .ok x s1) (b : F s1 = .ok ds s2) : consF Fa F s = .ok (x.d :: ds) s2 := by unfold consF; rw [bnd_ok a, bnd_ok b]; rfl
theorem if_ok {b : Bool} (a : Ft s = .ok b s1) : ifF Ft Fs Fs' s = (if b then Fs s1 else Fs' s1) := by unfold ifF; rw [bnd_ok a]; cases b <;> rfl
theorem drop_ok (a : Fa s = .ok x s1) : dropF Fa s = .ok .nx s1 := by unfold dropF; rw [bnd_ok a]; rfl
theorem mkL_ok {ds : List PyData} (a : F s = .ok ds s1) (h : ds.length ≤ lim) : mkL F s = .ok (.ow ds) s1 := by
  unfold mkL; rw [bnd_ok a]; unfold fit; rw [if_pos h]; rfl
theorem mkT_ok {ds : List PyData} (a : F s = .ok ds s1) (h : ds.length ≤ lim) : mkT F s = .ok (.fr (.tuple ds)) s1 := by
  unfold mkT; rw [bnd_ok a]; unfold fit; rw [if_pos h]; rfl
end
local macro_rules | `(tactic| walk_at "v ev") => `(tactic| simp [fnF, begin, fin, retF, retvF, retN, seqF, setF, asgF, ifF, dropF, callF, quiet, callR, mkT, mkL, consF, nilF, bin, un, ixv, bnd, cst, sl, pur, var, peek, dat, tst, tru, notT, andT, orT, andV, orV, iteV, truth, asB, asL, itF, part, noPart, asI, slcv, slc, okI, okB, R1.m, OV.d, OV.s, fit, dIx, L2.atI, L2.ixN, dSub, dAdd, dNeg, dLen, dInt, dAbs, dNot, dIsi, kindIs, dGt, dLt, dGe, dLe, put, lim])
abbrev iL (ns : List Int) : List PyData := ns.map PyData.int
theorem intsOf_iL : ∀ ns : List Int, Pu.intsOf (iL ns) = some ns
  | [] => rfl
  | n :: r => by show (Pu.intsOf (iL r)).map _ = _; rw [intsOf_iL r]; rfl
theorem range_int (n : Nat) : rangeL 0 n = (List.range n).map fun k => PyData.int (k : Nat) := by
  unfold rangeL
  exact List.map_congr_left fun k _ => by rw [Int.zero_add]
theorem rng1_nat {n : Nat} (h : n ≤ 1000000) (s : Pst) : rng1 [.int (n : Nat)] s = .ok ((List.range n).map fun k => PyData.int (k : Nat)) s := by
  have hc : -(2 ^ 62) ≤ ((n : Nat) : Int) ∧ ((n : Nat) : Int) < 2 ^ 62 := ⟨Int.le_trans (by decide) (Int.natCast_nonneg n), Int.lt_of_le_of_lt (Int.ofNat_le.mpr h) (by decide)⟩
  unfold rng1
  dsimp only
  rw [if_pos hc, Int.toNat_natCast, range_int]
  rfl
end Pu
end SecV2
local macro_rules | `(tactic| walk_at "v ev") => `(tactic| simp [Pu.fnF, Pu.begin, Pu.fin, Pu.retF, Pu.retvF, Pu.retN, Pu.seqF, Pu.setF, Pu.asgF, Pu.ifF, Pu.dropF, Pu.callF, Pu.quiet, Pu.callR, Pu.mkT, Pu.mkL, Pu.consF, Pu.nilF, Pu.bin, Pu.un, Pu.ixv, Pu.bnd, Pu.cst, Pu.sl, Pu.pur, Pu.var, Pu.peek, Pu.dat, Pu.tst, Pu.tru, Pu.notT, Pu.andT, Pu.orT, Pu.andV, Pu.orV, Pu.iteV, Pu.truth, Pu.asB, Pu.asL, Pu.itF, Pu.part, Pu.noPart, Pu.asI, Pu.slcv, Pu.slc, Pu.okI, Pu.okB, Pu.R1.m, Pu.OV.d, Pu.OV.s, Pu.fit, Pu.dIx, L2.atI, L2.ixN, Pu.dSub, Pu.dAdd, Pu.dNeg, Pu.dLen, Pu.dInt, Pu.dAbs, Pu.dNot, Pu.dIsi, Pu.kindIs, Pu.dGt, Pu.dLt, Pu.dGe, Pu.dLe, Pu.put, Pu.lim])
section SecV3
set_option Elab.async false
set_option linter.all false
set_option maxRecDepth 100000
set_option maxHeartbeats 4000000
namespace Pu
open PySem PySem.Spec PyProof.Rows L2 Dt
def gN (ns : List Int) : Nat := ns.foldl (fun g n => Nat.gcd g n.natAbs) 0
theorem gcdL_eq (ns : List Int) : gcdL ns = ((gN ns : Nat) : Int) := rfl
theorem gN_app (ns : List Int) (n : Int) : gN (ns ++ [n]) = Nat.gcd (gN ns) n.natAbs := by
  unfold gN
  rw [List.foldl_append]
  rfl
theorem fold_dvd : ∀ (ns : List Int) (g : Nat), ns.foldl (fun g n => Nat.gcd g n.natAbs) g ∣ g ∧ ∀ n ∈ ns, ns.foldl (fun g n => Nat.gcd g n.natAbs) g ∣ n.natAbs
  | [], g => ⟨Nat.dvd_refl _, fun _ h => by cases h⟩
  | m :: ns, g => by
    obtain ⟨h1, h2⟩ := fold_dvd ns (Nat.gcd g m.natAbs)
    refine ⟨Nat.dvd_trans h1 (Nat.gcd_dvd_left _ _), fun n hn => ?_⟩
    rcases List.mem_cons.mp hn with rfl | hn
    · exact Nat.dvd_trans h1 (Nat.gcd_dvd_right _ _)
    · exact h2 n hn
theorem gN_dvd {ns : List Int} {n : Int} (h : n ∈ ns) : gN ns ∣ n.natAbs := (fold_dvd ns 0).2 n h
theorem dvd_fold : ∀ (ns : List Int) (g d : Nat), d ∣ g → (∀ n ∈ ns, d ∣ n.natAbs) → d ∣ ns.foldl (fun g n => Nat.gcd g n.natAbs) g
  | [], _, _, h, _ => h
  | m :: ns, g, d, h, k => dvd_fold ns _ d (Nat.dvd_gcd h (k m List.mem_cons_self)) fun n hn => k n (List.mem_cons_of_mem _ hn)
theorem dvd_gN {ns : List Int} {d : Nat} (h : ∀ n ∈ ns, d ∣ n.natAbs) : d ∣ gN ns := dvd_fold ns 0 d (Nat.dvd_zero _) h
theorem gN_pos {ns : List Int} {n : Int} (h : n ∈ ns) (h0 : n ≠ 0) : 0 < gN ns := by
  have d := gN_dvd h
  refine Nat.pos_of_ne_zero fun z => ?_
  rw [z] at d
  have := Nat.eq_zero_of_zero_dvd d
  omega
theorem gN_le {ns : List Int} {n : Int} (h : n ∈ ns) (h0 : n ≠ 0) : gN ns ≤ n.natAbs := Nat.le_of_dvd (by omega) (gN_dvd h)
theorem gN_take {ns : List Int} {i : Nat} {n : Int} (h : ns[i]? = some n) : gN (ns.take (i + 1)) = Nat.gcd (gN (ns.take i)) n.natAbs := by
  rw [List.take_succ, h]
  exact gN_app _ _
/-- the gcd of all is 1 behind lowest terms -/
theorem gN_low {ns : List Int} {n : Int} (h : n ∈ ns) (h0 : n ≠ 0) : gN (lowL ns) = 1 := by
  have gp := gN_pos h h0
  have key : ∀ m ∈ ns, (m / gcdL ns).natAbs * gN ns = m.natAbs := fun m hm => by
    have d := gN_dvd hm
    have di : ((gN ns : Nat) : Int) ∣ m := Int.ofNat_dvd_left.mpr d
    have e := Int.ediv_mul_cancel di
    rw [gcdL_eq]
    have e2 := congrArg Int.natAbs e
    rw [Int.natAbs_mul, Int.natAbs_natCast] at e2
    exact e2
  have d2 : gN (lowL ns) * gN ns ∣ gN ns := dvd_gN fun m hm => by
    have hq : m / gcdL ns ∈ lowL ns := List.mem_map.mpr ⟨m, hm, rfl⟩
    rw [← key m hm]
    exact Nat.mul_dvd_mul (gN_dvd hq) (Nat.dvd_refl _)
  have d3 : gN (lowL ns) * gN ns ∣ 1 * gN ns := by rw [Nat.one_mul]; exact d2
  exact Nat.dvd_one.mp (Nat.dvd_of_mul_dvd_mul_right gp d3)
theorem low_mul {ns : List Int} {m : Int} (hm : m ∈ ns) : m / gcdL ns * gcdL ns = m := by
  have di : ((gN ns : Nat) : Int) ∣ m := Int.ofNat_dvd_left.mpr (gN_dvd hm)
  rw [gcdL_eq]
  exact Int.ediv_mul_cancel di
/-- Euclid's walk -/
structure Eu (L G : Nat) (i x y : Nat) : Prop where
  g : Nat.gcd x y = G
  b : y = 0 ∨ (i = 0 ∧ x < 2 ^ L ∧ y < 2 ^ L) ∨ ∃ j, i = j + 1 ∧ y < x ∧ x * y * 2 ^ j < 2 ^ (2 * L)
theorem Eu.next {L G i x y : Nat} (h : Eu L G i x y) (hy : y ≠ 0) : Eu L G (i + 1) y (x % y) := by
  refine ⟨by rw [← h.g, Nat.gcd_comm x y, Nat.gcd_rec y x, Nat.gcd_comm], ?_⟩
  have hr : x % y < y := Nat.mod_lt _ (by omega)
  rcases h.b with z | ⟨rfl, hx, hy2⟩ | ⟨j, rfl, hlt, hb⟩
  · exact absurd z hy
  · refine .inr (.inr ⟨0, rfl, hr, ?_⟩)
    rw [Nat.pow_zero, Nat.mul_one, Nat.two_mul, Nat.pow_add]
    exact Nat.mul_lt_mul'' hy2 (Nat.lt_trans hr hy2)
  · refine .inr (.inr ⟨j + 1, rfl, hr, ?_⟩)
    have e := Nat.div_add_mod x y
    have q1 : 1 ≤ x / y := (Nat.one_le_div_iff (by omega)).mpr (Nat.le_of_lt hlt)
    have q2 : y * 1 ≤ y * (x / y) := Nat.mul_le_mul_left y q1
    have h2 : x % y * 2 ≤ x := by omega
    have h3 : y * (x % y) * 2 ≤ x * y := by
      rw [Nat.mul_assoc, Nat.mul_comm x y]
      exact Nat.mul_le_mul_left y h2
    rw [Nat.pow_succ, Nat.mul_comm (2 ^ j) 2, ← Nat.mul_assoc]
    exact Nat.lt_of_le_of_lt (Nat.mul_le_mul_right _ h3) hb
theorem Eu.end {L G i x y : Nat} (h : Eu L G i x y) (hi : i = 2 * L + 2) : x = G := by
  by_cases hc : y = 0
  · rw [← h.g, hc, Nat.gcd_zero_right]
  rcases h.b with z | ⟨z, _⟩ | ⟨j, e, hlt, hb⟩
  · exact absurd z hc
  · omega
  · exfalso
    rcases Nat.eq_zero_or_pos y with hy | hy
    · exact hc hy
    have h1 : 1 ≤ x * y := Nat.mul_pos (by omega) (by omega)
    have h2 : 2 ^ j ≤ x * y * 2 ^ j := Nat.le_mul_of_pos_left _ h1
    have h3 : 2 ^ (2 * L) ≤ 2 ^ j := Nat.pow_le_pow_right (by decide) (by omega)
    omega
theorem bits_lt (x : Int) : x.natAbs < 2 ^ Builtin.Int.intBits x := by
  unfold Builtin.Int.intBits
  split
  · rename_i h
    have : x = 0 := by simpa using h
    rw [this]; decide
  · exact Nat.lt_log2_self
theorem bits_le {x : Int} {n : Nat} (h : x.natAbs < 2 ^ n) : Builtin.Int.intBits x ≤ n := by
  unfold Builtin.Int.intBits
  split
  · omega
  · rename_i h0
    have hx : x.natAbs ≠ 0 := fun z => h0 (by simp; omega)
    exact (Nat.log2_lt hx).mpr h
theorem gN_swap (ns : List Int) (b : Int) : gN (ns ++ [b]) = gN (b :: ns) := by
  apply Nat.dvd_antisymm
  · exact dvd_gN fun n hn => gN_dvd (by rcases List.mem_cons.mp hn with h | h <;> simp [h])
  · exact dvd_gN fun n hn => gN_dvd (by rcases List.mem_append.mp hn with h | h <;> simp_all)
theorem low_le {ns : List Int} {b m : Int} (hb : b ∈ ns) (h0 : b ≠ 0) (hm : m ∈ ns) : (m / gcdL ns).natAbs ≤ m.natAbs := by
  have e := low_mul hm
  have g0 : 0 < gN ns := gN_pos hb h0
  have : (m / gcdL ns).natAbs * gN ns = m.natAbs := by
    have e2 : (m / gcdL ns * gcdL ns).natAbs = m.natAbs := by rw [e]
    rw [Int.natAbs_mul, gcdL_eq, Int.natAbs_natCast] at e2
    exact e2
  rw [← this]
  exact Nat.le_mul_of_pos_right _ g0
/-! ### loops -/
section
variable {α β : Type}
theorem forGo_fold {A : PyData → Pst → Option Pst} {B : M Fw} (f : α → PyData) (st : Sl → β → Pst) (g : β → α → β) (Inv : β → Prop) {xs : List α}
    (h : ∀ a ∈ xs, ∀ u b, Inv b → ∃ s1, A (f a) (st u b) = some s1 ∧ B s1 = .ok .nx (st (.fr (f a)) (g b a)) ∧ Inv (g b a)) : ∀ (u : Sl) (b : β), backSl u = u → Inv b → ∃ u', forGo A B (xs.map f) (st u b) = .ok .nx (st u' (xs.foldl g b)) ∧ Inv (xs.foldl g b) ∧ backSl u' = u' := by
  induction xs with
  | nil => exact fun u b hu hb => ⟨u, by rw [List.map_nil, forGo]; rfl, hb, hu⟩
  | cons a xs ih =>
    intro u b hu hb
    obtain ⟨s1, h1, h2, h3⟩ := h a List.mem_cons_self u b hb
    obtain ⟨u', e, k⟩ := ih (fun a' ha => h a' (List.mem_cons_of_mem _ ha)) (.fr (f a)) (g b a) rfl h3
    refine ⟨u', ?_, k⟩
    rw [List.map_cons, forGo, h1]
    dsimp only
    rw [h2]
    exact e
theorem for_fold {A : PyData → Pst → Option Pst} {B : M Fw} {Fi : M (List PyData)} {s0 : Pst} (f : α → PyData) (st : Sl → β → Pst) (g : β → α → β) (Inv : β → Prop) {xs : List α} {u : Sl} {b : β} (hi : Fi s0 = .ok (xs.map f) (st u b)) (hu : backSl u = u) (h0 : Inv b)
    (h : ∀ a ∈ xs, ∀ u b, Inv b → ∃ s1, A (f a) (st u b) = some s1 ∧ B s1 = .ok .nx (st (.fr (f a)) (g b a)) ∧ Inv (g b a)) : ∃ u', forF A Fi B s0 = .ok .nx (st u' (xs.foldl g b)) ∧ Inv (xs.foldl g b) ∧ backSl u' = u' := by
  obtain ⟨u', e, k⟩ := forGo_fold f st g Inv h u b hu h0
  exact ⟨u', by unfold forF; rw [bnd_ok hi]; exact e, k⟩
end
theorem if_true {Ft : M Bool} {Fs Fs' : M Fw} {s s1 : Pst} (a : Ft s = .ok true s1) : ifF Ft Fs Fs' s = Fs s1 := if_ok a
theorem if_false {Ft : M Bool} {Fs Fs' : M Fw} {s s1 : Pst} (a : Ft s = .ok false s1) : ifF Ft Fs Fs' s = Fs' s1 := if_ok a
theorem seq_rt {Fs Fs' : M Fw} {s s1 : Pst} {x : OV} (a : Fs s = .ok (.rt x) s1) : seqF Fs Fs' s = .ok (.rt x) s1 := by unfold seqF; rw [bnd_ok a]; rfl
theorem ret_ok {Fa : M OV} {s s1 : Pst} {x : OV} (a : Fa s = .ok x s1) : retF Fa s = .ok (.rt x) s1 := by unfold retF; rw [bnd_ok a]; rfl
theorem for_go {A : PyData → Pst → Option Pst} {B : M Fw} {Fi : M (List PyData)} {s s1 : Pst} {ds : List PyData} {r : Rs Fw} (hi : Fi s = .ok ds s1) (h : forGo A B ds s1 = r) : forF A Fi B s = r := by unfold forF; rw [bnd_ok hi]; exact h
theorem go_next {A : PyData → Pst → Option Pst} {B : M Fw} {d : PyData} {ds : List PyData} {s s1 s2 : Pst} {r : Rs Fw} (ha : A d s = some s1) (hb : B s1 = .ok .nx s2) (h : forGo A B ds s2 = r) : forGo A B (d :: ds) s = r := by rw [forGo, ha]; dsimp only; rw [hb]; exact h
theorem go_ret {A : PyData → Pst → Option Pst} {B : M Fw} {d : PyData} {ds : List PyData} {s s1 s2 : Pst} {x : OV} (ha : A d s = some s1) (hb : B s1 = .ok (.rt x) s2) : forGo A B (d :: ds) s = .ok (.rt x) s2 := by rw [forGo, ha]; dsimp only; rw [hb]
theorem it_ok {Fa : M OV} {s s1 s2 : Pst} {x : OV} {ds : List PyData} (a : Fa s = .ok x s1) (h : asL x.d s1 = .ok ds s2) : itF Fa s = .ok ds s2 := by unfold itF; rw [bnd_ok a]; exact h
theorem ixv_cst {i : Nat} {s : Pst} {d : PyData} {k : Int} {z : OV} (h : sl s i = .fr d) (e : dIx d (.int k) = .ok z) : ixv i (cst (.int k)) s = .ok z s := ixv_fr (y := .fr (.int k)) h rfl h e
theorem ixv_cstN {i : Nat} {s : Pst} {d : PyData} {k : Int} {z : OV} (h : sl s i = .fr d) (e : dIx d (.int (-k)) = .ok z) : ixv i (un dNeg (dat (cst (.int k)))) s = .ok z s := ixv_fr (y := .fr (.int (-k))) h rfl h e
theorem fin_retv {i : Nat} {s : Pst} {d : PyData} {t : Tps} (h : sl s i = .fr d) (ht : s.t = t) : fin (retvF i s) = .ok (.fr d) t := by
  unfold retvF
  rw [h]; subst ht; rfl
end Pu
end SecV3
section SecV4
set_option Elab.async false
set_option linter.all false
set_option maxRecDepth 100000
set_option maxHeartbeats 4000000
namespace Pu
open PySem PySem.Spec
section
variable {α : Type}
/-- a comprehension whose items are drawn: the tape moves on, the slots stand -/
theorem lcGo_draw {i : Nat} {Fe : M OV} {v : List Sl} (f : α → PyData) (Q : PyData → Prop) (I : Tps → Prop) (hn : i < v.length) :
    ∀ (ys : List α) (acc : List PyData) (t : Tps) (s' : Pst), (∀ a ∈ ys, ∀ t, I t → ∃ x t', Fe (put i (.fr (f a)) ⟨v, t⟩) = .ok x (put i (.fr (f a)) ⟨v, t'⟩) ∧ Q x.d ∧ I t') → Off [i] ⟨v, t⟩ s' → I t → acc.length + ys.length ≤ lim →
      ∃ ds t' s3, lcGo [i] (nmA i) yesT Fe (ys.map f) acc s' = .ok (acc ++ ds) s3 ∧ Off [i] ⟨v, t'⟩ s3 ∧ ds.length = ys.length ∧ (∀ d ∈ ds, Q d) ∧ I t' := by
  intro ys
  induction ys with
  | nil => exact fun acc t s' _ o hI _ => ⟨[], t, s', by rw [List.map_nil, lcGo, List.append_nil], o, rfl, fun _ h => (by cases h), hI⟩
  | cons a ys ih =>
    intro acc t s' h o hI hl
    obtain ⟨u, rfl⟩ := o.one
    have e : put i (.fr (f a)) (put i u ⟨v, t⟩) = put i (.fr (f a)) ⟨v, t⟩ := by
      unfold put
      dsimp only
      rw [List.set_set]
    obtain ⟨x, t', hx, hq, hI'⟩ := h a List.mem_cons_self t hI
    rw [List.length_cons] at hl
    have h1 : nmA i (f a) (put i u ⟨v, t⟩) = some (put i (.fr (f a)) ⟨v, t⟩) := by
      unfold nmA
      rw [if_pos (by unfold put; dsimp only; rw [List.length_set]; exact hn), e]
    obtain ⟨ds, t2, s3, e4, o4, l4, q4, i4⟩ := ih (acc ++ [x.d]) t' (wipeS [i] (put i (.fr (f a)) ⟨v, t'⟩)) (fun b hb => h b (List.mem_cons_of_mem _ hb)) ((Off.put (s := ⟨v, t'⟩) (x := .fr (f a)) (List.mem_cons_self (a := i) (l := []))).trans .wipe) hI' (by rw [List.length_append]; simp; omega)
    refine ⟨x.d :: ds, t2, s3, ?_, o4, by rw [List.length_cons, List.length_cons, l4], fun d hd => ?_, i4⟩
    · rw [List.map_cons, lcGo, h1]
      dsimp only
      rw [show yesT (put i (.fr (f a)) ⟨v, t⟩) = .ok true (put i (.fr (f a)) ⟨v, t⟩) from rfl]
      dsimp only
      rw [hx]
      dsimp only
      rw [if_pos (by omega), e4]
      simp
    · rcases List.mem_cons.mp hd with rfl | hd
      · exact hq
      · exact q4 d hd
theorem lc_draw {i : Nat} {Fi : M (List PyData)} {Fe : M OV} {s00 : Pst} {v : List Sl} {t : Tps} {xs : List α} (f : α → PyData) (Q : PyData → Prop) (I : Tps → Prop) (hi : Fi s00 = .ok (xs.map f) ⟨v, t⟩) (hI : I t) (hl : xs.length ≤ lim) (hn : i < v.length) (ho : ∀ t' : Tps, backSl (sl s00 i) = sl ⟨v, t'⟩ i) (hlen : s00.v.length = v.length)
    (h : ∀ a ∈ xs, ∀ t, I t → ∃ x t', Fe (put i (.fr (f a)) ⟨v, t⟩) = .ok x (put i (.fr (f a)) ⟨v, t'⟩) ∧ Q x.d ∧ I t') (he : (⟨v, t⟩ : Pst) = s00) : ∃ ds t', lcF [i] (nmA i) Fi yesT Fe s00 = .ok (.ow ds) ⟨v, t'⟩ ∧ ds.length = xs.length ∧ (∀ d ∈ ds, Q d) ∧ I t' := by
  obtain ⟨ds, t', s3, e, o, l, q, i'⟩ := lcGo_draw f Q I hn xs [] t (wipeS [i] ⟨v, t⟩) h .wipe hI (by simpa using hl)
  refine ⟨ds, t', ?_, l, q, i'⟩
  unfold lcF
  rw [bnd_ok hi, e]
  dsimp only
  rw [restore_to o (by rw [← hlen, ← he]) (fun j hj => by rw [List.mem_singleton.mp hj, ← ho t', ← he])]
  rfl
end
end Pu
end SecV4
section SecL23
set_option Elab.async false
set_option linter.all false
set_option maxRecDepth 100000
set_option maxHeartbeats 4000000
set_option pp.deepTerms false
namespace K23
open PySem PySem.Spec PyProof.Rows L2 L2H Err Pu
def topS (i : Nat) : Stmt := PySem.Challenge.pw_wholefaces_k23_weights_and_places.main.body.getD i (.Pass ⟨0, 0, 0, 0⟩)
structure Tx (mg : Str → Option Value) : Prop where
  n_int : mg "int" = none
  n_abs : mg "abs" = none
  n_len : mg "len" = none
  n_range : mg "range" = none
  n_tuple : mg "tuple" = none
  n_list : mg "list" = none
  n_bool : mg "bool" = none
  n_str : mg "str" = none
  n_all : mg "all" = none
  n_any : mg "any" = none
  n_isinstance : mg "isinstance" = none
  n_ValueError : mg "ValueError" = none
  n_zip : mg "zip" = none
  n_min : mg "min" = none
  n_max : mg "max" = none
  n_sum : mg "sum" = none
  n_sorted : mg "sorted" = none
  n_gcd : mg "gcd" = some (.builtin "math.gcd")
end K23
end SecL23
section SecM23
set_option Elab.async false
set_option linter.all false
set_option maxRecDepth 100000
set_option maxHeartbeats 4000000
set_option pp.deepTerms false
namespace K23
open PySem PySem.Spec PyProof.Rows L2 L2H Err Pu
noncomputable section
def pDemand : Fn := fnF 2
    (ifF (notT (tru (peek 0)))
    (raiseF "NotUsable" ["word", "at"] (consF (var 1) (consF (un dNeg (dat (cst (.int 1)))) nilF)))
    (pur .nx))
def pCommonDivisor : Fn := fnF 3
    (seqF (setF 1 (cst (.int 0)))
    (seqF (forF (nmA 2) (itF (var 0))
    (setF 1 (bin dGcd (var 1) (var 2))))
    (retvF 1)))
def pLowestTerms : Fn := fnF 3
    (seqF (setF 1 (callF 1 pCommonDivisor (consF (var 0) nilF)))
    (retF (un dTuple (dat (lcF [2] (nmA 2) (itF (var 0)) yesT (bin dFdiv (var 2) (var 1)))))))
def pIsInteger : Fn := fnF 1
    (retF (andV (un (dIsi "int") (peek 0)) (un dNot (dat (un (dIsi "bool") (peek 0))))))
def pIsRow : Fn := fnF 3
    (retF (andV (un (dIsi "tuple") (peek 1)) (andV (bin dEq (un dLen (peek 1)) (var 0)) (un dAll (dat (lcF [2] (nmA 2) (itF (var 1)) yesT (callF 1 pIsInteger (consF (var 2) nilF))))))))
def pIsLowest : Fn := fnF 1
    (retF (andV (bin dGe (ixv 0 (un dNeg (dat (cst (.int 1))))) (cst (.int 1))) (bin dEq (callF 1 pCommonDivisor (consF (var 0) nilF)) (cst (.int 1)))))
def pIsPlace : Fn := fnF 2
    (retF (andV (callF 2 pIsRow (consF (bin dAdd (ixv 0 (cst (.int 0))) (cst (.int 1))) (consF (var 1) nilF))) (callF 1 pIsLowest (consF (var 1) nilF))))
def pQuotientOf : Fn := fnF 2
    (seqF (dropF (callF 2 pDemand (consF (callF 1 pIsInteger (consF (var 0) nilF)) (consF (cst (.str ("top" : Str))) nilF))))
    (seqF (dropF (callF 2 pDemand (consF (andV (callF 1 pIsInteger (consF (var 1) nilF)) (bin dNe (var 1) (cst (.int 0)))) (consF (cst (.str ("bottom" : Str))) nilF))))
    (seqF (ifF (tst (bin dLt (var 1) (cst (.int 0))))
    (retF (callF 1 pLowestTerms (consF (mkT (consF (un dNeg (peek 0)) (consF (un dNeg (peek 1)) nilF))) nilF)))
    (pur .nx))
    (retF (callF 1 pLowestTerms (consF (mkT (consF (var 0) (consF (var 1) nilF))) nilF))))))
def pMinusRows : Fn := fnF 4
    (retF (lcF [2, 3] (tupA 2 (consA (nmA 2) (consA (nmA 3) nilA))) (bnd (consF (var 0) (consF (var 1) nilF)) zipA) yesT (bin dSub (var 2) (var 3))))
def pDot : Fn := fnF 4
    (retF (un dSumA (dat (lcF [2, 3] (tupA 2 (consA (nmA 2) (consA (nmA 3) nilA))) (bnd (consF (var 0) (consF (var 1) nilF)) zipA) yesT (bin dMul (var 2) (var 3))))))
def pCross : Fn := fnF 2
    (retF (mkL (consF (bin dSub (bin dMul (ixv 0 (cst (.int 1))) (ixv 1 (cst (.int 2)))) (bin dMul (ixv 0 (cst (.int 2))) (ixv 1 (cst (.int 1))))) (consF (bin dSub (bin dMul (ixv 0 (cst (.int 2))) (ixv 1 (cst (.int 0)))) (bin dMul (ixv 0 (cst (.int 0))) (ixv 1 (cst (.int 2))))) (consF (bin dSub (bin dMul (ixv 0 (cst (.int 0))) (ixv 1 (cst (.int 1)))) (bin dMul (ixv 0 (cst (.int 1))) (ixv 1 (cst (.int 0))))) nilF)))))
def pRisesOf : Fn := fnF 4
    (seqF (ifF (tst (bin dEq (un dLen (peek 0)) (cst (.int 2))))
    (seqF (asgF (unlA 2 (consA (nmA 1) (consA (nmA 2) nilA))) (var 0))
      (retF (mkL (consF (mkL (consF (ixv 2 (cst (.int 1))) (consF (un dNeg (dat (ixv 2 (cst (.int 0))))) nilF))) (consF (mkL (consF (un dNeg (dat (ixv 1 (cst (.int 1))))) (consF (ixv 1 (cst (.int 0))) nilF))) nilF)))))
    (pur .nx))
    (seqF (asgF (unlA 3 (consA (nmA 1) (consA (nmA 2) (consA (nmA 3) nilA)))) (var 0))
    (retF (mkL (consF (callF 2 pCross (consF (var 2) (consF (var 3) nilF))) (consF (callF 2 pCross (consF (var 3) (consF (var 1) nilF))) (consF (callF 2 pCross (consF (var 1) (consF (var 2) nilF))) nilF)))))))
def pSlopesOf : Fn := fnF 7
    (seqF (setF 1 (lcF [2] (nmA 2) (itF (slcv 0 (part (cst (.int 1))) noPart)) yesT (callF 2 pMinusRows (consF (var 2) (consF (ixv 0 (cst (.int 0))) nilF)))))
    (seqF (setF 3 (callF 1 pRisesOf (consF (var 1) nilF)))
    (seqF (setF 4 (lcF [5] (nmA 5) (bnd (consF (un dLen (dat (ixv 0 (cst (.int 0))))) nilF) rng1) yesT (un dNeg (dat (un dSumA (dat (lcF [6] (nmA 6) (itF (var 3)) yesT (ixv 6 (var 5)))))))))
    (retF (mkT (consF (callF 2 pDot (consF (ixv 1 (cst (.int 0))) (consF (ixv 3 (cst (.int 0))) nilF))) (consF (bin dAdd (mkL (consF (var 4) nilF)) (var 3)) nilF)))))))
def pFitsBody : Fn := fnF 2
    (retF (callF 2 pIsPlace (consF (mkT (consF (bin dSub (un dLen (peek 0)) (cst (.int 1))) (consF (cst (.int 0)) nilF))) (consF (var 1) nilF))))
def pWeightsMade : Fn := fnF 10
    (seqF (asgF (tupA 2 (consA (nmA 2) (consA (nmA 3) nilA))) (callF 1 pSlopesOf (consF (var 0) nilF)))
    (seqF (setF 4 (ixv 1 (un dNeg (dat (cst (.int 1))))))
    (seqF (setF 5 (callF 2 pMinusRows (consF (slcv 1 noPart (part (un dNeg (dat (cst (.int 1)))))) (consF (lcF [6] (nmA 6) (itF (ixv 0 (cst (.int 0)))) yesT (bin dMul (var 4) (var 6))) nilF))))
    (seqF (setF 7 (lcF [8] (nmA 8) (itF (var 3)) yesT (callF 2 pDot (consF (var 5) (consF (var 8) nilF)))))
    (seqF (setAtF 7 (bin dAdd (ixv 7 (cst (.int 0))) (bin dMul (var 4) (var 2))) (cst (.int 0)))
    (seqF (setF 9 (iteV (tst (bin dGt (var 2) (cst (.int 0)))) (cst (.int 1)) (un dNeg (dat (cst (.int 1))))))
    (retF (callF 1 pLowestTerms (consF (lcF [6] (nmA 6) (itF (bin dAdd (var 7) (mkL (consF (bin dMul (var 4) (var 2)) nilF)))) yesT (bin dMul (var 9) (var 6))) nilF)))))))))
def pBlendMade : Fn := fnF 7
    (seqF (setF 2 (bin dSub (un dLen (peek 0)) (cst (.int 1))))
    (seqF (setF 3 (lcF [4] (nmA 4) (bnd (consF (var 2) nilF) rng1) yesT (un dSumA (dat (lcF [5, 6] (tupA 2 (consA (nmA 5) (consA (nmA 6) nilA))) (bnd (consF (var 1) (consF (var 0) nilF)) zipA) yesT (bin dMul (var 5) (ixv 6 (var 4))))))))
    (retF (callF 1 pLowestTerms (consF (bin dAdd (var 3) (mkL (consF (ixv 1 (un dNeg (dat (cst (.int 1))))) nilF))) nilF)))))
def pHoldsMade : Fn := fnF 2
    (retF (bin dGe (un dMinA (dat (callF 2 pWeightsMade (consF (var 0) (consF (var 1) nilF))))) (cst (.int 0))))
def pWeightsIn : Fn := fnF 2
    (seqF (dropF (callF 2 pDemand (consF (callF 2 pFitsBody (consF (var 0) (consF (var 1) nilF))) (consF (cst (.str ("place" : Str))) nilF))))
    (retF (callF 2 pWeightsMade (consF (var 0) (consF (var 1) nilF)))))
def pAreWeights : Fn := fnF 2
    (retF (andV (callF 2 pIsRow (consF (bin dAdd (un dLen (peek 0)) (cst (.int 1))) (consF (var 1) nilF))) (andV (callF 1 pIsLowest (consF (var 1) nilF)) (bin dEq (un dSumA (dat (slcv 1 noPart (part (un dNeg (dat (cst (.int 1)))))))) (ixv 1 (un dNeg (dat (cst (.int 1)))))))))
def pBlend : Fn := fnF 2
    (seqF (dropF (callF 2 pDemand (consF (callF 2 pAreWeights (consF (var 0) (consF (var 1) nilF))) (consF (cst (.str ("weights" : Str))) nilF))))
    (retF (callF 2 pBlendMade (consF (var 0) (consF (var 1) nilF)))))
def pHolds : Fn := fnF 2
    (seqF (dropF (callF 2 pDemand (consF (callF 2 pFitsBody (consF (var 0) (consF (var 1) nilF))) (consF (cst (.str ("place" : Str))) nilF))))
    (retF (callF 2 pHoldsMade (consF (var 0) (consF (var 1) nilF)))))
def pCarrierIn : Fn := fnF 6
    (seqF (dropF (callF 2 pDemand (consF (callF 2 pFitsBody (consF (var 0) (consF (var 1) nilF))) (consF (cst (.str ("place" : Str))) nilF))))
    (seqF (setF 2 (callF 2 pWeightsMade (consF (var 0) (consF (var 1) nilF))))
    (seqF (ifF (tst (bin dLt (un dMinA (peek 2)) (cst (.int 0))))
    (retF (cst .none))
    (pur .nx))
    (seqF (setF 3 (lcF [4, 5] (tupA 2 (consA (nmA 4) (consA (nmA 5) nilA))) (bnd (consF (var 0) (consF (var 2) nilF)) zipA) (tst (bin dGt (var 5) (cst (.int 0)))) (mkT (consF (var 4) (consF (callF 2 pQuotientOf (consF (var 5) (consF (ixv 2 (un dNeg (dat (cst (.int 1))))) nilF))) nilF)))))
    (retF (un dTuple (dat (un dSortL (peek 3)))))))))
def pMeasureOf : Fn := fnF 1
    (retF (un dAbs (dat (bin dIx (callF 1 pSlopesOf (consF (var 0) nilF)) (cst (.int 0))))))
def pIsFlat : Fn := fnF 1
    (retF (bin dEq (callF 1 pMeasureOf (consF (var 0) nilF)) (cst (.int 0))))
def pTapeL : Fn := fnF 6
    (seqF (setF 2 (cst (.int 0)))
    (seqF (setF 3 (var 1))
    (seqF (forF (nmA 4) (scrF (var 0))
    (seqF (setF 5 (un dAbs (dat (un dInt (peek 4)))))
      (ifF (andT (tst (bin dGe (var 5) (bin dPow (cst (.int 10)) (cst (.int 18))))) (tst (bin dEq (var 2) (cst (.int 0)))))
      (setF 2 (var 5))
      (setF 3 (bin dMod (bin dAdd (bin dAdd (bin dAdd (bin dMul (var 3) (cst (.int 48271))) (bin dMod (var 5) (cst (.int 2147483587)))) (bin dMul (cst (.int 2)) (un dInt (dat (bin dLt (var 4) (cst (.int 0))))))) (cst (.int 1))) (cst (.int 2147483587)))))))
    (retF (mkL (consF (var 2) (consF (var 3) nilF)))))))
def pDrawL : Fn := fnF 3
    (seqF (ifF (tst (bin dGt (tgetF 0 0) (cst (.int 0))))
    (seqF (setF 2 (bin dMod (un dInt (dat (tgetF 0 0))) (var 1)))
      (seqF (tsetF 0 0 (bin dFdiv (un dInt (dat (tgetF 0 0))) (var 1)))
      (retvF 2)))
    (pur .nx))
    (seqF (tsetF 0 1 (bin dMod (bin dAdd (bin dMul (un dInt (dat (tgetF 0 1))) (cst (.int 39373))) (cst (.int 104729))) (cst (.int 2147483587))))
    (retF (bin dMod (bin dFdiv (bin dMul (un dInt (dat (tgetF 0 1))) (un dInt (dat (tgetF 0 1)))) (cst (.int 3001))) (var 1)))))
def bSameL : Fn → Fn := fun pr => fnF 3
    (seqF (ifF (tst (bin dIs (var 1) (cst .none)))
    (retF (bin dIs (var 0) (cst .none)))
    (pur .nx))
    (seqF (ifF (tst (bin dIs (var 1) (cst (.bool true))))
    (retF (bin dIs (var 0) (cst (.bool true))))
    (pur .nx))
    (seqF (ifF (tst (bin dIs (var 1) (cst (.bool false))))
    (retF (bin dIs (var 0) (cst (.bool false))))
    (pur .nx))
    (seqF (ifF (tru (dat (un (dIsi "int") (peek 1))))
    (retF (andV (un (dIsi "int") (peek 0)) (andV (un dNot (dat (un (dIsi "bool") (peek 0)))) (bin dEq (var 0) (var 1)))))
    (pur .nx))
    (seqF (ifF (tru (dat (un (dIsi "str") (peek 1))))
    (retF (andV (un (dIsi "str") (peek 0)) (bin dEq (var 0) (var 1))))
    (pur .nx))
    (seqF (ifF (orT (notT (tru (dat (un (dIsi "tuple") (peek 0))))) (tst (bin dNe (un dLen (peek 0)) (un dLen (peek 1)))))
    (retF (cst (.bool false)))
    (pur .nx))
    (seqF (forF (nmA 2) (bnd (consF (un dLen (peek 1)) nilF) rng1)
    (ifF (notT (tru (dat (callF 2 pr (consF (ixv 0 (var 2)) (consF (ixv 1 (var 2)) nilF))))))
      (retF (cst (.bool false)))
      (pur .nx)))
    (retF (cst (.bool true))))))))))
def pSameL : Fn := recF bSameL 6
def pCommonL : Fn := fnF 4
    (seqF (setF 0 (un dAbs (dat (un dInt (peek 0)))))
    (seqF (setF 1 (un dAbs (dat (un dInt (peek 1)))))
    (seqF (forF (nmA 2) (bnd (consF (bin dAdd (bin dMul (cst (.int 2)) (un dBits (dat (bin dMax2 (var 0) (var 1))))) (cst (.int 2))) nilF) rng1)
    (seqF (ifF (tst (bin dEq (var 1) (cst (.int 0))))
      (pur .bk)
      (pur .nx))
      (seqF (setF 3 (bin dMod (un dInt (peek 0)) (var 1)))
      (seqF (setF 0 (var 1))
      (setF 1 (var 3))))))
    (retvF 0))))
def pLowestL : Fn := fnF 3
    (seqF (setF 1 (cst (.int 0)))
    (seqF (forF (nmA 2) (itF (var 0))
    (setF 1 (callF 2 pCommonL (consF (var 1) (consF (var 2) nilF)))))
    (retF (un dTuple (dat (lcF [2] (nmA 2) (itF (var 0)) yesT (bin dFdiv (var 2) (var 1))))))))
def pTurnedL : Fn := fnF 4
    (seqF (setF 3 (bin dAdd (bin dAdd (bin dMul (bin dMul (ixv 0 (cst (.int 0))) (ixv 1 (cst (.int 1)))) (ixv 2 (cst (.int 2)))) (bin dMul (bin dMul (ixv 0 (cst (.int 1))) (ixv 1 (cst (.int 2)))) (ixv 2 (cst (.int 0))))) (bin dMul (bin dMul (ixv 0 (cst (.int 2))) (ixv 1 (cst (.int 0)))) (ixv 2 (cst (.int 1))))))
    (retF (bin dSub (bin dSub (bin dSub (var 3) (bin dMul (bin dMul (ixv 0 (cst (.int 2))) (ixv 1 (cst (.int 1)))) (ixv 2 (cst (.int 0))))) (bin dMul (bin dMul (ixv 0 (cst (.int 1))) (ixv 1 (cst (.int 0)))) (ixv 2 (cst (.int 2))))) (bin dMul (bin dMul (ixv 0 (cst (.int 0))) (ixv 1 (cst (.int 2)))) (ixv 2 (cst (.int 1)))))))
def pMeasureL : Fn := fnF 3
    (seqF (ifF (tst (bin dEq (un dLen (peek 0)) (cst (.int 3))))
    (seqF (setF 1 (cst (.int 0)))
      (seqF (forF (nmA 2) (bnd (consF (cst (.int 3)) nilF) rng1)
      (setF 1 (bin dSub (bin dAdd (var 1) (bin dMul (bin dIx (ixv 0 (bin dSub (var 2) (cst (.int 1)))) (cst (.int 0))) (bin dIx (ixv 0 (var 2)) (cst (.int 1))))) (bin dMul (bin dIx (ixv 0 (bin dSub (var 2) (cst (.int 1)))) (cst (.int 1))) (bin dIx (ixv 0 (var 2)) (cst (.int 0)))))))
      (retF (un dAbs (peek 1)))))
    (pur .nx))
    (seqF (setF 1 (bin dSub (callF 3 pTurnedL (consF (ixv 0 (cst (.int 1))) (consF (ixv 0 (cst (.int 2))) (consF (ixv 0 (cst (.int 3))) nilF)))) (callF 3 pTurnedL (consF (ixv 0 (cst (.int 0))) (consF (ixv 0 (cst (.int 2))) (consF (ixv 0 (cst (.int 3))) nilF))))))
    (retF (un dAbs (dat (bin dSub (bin dAdd (var 1) (callF 3 pTurnedL (consF (ixv 0 (cst (.int 0))) (consF (ixv 0 (cst (.int 1))) (consF (ixv 0 (cst (.int 3))) nilF))))) (callF 3 pTurnedL (consF (ixv 0 (cst (.int 0))) (consF (ixv 0 (cst (.int 1))) (consF (ixv 0 (cst (.int 2))) nilF))))))))))
def pBodyL : Fn := fnF 12
    (seqF (setF 2 (callF 2 pDrawL (consF (var 0) (consF (cst (.int 6)) nilF))))
    (seqF (setF 3 (bin dIx (mkL (consF (cst (.int 3)) (consF (cst (.int 9)) (consF (cst (.int 1000)) (consF (bin dPow (cst (.int 10)) (cst (.int 6))) (consF (cst (.int 9)) (consF (cst (.int 3)) nilF))))))) (var 2)))
    (seqF (setF 4 (lcF [5] (nmA 5) (bnd (consF (bin dAdd (var 1) (cst (.int 1))) nilF) rng1) yesT (lcF [6] (nmA 6) (bnd (consF (var 1) nilF) rng1) yesT (bin dSub (callF 2 pDrawL (consF (var 0) (consF (bin dAdd (bin dMul (cst (.int 2)) (var 3)) (cst (.int 1))) nilF))) (var 3)))))
    (seqF (ifF (tst (bin dEq (var 2) (cst (.int 4))))
    (seqF (setF 4 (mkL (consF (lcF [6] (nmA 6) (bnd (consF (var 1) nilF) rng1) yesT (bin dSub (callF 2 pDrawL (consF (var 0) (consF (cst (.int 2001)) nilF))) (cst (.int 1000)))) nilF)))
      (seqF (setF 7 (lcF [6] (nmA 6) (bnd (consF (var 1) nilF) rng1) yesT (bin dAdd (cst (.int 1)) (callF 2 pDrawL (consF (var 0) (consF (cst (.int 400)) nilF))))))
      (forF (nmA 5) (bnd (consF (var 1) nilF) rng1)
      (appF 4 (lcF [6] (nmA 6) (bnd (consF (var 1) nilF) rng1) yesT (bin dAdd (bin dIx (ixv 4 (var 5)) (var 6)) (bin dMul (ixv 7 (var 5)) (un dInt (dat (bin dEq (var 6) (var 5)))))))))))
    (ifF (tst (bin dEq (var 2) (cst (.int 5))))
      (seqF (setF 8 (bin dAdd (cst (.int 1)) (callF 2 pDrawL (consF (var 0) (consF (bin dSub (bin dPow (cst (.int 10)) (cst (.int 6))) (cst (.int 1))) nilF)))))
        (seqF (setF 4 (mkL (consF (bin dMul (mkL (consF (cst (.int 0)) nilF)) (var 1)) (consF (bin dAdd (mkL (consF (cst (.int 1)) nilF)) (bin dMul (mkL (consF (cst (.int 0)) nilF)) (bin dSub (var 1) (cst (.int 1))))) (consF (bin dAdd (mkL (consF (var 8) nilF)) (bin dMul (mkL (consF (cst (.int 1)) nilF)) (bin dSub (var 1) (cst (.int 1))))) nilF)))))
        (ifF (tst (bin dEq (var 1) (cst (.int 3))))
        (appF 4 (mkL (consF (cst (.int 0)) (consF (var 8) (consF (bin dSub (var 8) (cst (.int 1))) nilF)))))
        (pur .nx))))
      (pur .nx)))
    (seqF (setF 9 (un dTuple (dat (lcF [10] (nmA 10) (itF (var 4)) yesT (un dTuple (peek 10))))))
    (seqF (ifF (tst (bin dGt (callF 1 pMeasureL (consF (var 9) nilF)) (cst (.int 0))))
    (retvF 9)
    (pur .nx))
    (seqF (setF 11 (bin dSub (callF 2 pDrawL (consF (var 0) (consF (cst (.int 9)) nilF))) (cst (.int 4))))
    (seqF (setF 4 (lcF [5] (nmA 5) (bnd (consF (bin dAdd (var 1) (cst (.int 1))) nilF) rng1) yesT (lcF [6] (nmA 6) (bnd (consF (var 1) nilF) rng1) yesT (bin dAdd (var 11) (un dInt (dat (bin dLt (var 6) (var 5))))))))
    (retF (un dTuple (dat (lcF [10] (nmA 10) (itF (var 4)) yesT (un dTuple (peek 10))))))))))))))
def pWeightsL : Fn := fnF 7
    (seqF (setF 2 (callF 2 pDrawL (consF (var 0) (consF (cst (.int 5)) nilF))))
    (seqF (ifF (tst (bin dLt (var 2) (cst (.int 2))))
    (setF 3 (lcF [4] (nmA 4) (bnd (consF (bin dAdd (var 1) (cst (.int 1))) nilF) rng1) yesT (callF 2 pDrawL (consF (var 0) (consF (cst (.int 4)) nilF)))))
    (ifF (tst (bin dEq (var 2) (cst (.int 2))))
      (setF 3 (lcF [4] (nmA 4) (bnd (consF (bin dAdd (var 1) (cst (.int 1))) nilF) rng1) yesT (bin dSub (callF 2 pDrawL (consF (var 0) (consF (cst (.int 15)) nilF))) (cst (.int 5)))))
      (ifF (tst (bin dEq (var 2) (cst (.int 3))))
        (seqF (setF 5 (callF 2 pDrawL (consF (var 0) (consF (bin dAdd (var 1) (cst (.int 1))) nilF))))
          (setF 3 (lcF [4] (nmA 4) (bnd (consF (bin dAdd (var 1) (cst (.int 1))) nilF) rng1) yesT (un dInt (dat (bin dEq (var 4) (var 5)))))))
        (setF 3 (lcF [4] (nmA 4) (bnd (consF (bin dAdd (var 1) (cst (.int 1))) nilF) rng1) yesT (bin dSub (callF 2 pDrawL (consF (var 0) (consF (bin dMul (cst (.int 2)) (bin dPow (cst (.int 10)) (cst (.int 9)))) nilF))) (bin dPow (cst (.int 10)) (cst (.int 9)))))))))
    (seqF (setF 6 (callF 2 pDrawL (consF (var 0) (consF (bin dAdd (var 1) (cst (.int 1))) nilF))))
    (seqF (ifF (tst (bin dLt (un dSumA (peek 3)) (cst (.int 1))))
    (setAtF 3 (bin dSub (bin dAdd (ixv 3 (var 6)) (cst (.int 1))) (un dSumA (peek 3))) (var 6))
    (pur .nx))
    (retF (callF 1 pLowestL (consF (bin dAdd (var 3) (mkL (consF (un dSumA (peek 3)) nilF))) nilF)))))))
def pGivenL : Fn := fnF 6
    (seqF (setF 2 (bin dSub (un dLen (peek 0)) (cst (.int 1))))
    (seqF (setF 3 (lcF [4] (nmA 4) (bnd (consF (var 2) nilF) rng1) yesT (un dSumA (dat (lcF [5] (nmA 5) (bnd (consF (bin dAdd (var 2) (cst (.int 1))) nilF) rng1) yesT (bin dMul (ixv 1 (var 5)) (bin dIx (ixv 0 (var 5)) (var 4))))))))
    (retF (callF 1 pLowestL (consF (bin dAdd (var 3) (mkL (consF (ixv 1 (un dNeg (dat (cst (.int 1))))) nilF))) nilF)))))
def pPlaceL : Fn := fnF 10
    (seqF (setF 2 (bin dSub (un dLen (peek 1)) (cst (.int 1))))
    (seqF (setF 3 (callF 2 pDrawL (consF (var 0) (consF (cst (.int 5)) nilF))))
    (seqF (ifF (tst (bin dEq (var 3) (cst (.int 0))))
    (retF (bin dAdd (ixv 1 (callF 2 pDrawL (consF (var 0) (consF (bin dAdd (var 2) (cst (.int 1))) nilF)))) (mkT (consF (cst (.int 1)) nilF))))
    (pur .nx))
    (seqF (ifF (tst (bin dEq (var 3) (cst (.int 1))))
    (seqF (setF 4 (lcF [5] (nmA 5) (bnd (consF (var 2) nilF) rng1) yesT (un dSumA (dat (lcF [6] (nmA 6) (itF (var 1)) yesT (ixv 6 (var 5)))))))
      (seqF (setF 7 (callF 1 pLowestL (consF (bin dAdd (var 4) (mkL (consF (bin dAdd (var 2) (cst (.int 1))) nilF))) nilF)))
      (ifF (tst (bin dLe (un dMaxA (dat (lcF [8] (nmA 8) (itF (var 7)) yesT (un dAbs (peek 8))))) (bin dPow (cst (.int 10)) (cst (.int 6)))))
      (retvF 7)
      (pur .nx))))
    (pur .nx))
    (seqF (setF 9 (bin dIx (mkL (consF (cst (.int 6)) (consF (cst (.int 40)) (consF (bin dPow (cst (.int 10)) (cst (.int 6))) nilF)))) (callF 2 pDrawL (consF (var 0) (consF (cst (.int 3)) nilF)))))
    (seqF (setF 4 (lcF [5] (nmA 5) (bnd (consF (var 2) nilF) rng1) yesT (bin dSub (callF 2 pDrawL (consF (var 0) (consF (bin dAdd (bin dMul (cst (.int 2)) (var 9)) (cst (.int 1))) nilF))) (var 9))))
    (retF (callF 1 pLowestL (consF (bin dAdd (var 4) (mkL (consF (bin dAdd (cst (.int 1)) (callF 2 pDrawL (consF (var 0) (consF (bin dIx (mkL (consF (cst (.int 1)) (consF (cst (.int 12)) (consF (bin dPow (cst (.int 10)) (cst (.int 6))) nilF)))) (callF 2 pDrawL (consF (var 0) (consF (cst (.int 3)) nilF)))) nilF)))) nilF))) nilF)))))))))
def pCarrierL : Fn := fnF 4
    (seqF (setF 2 (mkL nilF))
    (seqF (forF (nmA 3) (bnd (consF (un dLen (peek 0)) nilF) rng1)
    (seqF (ifF (tst (bin dLt (ixv 1 (var 3)) (cst (.int 0))))
      (retF (cst .none))
      (pur .nx))
      (ifF (tst (bin dGt (ixv 1 (var 3)) (cst (.int 0))))
      (appF 2 (mkT (consF (ixv 0 (var 3)) (consF (callF 1 pLowestL (consF (mkL (consF (ixv 1 (var 3)) (consF (ixv 1 (un dNeg (dat (cst (.int 1))))) nilF))) nilF)) nilF))))
      (pur .nx))))
    (retF (un dTuple (dat (un dSortL (peek 2)))))))
def pFormL : Fn := fnF 4
    (seqF (ifF (orT (notT (tru (dat (un (dIsi "tuple") (peek 1))))) (tst (bin dNe (un dLen (peek 1)) (bin dAdd (un dLen (peek 0)) (cst (.int 1))))))
    (retF (cst (.bool false)))
    (pur .nx))
    (seqF (setF 2 (cst (.int 0)))
    (seqF (forF (nmA 3) (itF (var 1))
    (seqF (ifF (orT (notT (tru (dat (un (dIsi "int") (peek 3))))) (tru (dat (un (dIsi "bool") (peek 3)))))
      (retF (cst (.bool false)))
      (pur .nx))
      (setF 2 (callF 2 pCommonL (consF (var 2) (consF (var 3) nilF))))))
    (retF (andV (bin dEq (var 2) (cst (.int 1))) (andV (bin dGe (ixv 1 (un dNeg (dat (cst (.int 1))))) (cst (.int 1))) (bin dEq (un dSumA (dat (slcv 1 noPart (part (un dNeg (dat (cst (.int 1)))))))) (ixv 1 (un dNeg (dat (cst (.int 1))))))))))))
def pHeldHoldsL : Fn := fnF 8
    (seqF (setF 3 (callF 2 pCarrierL (consF (var 0) (consF (var 2) nilF))))
    (seqF (ifF (notT (tru (dat (callF 2 pSameL (consF (quiet (callR 2 pHolds (consF (var 1) (consF (var 0) nilF)))) (consF (bin dIsNot (var 3) (cst .none)) nilF))))))
    (retF (cst (.bool false)))
    (pur .nx))
    (seqF (ifF (notT (tru (dat (callF 2 pSameL (consF (callF 2 pCarrierIn (consF (var 0) (consF (var 1) nilF))) (consF (var 3) nilF))))))
    (retF (cst (.bool false)))
    (pur .nx))
    (seqF (setF 4 (bin dAdd (slcv 0 (part (cst (.int 1))) noPart) (slcv 0 noPart (part (cst (.int 1))))))
    (seqF (ifF (notT (tru (dat (callF 2 pSameL (consF (callF 2 pWeightsIn (consF (var 4) (consF (var 1) nilF))) (consF (bin dAdd (bin dAdd (slcv 2 (part (cst (.int 1))) (part (un dNeg (dat (cst (.int 1)))))) (slcv 2 noPart (part (cst (.int 1))))) (slcv 2 (part (un dNeg (dat (cst (.int 1))))) noPart)) nilF))))))
    (retF (cst (.bool false)))
    (pur .nx))
    (seqF (ifF (notT (tru (dat (callF 2 pSameL (consF (quiet (callR 2 pCarrierIn (consF (var 1) (consF (var 4) nilF)))) (consF (var 3) nilF))))))
    (retF (cst (.bool false)))
    (pur .nx))
    (seqF (ifF (tst (bin dGt (ixv 1 (un dNeg (dat (cst (.int 1))))) (cst (.int 1))))
    (retF (cst (.bool true)))
    (pur .nx))
    (seqF (setF 5 (callF 1 pMeasureL (consF (var 0) nilF)))
    (seqF (forF (nmA 6) (bnd (consF (un dLen (peek 0)) nilF) rng1)
    (seqF (setF 7 (callF 1 pMeasureOf (consF (bin dAdd (bin dAdd (slcv 0 noPart (part (var 6))) (mkT (consF (slcv 1 noPart (part (un dNeg (dat (cst (.int 1)))))) nilF))) (slcv 0 (part (bin dAdd (var 6) (cst (.int 1)))) noPart)) nilF)))
      (seqF (ifF (orT (notT (tru (dat (un (dIsi "int") (peek 7))))) (tru (dat (un (dIsi "bool") (peek 7)))))
      (retF (cst (.bool false)))
      (pur .nx))
      (ifF (tst (bin dNe (bin dMul (var 7) (ixv 2 (un dNeg (dat (cst (.int 1)))))) (bin dMul (un dAbs (dat (ixv 2 (var 6)))) (var 5))))
      (retF (cst (.bool false)))
      (pur .nx)))))
    (retF (cst (.bool true))))))))))))
def pPlaceHoldsL : Fn := fnF 6
    (seqF (setF 2 (callF 2 pWeightsIn (consF (var 0) (consF (var 1) nilF))))
    (seqF (ifF (notT (tru (dat (callF 2 pFormL (consF (var 0) (consF (var 2) nilF))))))
    (retF (cst (.bool false)))
    (pur .nx))
    (seqF (forF (nmA 3) (bnd (consF (bin dSub (un dLen (peek 0)) (cst (.int 1))) nilF) rng1)
    (seqF (setF 4 (un dSumA (dat (lcF [5] (nmA 5) (bnd (consF (un dLen (peek 0)) nilF) rng1) yesT (bin dMul (ixv 2 (var 5)) (bin dIx (ixv 0 (var 5)) (var 3)))))))
      (ifF (tst (bin dNe (bin dMul (var 4) (ixv 1 (un dNeg (dat (cst (.int 1)))))) (bin dMul (ixv 1 (var 3)) (ixv 2 (un dNeg (dat (cst (.int 1))))))))
      (retF (cst (.bool false)))
      (pur .nx))))
    (retF (andV (callF 2 pSameL (consF (quiet (callR 2 pBlend (consF (var 2) (consF (var 0) nilF)))) (consF (var 1) nilF))) (callF 3 pHeldHoldsL (consF (var 0) (consF (var 1) (consF (var 2) nilF)))))))))
def pWeightsHoldL : Fn := fnF 4
    (seqF (setF 2 (callF 2 pGivenL (consF (var 0) (consF (var 1) nilF))))
    (seqF (ifF (notT (tru (dat (callF 2 pSameL (consF (callF 2 pBlend (consF (var 0) (consF (var 1) nilF))) (consF (var 2) nilF))))))
    (retF (cst (.bool false)))
    (pur .nx))
    (seqF (ifF (tst (bin dGt (un dMaxA (dat (lcF [3] (nmA 3) (itF (var 2)) yesT (un dAbs (peek 3))))) (bin dPow (cst (.int 10)) (cst (.int 6)))))
    (retF (cst (.bool true)))
    (pur .nx))
    (retF (andV (callF 2 pSameL (consF (quiet (callR 2 pWeightsIn (consF (var 2) (consF (var 0) nilF)))) (consF (var 1) nilF))) (callF 3 pHeldHoldsL (consF (var 0) (consF (var 2) (consF (var 1) nilF)))))))))
def pFlatHoldsL : Fn := fnF 14
    (seqF (setF 2 (bin dSub (un dLen (peek 1)) (cst (.int 1))))
    (seqF (ifF (orT (notT (tru (dat (callF 2 pSameL (consF (callF 1 pMeasureOf (consF (var 1) nilF)) (consF (callF 1 pMeasureL (consF (var 1) nilF)) nilF)))))) (notT (tru (dat (callF 2 pSameL (consF (callF 1 pIsFlat (consF (var 1) nilF)) (consF (cst (.bool false)) nilF)))))))
    (retF (cst (.bool false)))
    (pur .nx))
    (seqF (setF 3 (callF 2 pDrawL (consF (var 0) (consF (bin dAdd (var 2) (cst (.int 1))) nilF))))
    (seqF (setF 4 (callF 2 pDrawL (consF (var 0) (consF (bin dAdd (var 2) (cst (.int 1))) nilF))))
    (seqF (setF 5 (bin dIx (mkL (consF (un dTuple (dat (lcF [6] (nmA 6) (itF (ixv 1 (var 3))) yesT (bin dSub (cst (.int 0)) (var 6))))) (consF (ixv 1 (var 4)) (consF (bin dMul (mkT (consF (cst (.int 0)) nilF)) (var 2)) nilF)))) (callF 2 pDrawL (consF (var 0) (consF (cst (.int 3)) nilF)))))
    (seqF (setF 7 (bin dAdd (bin dAdd (slcv 1 noPart (part (var 4))) (mkT (consF (var 5) nilF))) (slcv 1 (part (bin dAdd (var 4) (cst (.int 1)))) noPart)))
    (seqF (ifF (notT (tru (dat (callF 2 pSameL (consF (quiet (callR 1 pMeasureOf (consF (var 7) nilF))) (consF (callF 1 pMeasureL (consF (var 7) nilF)) nilF))))))
    (retF (cst (.bool false)))
    (pur .nx))
    (seqF (ifF (notT (tru (dat (callF 2 pSameL (consF (quiet (callR 1 pIsFlat (consF (var 7) nilF))) (consF (bin dEq (callF 1 pMeasureL (consF (var 7) nilF)) (cst (.int 0))) nilF))))))
    (retF (cst (.bool false)))
    (pur .nx))
    (seqF (setF 8 (callF 2 pDrawL (consF (var 0) (consF (cst (.int 4)) nilF))))
    (seqF (setF 9 (ixv 1 (var 3)))
    (seqF (setF 10 (bin dAdd (mkL (consF (var 9) (consF (var 9) (consF (ixv 1 (var 4)) nilF)))) (lcF [11] (nmA 11) (bnd (consF (bin dSub (var 2) (cst (.int 2))) nilF) rng1) yesT (ixv 1 (var 11)))))
    (seqF (ifF (tst (bin dEq (var 8) (cst (.int 1))))
    (setF 10 (lcF [11] (nmA 11) (bnd (consF (bin dAdd (var 2) (cst (.int 1))) nilF) rng1) yesT (un dTuple (dat (lcF [12] (nmA 12) (bnd (consF (var 2) nilF) rng1) yesT (bin dSub (bin dMul (var 11) (bin dAdd (var 12) (cst (.int 1)))) (cst (.int 3))))))))
    (ifF (tst (bin dEq (var 8) (cst (.int 2))))
      (setF 10 (lcF [11] (nmA 11) (bnd (consF (bin dAdd (var 2) (cst (.int 1))) nilF) rng1) yesT (slc (mkT (consF (ixv 9 (cst (.int 0))) (consF (bin dMul (var 11) (var 11)) (consF (var 11) nilF)))) noPart (part (var 2)))))
      (ifF (tst (bin dEq (var 8) (cst (.int 3))))
        (setF 10 (bin dMul (mkL (consF (var 9) nilF)) (bin dAdd (var 2) (cst (.int 1)))))
        (pur .nx))))
    (seqF (setF 13 (un dTuple (peek 10)))
    (retF (andV (callF 2 pSameL (consF (callF 1 pMeasureOf (consF (var 13) nilF)) (consF (cst (.int 0)) nilF))) (callF 2 pSameL (consF (callF 1 pIsFlat (consF (var 13) nilF)) (consF (cst (.bool true)) nilF))))))))))))))))))
def pRefusedL : Fn := fnF 5
    (seqF (tryF 3 ["NotUsable"]
    (ifF (quietT (tst (bin dEq (var 0) (cst (.int 0)))))
      (dropF (callF 2 pWeightsIn (quietA (consF (var 1) (consF (var 2) nilF)))))
      (ifF (quietT (tst (bin dEq (var 0) (cst (.int 1)))))
        (dropF (callF 2 pHolds (quietA (consF (var 1) (consF (var 2) nilF)))))
        (ifF (quietT (tst (bin dEq (var 0) (cst (.int 2)))))
          (dropF (callF 2 pCarrierIn (quietA (consF (var 1) (consF (var 2) nilF)))))
          (dropF (callF 2 pBlend (quietA (consF (var 1) (consF (var 2) nilF))))))))
    (fun a d => (seqF (setF 4 (bin dIx (mkL (consF (mkT (consF (cst (.str ("place" : Str))) (consF (un dNeg (dat (cst (.int 1)))) nilF))) (consF (mkT (consF (cst (.str ("weights" : Str))) (consF (un dNeg (dat (cst (.int 1)))) nilF))) nilF))) (un dInt (dat (bin dEq (var 0) (cst (.int 3)))))))
      (retF (andV (excIs 3 a d true) (quiet (callF 2 pSameL (consF (mkT (consF (excF 3 a d "word") (consF (excF 3 a d "at") nilF))) (consF (var 4) nilF)))))))))
    (retF (cst (.bool false))))
def pBadHoldsL : Fn := fnF 9
    (seqF (setF 4 (bin dSub (un dLen (peek 0)) (cst (.int 1))))
    (seqF (setF 5 (bin dMul (mkT (consF (cst (.int 0)) nilF)) (var 4)))
    (seqF (setF 6 (mkL (consF (cst .none) (consF (un dList (peek 1)) (consF (slcv 1 noPart (part (un dNeg (dat (cst (.int 1)))))) (consF (bin dAdd (var 1) (mkT (consF (cst (.int 1)) nilF))) (consF (bin dAdd (bin dAdd (mkT (consF (cst (.int 4)) nilF)) (slcv 5 (part (cst (.int 1))) noPart)) (mkT (consF (cst (.int 2)) nilF))) (consF (bin dAdd (slcv 1 noPart (part (un dNeg (dat (cst (.int 1)))))) (mkT (consF (cst (.int 0)) nilF))) (consF (cst (.str ("0" : Str))) nilF)))))))))
    (seqF (appF 6 (bin dAdd (var 5) (mkT (consF (cst (.bool true)) nilF))))
    (seqF (setF 6 (bin dAdd (var 6) (mkL (consF (un dTuple (dat (lcF [7] (nmA 7) (itF (var 1)) yesT (bin dSub (cst (.int 0)) (var 7))))) (consF (bin dAdd (bin dAdd (mkT (consF (cst (.bool true)) nilF)) (slcv 5 (part (cst (.int 1))) noPart)) (mkT (consF (cst (.int 1)) nilF))) (consF (mkT nilF) (consF (bin dAdd (var 5) (mkT (consF (cst (.int 3)) nilF))) (consF (bin dAdd (var 5) (mkT (consF (cst .none) nilF))) (consF (var 0) nilF)))))))))
    (seqF (forF (nmA 8) (bnd (consF (cst (.int 3)) nilF) rng1)
    (ifF (notT (tru (dat (callF 3 pRefusedL (consF (var 8) (consF (var 0) (consF (ixv 6 (bin dMod (un dInt (dat (bin dAdd (var 3) (var 8)))) (un dLen (peek 6)))) nilF)))))))
      (retF (cst (.bool false)))
      (pur .nx)))
    (seqF (setF 6 (mkL (consF (cst .none) (consF (un dList (peek 2)) (consF (slcv 2 noPart (part (un dNeg (dat (cst (.int 1)))))) (consF (bin dAdd (var 2) (mkT (consF (cst (.int 1)) nilF))) (consF (un dTuple (dat (lcF [7] (nmA 7) (itF (var 2)) yesT (bin dMul (cst (.int 2)) (var 7))))) (consF (cst (.str ("1" : Str))) (consF (var 1) nilF)))))))))
    (seqF (setF 6 (bin dAdd (var 6) (mkL (consF (un dTuple (dat (lcF [7] (nmA 7) (itF (var 2)) yesT (bin dSub (cst (.int 0)) (var 7))))) (consF (bin dAdd (bin dAdd (mkT (consF (cst (.bool true)) nilF)) (var 5)) (mkT (consF (cst (.int 1)) nilF))) (consF (bin dAdd (bin dAdd (mkT (consF (cst (.int 1)) nilF)) (var 5)) (mkT (consF (cst (.bool true)) nilF))) (consF (bin dAdd (var 5) (mkT (consF (cst (.int 0)) (consF (cst (.int 0)) nilF)))) nilF)))))))
    (seqF (appF 6 (bin dAdd (bin dAdd (mkT (consF (cst (.int 1)) nilF)) (slcv 5 (part (cst (.int 1))) noPart)) (mkT (consF (un dNeg (dat (cst (.int 1)))) (consF (cst (.int 0)) nilF)))))
    (seqF (appF 6 (bin dAdd (slcv 2 noPart (part (un dNeg (dat (cst (.int 1)))))) (mkT (consF (bin dAdd (ixv 2 (un dNeg (dat (cst (.int 1))))) (cst (.int 1))) nilF))))
    (retF (andV (callF 3 pRefusedL (consF (cst (.int 3)) (consF (var 0) (consF (ixv 6 (bin dMod (un dInt (peek 3)) (un dLen (peek 6)))) nilF)))) (callF 2 pSameL (consF (callF 2 pHolds (consF (var 0) (consF (var 1) nilF))) (consF (callF 2 pHolds (consF (var 0) (consF (var 1) nilF))) nilF)))))))))))))))
def law1 : M Fw :=
    (setF 1 (callF 2 pTapeL (consF (var 0) (consF (cst (.int 50021)) nilF))))
def law2 : M Fw :=
    (seqF (setF 2 (bin dAdd (cst (.int 2)) (callF 2 pDrawL (consF (var 1) (consF (cst (.int 2)) nilF)))))
    (seqF (forF (nmA 3) (bnd (consF (cst (.int 2)) nilF) rng1)
    (seqF (setF 4 (callF 2 pBodyL (consF (var 1) (consF (var 2) nilF))))
      (seqF (setF 5 (callF 2 pWeightsL (consF (var 1) (consF (var 2) nilF))))
      (seqF (setF 6 (callF 2 pPlaceL (consF (var 1) (consF (var 4) nilF))))
      (seqF (ifF (orT (notT (tru (dat (callF 2 pWeightsHoldL (consF (var 4) (consF (var 5) nilF)))))) (notT (tru (dat (callF 2 pPlaceHoldsL (consF (var 4) (consF (var 6) nilF)))))))
      (retF (cst (.bool false)))
      (pur .nx))
      (seqF (ifF (notT (tru (dat (callF 2 pFlatHoldsL (consF (var 1) (consF (var 4) nilF))))))
      (retF (cst (.bool false)))
      (pur .nx))
      (seqF (ifF (notT (tru (dat (callF 4 pBadHoldsL (consF (var 4) (consF (var 6) (consF (var 5) (consF (callF 2 pDrawL (consF (var 1) (consF (cst (.int 546)) nilF))) nilF))))))))
      (retF (cst (.bool false)))
      (pur .nx))
      (setF 2 (bin dSub (cst (.int 5)) (var 2))))))))))
    (retF (cst (.bool true)))))
end
end K23
end SecM23
section SecPa
set_option Elab.async false
set_option linter.all false
set_option maxRecDepth 100000
set_option maxHeartbeats 4000000
namespace K23
open PySem PySem.Spec Pu
def AllSz (n : Nat) (xs : List Int) : Prop := ∀ x ∈ xs, Sz n x
/-- a row of numbers: a list or a tuple -/
def Row (d : PyData) (xs : List Int) : Prop := Pu.items d = some (iL xs)
theorem row_l (xs : List Int) : Row (.list (iL xs)) xs := rfl
theorem row_t (xs : List Int) : Row (.tuple (iL xs)) xs := rfl
def minusZ (xs ys : List Int) : List Int := (xs.zip ys).map fun p => p.1 - p.2
def dotZ (xs ys : List Int) : Int := ((xs.zip ys).map fun p => p.1 * p.2).sum
theorem zip_rows {x y : PyData} {xs ys : List Int} (hx : Row x xs) (hy : Row y ys) (s : Pst) : zipA [x, y] s = .ok ((xs.zip ys).map fun p => .tuple [.int p.1, .int p.2]) s := by
  show (match Pu.items x, Pu.items y with | some xs, some ys => pur (zipD xs ys) | _, _ => no) s = _
  rw [hx, hy]
  show Rs.ok (zipD _ _) s = _
  rw [zipD_map]
theorem e_minus {x y : PyData} {xs ys : List Int} (hx : Row x xs) (hy : Row y ys) (hl : xs.length ≤ lim) (t : Tps) : pMinusRows [x, y] t = .ok (.ow (iL (minusZ xs ys))) t := by
  have h : iL (minusZ xs ys) = (xs.zip ys).map fun p => .int (p.1 - p.2) := by unfold minusZ iL; rw [List.map_map]; rfl
  rw [h]
  exact fin_ret (lc_two (ps := xs.zip ys) PyData.int PyData.int (fun a b => .int (a - b)) (by walk_at "v ev"; exact zip_rows hx hy _) (by rw [List.length_zip]; omega) (by decide) (by walk_at "v ev") (by walk_at "v ev") rfl rfl fun p _ => ⟨.fr (.int (p.1 - p.2)), by walk_at "v ev", rfl⟩) rfl
theorem sum_iL (xs : List Int) : dSumA (.list (iL xs)) = okI xs.sum := by
  show (match Pu.intsOf (iL xs) with | some ns => _ | none => _) = _
  rw [intsOf_iL]
theorem e_dot {n m : Nat} {x y : PyData} {xs ys : List Int} (hx : Row x xs) (hy : Row y ys) (hl : xs.length ≤ lim) (sx : AllSz n xs) (sy : AllSz m ys) (hn : n + m < 1000000) (t : Tps) : pDot [x, y] t = .ok (.fr (.int (dotZ xs ys))) t :=
  fin_ret (un_ok (dat_ok (lc_two (ps := xs.zip ys) PyData.int PyData.int (fun a b => .int (a * b)) (by walk_at "v ev"; exact zip_rows hx hy _) (by rw [List.length_zip]; omega) (by decide) (by walk_at "v ev") (by walk_at "v ev") rfl rfl fun p hp => ⟨.fr (.int (p.1 * p.2)),
    bin_ok (x := .fr (.int p.1)) (y := .fr (.int p.2)) rfl rfl (dMul_ii (sx _ (List.of_mem_zip hp).1) (sy _ (List.of_mem_zip hp).2) hn), rfl⟩))
    (by
      have h : ((xs.zip ys).map fun p => PyData.int (p.1 * p.2)) = iL ((xs.zip ys).map fun p => p.1 * p.2) := by unfold iL; rw [List.map_map]; rfl
      rw [h]
      exact sum_iL _)) rfl
def rowL (r : List Int) : PyData := .list (iL r)
def rowT (r : List Int) : PyData := .tuple (iL r)
def crossZ : List Int → List Int → List Int
  | [a, b, c], [d, e, f] => [b * f - c * e, c * d - a * f, a * e - b * d]
  | _, _ => []
def risesZ : List (List Int) → List (List Int)
  | [[a, b], [c, d]] => [[d, -c], [-b, a]]
  | [a, b, c] => [crossZ b c, crossZ c a, crossZ a b]
  | _ => []
theorem e_cross {n m : Nat} {a b c d e f : Int} (h1 : AllSz n [a, b, c]) (h2 : AllSz m [d, e, f]) (hn : n + m < 1000000) (t : Tps) : pCross [rowL [a, b, c], rowL [d, e, f]] t = .ok (.ow (iL (crossZ [a, b, c] [d, e, f]))) t := by
  have mm : ∀ x ∈ [a, b, c], ∀ y ∈ [d, e, f], dMul (.int x) (.int y) = okI (x * y) := fun x hx y hy => dMul_ii (h1 x hx) (h2 y hy) hn
  have ma : ∀ x ∈ [a, b, c], ∀ y ∈ [d, e, f], ∀ x' ∈ [a, b, c], ∀ y' ∈ [d, e, f], ∀ (i i' j j' : Int), dIx (rowL [a, b, c]) (.int i) = .ok (.fr (.int x)) → dIx (rowL [d, e, f]) (.int j) = .ok (.fr (.int y)) → dIx (rowL [a, b, c]) (.int i') = .ok (.fr (.int x')) → dIx (rowL [d, e, f]) (.int j') = .ok (.fr (.int y')) →
      bin dSub (bin dMul (ixv 0 (cst (.int i))) (ixv 1 (cst (.int j)))) (bin dMul (ixv 0 (cst (.int i'))) (ixv 1 (cst (.int j')))) (begin 2 [rowL [a, b, c], rowL [d, e, f]] t) = .ok (.fr (.int (x * y - x' * y'))) (begin 2 [rowL [a, b, c], rowL [d, e, f]] t) := by
    intro x hx y hy x' hx' y' hy' i i' j j' e1 e2 e3 e4
    have r1 : ∀ i x, dIx (rowL [a, b, c]) (.int i) = .ok (.fr (.int x)) → ixv 0 (cst (.int i)) (begin 2 [rowL [a, b, c], rowL [d, e, f]] t) = .ok (.fr (.int x)) (begin 2 [rowL [a, b, c], rowL [d, e, f]] t) := fun i x h => by
      show ((dIx (rowL [a, b, c]) (.int i)).m _ : Rs OV) = _
      rw [h]; rfl
    have r2 : ∀ i x, dIx (rowL [d, e, f]) (.int i) = .ok (.fr (.int x)) → ixv 1 (cst (.int i)) (begin 2 [rowL [a, b, c], rowL [d, e, f]] t) = .ok (.fr (.int x)) (begin 2 [rowL [a, b, c], rowL [d, e, f]] t) := fun i x h => by
      show ((dIx (rowL [d, e, f]) (.int i)).m _ : Rs OV) = _
      rw [h]; rfl
    exact bin_ok (bin_ok (r1 _ _ e1) (r2 _ _ e2) (mm x hx y hy)) (bin_ok (r1 _ _ e3) (r2 _ _ e4) (mm x' hx' y' hy')) rfl
  exact fin_ret (mkL_ok (cons_ok (ma b (by simp) f (by simp) c (by simp) e (by simp) 1 2 2 1 rfl rfl rfl rfl) (cons_ok (ma c (by simp) d (by simp) a (by simp) f (by simp) 2 0 0 2 rfl rfl rfl rfl) (cons_ok (ma a (by simp) e (by simp) b (by simp) d (by simp) 0 1 1 0 rfl rfl rfl rfl) rfl))) (by show 3 ≤ 100000; decide)) rfl
theorem e_rises2 {a b c d : Int} (t : Tps) : pRisesOf [.list [rowL [a, b], rowL [c, d]]] t = .ok (.ow ((risesZ [[a, b], [c, d]]).map rowL)) t := rfl
theorem e_rises3 {n : Nat} {a b c d e f g h i : Int} (h1 : AllSz n [a, b, c]) (h2 : AllSz n [d, e, f]) (h3 : AllSz n [g, h, i]) (hn : n + n < 1000000) (t : Tps) :
    pRisesOf [.list [rowL [a, b, c], rowL [d, e, f], rowL [g, h, i]]] t = .ok (.ow ((risesZ [[a, b, c], [d, e, f], [g, h, i]]).map rowL)) t := by
  let s : Pst := ⟨[.fr (.list [rowL [a, b, c], rowL [d, e, f], rowL [g, h, i]]), .fr (rowL [a, b, c]), .fr (rowL [d, e, f]), .fr (rowL [g, h, i])], t⟩
  have k : ∀ (F : M (List PyData)) (u v : PyData) (r : List Int), F s = .ok [u, v] s → pCross [u, v] t = .ok (.ow (iL r)) t → callF 2 pCross F s = .ok (.ow (iL r)) s := fun F u v r e1 e2 => call_eq (s1 := s) e1 rfl e2
  show fin (retF _ s) = _
  exact fin_ret (mkL_ok (cons_ok (k _ _ _ _ rfl (e_cross h2 h3 hn t)) (cons_ok (k _ _ _ _ rfl (e_cross h3 h1 hn t)) (cons_ok (k _ _ _ _ rfl (e_cross h1 h2 hn t)) rfl))) (by show 3 ≤ 100000; decide)) rfl
theorem cutD_tail {α : Type} (x : α) (xs : List α) : cutD (x :: xs) (some 1) none = xs := by
  unfold cutD HT.sIx
  simp
theorem dIx_nat {r : List Int} {k : Nat} (h : k < r.length) : dIx (rowL r) (.int (k : Nat)) = .ok (.fr (.int (r.getD k 0))) := by
  have e : L2.atI (iL r) (k : Nat) = some (.int (r.getD k 0)) := by
    refine L2.atI_nat ?_
    unfold iL
    rw [List.getElem?_map, List.getElem?_eq_getElem h, List.getD_eq_getElem?_getD, List.getElem?_eq_getElem h]; rfl
  show (match L2.atI (iL r) (k : Nat) with | some d => R1.ok (.fr d) | none => .no) = _
  rw [e]
def edgesZ (B : List (List Int)) : List (List Int) := match B with | c :: cs => cs.map fun r => minusZ r c | [] => []
def fallsZ (d : Nat) (R : List (List Int)) : List Int := (List.range d).map fun k => -(R.map fun r => r.getD k 0).sum
/-- twice, six times the measure with its sign -/
def detZ (B : List (List Int)) : Int := dotZ ((edgesZ B).headD []) ((risesZ (edgesZ B)).headD [])
def slopesZ (B : List (List Int)) : List (List Int) := fallsZ ((B.headD []).length) (risesZ (edgesZ B)) :: risesZ (edgesZ B)
def bodyD (B : List (List Int)) : PyData := .tuple (B.map rowT)
theorem e_slopes' {n : Nat} {c : List Int} {cs : List (List Int)} {e0 r0 : List Int} {es R : List (List Int)} (hl : cs.length ≤ 10) (hc : c.length ≤ 10) (hc0 : 0 < c.length) (hr : ∀ r ∈ cs, r.length ≤ 10) (he : edgesZ (c :: cs) = e0 :: es) (hR : risesZ (edgesZ (c :: cs)) = r0 :: R) (hR2 : ∀ r ∈ r0 :: R, r.length = c.length) (hR3 : R.length ≤ 10)
    (hris : ∀ t, pRisesOf [.list ((edgesZ (c :: cs)).map rowL)] t = .ok (.ow ((risesZ (edgesZ (c :: cs))).map rowL)) t) (s1 : AllSz n e0) (s2 : AllSz n r0) (hn : n + n < 1000000) (t : Tps) :
    pSlopesOf [bodyD (c :: cs)] t = .ok (.fr (.tuple [.int (detZ (c :: cs)), .list ((slopesZ (c :: cs)).map rowL)])) t := by
  have hlim : ∀ {k : Nat}, k ≤ 10 → k ≤ lim := fun h => Nat.le_trans h (by decide)
  let B : PyData := .tuple (rowT c :: cs.map rowT)
  let E : PyData := .list ((edgesZ (c :: cs)).map rowL)
  let F : List Int := fallsZ c.length (r0 :: R)
  let s0 : Pst := ⟨[.fr B, .un, .un, .un, .un, .un, .un], t⟩
  let s3 : Pst := ⟨[.fr B, .ow ((edgesZ (c :: cs)).map rowL), .un, .un, .un, .un, .un], t⟩
  let s4 : Pst := ⟨[.fr B, .fr E, .un, .un, .un, .un, .un], t⟩
  let s5 : Pst := ⟨[.fr B, .fr E, .un, .ow ((r0 :: R).map rowL), .un, .un, .un], t⟩
  let s6 : Pst := ⟨[.fr B, .fr E, .un, .fr (.list ((r0 :: R).map rowL)), .un, .un, .un], t⟩
  let s7 : Pst := ⟨[.fr B, .fr E, .un, .fr (.list ((r0 :: R).map rowL)), .ow (iL F), .un, .un], t⟩
  let s8 : Pst := ⟨[.fr B, .fr E, .un, .fr (.list ((r0 :: R).map rowL)), .fr (.list (iL F)), .un, .un], t⟩
  show fin (seqF _ _ s0) = _
  have b0 : ∀ (s s1 : Pst), sl s 0 = .fr B → ixv 0 (cst (.int 0)) s = .ok (.fr (rowT c)) s := fun s _ h => ixv_fr h rfl h dIx_zeroT
  refine (congrArg fin (seq_ok (s1 := s3) ?_)).trans ?_
  · refine set_ok (x := .ow ((edgesZ (c :: cs)).map rowL)) (s1 := s0) ?_ (by show 1 < 7; decide)
    show _ = Rs.ok (OV.ow ((cs.map fun r => minusZ r c).map rowL)) s0
    rw [List.map_map]
    refine lc_one (xs := cs) rowT (fun r => rowL (minusZ r c)) ?_ (hlim hl) (by show 2 < 7; decide) rfl fun r hrr => ⟨.ow (iL (minusZ r c)), ?_, rfl⟩
    · show (asL (.tuple (cutD (rowT c :: cs.map rowT) (some 1) none))) s0 = _
      rw [cutD_tail]; rfl
    · exact call_eq (s1 := put 2 (.fr (rowT r)) s0) (ds := [rowT r, rowT c]) (cons_ok (x := .fr (rowT r)) rfl (cons_ok (b0 _ s0 rfl) rfl)) rfl (e_minus (row_t r) (row_t c) (hlim (hr r hrr)) t)
  refine (congrArg fin (seq_ok (s1 := s5) ?_)).trans ?_
  · refine set_ok (x := .ow ((r0 :: R).map rowL)) (s1 := s4) ?_ (by show 3 < 7; decide)
    refine call_eq (s1 := s4) (ds := [E]) rfl rfl ?_
    have := hris t
    rw [hR] at this
    exact this
  refine (congrArg fin (seq_ok (s1 := s7) ?_)).trans ?_
  · refine set_ok (x := .ow (iL F)) (s1 := s6) ?_ (by show 4 < 7; decide)
    show _ = Rs.ok (OV.ow (iL (fallsZ c.length (r0 :: R)))) s6
    unfold fallsZ iL
    rw [List.map_map]
    have body : ∀ (s : Pst) (k : Nat), k < c.length → (itF (var 3) s = .ok ((r0 :: R).map rowL) (put 5 (.fr (.int (k : Nat))) s6)) →
        un dNeg (dat (un dSumA (dat (lcF [6] (nmA 6) (itF (var 3)) yesT (ixv 6 (var 5)))))) s = .ok (.fr (.int (-((r0 :: R).map fun r => r.getD k 0).sum))) (put 5 (.fr (.int (k : Nat))) s6) := fun s k hk hit => by
      refine un_ok (d := .int (((r0 :: R).map fun r => r.getD k 0).sum)) (dat_ok (x := .fr (.int _)) (un_ok (d := .list (iL ((r0 :: R).map fun r => r.getD k 0))) (dat_ok (x := .ow _) ?_) (sum_iL _))) rfl
      unfold iL
      rw [List.map_map]
      exact lc_one (i := 6) (s := put 5 (.fr (.int (k : Nat))) s6) (xs := r0 :: R) rowL (fun r => .int (r.getD k 0)) hit (by rw [List.length_cons]; exact Nat.le_trans (Nat.succ_le_succ hR3) (by decide)) (by show 6 < 7; decide) rfl fun r hrr => ⟨.fr (.int (r.getD k 0)), by
        refine ixv_fr (d := rowL r) (y := .fr (.int (k : Nat))) rfl rfl rfl ?_
        exact dIx_nat (by rw [hR2 r hrr]; exact hk), rfl⟩
    refine lc_frz (s := s5) (s' := s6) (xs := List.range c.length) (fun k => PyData.int (k : Nat)) (fun k => .int (-((r0 :: R).map fun r => r.getD k 0).sum)) ?_ ?_ (by rw [List.length_range]; exact hlim hc) (by show 5 < 7; decide) rfl rfl (fun k hk => ⟨_, body _ k (List.mem_range.mp hk) rfl, rfl⟩) fun k hk => ⟨_, body _ k (List.mem_range.mp hk) rfl, rfl⟩
    · have e1 : (bnd (consF (un dLen (dat (ixv 0 (cst (.int 0))))) nilF) rng1) s5 = rng1 [.int ((iL c).length : Nat)] s5 := by
        have e2 : consF (un dLen (dat (ixv 0 (cst (.int 0))))) nilF s5 = .ok [.int ((iL c).length : Nat)] s5 := cons_ok (un_ok (dat_ok (b0 s5 s5 rfl)) (z := .fr (.int ((iL c).length : Nat))) rfl) rfl
        rw [bnd_ok e2]
      rw [e1]
      have hh : (iL c).length = c.length := by unfold iL; rw [List.length_map]
      rw [hh]
      exact rng1_nat (by omega) _
    · intro z
      have : c.length = 0 := by rw [← List.length_range (n := c.length), z]; rfl
      omega
  have ed : detZ (c :: cs) = dotZ e0 r0 := by unfold detZ; rw [hR, he]; rfl
  have es : slopesZ (c :: cs) = F :: r0 :: R := by unfold slopesZ; rw [hR]; rfl
  rw [ed, es]
  have x0 : callF 2 pDot (consF (ixv 1 (cst (.int 0))) (consF (ixv 3 (cst (.int 0))) nilF)) s7 = .ok (.fr (.int (dotZ e0 r0))) s7 := by
    refine call_eq (s1 := s7) (ds := [rowL e0, rowL r0]) ?_ rfl (e_dot (row_l e0) (row_l r0) ?_ s1 s2 hn t)
    · have a1 : ixv 1 (cst (.int 0)) s7 = .ok (.fr (rowL e0)) s7 := by
        refine ixv_fr (d := E) rfl rfl rfl ?_
        show dIx (.list ((edgesZ (c :: cs)).map rowL)) (.int 0) = _
        rw [he]; exact dIx_zero
      have a2 : ixv 3 (cst (.int 0)) s7 = .ok (.fr (rowL r0)) s7 := ixv_fr (d := .list ((r0 :: R).map rowL)) rfl rfl rfl dIx_zero
      exact cons_ok a1 (cons_ok a2 rfl)
    · have z : e0 ∈ edgesZ (c :: cs) := by rw [he]; exact List.mem_cons_self
      obtain ⟨r, hrr, e⟩ := List.mem_map.mp (show e0 ∈ cs.map fun r => minusZ r c from z)
      rw [← e]
      unfold minusZ
      rw [List.length_map, List.length_zip]
      have := hr r hrr
      exact hlim (by omega)
  refine fin_ret (s1 := s8) (mkT_ok (cons_ok x0 (cons_ok (x := .ow ((F :: r0 :: R).map rowL)) ?_ rfl)) (by show 2 ≤ 100000; decide)) rfl
  refine bin_ok (x := .ow [rowL F]) (y := .fr (.list ((r0 :: R).map rowL))) (s1 := s8) rfl rfl ?_
  show fit _ _ = _
  unfold fit
  rw [if_pos (by rw [List.length_map, List.length_cons]; show 1 + (R.length + 1) ≤ lim; exact Nat.le_trans (show 1 + (R.length + 1) ≤ 12 by omega) (by decide))]
  rfl
end K23
end SecPa
section SecPb
set_option Elab.async false
set_option linter.all false
set_option maxRecDepth 100000
set_option maxHeartbeats 4000000
namespace K23
open PySem PySem.Spec Pu
/-! ### greatest common divisors -/
theorem it_row {d : PyData} {xs : List Int} (h : Row d xs) (s : Pst) : asL d s = .ok (iL xs) s := by
  cases d <;> first | (cases h; rfl) | (cases h; done)
theorem e_common {d : PyData} {xs : List Int} (h : Row d xs) (t : Tps) : pCommonDivisor [d] t = .ok (.fr (.int (gN xs))) t := by
  let st : Sl → Nat → Pst := fun u g => ⟨[.fr d, .fr (.int g), u], t⟩
  show fin (seqF _ _ ⟨[.fr d, .un, .un], t⟩) = _
  refine (congrArg fin (seq_ok (s1 := st .un 0) rfl)).trans ?_
  obtain ⟨u', e, _⟩ := for_fold (s0 := st .un 0) (A := nmA 2) (B := setF 1 (bin dGcd (var 1) (var 2))) (Fi := itF (var 0)) PyData.int st (fun g n => Nat.gcd g n.natAbs) (fun _ => True) (xs := xs) (u := .un) (b := 0) (it_row h _) rfl trivial
    fun a _ u b _ => ⟨st (.fr (.int a)) b, rfl, rfl, trivial⟩
  refine (congrArg fin (seq_ok e)).trans ?_
  exact fin_retv rfl rfl
theorem map_div {xs : List Int} {c : Int} : iL (xs.map (· / c)) = xs.map fun x => .int (x / c) := by unfold iL; rw [List.map_map]; rfl
theorem e_lowest {d : PyData} {xs : List Int} (h : Row d xs) (hl : xs.length ≤ lim) (hg : 0 < gN xs) (hs : gN xs < 2 ^ 9000) (t : Tps) : pLowestTerms [d] t = .ok (.fr (rowT (Dt.lowL xs))) t := by
  let s0 : Pst := ⟨[.fr d, .un, .un], t⟩
  let s1 : Pst := ⟨[.fr d, .fr (.int (gN xs)), .un], t⟩
  show fin (seqF _ _ s0) = _
  refine (congrArg fin (seq_ok (s1 := s1) ?_)).trans ?_
  · exact set_ok (s1 := s0) (x := .fr (.int (gN xs))) (call_eq (s1 := s0) (ds := [d]) rfl rfl (e_common h t)) (by show 1 < 3; decide)
  refine fin_ret (s1 := s1) (un_ok (dat_ok (x := .ow (iL (Dt.lowL xs))) ?_) rfl) rfl
  unfold Dt.lowL
  rw [map_div]
  refine lc_one (s := s1) PyData.int (fun x => .int (x / Dt.gcdL xs)) (it_row h _) hl (by show 2 < 3; decide) rfl fun a _ => ⟨.fr (.int (a / Dt.gcdL xs)), ?_, rfl⟩
  refine bin_ok (x := .fr (.int a)) (y := .fr (.int (gN xs))) rfl rfl ?_
  show (if _ then _ else _) = _
  have hg' : 0 < (gN xs : Int) := by omega
  rw [if_pos ⟨hg', by rw [Int.natAbs_natCast]; exact (Nat.log2_lt (by omega)).mpr hs⟩]
  rfl
/-- the law's own -/
theorem e_commonL {a b : Int} (ha : a.natAbs < 2 ^ 9000) (hb : b.natAbs < 2 ^ 9000) (t : Tps) : pCommonL [.int a, .int b] t = .ok (.fr (.int (Nat.gcd a.natAbs b.natAbs : Nat))) t := by
  let st : Sl → Sl → Nat → Nat → Pst := fun u v x y => ⟨[.fr (.int x), .fr (.int y), u, v], t⟩
  have ea : (if a < 0 then -a else a) = ((a.natAbs : Nat) : Int) := by split <;> omega
  have eb : (if b < 0 then -b else b) = ((b.natAbs : Nat) : Int) := by split <;> omega
  show fin (seqF _ _ ⟨[.fr (.int a), .fr (.int b), .un, .un], t⟩) = _
  refine (congrArg fin (seq_ok (s1 := ⟨[.fr (.int a.natAbs), .fr (.int b), .un, .un], t⟩) ?_)).trans ?_
  · refine set_ok (s1 := ⟨[.fr (.int a), .fr (.int b), .un, .un], t⟩) (x := .fr (.int a.natAbs)) (un_ok (d := .int a) rfl ?_) (by show 0 < 4; decide)
    show okI _ = _
    rw [ea]; rfl
  refine (congrArg fin (seq_ok (s1 := st .un .un a.natAbs b.natAbs) ?_)).trans ?_
  · refine set_ok (s1 := ⟨[.fr (.int a.natAbs), .fr (.int b), .un, .un], t⟩) (x := .fr (.int b.natAbs)) (un_ok (d := .int b) rfl ?_) (by show 1 < 4; decide)
    show okI _ = _
    rw [eb]; rfl
  let m : Int := if (b.natAbs : Int) > (a.natAbs : Int) then (b.natAbs : Int) else (a.natAbs : Int)
  have hmm : (m.natAbs = a.natAbs ∨ m.natAbs = b.natAbs) ∧ a.natAbs ≤ m.natAbs ∧ b.natAbs ≤ m.natAbs := by
    by_cases h : (b.natAbs : Int) > (a.natAbs : Int)
    · have e : m = (b.natAbs : Int) := if_pos h
      clear ha hb
      rw [e]; omega
    · have e : m = (a.natAbs : Int) := if_neg h
      clear ha hb
      rw [e]; omega
  have hm : m.natAbs < 2 ^ 9000 := by
    rcases hmm.1 with h | h <;> (rw [h]; assumption)
  have hL := bits_le hm
  have hx : a.natAbs < 2 ^ Builtin.Int.intBits m := Nat.lt_of_le_of_lt hmm.2.1 (bits_lt m)
  have hy : b.natAbs < 2 ^ Builtin.Int.intBits m := Nat.lt_of_le_of_lt hmm.2.2 (bits_lt m)
  generalize hLL : Builtin.Int.intBits m = L at *
  clear ha hb hm
  have hr : (bnd (consF (bin dAdd (bin dMul (cst (.int 2)) (un dBits (dat (bin dMax2 (var 0) (var 1))))) (cst (.int 2))) nilF) rng1) (st .un .un a.natAbs b.natAbs) = .ok ((List.range (2 * L + 2)).map fun k => PyData.int (k : Nat)) (st .un .un a.natAbs b.natAbs) := by
    have e : consF (bin dAdd (bin dMul (cst (.int 2)) (un dBits (dat (bin dMax2 (var 0) (var 1))))) (cst (.int 2))) nilF (st .un .un a.natAbs b.natAbs) = .ok [.int ((2 * L + 2 : Nat) : Int)] (st .un .un a.natAbs b.natAbs) := by
      refine cons_ok (x := .fr (.int ((2 * L + 2 : Nat) : Int))) (bin_ok (x := .fr (.int (2 * (L : Int)))) (y := .fr (.int 2)) (s1 := st .un .un a.natAbs b.natAbs) (bin_ok (x := .fr (.int 2)) (y := .fr (.int (L : Int))) rfl (un_ok (d := .int m) (s1 := st .un .un a.natAbs b.natAbs) rfl (by show okI ((Builtin.Int.intBits m : Nat) : Int) = _; rw [hLL]; rfl)) ?_) rfl ?_) rfl
      · exact dMul_ii (n := 64) (m := 64) (sz_lit) (by show (L : Int).natAbs < 2 ^ 64; rw [Int.natAbs_natCast]; exact Nat.lt_of_le_of_lt hL (by decide)) (by decide)
      · show okI _ = _
        rw [show (2 * (L : Int) + 2) = ((2 * L + 2 : Nat) : Int) by omega]; rfl
    rw [bnd_ok e]
    exact rng1_nat (by omega) _
  have go : ∀ (k i x y : Nat) (u v : Sl), Eu L (Nat.gcd a.natAbs b.natAbs) i x y → i + k = 2 * L + 2 → ∀ l : List Nat, l.length = k → ∃ u' v' y', forGo (nmA 2) (seqF (ifF (tst (bin dEq (var 1) (cst (.int 0)))) (pur .bk) (pur .nx)) (seqF (setF 3 (bin dMod (un dInt (peek 0)) (var 1))) (seqF (setF 0 (var 1)) (setF 1 (var 3))))) (l.map fun k => PyData.int (k : Nat)) (st u v x y) = .ok .nx (st u' v' (Nat.gcd a.natAbs b.natAbs) y') := by
    intro k
    induction k with
    | zero =>
      intro i x y u v eu hi l hl
      rw [List.eq_nil_of_length_eq_zero hl]
      have := eu.end (by omega)
      subst this
      exact ⟨u, v, y, rfl⟩
    | succ k ih =>
      intro i x y u v eu hi l hl
      match l, hl with
      | j :: l, hl =>
        by_cases hy0 : y = 0
        · subst hy0
          have ex : x = Nat.gcd a.natAbs b.natAbs := by rw [← eu.g, Nat.gcd_zero_right]
          subst ex
          exact ⟨.fr (.int (j : Nat)), v, 0, rfl⟩
        · obtain ⟨u', v', y', e⟩ := ih (i + 1) y (x % y) (.fr (.int (j : Nat))) (.fr (.int ((x % y : Nat) : Int))) (eu.next hy0) (by omega) l (by rw [List.length_cons] at hl; omega)
          refine ⟨u', v', y', ?_⟩
          rw [List.map_cons, forGo]
          show (match (seqF (ifF (tst (bin dEq (var 1) (cst (.int 0)))) (pur .bk) (pur .nx)) (seqF (setF 3 (bin dMod (un dInt (peek 0)) (var 1))) (seqF (setF 0 (var 1)) (setF 1 (var 3))))) (st (.fr (.int (j : Nat))) v x y) with | .ok .nx s2 => _ | .ok .ct s2 => _ | .ok .bk s2 => _ | .ok (.rt x) s2 => _ | .err c fs t => _ | .no => _) = _
          have hd : decide ((y : Int) = 0) = false := decide_eq_false (by omega)
          have b1 : ifF (tst (bin dEq (var 1) (cst (.int 0)))) (pur .bk) (pur .nx) (st (.fr (.int (j : Nat))) v x y) = .ok .nx (st (.fr (.int (j : Nat))) v x y) := by
            have q : tst (bin dEq (var 1) (cst (.int 0))) (st (.fr (.int (j : Nat))) v x y) = .ok (decide ((y : Int) = 0)) (st (.fr (.int (j : Nat))) v x y) := rfl
            rw [if_ok q, hd]; rfl
          have b2 : setF 3 (bin dMod (un dInt (peek 0)) (var 1)) (st (.fr (.int (j : Nat))) v x y) = .ok .nx (st (.fr (.int (j : Nat))) (.fr (.int ((x % y : Nat) : Int))) x y) := by
            refine set_ok (s1 := st (.fr (.int (j : Nat))) v x y) (x := .fr (.int ((x % y : Nat) : Int))) (bin_ok (x := .fr (.int x)) (y := .fr (.int y)) rfl rfl ?_) (by show 3 < 4; decide)
            show (if _ then _ else _) = _
            rw [if_pos (by omega), ← Int.natCast_emod]; rfl
          rw [seq_ok b1, seq_ok b2]
          exact e
  refine (congrArg fin (seq_ok (s1 := st (go (2 * L + 2) 0 a.natAbs b.natAbs .un .un ⟨rfl, .inr (.inl ⟨rfl, hx, hy⟩)⟩ (by omega) (List.range (2 * L + 2)) List.length_range).choose (go (2 * L + 2) 0 a.natAbs b.natAbs .un .un ⟨rfl, .inr (.inl ⟨rfl, hx, hy⟩)⟩ (by omega) (List.range (2 * L + 2)) List.length_range).choose_spec.choose (Nat.gcd a.natAbs b.natAbs) (go (2 * L + 2) 0 a.natAbs b.natAbs .un .un ⟨rfl, .inr (.inl ⟨rfl, hx, hy⟩)⟩ (by omega) (List.range (2 * L + 2)) List.length_range).choose_spec.choose_spec.choose) ?_)).trans ?_
  · unfold forF
    rw [bnd_ok hr]
    exact (go (2 * L + 2) 0 a.natAbs b.natAbs .un .un ⟨rfl, .inr (.inl ⟨rfl, hx, hy⟩)⟩ (by omega) (List.range (2 * L + 2)) List.length_range).choose_spec.choose_spec.choose_spec
  · exact fin_retv rfl rfl
theorem e_lowestL {d : PyData} {xs : List Int} (h : Row d xs) (hl : xs.length ≤ lim) (hg : 0 < gN xs) (hs : ∀ x ∈ xs, x.natAbs < 2 ^ 9000) (t : Tps) : pLowestL [d] t = .ok (.fr (rowT (Dt.lowL xs))) t := by
  let st : Sl → Nat → Pst := fun u g => ⟨[.fr d, .fr (.int g), u], t⟩
  show fin (seqF _ _ ⟨[.fr d, .un, .un], t⟩) = _
  refine (congrArg fin (seq_ok (s1 := st .un 0) rfl)).trans ?_
  obtain ⟨u', e, hi, hu⟩ := for_fold (s0 := st .un 0) (A := nmA 2) (B := setF 1 (callF 2 pCommonL (consF (var 1) (consF (var 2) nilF)))) (Fi := itF (var 0)) PyData.int st (fun g n => Nat.gcd g n.natAbs) (fun g => g < 2 ^ 9000) (xs := xs) (u := .un) (b := 0) (it_row h _) rfl (Nat.two_pow_pos _)
    fun a ha u b hb => ⟨st (.fr (.int a)) b, rfl, set_ok (x := .fr (.int (Nat.gcd b a.natAbs : Nat))) (s1 := st (.fr (.int a)) b) (call_eq (s1 := st (.fr (.int a)) b) (ds := [.int b, .int a]) rfl rfl (by
        have z := e_commonL (a := (b : Int)) (b := a) (by rw [Int.natAbs_natCast]; exact hb) (hs a ha) t
        rw [Int.natAbs_natCast] at z
        exact z)) (by show 1 < 3; decide), by
      rcases Nat.eq_zero_or_pos b with hb0 | hb0
      · subst hb0; rw [Nat.gcd_zero_left]; exact hs a ha
      · exact Nat.lt_of_le_of_lt (Nat.gcd_le_left _ hb0) hb⟩
  refine (congrArg fin (seq_ok e)).trans ?_
  let s1 : Pst := st u' (gN xs)
  refine fin_ret (s1 := s1) (un_ok (dat_ok (x := .ow (iL (Dt.lowL xs))) ?_) rfl) rfl
  unfold Dt.lowL
  rw [map_div]
  refine lc_one (s := s1) PyData.int (fun x => .int (x / Dt.gcdL xs)) (it_row h _) hl (by show 2 < 3; decide) hu fun a _ => ⟨.fr (.int (a / Dt.gcdL xs)), ?_, rfl⟩
  refine bin_ok (x := .fr (.int a)) (y := .fr (.int (gN xs))) rfl rfl ?_
  show (if _ then _ else _) = _
  have hg' : 0 < (gN xs : Int) := by omega
  rw [if_pos ⟨hg', by rw [Int.natAbs_natCast]; exact (Nat.log2_lt (by omega)).mpr hi⟩]
  rfl
/-! ### what the kinds tell -/
theorem e_isInteger {d : PyData} (h : noTape d = true) (t : Tps) : pIsInteger [d] t = .ok (.fr (.bool (Dt.dInt d))) t := by
  cases d <;> first | rfl | (cases h; done)
theorem bools_of : ∀ bs : List Bool, Pu.boolsOf (bs.map PyData.bool) = some bs
  | [] => rfl
  | b :: r => by show (Pu.boolsOf (r.map PyData.bool)).map _ = _; rw [bools_of r]; rfl
theorem noTapes_mem : ∀ {ds : List PyData}, noTapes ds = true → ∀ d ∈ ds, noTape d = true
  | [], _, _, h => by cases h
  | e :: ds, n, d, h => by
    have n' : (noTape e && noTapes ds) = true := n
    rw [Bool.and_eq_true] at n'
    rcases List.mem_cons.mp h with rfl | h
    · exact n'.1
    · exact noTapes_mem n'.2 d h
theorem e_isRow {n : Int} {d : PyData} (h : noTape d = true) (hl : ∀ l, d = .tuple l → l.length ≤ lim) (t : Tps) : pIsRow [.int n, d] t = .ok (.fr (.bool (Dt.dRow n d))) t := by
  cases d with
  | tuple ds =>
    have hn : noTapes ds = true := h
    let s : Pst := ⟨[.fr (.int n), .fr (.tuple ds), .un], t⟩
    refine fin_ret (s := s) (s1 := s) (x := .fr (.bool (decide ((ds.length : Int) = n) && ds.all Dt.dInt))) ?_ rfl
    have a1 : bin dEq (un dLen (peek 1)) (var 0) s = .ok (.fr (.bool (decide ((ds.length : Int) = n)))) s := rfl
    have a2 : un dAll (dat (lcF [2] (nmA 2) (itF (var 1)) yesT (callF 1 pIsInteger (consF (var 2) nilF)))) s = .ok (.fr (.bool (ds.all Dt.dInt))) s := by
      refine un_ok (d := .list ((ds.map Dt.dInt).map PyData.bool)) (dat_ok (x := .ow _) ?_) ?_
      · rw [List.map_map]
        exact lc_one (s := s) (xs := ds) id (fun x => .bool (Dt.dInt x)) (by rw [List.map_id]; rfl) (hl ds rfl) (by show 2 < 3; decide) rfl fun a ha => ⟨.fr (.bool (Dt.dInt a)), call_eq (s1 := put 2 (.fr a) s) (ds := [a]) rfl rfl (e_isInteger (noTapes_mem hn a ha) t), rfl⟩
      · show (match Pu.boolsOf _ with | some bs => _ | none => _) = _
        rw [bools_of]
        show okB ((ds.map Dt.dInt).all id) = _
        rw [List.all_map]; rfl
    have a0 : un (dIsi "tuple") (peek 1) s = .ok (.fr (.bool true)) s := rfl
    unfold andV
    rw [bnd_ok a0]
    show (bnd _ _) s = _
    rw [bnd_ok a1]
    cases hc : decide ((ds.length : Int) = n) with
    | false => rfl
    | true => exact a2
  | _ => first | rfl | (cases h; done)
theorem e_demand (b : Bool) (w : Str) (t : Tps) : pDemand [.bool b, .str w] t = if b then .ok (.fr .none) t else .err "NotUsable" [("at", .int (-1)), ("word", .str w)] t := by
  cases b <;> rfl
end K23
end SecPb
section SecPc
set_option Elab.async false
set_option linter.all false
set_option maxRecDepth 100000
set_option maxHeartbeats 4000000
namespace K23
open PySem PySem.Spec Pu
theorem dIx_last {xs : List Int} {b : Int} : dIx (rowT (xs ++ [b])) (.int (-1)) = .ok (.fr (.int b)) := by
  have hl : (iL (xs ++ [b])).length = xs.length + 1 := by unfold iL; rw [List.length_map, List.length_append]; rfl
  have e : L2.atI (iL (xs ++ [b])) (-1) = some (.int b) := by
    unfold L2.atI L2.ixN
    rw [if_neg (by decide), hl, if_pos (by omega)]
    show (iL (xs ++ [b]))[_]? = _
    rw [show (-1 + ((xs.length + 1 : Nat) : Int)).toNat = xs.length by omega]
    unfold iL
    rw [List.map_append, List.getElem?_append_right (by rw [List.length_map]; exact Nat.le_refl _), List.length_map, Nat.sub_self]
    rfl
  show (match L2.atI (iL (xs ++ [b])) (-1) with | some d => R1.ok (.fr d) | none => .no) = _
  rw [e]
theorem cutD_init {α : Type} (xs : List α) (b : α) : cutD (xs ++ [b]) none (some (-1)) = xs := by
  unfold cutD HT.sIx
  rw [List.length_append]
  show ((xs ++ [b]).drop 0).take ((if (-1 : Int) < 0 then ((-1 : Int) + ((xs.length + 1 : Nat) : Int)).toNat else _) - 0) = _
  rw [if_pos (by decide), show ((-1 : Int) + ((xs.length + 1 : Nat) : Int)).toNat = xs.length by omega]
  simp
theorem e_isLowest {xs : List Int} {b : Int} (t : Tps) : pIsLowest [rowT (xs ++ [b])] t = .ok (.fr (.bool (Dt.lowB (xs ++ [b])))) t := by
  let s : Pst := ⟨[.fr (rowT (xs ++ [b]))], t⟩
  refine fin_ret (s := s) (s1 := s) (x := .fr (.bool (Dt.lowB (xs ++ [b])))) ?_ rfl
  have a0 : bin dGe (ixv 0 (un dNeg (dat (cst (.int 1))))) (cst (.int 1)) s = .ok (.fr (.bool (decide (1 ≤ b)))) s := bin_ok (x := .fr (.int b)) (y := .fr (.int 1)) (ixv_fr (d := rowT (xs ++ [b])) (y := .fr (.int (-1))) rfl rfl rfl dIx_last) rfl rfl
  have a1 : bin dEq (callF 1 pCommonDivisor (consF (var 0) nilF)) (cst (.int 1)) s = .ok (.fr (.bool (decide ((gN (xs ++ [b]) : Int) = 1)))) s := bin_ok (x := .fr (.int (gN (xs ++ [b])))) (y := .fr (.int 1)) (call_eq (s1 := s) (ds := [rowT (xs ++ [b])]) rfl rfl (e_common (row_t _) t)) rfl rfl
  unfold andV
  rw [bnd_ok a0]
  have hlast : (xs ++ [b]).getLastD 0 = b := by simp
  have hB : Dt.lowB (xs ++ [b]) = (decide (1 ≤ b) && decide ((gN (xs ++ [b]) : Int) = 1)) := by unfold Dt.lowB; rw [hlast]; rfl
  rw [hB]
  cases hc : decide (1 ≤ b) with
  | false => rfl
  | true => exact a1
theorem rowT_split {n : Int} {d : PyData} (h0 : 1 ≤ n) (h : Dt.dRow n d = true) : ∃ xs b, d = rowT (xs ++ [b]) ∧ ((xs.length : Int) + 1 = n) := by
  obtain ⟨ns, rfl, e⟩ := Dt.row_ints h
  have hne : ns ≠ [] := fun z => by rw [z] at e; simp at e; omega
  refine ⟨ns.dropLast, ns.getLast hne, by unfold rowT iL; rw [List.dropLast_concat_getLast], ?_⟩
  rw [List.length_dropLast]
  have : 0 < ns.length := List.length_pos_iff.mpr hne
  omega
theorem e_isPlace {n : Int} {m : PyData} {d : PyData} (h0 : 0 ≤ n) (h : noTape d = true) (hl : ∀ l, d = .tuple l → l.length ≤ lim) (t : Tps) : pIsPlace [.tuple [.int n, m], d] t = .ok (.fr (.bool (Dt.dLow (n + 1) d))) t := by
  let s : Pst := ⟨[.fr (.tuple [.int n, m]), .fr d], t⟩
  refine fin_ret (s := s) (s1 := s) (x := .fr (.bool (Dt.dLow (n + 1) d))) ?_ rfl
  have a0 : callF 2 pIsRow (consF (bin dAdd (ixv 0 (cst (.int 0))) (cst (.int 1))) (consF (var 1) nilF)) s = .ok (.fr (.bool (Dt.dRow (n + 1) d))) s := by
    refine call_eq (s1 := s) (ds := [.int (n + 1), d]) ?_ rfl (e_isRow h hl t)
    exact cons_ok (x := .fr (.int (n + 1))) (bin_ok (x := .fr (.int n)) (y := .fr (.int 1)) (ixv_fr (d := .tuple [.int n, m]) (y := .fr (.int 0)) rfl rfl rfl dIx_zeroT) rfl rfl) (cons_ok (x := .fr d) rfl rfl)
  unfold andV
  rw [bnd_ok a0]
  unfold Dt.dLow
  cases hr : Dt.dRow (n + 1) d with
  | false => rfl
  | true =>
    obtain ⟨xs, b, rfl, _⟩ := rowT_split (by omega) hr
    show callF 1 pIsLowest (consF (var 1) nilF) s = _
    refine call_eq (s1 := s) (ds := [rowT (xs ++ [b])]) rfl rfl ?_
    have e := e_isLowest (xs := xs) (b := b) t
    rw [e]
    show _ = RT.ok (.fr (.bool (true && Dt.lowB (Dt.intsOf (iL (xs ++ [b])))))) t
    rw [show Dt.intsOf (iL (xs ++ [b])) = xs ++ [b] from Dt.intsOf_map _]
    rfl
theorem e_fitsBody {B : List (List Int)} {d : PyData} (hB : 1 ≤ B.length) (h : noTape d = true) (hl : ∀ l, d = .tuple l → l.length ≤ lim) (t : Tps) : pFitsBody [bodyD B, d] t = .ok (.fr (.bool (Dt.dLow (B.length : Nat) d))) t := by
  let s : Pst := ⟨[.fr (bodyD B), .fr d], t⟩
  refine fin_ret (s := s) (s1 := s) (x := .fr (.bool (Dt.dLow (B.length : Nat) d))) ?_ rfl
  refine call_eq (s1 := s) (ds := [.tuple [.int ((B.length : Nat) - 1), .int 0], d]) ?_ rfl ?_
  · refine cons_ok (x := .fr (.tuple [.int ((B.length : Nat) - 1), .int 0])) (s1 := s) (mkT_ok (ds := [.int ((B.length : Nat) - 1), .int 0]) (cons_ok (x := .fr (.int ((B.length : Nat) - 1))) (s1 := s) ?_ rfl) (by show 2 ≤ 100000; decide)) (cons_ok (x := .fr d) (s1 := s) rfl rfl)
    refine bin_ok (x := .fr (.int (B.length : Nat))) (y := .fr (.int 1)) (un_ok (d := bodyD B) rfl ?_) rfl rfl
    show okI (((B.map rowT).length : Nat) : Int) = _
    rw [List.length_map]; rfl
  · have z := e_isPlace (n := (B.length : Nat) - 1) (m := .int 0) (d := d) (by omega) h hl t
    rw [show ((B.length : Nat) : Int) - 1 + 1 = (B.length : Nat) by omega] at z
    exact z
def topsZ (S : List (List Int)) (way : List Int) : List Int := S.map fun r => dotZ way r
def bump : List Int → Int → List Int | x :: xs, v => (x + v) :: xs | [], _ => []
def wayZ (c ps : List Int) (b : Int) : List Int := minusZ ps (c.map fun x => b * x)
def sgnZ (D : Int) : Int := if D > 0 then 1 else -1
/-- what weights_made lowers -/
def rawZ (D : Int) (S : List (List Int)) (c ps : List Int) (b : Int) : List Int := (bump (topsZ S (wayZ c ps b)) (b * D) ++ [b * D]).map fun x => sgnZ D * x
theorem rowsMap (xs : List Int) (f : Int → Int) : iL (xs.map f) = xs.map fun x => .int (f x) := by unfold iL; rw [List.map_map]; rfl
theorem e_weightsMade {n m k : Nat} {B S : List (List Int)} {c ps : List Int} {s0 : List Int} {S' : List (List Int)} {D b : Int} (hS : S = s0 :: S') (hB : B.head? = some c) (hslo : ∀ t, pSlopesOf [bodyD B] t = .ok (.fr (.tuple [.int D, .list (S.map rowL)])) t)
    (hc : c.length ≤ 10) (hps : ps.length ≤ 10) (hSl : S.length ≤ 10) (sc : AllSz n c) (sb : Sz n b) (sD : Sz n D) (sw : AllSz m (wayZ c ps b)) (sS : ∀ r ∈ S, AllSz k r) (sT : AllSz m (bump (topsZ S (wayZ c ps b)) (b * D) ++ [b * D])) (hn : n ≤ 1000) (hm : m ≤ 1000) (hk : k ≤ 1000)
    (hg : 0 < gN (rawZ D S c ps b)) (hg2 : gN (rawZ D S c ps b) < 2 ^ 9000) (t : Tps) : pWeightsMade [bodyD B, rowT (ps ++ [b])] t = .ok (.fr (rowT (Dt.lowL (rawZ D S c ps b)))) t := by
  have hlim : ∀ {k : Nat}, k ≤ 12 → k ≤ lim := fun h => Nat.le_trans h (by decide)
  let P : PyData := rowT (ps ++ [b])
  let R : PyData := .list (S.map rowL)
  let W : List Int := wayZ c ps b
  let T0 : List Int := topsZ S W
  let T1 : List Int := bump T0 (b * D)
  have hT0 : T0 = dotZ W s0 :: topsZ S' W := by show topsZ S W = _; rw [hS]; rfl
  have hT1 : T1 = (dotZ W s0 + b * D) :: topsZ S' W := by show bump T0 (b * D) = _; rw [hT0]; rfl
  let q0 : Pst := ⟨[.fr (bodyD B), .fr P, .un, .un, .un, .un, .un, .un, .un, .un], t⟩
  let q1 : Pst := ⟨[.fr (bodyD B), .fr P, .fr (.int D), .fr R, .un, .un, .un, .un, .un, .un], t⟩
  let q2 : Pst := ⟨[.fr (bodyD B), .fr P, .fr (.int D), .fr R, .fr (.int b), .un, .un, .un, .un, .un], t⟩
  let q3 : Pst := ⟨[.fr (bodyD B), .fr P, .fr (.int D), .fr R, .fr (.int b), .ow (iL W), .un, .un, .un, .un], t⟩
  let q4 : Pst := ⟨[.fr (bodyD B), .fr P, .fr (.int D), .fr R, .fr (.int b), .fr (rowL W), .un, .un, .un, .un], t⟩
  let q5 : Pst := ⟨[.fr (bodyD B), .fr P, .fr (.int D), .fr R, .fr (.int b), .fr (rowL W), .un, .ow (iL T0), .un, .un], t⟩
  let q6 : Pst := ⟨[.fr (bodyD B), .fr P, .fr (.int D), .fr R, .fr (.int b), .fr (rowL W), .un, .ow (iL T1), .un, .un], t⟩
  let q7 : Pst := ⟨[.fr (bodyD B), .fr P, .fr (.int D), .fr R, .fr (.int b), .fr (rowL W), .un, .ow (iL T1), .un, .fr (.int (sgnZ D))], t⟩
  let q8 : Pst := ⟨[.fr (bodyD B), .fr P, .fr (.int D), .fr R, .fr (.int b), .fr (rowL W), .un, .fr (rowL T1), .un, .fr (.int (sgnZ D))], t⟩
  have hbD : dMul (.int b) (.int D) = okI (b * D) := dMul_ii sb sD (by omega)
  show fin (seqF _ _ q0) = _
  refine (congrArg fin (seq_ok (s1 := q1) (asg_ok (s1 := q0) (x := .fr (.tuple [.int D, R])) (call_eq (s1 := q0) (ds := [bodyD B]) rfl rfl (hslo t)) rfl))).trans ?_
  refine (congrArg fin (seq_ok (s1 := q2) (set_ok (s1 := q1) (x := .fr (.int b)) (ixv_fr (d := P) (y := .fr (.int (-1))) rfl rfl rfl dIx_last) (by show 4 < 10; decide)))).trans ?_
  have hbody : dIx (bodyD B) (.int 0) = .ok (.fr (rowT c)) := by
    cases hB' : B with
    | nil => rw [hB'] at hB; cases hB
    | cons x xs =>
      rw [hB'] at hB
      cases hB
      exact dIx_zeroT
  refine (congrArg fin (seq_ok (s1 := q3) (set_ok (s1 := q2) (x := .ow (iL W)) (call_eq (s1 := q2) (ds := [rowT ps, rowL (c.map fun x => b * x)]) (cons_ok (x := .fr (rowT ps)) (s1 := q2) ?_ (cons_ok (x := .ow (iL (c.map fun x => b * x))) (s1 := q2) ?_ rfl)) rfl (e_minus (row_t ps) (row_l _) (hlim (by omega)) t)) (by show 5 < 10; decide)))).trans ?_
  · show ((R1.ok (.fr (.tuple (cutD (iL (ps ++ [b])) none (some (-1)))))).m q2 : Rs OV) = _
    rw [show iL (ps ++ [b]) = iL ps ++ [.int b] from List.map_append, cutD_init]
    rfl
  · rw [rowsMap]
    refine lc_one (s := q2) (xs := c) PyData.int (fun x => .int (b * x)) ?_ (hlim (by omega)) (by show 6 < 10; decide) rfl fun a ha => ⟨.fr (.int (b * a)), bin_ok (x := .fr (.int b)) (y := .fr (.int a)) rfl rfl (dMul_ii sb (sc a ha) (by omega)), rfl⟩
    exact it_ok (ixv_cst (d := bodyD B) rfl hbody) rfl
  have hWl : W.length ≤ 10 := by show (wayZ c ps b).length ≤ 10; unfold wayZ minusZ; rw [List.length_map, List.length_zip]; omega
  refine (congrArg fin (seq_ok (s1 := q5) (set_ok (s1 := q4) (x := .ow (iL T0)) ?_ (by show 7 < 10; decide)))).trans ?_
  · have eT : iL T0 = S.map fun r => .int (dotZ W r) := by show iL (S.map _) = _; unfold iL; rw [List.map_map]; rfl
    rw [eT]
    have one : ∀ (s : Pst) (r : List Int), r ∈ S → consF (var 5) (consF (var 8) nilF) s = .ok [rowL W, rowL r] (put 8 (.fr (rowL r)) q4) → s.t = t → callF 2 pDot (consF (var 5) (consF (var 8) nilF)) s = .ok (.fr (.int (dotZ W r))) (put 8 (.fr (rowL r)) q4) := fun s r hr e _ =>
      call_eq (s1 := put 8 (.fr (rowL r)) q4) e rfl (e_dot (row_l W) (row_l r) (hlim (by omega)) sw (sS r hr) (by omega) t)
    exact lc_frz (s := q3) (s' := q4) (xs := S) rowL (fun r => .int (dotZ W r)) rfl (by rw [hS]; exact List.cons_ne_nil _ _) (hlim (by omega)) (by show 8 < 10; decide) rfl rfl (fun r hr => ⟨_, one _ r hr rfl rfl, rfl⟩) fun r hr => ⟨_, one _ r hr rfl rfl, rfl⟩
  refine (congrArg fin (seq_ok (s1 := q6) ?_)).trans ?_
  · have e1 : bin dAdd (ixv 7 (cst (.int 0))) (bin dMul (var 4) (var 2)) q5 = .ok (.fr (.int (dotZ W s0 + b * D))) q5 := by
      refine bin_ok (x := .fr (.int (dotZ W s0))) (y := .fr (.int (b * D))) (s1 := q5) (ixv_ow (l := iL T0) (y := .fr (.int 0)) rfl rfl rfl ?_) (bin_ok (x := .fr (.int b)) (y := .fr (.int D)) rfl rfl hbD) rfl
      rw [hT0]; exact dIx_zero
    show bnd _ _ q5 = _
    rw [bnd_ok e1]
    show (match (setAt (.int 0) (.int (dotZ W s0 + b * D)) (iL T0)) with | some l' => _ | none => _) = _
    have e2 : setAt (.int 0) (.int (dotZ W s0 + b * D)) (iL T0) = some (iL T1) := by
      rw [hT0, hT1]
      show (L2.ixN (iL (dotZ W s0 :: topsZ S' W)).length 0).map _ = _
      unfold L2.ixN
      rw [if_pos (by decide), if_pos (by unfold iL; rw [List.length_map, List.length_cons]; omega)]
      rfl
    rw [e2]
    show (if _ then _ else _) = _
    have hl1 : (iL T1).length ≤ 12 := by
      have z : S.length = S'.length + 1 := by rw [hS]; rfl
      rw [hT1]; unfold iL topsZ; rw [List.length_map, List.length_cons, List.length_map]
      omega
    rw [if_pos (hlim hl1)]
    rfl
  refine (congrArg fin (seq_ok (s1 := q7) (set_ok (s1 := q6) (x := .fr (.int (sgnZ D))) ?_ (by show 9 < 10; decide)))).trans ?_
  · have e : iteV (tst (bin dGt (var 2) (cst (.int 0)))) (cst (.int 1)) (un dNeg (dat (cst (.int 1)))) q6 = (if decide (0 < D) then cst (.int 1) else un dNeg (dat (cst (.int 1)))) q6 := rfl
    rw [e]
    unfold sgnZ
    by_cases h : 0 < D
    · rw [decide_eq_true h, if_pos rfl, if_pos h]; rfl
    · rw [decide_eq_false h, if_neg Bool.false_ne_true, if_neg h]; rfl
  have hraw : (rawZ D S c ps b).length ≤ 12 := by
    show ((T1 ++ [b * D]).map _).length ≤ 12
    rw [List.length_map, List.length_append, hT1]
    show (topsZ S' W).length + 1 + 1 ≤ 12
    unfold topsZ
    rw [List.length_map]
    have : S.length = S'.length + 1 := by rw [hS]; rfl
    omega
  refine fin_ret (s1 := q8) (call_eq (s1 := q8) (ds := [rowL (rawZ D S c ps b)]) (cons_ok (x := .ow (iL (rawZ D S c ps b))) (s1 := q8) ?_ rfl) rfl (e_lowest (row_l _) (hlim hraw) hg hg2 t)) rfl
  have hT1l : (T1 ++ [b * D]).length ≤ 12 := by
    have : (rawZ D S c ps b).length = (T1 ++ [b * D]).length := by show ((T1 ++ [b * D]).map _).length = _; rw [List.length_map]
    omega
  have hs1 : Sz 1 (sgnZ D) := by unfold sgnZ Sz; split <;> decide
  show _ = Rs.ok (OV.ow (iL ((T1 ++ [b * D]).map fun x => sgnZ D * x))) q8
  rw [rowsMap]
  refine lc_one (s := q8) (xs := T1 ++ [b * D]) PyData.int (fun x => .int (sgnZ D * x)) ?_ (hlim hT1l) (by show 6 < 10; decide) rfl fun a ha => ⟨.fr (.int (sgnZ D * a)), bin_ok (x := .fr (.int (sgnZ D))) (y := .fr (.int a)) rfl rfl (dMul_ii hs1 (sT a ha) (by omega)), rfl⟩
  have e : bin dAdd (var 7) (mkL (consF (bin dMul (var 4) (var 2)) nilF)) q7 = .ok (.ow (iL T1 ++ [.int (b * D)])) q8 := by
    refine bin_ok (x := .fr (rowL T1)) (y := .ow [.int (b * D)]) (s1 := q8) rfl (mkL_ok (ds := [.int (b * D)]) (cons_ok (x := .fr (.int (b * D))) (s1 := q8) (bin_ok (x := .fr (.int b)) (y := .fr (.int D)) rfl rfl hbD) rfl) (by show 1 ≤ 100000; decide)) ?_
    show fit _ _ = _
    unfold fit
    rw [if_pos (by
      show (iL T1).length + 1 ≤ lim
      have z := hT1l
      rw [List.length_append] at z
      unfold iL
      rw [List.length_map]
      exact hlim z)]
  refine it_ok e ?_
  show Rs.ok (iL T1 ++ [.int (b * D)]) q8 = Rs.ok (iL (T1 ++ [b * D])) q8
  unfold iL
  rw [List.map_append]
  rfl
end K23
end SecPc
section SecPd
set_option Elab.async false
set_option linter.all false
set_option maxRecDepth 100000
set_option maxHeartbeats 4000000
namespace K23
open PySem PySem.Spec Pu
theorem AllSz.nil {n : Nat} : AllSz n [] := fun _ h => by cases h
theorem AllSz.cons {n : Nat} {x : Int} {xs : List Int} (h : Sz n x) (t : AllSz n xs) : AllSz n (x :: xs) := fun y hy => by
  rcases List.mem_cons.mp hy with rfl | hy
  · exact h
  · exact t y hy
theorem AllSz.mono {n m : Nat} {xs : List Int} (h : AllSz n xs) (l : n ≤ m) : AllSz m xs := fun x hx => (h x hx).mono l
theorem sz_le {n m : Nat} {x : Int} (h : Sz n x) (l : n ≤ m) : Sz m x := h.mono l
theorem Sz.zero {n : Nat} : Sz n 0 := Nat.two_pow_pos n
/-- a body's corners, in the plane or in space -/
inductive Bo (n : Nat) : List (List Int) → Prop
  | two {x0 y0 x1 y1 x2 y2 : Int} : Sz n x0 → Sz n y0 → Sz n x1 → Sz n y1 → Sz n x2 → Sz n y2 → Bo n [[x0, y0], [x1, y1], [x2, y2]]
  | three {x0 y0 z0 x1 y1 z1 x2 y2 z2 x3 y3 z3 : Int} : Sz n x0 → Sz n y0 → Sz n z0 → Sz n x1 → Sz n y1 → Sz n z1 → Sz n x2 → Sz n y2 → Sz n z2 → Sz n x3 → Sz n y3 → Sz n z3 → Bo n [[x0, y0, z0], [x1, y1, z1], [x2, y2, z2], [x3, y3, z3]]
/-- what slopes_of gives -/
structure Slo (B : List (List Int)) (d : Nat) : Prop where
  run : ∀ t, pSlopesOf [bodyD B] t = .ok (.fr (.tuple [.int (detZ B), .list ((slopesZ B).map rowL)])) t
  len : (slopesZ B).length = d + 1
  szD : Sz 300 (detZ B)
  szS : ∀ r ∈ slopesZ B, r.length = d ∧ AllSz 200 r
  blen : B.length = d + 1
  rows : ∀ r ∈ B, r.length = d ∧ AllSz 100 r
  d2 : d = 2 ∨ d = 3
local macro_rules | `(tactic| walk_at "v allsz") => `(tactic| repeat (first | exact AllSz.nil | refine AllSz.cons (sz_le (by first | exact Sz.zero | walk_at "v sz") (by decide)) ?_))
local macro_rules | `(tactic| walk_at "v ble") => `(tactic| exact Nat.le_of_ble_eq_true rfl)
theorem slo_two {x0 y0 x1 y1 x2 y2 : Int} (a0 : Sz 60 x0) (b0 : Sz 60 y0) (a1 : Sz 60 x1) (b1 : Sz 60 y1) (a2 : Sz 60 x2) (b2 : Sz 60 y2) : Slo [[x0, y0], [x1, y1], [x2, y2]] 2 := by
  have e1 : AllSz 200 [x1 - x0, y1 - y0] := by walk_at "v allsz"
  have e2 : AllSz 200 [y2 - y0, -(x2 - x0)] := by walk_at "v allsz"
  have hr : ∀ t, pRisesOf [.list ((edgesZ [[x0, y0], [x1, y1], [x2, y2]]).map rowL)] t = .ok (.ow ((risesZ (edgesZ [[x0, y0], [x1, y1], [x2, y2]])).map rowL)) t := fun t => e_rises2 (a := x1 - x0) (b := y1 - y0) (c := x2 - x0) (d := y2 - y0) t
  refine ⟨fun t => e_slopes' (n := 200) (e0 := [x1 - x0, y1 - y0]) (r0 := [y2 - y0, -(x2 - x0)]) (es := [[x2 - x0, y2 - y0]]) (R := [[-(y1 - y0), x1 - x0]]) (by walk_at "v ble") (by walk_at "v ble") (by walk_at "v ble") (fun r h => ?_) rfl rfl (fun r h => ?_) (by walk_at "v ble") hr e1 e2 (by decide) t, rfl, ?_, fun r h => ?_, rfl, fun r h => ?_, .inl rfl⟩
  · simp only [List.mem_cons, List.not_mem_nil, or_false] at h
    rcases h with rfl | rfl <;> walk_at "v ble"
  · simp only [List.mem_cons, List.not_mem_nil, or_false] at h
    rcases h with rfl | rfl <;> rfl
  · show Sz 300 ((x1 - x0) * (y2 - y0) + ((y1 - y0) * (-(x2 - x0)) + 0))
    exact sz_le (Sz.add (by walk_at "v sz") (Sz.add (by walk_at "v sz") (Sz.zero (n := 1)))) (by decide)
  · have h' : r ∈ [[-((y2 - y0) + (-(y1 - y0) + 0)), -((-(x2 - x0)) + ((x1 - x0) + 0))], [y2 - y0, -(x2 - x0)], [-(y1 - y0), x1 - x0]] := h
    have z : Sz 1 0 := Sz.zero
    simp only [List.mem_cons, List.not_mem_nil, or_false] at h'
    rcases h' with rfl | rfl | rfl <;> exact ⟨rfl, by walk_at "v allsz"⟩
  · simp only [List.mem_cons, List.not_mem_nil, or_false] at h
    rcases h with rfl | rfl | rfl <;> exact ⟨rfl, by walk_at "v allsz"⟩
theorem slo_three {x0 y0 z0 x1 y1 z1 x2 y2 z2 x3 y3 z3 : Int} (a0 : Sz 60 x0) (b0 : Sz 60 y0) (c0 : Sz 60 z0) (a1 : Sz 60 x1) (b1 : Sz 60 y1) (c1 : Sz 60 z1) (a2 : Sz 60 x2) (b2 : Sz 60 y2) (c2 : Sz 60 z2) (a3 : Sz 60 x3) (b3 : Sz 60 y3) (c3 : Sz 60 z3) :
    Slo [[x0, y0, z0], [x1, y1, z1], [x2, y2, z2], [x3, y3, z3]] 3 := by
  have e1 : AllSz 100 [x1 - x0, y1 - y0, z1 - z0] := by walk_at "v allsz"
  have e2 : AllSz 100 [x2 - x0, y2 - y0, z2 - z0] := by walk_at "v allsz"
  have e3 : AllSz 100 [x3 - x0, y3 - y0, z3 - z0] := by walk_at "v allsz"
  have hr : ∀ t, pRisesOf [.list ((edgesZ [[x0, y0, z0], [x1, y1, z1], [x2, y2, z2], [x3, y3, z3]]).map rowL)] t = .ok (.ow ((risesZ (edgesZ [[x0, y0, z0], [x1, y1, z1], [x2, y2, z2], [x3, y3, z3]])).map rowL)) t := fun t => e_rises3 e1 e2 e3 (by decide) t
  have cr : ∀ {a b c d e f : Int}, Sz 61 a → Sz 61 b → Sz 61 c → Sz 61 d → Sz 61 e → Sz 61 f → AllSz 130 (crossZ [a, b, c] [d, e, f]) := fun ha hb hc hd he hf => by
    show AllSz 130 [_ * _ - _ * _, _ * _ - _ * _, _ * _ - _ * _]
    walk_at "v allsz"
  have s61 : ∀ {x y : Int}, Sz 60 x → Sz 60 y → Sz 61 (x - y) := fun h g => Sz.sub h g
  have r1 := cr (s61 a2 a0) (s61 b2 b0) (s61 c2 c0) (s61 a3 a0) (s61 b3 b0) (s61 c3 c0)
  have r2 := cr (s61 a3 a0) (s61 b3 b0) (s61 c3 c0) (s61 a1 a0) (s61 b1 b0) (s61 c1 c0)
  have r3 := cr (s61 a1 a0) (s61 b1 b0) (s61 c1 c0) (s61 a2 a0) (s61 b2 b0) (s61 c2 c0)
  refine ⟨fun t => e_slopes' (n := 200) (e0 := [x1 - x0, y1 - y0, z1 - z0]) (r0 := crossZ [x2 - x0, y2 - y0, z2 - z0] [x3 - x0, y3 - y0, z3 - z0]) (es := [[x2 - x0, y2 - y0, z2 - z0], [x3 - x0, y3 - y0, z3 - z0]]) (R := [crossZ [x3 - x0, y3 - y0, z3 - z0] [x1 - x0, y1 - y0, z1 - z0], crossZ [x1 - x0, y1 - y0, z1 - z0] [x2 - x0, y2 - y0, z2 - z0]]) (by walk_at "v ble") (by walk_at "v ble") (by walk_at "v ble") (fun r h => ?_) rfl rfl (fun r h => ?_) (by walk_at "v ble") hr (e1.mono (by decide)) (r1.mono (by decide)) (by decide) t, rfl, ?_, fun r h => ?_, rfl, fun r h => ?_, .inr rfl⟩
  · simp only [List.mem_cons, List.not_mem_nil, or_false] at h
    rcases h with rfl | rfl | rfl <;> walk_at "v ble"
  · simp only [List.mem_cons, List.not_mem_nil, or_false] at h
    rcases h with rfl | rfl | rfl <;> rfl
  · have f : ∀ {u v w a b c : Int}, AllSz 100 [u, v, w] → AllSz 130 [a, b, c] → Sz 200 0 → Sz 300 (u * a + (v * b + (w * c + 0))) := fun h g z => by
      have h1 := h _ List.mem_cons_self
      have h2 := h _ (List.mem_cons_of_mem _ List.mem_cons_self)
      have h3 := h _ (List.mem_cons_of_mem _ (List.mem_cons_of_mem _ List.mem_cons_self))
      have g1 := g _ List.mem_cons_self
      have g2 := g _ (List.mem_cons_of_mem _ List.mem_cons_self)
      have g3 := g _ (List.mem_cons_of_mem _ (List.mem_cons_of_mem _ List.mem_cons_self))
      exact sz_le (by walk_at "v sz") (by decide)
    exact f e1 r1 Sz.zero
  · have f : ∀ {a b c d e g h i j : Int}, AllSz 130 [a, b, c] → AllSz 130 [d, e, g] → AllSz 130 [h, i, j] → Sz 1 0 → AllSz 200 [-(a + (d + (h + 0))), -(b + (e + (i + 0))), -(c + (g + (j + 0)))] := fun h1 h2 h3 z => by
      have u1 := h1 _ List.mem_cons_self
      have u2 := h1 _ (List.mem_cons_of_mem _ List.mem_cons_self)
      have u3 := h1 _ (List.mem_cons_of_mem _ (List.mem_cons_of_mem _ List.mem_cons_self))
      have v1 := h2 _ List.mem_cons_self
      have v2 := h2 _ (List.mem_cons_of_mem _ List.mem_cons_self)
      have v3 := h2 _ (List.mem_cons_of_mem _ (List.mem_cons_of_mem _ List.mem_cons_self))
      have w1 := h3 _ List.mem_cons_self
      have w2 := h3 _ (List.mem_cons_of_mem _ List.mem_cons_self)
      have w3 := h3 _ (List.mem_cons_of_mem _ (List.mem_cons_of_mem _ List.mem_cons_self))
      walk_at "v allsz"
    rcases List.mem_cons.mp h with rfl | h
    · exact ⟨rfl, f r1 r2 r3 Sz.zero⟩
    · have h' : r ∈ [crossZ [x2 - x0, y2 - y0, z2 - z0] [x3 - x0, y3 - y0, z3 - z0], crossZ [x3 - x0, y3 - y0, z3 - z0] [x1 - x0, y1 - y0, z1 - z0], crossZ [x1 - x0, y1 - y0, z1 - z0] [x2 - x0, y2 - y0, z2 - z0]] := h
      simp only [List.mem_cons, List.not_mem_nil, or_false] at h'
      rcases h' with rfl | rfl | rfl
      · exact ⟨rfl, r1.mono (by decide)⟩
      · exact ⟨rfl, r2.mono (by decide)⟩
      · exact ⟨rfl, r3.mono (by decide)⟩
  · simp only [List.mem_cons, List.not_mem_nil, or_false] at h
    rcases h with rfl | rfl | rfl | rfl <;> exact ⟨rfl, by walk_at "v allsz"⟩
theorem slo_of {B : List (List Int)} (h : Bo 60 B) : ∃ d, Slo B d := by
  cases h with
  | two a0 b0 a1 b1 a2 b2 => exact ⟨2, slo_two a0 b0 a1 b1 a2 b2⟩
  | three a0 b0 c0 a1 b1 c1 a2 b2 c2 a3 b3 c3 => exact ⟨3, slo_three a0 b0 c0 a1 b1 c1 a2 b2 c2 a3 b3 c3⟩
end K23
end SecPd
local macro_rules | `(tactic| walk_at "v allsz") => `(tactic| repeat (first | exact K23.AllSz.nil | refine K23.AllSz.cons (K23.sz_le (by first | exact K23.Sz.zero | walk_at "v sz") (by decide)) ?_))
local macro_rules | `(tactic| walk_at "v ble") => `(tactic| exact Nat.le_of_ble_eq_true rfl)
section SecPm
set_option Elab.async false
set_option linter.all false
set_option maxRecDepth 100000
set_option maxHeartbeats 4000000
namespace K23
open PySem PySem.Spec Pu
/-! ### weights: the tops before they are lowered -/
def TZ (B : List (List Int)) (ps : List Int) (b : Int) : List Int := bump (topsZ (slopesZ B) (wayZ (B.headD []) ps b)) (b * detZ B)
def combZ (w : List Int) (B : List (List Int)) (i : Nat) : Int := ((w.zip B).map fun p => p.1 * p.2.getD i 0).sum
theorem det2 {x0 y0 x1 y1 x2 y2 : Int} : detZ [[x0, y0], [x1, y1], [x2, y2]] = (x1 - x0) * (y2 - y0) - (y1 - y0) * (x2 - x0) := by
  show (x1 - x0) * (y2 - y0) + ((y1 - y0) * (-(x2 - x0)) + 0) = _
  grind
theorem TZ2 {x0 y0 x1 y1 x2 y2 p q b : Int} : ∃ t0 t1 t2, TZ [[x0, y0], [x1, y1], [x2, y2]] [p, q] b = [t0, t1, t2] ∧
    t1 = (p - b * x0) * (y2 - y0) - (q - b * y0) * (x2 - x0) ∧ t2 = (q - b * y0) * (x1 - x0) - (p - b * x0) * (y1 - y0) ∧ t0 = b * detZ [[x0, y0], [x1, y1], [x2, y2]] - t1 - t2 := by
  refine ⟨_, _, _, rfl, ?_, ?_, ?_⟩
  · show (p - b * x0) * (y2 - y0) + ((q - b * y0) * (-(x2 - x0)) + 0) = _
    grind
  · show (p - b * x0) * (-(y1 - y0)) + ((q - b * y0) * (x1 - x0) + 0) = _
    grind
  · generalize detZ [[x0, y0], [x1, y1], [x2, y2]] = D
    show (p - b * x0) * (-((y2 - y0) + (-(y1 - y0) + 0))) + ((q - b * y0) * (-(-(x2 - x0) + ((x1 - x0) + 0))) + 0) + b * D = b * D - ((p - b * x0) * (y2 - y0) + ((q - b * y0) * (-(x2 - x0)) + 0)) - ((p - b * x0) * (-(y1 - y0)) + ((q - b * y0) * (x1 - x0) + 0))
    grind
theorem cross_dot {a1 a2 a3 b1 b2 b3 c1 c2 c3 w1 w2 w3 : Int} : (w1 * (b2 * c3 - b3 * c2) + w2 * (b3 * c1 - b1 * c3) + w3 * (b1 * c2 - b2 * c1)) * a1 + (w1 * (c2 * a3 - c3 * a2) + w2 * (c3 * a1 - c1 * a3) + w3 * (c1 * a2 - c2 * a1)) * b1 + (w1 * (a2 * b3 - a3 * b2) + w2 * (a3 * b1 - a1 * b3) + w3 * (a1 * b2 - a2 * b1)) * c1
    = (a1 * (b2 * c3 - b3 * c2) + a2 * (b3 * c1 - b1 * c3) + a3 * (b1 * c2 - b2 * c1)) * w1 := by grind
theorem det3 {x0 y0 z0 x1 y1 z1 x2 y2 z2 x3 y3 z3 : Int} : detZ [[x0, y0, z0], [x1, y1, z1], [x2, y2, z2], [x3, y3, z3]] =
    (x1 - x0) * ((y2 - y0) * (z3 - z0) - (z2 - z0) * (y3 - y0)) + (y1 - y0) * ((z2 - z0) * (x3 - x0) - (x2 - x0) * (z3 - z0)) + (z1 - z0) * ((x2 - x0) * (y3 - y0) - (y2 - y0) * (x3 - x0)) := by
  show (x1 - x0) * ((y2 - y0) * (z3 - z0) - (z2 - z0) * (y3 - y0)) + ((y1 - y0) * ((z2 - z0) * (x3 - x0) - (x2 - x0) * (z3 - z0)) + ((z1 - z0) * ((x2 - x0) * (y3 - y0) - (y2 - y0) * (x3 - x0)) + 0)) = _
  omega
theorem TZ3 {x0 y0 z0 x1 y1 z1 x2 y2 z2 x3 y3 z3 p q r b : Int} : ∃ t0 t1 t2 t3, TZ [[x0, y0, z0], [x1, y1, z1], [x2, y2, z2], [x3, y3, z3]] [p, q, r] b = [t0, t1, t2, t3] ∧
    t1 = (p - b * x0) * ((y2 - y0) * (z3 - z0) - (z2 - z0) * (y3 - y0)) + (q - b * y0) * ((z2 - z0) * (x3 - x0) - (x2 - x0) * (z3 - z0)) + (r - b * z0) * ((x2 - x0) * (y3 - y0) - (y2 - y0) * (x3 - x0)) ∧
    t2 = (p - b * x0) * ((y3 - y0) * (z1 - z0) - (z3 - z0) * (y1 - y0)) + (q - b * y0) * ((z3 - z0) * (x1 - x0) - (x3 - x0) * (z1 - z0)) + (r - b * z0) * ((x3 - x0) * (y1 - y0) - (y3 - y0) * (x1 - x0)) ∧
    t3 = (p - b * x0) * ((y1 - y0) * (z2 - z0) - (z1 - z0) * (y2 - y0)) + (q - b * y0) * ((z1 - z0) * (x2 - x0) - (x1 - x0) * (z2 - z0)) + (r - b * z0) * ((x1 - x0) * (y2 - y0) - (y1 - y0) * (x2 - x0)) ∧
    t0 = b * detZ [[x0, y0, z0], [x1, y1, z1], [x2, y2, z2], [x3, y3, z3]] - t1 - t2 - t3 := by
  generalize hD : detZ [[x0, y0, z0], [x1, y1, z1], [x2, y2, z2], [x3, y3, z3]] = D
  have e : TZ [[x0, y0, z0], [x1, y1, z1], [x2, y2, z2], [x3, y3, z3]] [p, q, r] b = bump (topsZ (slopesZ [[x0, y0, z0], [x1, y1, z1], [x2, y2, z2], [x3, y3, z3]]) (wayZ [x0, y0, z0] [p, q, r] b)) (b * D) := by rw [← hD]; rfl
  have f : ∀ (u v w a1 a2 a3 b1 b2 b3 c1 c2 c3 : Int), (u * (-(a1 + (b1 + (c1 + 0)))) + (v * (-(a2 + (b2 + (c2 + 0)))) + (w * (-(a3 + (b3 + (c3 + 0)))) + 0))) + b * D = b * D - (u * a1 + v * a2 + w * a3) - (u * b1 + v * b2 + w * b3) - (u * c1 + v * c2 + w * c3) := by intros; grind
  have g : ∀ (u v w a1 a2 a3 : Int), u * a1 + (v * a2 + (w * a3 + 0)) = u * a1 + v * a2 + w * a3 := by intros; omega
  rw [e]
  refine ⟨_, _, _, _, rfl, g _ _ _ _ _ _, g _ _ _ _ _ _, g _ _ _ _ _ _, ?_⟩
  refine (f _ _ _ _ _ _ _ _ _ _ _ _).trans ?_
  rw [← g, ← g, ← g]
  rfl
structure Geo (B : List (List Int)) (d : Nat) : Prop where
  tl : ∀ ps b, ps.length = d → (TZ B ps b).length = d + 1
  sum : ∀ ps b, ps.length = d → (TZ B ps b).sum = b * detZ B
  comb : ∀ ps b, ps.length = d → ∀ i, i < d → combZ (TZ B ps b) B i = detZ B * ps.getD i 0
  uniq : ∀ ps b, ps.length = d → ∀ (w : List Int) (g : Int), w.length = d + 1 → b * g = w.sum → (∀ i, i < d → ps.getD i 0 * g = combZ w B i) → ∀ k, (TZ B ps b).getD k 0 * g = detZ B * w.getD k 0
  mov : ∀ ps, ps.length = d → ∀ k, k < d + 1 → (TZ B ps 1).getD k 0 = detZ (B.set k ps)
theorem geo2 {x0 y0 x1 y1 x2 y2 : Int} : Geo [[x0, y0], [x1, y1], [x2, y2]] 2 := by
  have sp : ∀ ps : List Int, ps.length = 2 → ∃ p q, ps = [p, q] := fun ps h => by
    match ps, h with
    | [p, q], _ => exact ⟨p, q, rfl⟩
  refine ⟨fun ps b h => ?_, fun ps b h => ?_, fun ps b h i hi => ?_, fun ps b h w g hw hb hc k => ?_, fun ps h k hk => ?_⟩
  all_goals obtain ⟨p, q, rfl⟩ := sp ps h
  · obtain ⟨t0, t1, t2, e, _⟩ := TZ2 (x0 := x0) (y0 := y0) (x1 := x1) (y1 := y1) (x2 := x2) (y2 := y2) (p := p) (q := q) (b := b)
    rw [e]; rfl
  · obtain ⟨t0, t1, t2, e, _, _, e0⟩ := TZ2 (x0 := x0) (y0 := y0) (x1 := x1) (y1 := y1) (x2 := x2) (y2 := y2) (p := p) (q := q) (b := b)
    rw [e]
    show t0 + (t1 + (t2 + 0)) = _
    omega
  · obtain ⟨t0, t1, t2, e, e1, e2, e0⟩ := TZ2 (x0 := x0) (y0 := y0) (x1 := x1) (y1 := y1) (x2 := x2) (y2 := y2) (p := p) (q := q) (b := b)
    rw [e]
    rw [det2] at e0 ⊢
    rcases (by omega : i = 0 ∨ i = 1) with rfl | rfl
    · show t0 * x0 + (t1 * x1 + (t2 * x2 + 0)) = _ * p
      grind
    · show t0 * y0 + (t1 * y1 + (t2 * y2 + 0)) = _ * q
      grind
  · obtain ⟨t0, t1, t2, e, e1, e2, e0⟩ := TZ2 (x0 := x0) (y0 := y0) (x1 := x1) (y1 := y1) (x2 := x2) (y2 := y2) (p := p) (q := q) (b := b)
    match w, hw with
    | [w0, w1, w2], _ =>
      have h0 : p * g = w0 * x0 + (w1 * x1 + (w2 * x2 + 0)) := hc 0 (by omega)
      have h1 : q * g = w0 * y0 + (w1 * y1 + (w2 * y2 + 0)) := hc 1 (by omega)
      have hb' : b * g = w0 + (w1 + (w2 + 0)) := hb
      have u : (p - b * x0) * g = w1 * (x1 - x0) + w2 * (x2 - x0) := by grind
      have v : (q - b * y0) * g = w1 * (y1 - y0) + w2 * (y2 - y0) := by grind
      have f1 : t1 * g = detZ [[x0, y0], [x1, y1], [x2, y2]] * w1 := by
        rw [det2, e1]
        generalize hP : p - b * x0 = P at u
        generalize hQ : q - b * y0 = Q at v
        generalize x1 - x0 = a1 at *
        generalize y1 - y0 = a2 at *
        generalize x2 - x0 = b1 at *
        generalize y2 - y0 = b2 at *
        clear hP hQ e e0 e1 e2 h0 h1 hb' hb hc
        grind
      have f2 : t2 * g = detZ [[x0, y0], [x1, y1], [x2, y2]] * w2 := by
        rw [det2, e2]
        generalize hP : p - b * x0 = P at u
        generalize hQ : q - b * y0 = Q at v
        generalize x1 - x0 = a1 at *
        generalize y1 - y0 = a2 at *
        generalize x2 - x0 = b1 at *
        generalize y2 - y0 = b2 at *
        clear hP hQ e e0 e1 e2 h0 h1 hb' hb hc
        grind
      have f0 : t0 * g = detZ [[x0, y0], [x1, y1], [x2, y2]] * w0 := by
        generalize detZ [[x0, y0], [x1, y1], [x2, y2]] = D at *
        clear e1 e2 u v h0 h1 hc hb e
        grind
      rw [e]
      match k with
      | 0 => exact f0
      | 1 => exact f1
      | 2 => exact f2
      | k + 3 => exact (Int.zero_mul g).trans (Int.mul_zero _).symm
  · obtain ⟨t0, t1, t2, e, e1, e2, e0⟩ := TZ2 (x0 := x0) (y0 := y0) (x1 := x1) (y1 := y1) (x2 := x2) (y2 := y2) (p := p) (q := q) (b := 1)
    rw [e]
    rw [det2] at e0
    match k, hk with
    | 0, _ =>
      show t0 = detZ [[p, q], [x1, y1], [x2, y2]]
      rw [det2]; clear e; grind
    | 1, _ =>
      show t1 = detZ [[x0, y0], [p, q], [x2, y2]]
      rw [det2]; clear e; grind
    | 2, _ =>
      show t2 = detZ [[x0, y0], [x1, y1], [p, q]]
      rw [det2]; clear e; grind
theorem comb3 {a1 a2 a3 b1 b2 b3 c1 c2 c3 u v w : Int} : 
    ((u * (b2 * c3 - b3 * c2) + v * (b3 * c1 - b1 * c3) + w * (b1 * c2 - b2 * c1)) * a1 + (u * (c2 * a3 - c3 * a2) + v * (c3 * a1 - c1 * a3) + w * (c1 * a2 - c2 * a1)) * b1 + (u * (a2 * b3 - a3 * b2) + v * (a3 * b1 - a1 * b3) + w * (a1 * b2 - a2 * b1)) * c1 = (a1 * (b2 * c3 - b3 * c2) + a2 * (b3 * c1 - b1 * c3) + a3 * (b1 * c2 - b2 * c1)) * u) ∧
    ((u * (b2 * c3 - b3 * c2) + v * (b3 * c1 - b1 * c3) + w * (b1 * c2 - b2 * c1)) * a2 + (u * (c2 * a3 - c3 * a2) + v * (c3 * a1 - c1 * a3) + w * (c1 * a2 - c2 * a1)) * b2 + (u * (a2 * b3 - a3 * b2) + v * (a3 * b1 - a1 * b3) + w * (a1 * b2 - a2 * b1)) * c2 = (a1 * (b2 * c3 - b3 * c2) + a2 * (b3 * c1 - b1 * c3) + a3 * (b1 * c2 - b2 * c1)) * v) ∧
    ((u * (b2 * c3 - b3 * c2) + v * (b3 * c1 - b1 * c3) + w * (b1 * c2 - b2 * c1)) * a3 + (u * (c2 * a3 - c3 * a2) + v * (c3 * a1 - c1 * a3) + w * (c1 * a2 - c2 * a1)) * b3 + (u * (a2 * b3 - a3 * b2) + v * (a3 * b1 - a1 * b3) + w * (a1 * b2 - a2 * b1)) * c3 = (a1 * (b2 * c3 - b3 * c2) + a2 * (b3 * c1 - b1 * c3) + a3 * (b1 * c2 - b2 * c1)) * w) := by
  refine ⟨?_, ?_, ?_⟩ <;> grind
/-- the sums from the first corner on -/
theorem lift3 {t0 t1 t2 t3 b D x0 x1 x2 x3 p : Int} (e0 : t0 = b * D - t1 - t2 - t3) (h : t1 * (x1 - x0) + t2 * (x2 - x0) + t3 * (x3 - x0) = D * (p - b * x0)) : t0 * x0 + (t1 * x1 + (t2 * x2 + (t3 * x3 + 0))) = D * p := by grind
/-- one, of edges times the others' cross -/
theorem one3 {a1 a2 a3 b1 b2 b3 c1 c2 c3 u v w g w1 w2 w3 : Int} (hu : u * g = w1 * a1 + w2 * b1 + w3 * c1) (hv : v * g = w1 * a2 + w2 * b2 + w3 * c2) (hw : w * g = w1 * a3 + w2 * b3 + w3 * c3) :
    (u * (b2 * c3 - b3 * c2) + v * (b3 * c1 - b1 * c3) + w * (b1 * c2 - b2 * c1)) * g = (a1 * (b2 * c3 - b3 * c2) + a2 * (b3 * c1 - b1 * c3) + a3 * (b1 * c2 - b2 * c1)) * w1 := by
  have e : (u * (b2 * c3 - b3 * c2) + v * (b3 * c1 - b1 * c3) + w * (b1 * c2 - b2 * c1)) * g = (u * g) * (b2 * c3 - b3 * c2) + (v * g) * (b3 * c1 - b1 * c3) + (w * g) * (b1 * c2 - b2 * c1) := by grind
  rw [e, hu, hv, hw]
  grind
theorem geo3 {x0 y0 z0 x1 y1 z1 x2 y2 z2 x3 y3 z3 : Int} : Geo [[x0, y0, z0], [x1, y1, z1], [x2, y2, z2], [x3, y3, z3]] 3 := by
  have sp : ∀ ps : List Int, ps.length = 3 → ∃ p q r, ps = [p, q, r] := fun ps h => by
    match ps, h with
    | [p, q, r], _ => exact ⟨p, q, r, rfl⟩
  refine ⟨fun ps b h => ?_, fun ps b h => ?_, fun ps b h i hi => ?_, fun ps b h w g hw hb hc k => ?_, fun ps h k hk => ?_⟩
  all_goals obtain ⟨p, q, r, rfl⟩ := sp ps h
  · obtain ⟨t0, t1, t2, t3, e, e1, e2, e3, e0⟩ := TZ3 (x0 := x0) (y0 := y0) (z0 := z0) (x1 := x1) (y1 := y1) (z1 := z1) (x2 := x2) (y2 := y2) (z2 := z2) (x3 := x3) (y3 := y3) (z3 := z3) (p := p) (q := q) (r := r) (b := b)
    rw [e]; rfl
  · obtain ⟨t0, t1, t2, t3, e, e1, e2, e3, e0⟩ := TZ3 (x0 := x0) (y0 := y0) (z0 := z0) (x1 := x1) (y1 := y1) (z1 := z1) (x2 := x2) (y2 := y2) (z2 := z2) (x3 := x3) (y3 := y3) (z3 := z3) (p := p) (q := q) (r := r) (b := b)
    rw [e]
    show t0 + (t1 + (t2 + (t3 + 0))) = _
    omega
  · obtain ⟨t0, t1, t2, t3, e, e1, e2, e3, e0⟩ := TZ3 (x0 := x0) (y0 := y0) (z0 := z0) (x1 := x1) (y1 := y1) (z1 := z1) (x2 := x2) (y2 := y2) (z2 := z2) (x3 := x3) (y3 := y3) (z3 := z3) (p := p) (q := q) (r := r) (b := b)
    rw [e]
    rw [det3] at e0 ⊢
    obtain ⟨k1, k2, k3⟩ := comb3 (a1 := x1 - x0) (a2 := y1 - y0) (a3 := z1 - z0) (b1 := x2 - x0) (b2 := y2 - y0) (b3 := z2 - z0) (c1 := x3 - x0) (c2 := y3 - y0) (c3 := z3 - z0) (u := p - b * x0) (v := q - b * y0) (w := r - b * z0)
    rw [← e1, ← e2, ← e3] at k1 k2 k3
    rcases (by omega : i = 0 ∨ i = 1 ∨ i = 2) with rfl | rfl | rfl
    · exact lift3 e0 k1
    · exact lift3 e0 k2
    · exact lift3 e0 k3
  · obtain ⟨t0, t1, t2, t3, e, e1, e2, e3, e0⟩ := TZ3 (x0 := x0) (y0 := y0) (z0 := z0) (x1 := x1) (y1 := y1) (z1 := z1) (x2 := x2) (y2 := y2) (z2 := z2) (x3 := x3) (y3 := y3) (z3 := z3) (p := p) (q := q) (r := r) (b := b)
    match w, hw with
    | [w0, w1, w2, w3], _ =>
      have h0 : p * g = w0 * x0 + (w1 * x1 + (w2 * x2 + (w3 * x3 + 0))) := hc 0 (by omega)
      have h1 : q * g = w0 * y0 + (w1 * y1 + (w2 * y2 + (w3 * y3 + 0))) := hc 1 (by omega)
      have h2 : r * g = w0 * z0 + (w1 * z1 + (w2 * z2 + (w3 * z3 + 0))) := hc 2 (by omega)
      have hb' : b * g = w0 + (w1 + (w2 + (w3 + 0))) := hb
      have sub : ∀ {p x0 x1 x2 x3 : Int}, p * g = w0 * x0 + (w1 * x1 + (w2 * x2 + (w3 * x3 + 0))) → (p - b * x0) * g = w1 * (x1 - x0) + w2 * (x2 - x0) + w3 * (x3 - x0) := fun {p x0 x1 x2 x3} h => by
        clear e e0 e1 e2 e3 h0 h1 h2 hb hc
        grind
      have u := sub h0
      have v := sub h1
      have z := sub h2
      have f1 : t1 * g = detZ [[x0, y0, z0], [x1, y1, z1], [x2, y2, z2], [x3, y3, z3]] * w1 := by rw [e1, det3]; exact one3 u v z
      have f2 : t2 * g = detZ [[x0, y0, z0], [x1, y1, z1], [x2, y2, z2], [x3, y3, z3]] * w2 := by
        have y := one3 (w1 := w2) (w2 := w3) (w3 := w1) (a1 := x2 - x0) (a2 := y2 - y0) (a3 := z2 - z0) (b1 := x3 - x0) (b2 := y3 - y0) (b3 := z3 - z0) (c1 := x1 - x0) (c2 := y1 - y0) (c3 := z1 - z0) (u.trans (by omega)) (v.trans (by omega)) (z.trans (by omega))
        rw [e2, y, det3]
        clear y f1 e e0 e1 e2 e3 u v z h0 h1 h2 hb hc hb'
        generalize x1 - x0 = a1 at *
        generalize y1 - y0 = a2 at *
        generalize z1 - z0 = a3 at *
        generalize x2 - x0 = b1 at *
        generalize y2 - y0 = b2 at *
        generalize z2 - z0 = b3 at *
        generalize x3 - x0 = c1 at *
        generalize y3 - y0 = c2 at *
        generalize z3 - z0 = c3 at *
        grind
      have f3 : t3 * g = detZ [[x0, y0, z0], [x1, y1, z1], [x2, y2, z2], [x3, y3, z3]] * w3 := by
        have y := one3 (w1 := w3) (w2 := w1) (w3 := w2) (a1 := x3 - x0) (a2 := y3 - y0) (a3 := z3 - z0) (b1 := x1 - x0) (b2 := y1 - y0) (b3 := z1 - z0) (c1 := x2 - x0) (c2 := y2 - y0) (c3 := z2 - z0) (u.trans (by omega)) (v.trans (by omega)) (z.trans (by omega))
        rw [e3, y, det3]
        clear y f1 f2 e e0 e1 e2 e3 u v z h0 h1 h2 hb hc hb'
        generalize x1 - x0 = a1 at *
        generalize y1 - y0 = a2 at *
        generalize z1 - z0 = a3 at *
        generalize x2 - x0 = b1 at *
        generalize y2 - y0 = b2 at *
        generalize z2 - z0 = b3 at *
        generalize x3 - x0 = c1 at *
        generalize y3 - y0 = c2 at *
        generalize z3 - z0 = c3 at *
        grind
      have f0 : t0 * g = detZ [[x0, y0, z0], [x1, y1, z1], [x2, y2, z2], [x3, y3, z3]] * w0 := by
        generalize detZ [[x0, y0, z0], [x1, y1, z1], [x2, y2, z2], [x3, y3, z3]] = D at *
        clear e1 e2 e3 u v z h0 h1 h2 hc hb e sub
        grind
      rw [e]
      match k with
      | 0 => exact f0
      | 1 => exact f1
      | 2 => exact f2
      | 3 => exact f3
      | k + 4 => exact (Int.zero_mul g).trans (Int.mul_zero _).symm
  · obtain ⟨t0, t1, t2, t3, e, e1, e2, e3, e0⟩ := TZ3 (x0 := x0) (y0 := y0) (z0 := z0) (x1 := x1) (y1 := y1) (z1 := z1) (x2 := x2) (y2 := y2) (z2 := z2) (x3 := x3) (y3 := y3) (z3 := z3) (p := p) (q := q) (r := r) (b := 1)
    rw [e]
    rw [det3] at e0
    match k, hk with
    | 0, _ =>
      show t0 = detZ [[p, q, r], [x1, y1, z1], [x2, y2, z2], [x3, y3, z3]]
      rw [det3]; clear e; grind
    | 1, _ =>
      show t1 = detZ [[x0, y0, z0], [p, q, r], [x2, y2, z2], [x3, y3, z3]]
      rw [det3]; clear e e0 e2 e3; grind
    | 2, _ =>
      show t2 = detZ [[x0, y0, z0], [x1, y1, z1], [p, q, r], [x3, y3, z3]]
      rw [det3]; clear e e0 e1 e3; grind
    | 3, _ =>
      show t3 = detZ [[x0, y0, z0], [x1, y1, z1], [x2, y2, z2], [p, q, r]]
      rw [det3]; clear e e0 e1 e2; grind
theorem rot2 {x0 y0 x1 y1 x2 y2 : Int} : detZ [[x1, y1], [x2, y2], [x0, y0]] = detZ [[x0, y0], [x1, y1], [x2, y2]] := by rw [det2, det2]; grind
theorem rot3 {x0 y0 z0 x1 y1 z1 x2 y2 z2 x3 y3 z3 : Int} : detZ [[x1, y1, z1], [x2, y2, z2], [x3, y3, z3], [x0, y0, z0]] = - detZ [[x0, y0, z0], [x1, y1, z1], [x2, y2, z2], [x3, y3, z3]] := by rw [det3, det3]; grind
end K23
end SecPm
section SecPe
set_option Elab.async false
set_option linter.all false
set_option maxRecDepth 100000
set_option maxHeartbeats 4000000
namespace K23
open PySem PySem.Spec Pu
/-! ### lowest terms -/
theorem fold_mul (a : Nat) : ∀ (xs : List Int) (c : Int) (g : Nat), c.natAbs = a → (xs.map fun x => c * x).foldl (fun g n => Nat.gcd g n.natAbs) (a * g) = a * xs.foldl (fun g n => Nat.gcd g n.natAbs) g
  | [], _, _, _ => rfl
  | x :: xs, c, g, h => by
    rw [List.map_cons, List.foldl_cons, List.foldl_cons, Int.natAbs_mul, h, Nat.gcd_mul_left]
    exact fold_mul a xs c _ h
theorem gN_mul (xs : List Int) (c : Int) : gN (xs.map fun x => c * x) = c.natAbs * gN xs := fold_mul _ xs c 0 rfl
theorem low_len (xs : List Int) : (Dt.lowL xs).length = xs.length := List.length_map ..
theorem low_at {xs : List Int} {k : Nat} (h : k < (Dt.lowL xs).length) (h' : k < xs.length) : (Dt.lowL xs)[k] = xs[k] / Dt.gcdL xs := List.getElem_map ..
theorem low_prop {xs ys : List Int} {a c : Int} (ha : 0 < a) (hc : 0 < c) (h : xs.map (fun x => a * x) = ys.map fun y => c * y) (hg : 0 < gN xs) : Dt.lowL xs = Dt.lowL ys := by
  have hl : xs.length = ys.length := by have := congrArg List.length h; simpa using this
  have g : a.natAbs * gN xs = c.natAbs * gN ys := by rw [← gN_mul, ← gN_mul, h]
  have g' : a * (gN xs : Int) = c * (gN ys : Int) := by
    have z : ((a.natAbs * gN xs : Nat) : Int) = ((c.natAbs * gN ys : Nat) : Int) := by rw [g]
    rw [Int.natCast_mul, Int.natCast_mul, Int.natAbs_of_nonneg (by omega), Int.natAbs_of_nonneg (by omega)] at z
    exact z
  have hgx : (0 : Int) < gN xs := by omega
  have hag : (0 : Int) < a * gN xs := Int.mul_pos ha hgx
  have hgy : (0 : Int) < gN ys := by
    rw [g'] at hag
    exact Int.pos_of_mul_pos_right hag (by omega) |> fun h => h
  apply List.ext_getElem (by rw [low_len, low_len, hl])
  intro k h1 h2
  have k1 : k < xs.length := by rw [low_len] at h1; exact h1
  have k2 : k < ys.length := by omega
  rw [low_at h1 k1, low_at h2 k2]
  have e1 := low_mul (List.getElem_mem k1)
  have e2 := low_mul (List.getElem_mem k2)
  rw [gcdL_eq] at e1 e2 ⊢
  rw [gcdL_eq]
  generalize xs[k] / (gN xs : Int) = u at *
  generalize ys[k] / (gN ys : Int) = v at *
  have e3 : a * xs[k] = c * ys[k] := by
    have := congrArg (fun l => l[k]?) h
    simp only [List.getElem?_map, List.getElem?_eq_getElem k1, List.getElem?_eq_getElem k2, Option.map_some, Option.some.injEq] at this
    exact this
  rw [← e1, ← e2] at e3
  have e4 : (a * gN xs) * u = (a * gN xs) * v := by
    have : (a * (gN xs : Int)) * v = c * (gN ys : Int) * v := by rw [g']
    rw [this]
    grind
  exact Int.eq_of_mul_eq_mul_left (by omega) e4
theorem low_self {xs : List Int} (h : gN xs = 1) : Dt.lowL xs = xs := by
  unfold Dt.lowL
  rw [gcdL_eq, h]
  show xs.map (fun n => n / 1) = xs
  simp
/-! ### weights of a place -/
theorem sum_sz {k : Nat} : ∀ {xs : List Int}, AllSz k xs → Sz (k + xs.length) xs.sum
  | [], _ => Sz.zero
  | x :: xs, h => by
    rw [List.sum_cons, List.length_cons]
    refine sz_le (Sz.add (h x List.mem_cons_self) (sum_sz fun y hy => h y (List.mem_cons_of_mem _ hy))) ?_
    omega
theorem dot_sz {n m : Nat} {xs ys : List Int} (h : AllSz n xs) (g : AllSz m ys) : Sz (n + m + xs.length) (dotZ xs ys) := by
  refine sz_le (sum_sz (k := n + m) (fun y hy => ?_)) (by rw [List.length_map, List.length_zip]; omega)
  obtain ⟨p, hp, rfl⟩ := List.mem_map.mp hy
  exact Sz.mul (h _ (List.of_mem_zip hp).1) (g _ (List.of_mem_zip hp).2)
theorem minus_sz {n : Nat} {xs ys : List Int} (h : AllSz n xs) (g : AllSz n ys) : AllSz (n + 1) (minusZ xs ys) := fun y hy => by
  obtain ⟨p, hp, rfl⟩ := List.mem_map.mp hy
  exact sz_le (Sz.sub (h _ (List.of_mem_zip hp).1) (g _ (List.of_mem_zip hp).2)) (by omega)
def rawW (B : List (List Int)) (ps : List Int) (b : Int) : List Int := (TZ B ps b ++ [b * detZ B]).map fun x => sgnZ (detZ B) * x
def WZ (B : List (List Int)) (ps : List Int) (b : Int) : List Int := Dt.lowL (rawW B ps b)
/-- a place as a row: tops and bottom, in lowest terms -/
structure Pl (d : Nat) (ps : List Int) (b : Int) : Prop where
  len : ps.length = d
  sp : AllSz 100 ps
  sb : Sz 100 b
  b1 : 1 ≤ b
  g : gN (ps ++ [b]) = 1
/-- a body that is not flat -/
structure Bd (B : List (List Int)) (d : Nat) : Prop where
  slo : Slo B d
  geo : Geo B d
  ne : detZ B ≠ 0
theorem sgn_mul (D : Int) : sgnZ D * D = ((D.natAbs : Nat) : Int) := by unfold sgnZ; split <;> omega
theorem sgn_ne (D : Int) : sgnZ D ≠ 0 := by unfold sgnZ; split <;> decide
theorem body_head {B : List (List Int)} {d : Nat} (h : B.length = d + 1) : ∃ c cs, B = c :: cs := by
  match B, h with
  | c :: cs, _ => exact ⟨c, cs, rfl⟩
theorem T_sz {B : List (List Int)} {d : Nat} {ps : List Int} {b : Int} (h : Bd B d) (hl : ps.length = d) (sp : AllSz 100 ps) (sb : Sz 100 b) : AllSz 600 (TZ B ps b ++ [b * detZ B]) ∧ AllSz 202 (wayZ (B.headD []) ps b) := by
  obtain ⟨c, cs, e⟩ := body_head h.slo.blen
  have hc : c.length = d ∧ AllSz 100 c := h.slo.rows c (by rw [e]; exact List.mem_cons_self)
  have hw : AllSz 202 (wayZ (B.headD []) ps b) := by
    rw [e]
    refine (minus_sz (n := 200) (sp.mono (by decide)) fun y hy => ?_).mono (by decide)
    obtain ⟨x, hx, rfl⟩ := List.mem_map.mp hy
    exact Sz.mul sb (hc.2 x hx)
  have hwl : (wayZ (B.headD []) ps b).length ≤ 3 := by
    rw [e]
    show (minusZ _ _).length ≤ 3
    unfold minusZ
    rw [List.length_map, List.length_zip]
    have := h.slo.d2
    omega
  have hbD : Sz 400 (b * detZ B) := Sz.mul sb h.slo.szD
  refine ⟨?_, hw⟩
  intro x hx
  rcases List.mem_append.mp hx with hx | hx
  · have ht : ∀ y ∈ topsZ (slopesZ B) (wayZ (B.headD []) ps b), Sz 410 y := fun y hy => by
      obtain ⟨r, hr, rfl⟩ := List.mem_map.mp hy
      exact sz_le (dot_sz hw (h.slo.szS r hr).2) (by omega)
    have hx' : x ∈ bump (topsZ (slopesZ B) (wayZ (B.headD []) ps b)) (b * detZ B) := hx
    cases hq : topsZ (slopesZ B) (wayZ (B.headD []) ps b) with
    | nil => rw [hq] at hx'; cases hx'
    | cons y ys =>
      rw [hq] at hx' ht
      rcases List.mem_cons.mp hx' with rfl | hx'
      · exact sz_le (Sz.add (ht y List.mem_cons_self) hbD) (by decide)
      · exact sz_le (ht x (List.mem_cons_of_mem _ hx')) (by decide)
  · rw [List.mem_singleton.mp hx]
    exact hbD.mono (by decide)
theorem raw_last {B : List (List Int)} {ps : List Int} {b : Int} : sgnZ (detZ B) * (b * detZ B) ∈ rawW B ps b := List.mem_map.mpr ⟨_, List.mem_append_right _ List.mem_cons_self, rfl⟩
theorem raw_ne {B : List (List Int)} {d : Nat} {b : Int} (h : Bd B d) (b1 : 1 ≤ b) : sgnZ (detZ B) * (b * detZ B) ≠ 0 := Int.mul_ne_zero (sgn_ne _) (Int.mul_ne_zero (by omega) h.ne)
theorem raw_pos {B : List (List Int)} {d : Nat} {ps : List Int} {b : Int} (h : Bd B d) (b1 : 1 ≤ b) : 0 < gN (rawW B ps b) := gN_pos raw_last (raw_ne h b1)
theorem e_wm {B : List (List Int)} {d : Nat} {ps : List Int} {b : Int} (h : Bd B d) (hl : ps.length = d) (sp : AllSz 100 ps) (sb : Sz 100 b) (b1 : 1 ≤ b) (t : Tps) : pWeightsMade [bodyD B, rowT (ps ++ [b])] t = .ok (.fr (rowT (WZ B ps b))) t := by
  obtain ⟨c, cs, e⟩ := body_head h.slo.blen
  have hc : c.length = d ∧ AllSz 100 c := h.slo.rows c (by rw [e]; exact List.mem_cons_self)
  have hd : B.headD [] = c := by rw [e]; rfl
  obtain ⟨hT, hw⟩ := T_sz h hl sp sb
  have d2 := h.slo.d2
  have eT : rawZ (detZ B) (slopesZ B) c ps b = rawW B ps b := by
    unfold rawZ rawW TZ
    rw [hd]
  have hS : slopesZ B = fallsZ (B.headD []).length (risesZ (edgesZ B)) :: risesZ (edgesZ B) := rfl
  unfold WZ
  rw [← eT]
  refine e_weightsMade (n := 300) (m := 600) (k := 200) hS (by rw [e]; rfl) h.slo.run (by omega) (by omega) (by rw [h.slo.len]; omega) (hc.2.mono (by decide)) (sb.mono (by decide)) h.slo.szD ?_ (fun r hr => (h.slo.szS r hr).2) ?_ (by decide) (by decide) (by decide) ?_ ?_ t
  · rw [← hd]; exact hw.mono (by decide)
  · rw [← hd]; exact hT
  · rw [eT]; exact raw_pos h b1
  · rw [eT]
    refine Nat.lt_of_le_of_lt (gN_le raw_last (raw_ne h b1)) ?_
    have z : Sz 700 (sgnZ (detZ B) * (b * detZ B)) := sz_le (Sz.mul (n := 1) (by unfold sgnZ Sz; split <;> decide) (Sz.mul sb h.slo.szD)) (by decide)
    exact Nat.lt_trans z (Nat.pow_lt_pow_right (by decide) (by decide))
end K23
end SecPe
section SecPf
set_option Elab.async false
set_option linter.all false
set_option maxRecDepth 100000
set_option maxHeartbeats 4000000
namespace K23
open PySem PySem.Spec Pu
theorem sum_scale {G s : Int} {f : Int → Int} : ∀ {xs : List Int}, (∀ x ∈ xs, f x * G = s * x) → (xs.map f).sum * G = s * xs.sum
  | [], _ => by simp
  | x :: xs, h => by
    rw [List.map_cons, List.sum_cons, List.sum_cons, Int.add_mul, h x List.mem_cons_self, sum_scale fun y hy => h y (List.mem_cons_of_mem _ hy), Int.mul_add]
theorem comb_scale {G s : Int} {f : Int → Int} (i : Nat) : ∀ {xs : List Int} {B : List (List Int)}, (∀ x ∈ xs, f x * G = s * x) → combZ (xs.map f) B i * G = s * combZ xs B i
  | [], B, _ => by unfold combZ; simp
  | x :: xs, [], _ => by unfold combZ; simp
  | x :: xs, r :: B, h => by
    have e1 : combZ (List.map f (x :: xs)) (r :: B) i = f x * r.getD i 0 + combZ (xs.map f) B i := rfl
    have e2 : combZ (x :: xs) (r :: B) i = x * r.getD i 0 + combZ xs B i := rfl
    have z := comb_scale i (B := B) (xs := xs) fun y hy => h y (List.mem_cons_of_mem _ hy)
    have y := h x List.mem_cons_self
    rw [e1, e2]
    generalize combZ (xs.map f) B i = u at *
    generalize combZ xs B i = v at *
    generalize f x = w at *
    generalize r.getD i 0 = q at *
    grind
structure WtOk (B : List (List Int)) (d : Nat) (ps : List Int) (b : Int) (ws : List Int) (L : Int) : Prop where
  eq : WZ B ps b = ws ++ [L]
  len : ws.length = d + 1
  g : gN (ws ++ [L]) = 1
  L1 : 1 ≤ L
  sum : ws.sum = L
  comb : ∀ i, i < d → combZ ws B i * b = ps.getD i 0 * L
  fac : ∃ G : Int, 0 < G ∧ L * G = detZ B * sgnZ (detZ B) * b ∧ ∀ k, ws.getD k 0 * G = sgnZ (detZ B) * (TZ B ps b).getD k 0
theorem wt {B : List (List Int)} {d : Nat} {ps : List Int} {b : Int} (h : Bd B d) (hl : ps.length = d) (b1 : 1 ≤ b) : ∃ ws L, WtOk B d ps b ws L := by
  have gp := raw_pos (ps := ps) h b1
  have hG : (0 : Int) < gN (rawW B ps b) := by omega
  let G : Int := gN (rawW B ps b)
  let s : Int := sgnZ (detZ B)
  let T := TZ B ps b
  let f : Int → Int := fun x => s * x / G
  let L : Int := s * (b * detZ B) / G
  have eraw : rawW B ps b = (T.map fun x => s * x) ++ [s * (b * detZ B)] := by unfold rawW; rw [List.map_append]; rfl
  have eW : WZ B ps b = T.map f ++ [L] := by
    show (rawW B ps b).map (fun n => n / Dt.gcdL (rawW B ps b)) = _
    rw [gcdL_eq]
    show (rawW B ps b).map (fun n => n / G) = _
    rw [eraw, List.map_append, List.map_map]
    rfl
  have hf : ∀ x ∈ T, f x * G = s * x := fun x hx => by
    have m : s * x ∈ rawW B ps b := by rw [eraw]; exact List.mem_append_left _ (List.mem_map.mpr ⟨x, hx, rfl⟩)
    have z := low_mul m
    rw [gcdL_eq] at z
    exact z
  have hL : L * G = s * (b * detZ B) := by
    have z := low_mul (raw_last (B := B) (ps := ps) (b := b))
    rw [gcdL_eq] at z
    exact z
  have sD : s * detZ B = ((detZ B).natAbs : Nat) := sgn_mul _
  have nD : (0 : Int) < ((detZ B).natAbs : Nat) := by have := h.ne; omega
  have hLG : L * G = ((detZ B).natAbs : Nat) * b := by rw [hL, ← sD]; grind
  have L1 : 1 ≤ L := by
    have : 0 < L * G := by rw [hLG]; exact Int.mul_pos nD (by omega)
    have := Int.pos_of_mul_pos_left this hG
    omega
  have hsum : (T.map f).sum = L := by
    have z := sum_scale hf
    rw [h.geo.sum ps b hl] at z
    exact Int.eq_of_mul_eq_mul_right (by omega) (z.trans hL.symm)
  refine ⟨T.map f, L, eW, by rw [List.length_map]; exact h.geo.tl ps b hl, ?_, L1, hsum, fun i hi => ?_, G, hG, by rw [hLG, ← sD]; grind, fun k => ?_⟩
  · rw [← eW]
    exact gN_low raw_last (raw_ne h b1)
  · have z := comb_scale (B := B) i hf
    rw [h.geo.comb ps b hl i hi] at z
    have e : (combZ (T.map f) B i * b) * G = (ps.getD i 0 * L) * G := by
      generalize combZ (T.map f) B i = u at *
      generalize ps.getD i 0 = p at *
      have : u * b * G = (u * G) * b := by grind
      rw [this, z, Int.mul_assoc p, hL]
      grind
    exact Int.eq_of_mul_eq_mul_right (by omega) e
  · by_cases hk : k < T.length
    · rw [List.getD_eq_getElem?_getD, List.getD_eq_getElem?_getD, List.getElem?_map, List.getElem?_eq_getElem hk]
      exact hf _ (List.getElem_mem hk)
    · rw [List.getD_eq_getElem?_getD, List.getD_eq_getElem?_getD, List.getElem?_map, List.getElem?_eq_none (by omega)]
      show (0 : Int) * G = s * 0
      simp
/-- weights that give the place are the place's weights -/
theorem wt_uniq {B : List (List Int)} {d : Nat} {ps : List Int} {b : Int} {ws : List Int} {L g : Int} (h : Bd B d) (hl : ps.length = d) (b1 : 1 ≤ b) (hw : ws.length = d + 1) (hs : ws.sum = L) (hg : 0 < g) (hb : b * g = L) (hc : ∀ i, i < d → ps.getD i 0 * g = combZ ws B i) :
    WZ B ps b = Dt.lowL (ws ++ [L]) := by
  have u := h.geo.uniq ps b hl ws g hw (by rw [hs]; exact hb) hc
  have nD : (0 : Int) < ((detZ B).natAbs : Nat) := by have := h.ne; omega
  have sD : sgnZ (detZ B) * detZ B = ((detZ B).natAbs : Nat) := sgn_mul _
  refine low_prop (a := g) (c := ((detZ B).natAbs : Nat)) hg nD ?_ (raw_pos h b1)
  have tl := h.geo.tl ps b hl
  unfold rawW
  rw [List.map_append, List.map_append, List.map_append, List.map_map]
  congr 1
  · apply List.ext_getElem (by simp [tl, hw])
    intro k h1 h2
    simp only [List.length_map] at h1 h2
    simp only [List.getElem_map, Function.comp]
    have z := u k
    rw [List.getD_eq_getElem?_getD, List.getD_eq_getElem?_getD, List.getElem?_eq_getElem h1, List.getElem?_eq_getElem h2] at z
    have z' : (TZ B ps b)[k] * g = detZ B * ws[k] := z
    generalize (TZ B ps b)[k] = x at *
    generalize ws[k] = y at *
    rw [← sD]
    have : g * (sgnZ (detZ B) * x) = sgnZ (detZ B) * (x * g) := by grind
    rw [this, z']
    grind
  · show [g * (sgnZ (detZ B) * (b * detZ B))] = [((detZ B).natAbs : Nat) * L]
    rw [← sD, ← hb]
    congr 1
    grind
theorem gN_same {xs ys : List Int} (h : ∀ x, x ∈ xs ↔ x ∈ ys) : gN xs = gN ys := by
  apply Nat.dvd_antisymm
  · exact dvd_gN fun n hn => gN_dvd ((h n).mpr hn)
  · exact dvd_gN fun n hn => gN_dvd ((h n).mp hn)
def rot {α : Type} : List α → List α | [] => [] | x :: xs => xs ++ [x]
theorem rot_len {α : Type} (xs : List α) : (rot xs).length = xs.length := by cases xs <;> simp [rot]
theorem rot_sum (xs : List Int) : (rot xs).sum = xs.sum := by
  cases xs with
  | nil => rfl
  | cons x xs => simp [rot]; omega
theorem rot_comb {i : Nat} {xs : List Int} {B : List (List Int)} (h : xs.length = B.length) : combZ (rot xs) (rot B) i = combZ xs B i := by
  match xs, B, h with
  | [], [], _ => rfl
  | x :: xs, r :: B, h =>
    have h' : xs.length = B.length := by simpa using h
    unfold combZ rot
    dsimp only
    rw [List.zip_append h']
    simp
    omega
/-- turning the corners turns the weights -/
theorem wt_rot {B : List (List Int)} {d : Nat} {ps : List Int} {b : Int} {ws : List Int} {L : Int} (h : Bd B d) (h' : Bd (rot B) d) (hl : ps.length = d) (b1 : 1 ≤ b) (w : WtOk B d ps b ws L) : WZ (rot B) ps b = rot ws ++ [L] := by
  have tl := h.geo.tl ps b hl
  have hD := h.ne
  -- by uniqueness, scaled so that the factor is above nought
  obtain ⟨G, hG, e1, e2⟩ := w.fac
  have sD : sgnZ (detZ B) * detZ B = ((detZ B).natAbs : Nat) := sgn_mul _
  have nD : (0 : Int) < ((detZ B).natAbs : Nat) := by omega
  have hwb : ws.length = B.length := by rw [w.len, h.slo.blen]
  -- b * g = L does not stand for ws itself; it does for ws * b and L * b, with g = L
  have key := wt_uniq (ws := (rot ws).map fun x => b * x) (L := b * L) (g := L) h' hl b1 (by rw [List.length_map, rot_len]; exact w.len) (by
      have z : ∀ xs : List Int, (xs.map fun x => b * x).sum = b * xs.sum := fun xs => by
        induction xs with
        | nil => simp
        | cons x xs ih => rw [List.map_cons, List.sum_cons, List.sum_cons, ih, Int.mul_add]
      rw [z, rot_sum, w.sum]) (by have := w.L1; omega) rfl (fun i hi => by
      have z : ∀ (xs : List Int) (C : List (List Int)), combZ (xs.map fun x => b * x) C i = b * combZ xs C i := fun xs => by
        induction xs with
        | nil => intro C; unfold combZ; simp
        | cons x xs ih =>
          intro C
          cases C with
          | nil => unfold combZ; simp
          | cons r C =>
            have a1 : combZ (List.map (fun x => b * x) (x :: xs)) (r :: C) i = b * x * r.getD i 0 + combZ (xs.map fun x => b * x) C i := rfl
            have a2 : combZ (x :: xs) (r :: C) i = x * r.getD i 0 + combZ xs C i := rfl
            rw [a1, a2, ih, Int.mul_add, Int.mul_assoc]
      rw [z, rot_comb hwb, ← w.comb i hi, Int.mul_comm])
  rw [key]
  have e : ((rot ws).map fun x => b * x) ++ [b * L] = (rot ws ++ [L]).map fun x => b * x := by rw [List.map_append]; rfl
  have gr : gN (rot ws ++ [L]) = 1 := by
    rw [← w.g]
    refine gN_same fun x => ?_
    cases ws with
    | nil => rfl
    | cons y ys =>
      simp [rot]
      grind
  have lp := low_prop (xs := (rot ws ++ [L]).map fun x => b * x) (ys := rot ws ++ [L]) (a := 1) (c := b) (by decide) (by omega) (by rw [List.map_map]; exact List.map_congr_left fun x _ => Int.one_mul _) (by rw [gN_mul, gr]; omega)
  rw [e, lp, low_self gr]
end K23
end SecPf
section SecPg
set_option Elab.async false
set_option linter.all false
set_option maxRecDepth 100000
set_option maxHeartbeats 4000000
namespace K23
open PySem PySem.Spec Pu
theorem dIx_natT {r : List Int} {k : Nat} (h : k < r.length) : dIx (rowT r) (.int (k : Nat)) = .ok (.fr (.int (r.getD k 0))) := dIx_nat h
theorem len_body {B : List (List Int)} : dLen (bodyD B) = okI (B.length : Nat) := by
  show okI (((B.map rowT).length : Nat) : Int) = _
  rw [List.length_map]
def givenZ (ws : List Int) (B : List (List Int)) (d : Nat) : List Int := (List.range d).map fun i => combZ ws B i
theorem comb_app {ws : List Int} {L : Int} {B : List (List Int)} {i : Nat} (h : ws.length = B.length) : combZ (ws ++ [L]) B i = combZ ws B i := by
  unfold combZ
  have e : (ws ++ [L]).zip B = ws.zip B := by
    have z := List.zip_append (l₁ := ws) (r₁ := [L]) (l₂ := B) (r₂ := []) h
    simpa using z
  rw [e]
theorem comb_sz {n : Nat} {ws : List Int} {B : List (List Int)} {i : Nat} (h : AllSz n ws) (hB : ∀ r ∈ B, AllSz 100 r) : Sz (n + 100 + ws.length) (combZ ws B i) := by
  refine sz_le (sum_sz (k := n + 100) fun y hy => ?_) (by rw [List.length_map, List.length_zip]; omega)
  obtain ⟨p, hp, rfl⟩ := List.mem_map.mp hy
  refine Sz.mul (h _ (List.of_mem_zip hp).1) ?_
  by_cases hi : i < p.2.length
  · rw [List.getD_eq_getElem?_getD, List.getElem?_eq_getElem hi]
    exact hB _ (List.of_mem_zip hp).2 _ (List.getElem_mem hi)
  · rw [List.getD_eq_getElem?_getD, List.getElem?_eq_none (by omega)]
    exact Sz.zero
theorem e_blendMade {B : List (List Int)} {d : Nat} {ws : List Int} {L : Int} (h : Slo B d) (hw : ws.length = d + 1) (sw : AllSz 700 ws) (sL : Sz 700 L) (L1 : 1 ≤ L) (t : Tps) :
    pBlendMade [bodyD B, rowT (ws ++ [L])] t = .ok (.fr (rowT (Dt.lowL (givenZ ws B d ++ [L])))) t := by
  have hlim : ∀ {k : Nat}, k ≤ 12 → k ≤ lim := fun h => Nat.le_trans h (by decide)
  have d2 := h.d2
  have hwB : ws.length = B.length := by rw [hw, h.blen]
  let W : PyData := rowT (ws ++ [L])
  let q0 : Pst := ⟨[.fr (bodyD B), .fr W, .un, .un, .un, .un, .un], t⟩
  let q1 : Pst := ⟨[.fr (bodyD B), .fr W, .fr (.int (d : Nat)), .un, .un, .un, .un], t⟩
  let q2 : Pst := ⟨[.fr (bodyD B), .fr W, .fr (.int (d : Nat)), .ow (iL (givenZ ws B d)), .un, .un, .un], t⟩
  let q3 : Pst := ⟨[.fr (bodyD B), .fr W, .fr (.int (d : Nat)), .fr (rowL (givenZ ws B d)), .un, .un, .un], t⟩
  show fin (seqF _ _ q0) = _
  refine (congrArg fin (seq_ok (s1 := q1) (set_ok (s1 := q0) (x := .fr (.int (d : Nat))) ?_ (by show 2 < 7; decide)))).trans ?_
  · refine bin_ok (x := .fr (.int (B.length : Nat))) (y := .fr (.int 1)) (s1 := q0) (un_ok (d := bodyD B) rfl len_body) rfl ?_
    show okI _ = _
    rw [h.blen, show ((d + 1 : Nat) : Int) - 1 = (d : Nat) by omega]; rfl
  refine (congrArg fin (seq_ok (s1 := q2) (set_ok (s1 := q1) (x := .ow (iL (givenZ ws B d))) ?_ (by show 3 < 7; decide)))).trans ?_
  · show _ = Rs.ok (OV.ow (iL ((List.range d).map fun i => combZ ws B i))) q1
    unfold iL
    rw [List.map_map]
    refine lc_one (s := q1) (xs := List.range d) (fun k => PyData.int (k : Nat)) (fun i => .int (combZ ws B i)) ?_ (by rw [List.length_range]; exact hlim (by omega)) (by show 4 < 7; decide) rfl fun i hi => ⟨.fr (.int (combZ ws B i)), ?_, rfl⟩
    · have e : consF (var 2) nilF q1 = .ok [.int (d : Nat)] q1 := rfl
      rw [bnd_ok e]
      exact rng1_nat (by omega) _
    · refine un_ok (d := .list (iL (((ws ++ [L]).zip B).map fun p => p.1 * p.2.getD i 0))) (dat_ok (x := .ow _) ?_) ?_
      · unfold iL
        rw [List.map_map]
        refine lc_two (s := put 4 (.fr (.int (i : Nat))) q1) (ps := (ws ++ [L]).zip B) PyData.int rowT (fun a r => .int (a * r.getD i 0)) ?_ (by rw [List.length_zip, List.length_append, hw]; exact hlim (by show min (d + 1 + 1) _ ≤ 12; omega)) (by decide) (by show 5 < 7; decide) (by show 6 < 7; decide) rfl rfl fun p hp => ⟨.fr (.int (p.1 * p.2.getD i 0)), ?_, rfl⟩
        · have e : consF (var 1) (consF (var 0) nilF) (put 4 (.fr (.int (i : Nat))) q1) = .ok [W, bodyD B] (put 4 (.fr (.int (i : Nat))) q1) := rfl
          rw [bnd_ok e]
          show Rs.ok (zipD ((ws ++ [L]).map PyData.int) (B.map rowT)) _ = _
          rw [zipD_map]
        · have hr := h.rows _ (List.of_mem_zip hp).2
          have hi' : i < p.2.length := by rw [hr.1]; exact List.mem_range.mp hi
          refine bin_ok (x := .fr (.int p.1)) (y := .fr (.int (p.2.getD i 0))) rfl (ixv_fr (d := rowT p.2) (y := .fr (.int (i : Nat))) rfl rfl rfl (dIx_natT hi')) (dMul_ii (n := 700) (m := 100) ?_ ?_ (by decide))
          · rcases List.mem_append.mp (List.of_mem_zip hp).1 with z | z
            · exact sw _ z
            · rw [List.mem_singleton.mp z]; exact sL
          · rw [List.getD_eq_getElem?_getD, List.getElem?_eq_getElem hi']
            exact hr.2 _ (List.getElem_mem hi')
      · have z := sum_iL (((ws ++ [L]).zip B).map fun p => p.1 * p.2.getD i 0)
        rw [z]
        show okI (combZ (ws ++ [L]) B i) = _
        rw [comb_app hwB]; rfl
  have hne : L ≠ 0 := by omega
  have hm : L ∈ givenZ ws B d ++ [L] := List.mem_append_right _ List.mem_cons_self
  refine fin_ret (s1 := q3) (call_eq (s1 := q3) (ds := [rowL (givenZ ws B d ++ [L])]) (cons_ok (x := .ow (iL (givenZ ws B d ++ [L]))) (s1 := q3) ?_ rfl) rfl (e_lowest (row_l _) ?_ (gN_pos hm hne) ?_ t)) rfl
  · refine bin_ok (x := .fr (rowL (givenZ ws B d))) (y := .ow [.int L]) (s1 := q3) rfl (mkL_ok (ds := [.int L]) (cons_ok (x := .fr (.int L)) (s1 := q3) (ixv_cstN (d := W) rfl dIx_last) rfl) (by show 1 ≤ 100000; decide)) ?_
    show fit _ _ = _
    unfold fit
    rw [if_pos (by unfold iL givenZ; rw [List.length_map, List.length_map, List.length_range]; exact hlim (show d + 1 ≤ 12 by omega))]
    unfold iL
    rw [List.map_append]; rfl
  · rw [List.length_append]
    unfold givenZ
    rw [List.length_map, List.length_range]
    exact hlim (show d + 1 ≤ 12 by omega)
  · exact Nat.lt_of_le_of_lt (gN_le hm hne) (Nat.lt_trans sL (Nat.pow_lt_pow_right (by decide) (by decide)))
end K23
end SecPg
section SecPh
set_option Elab.async false
set_option linter.all false
set_option maxRecDepth 100000
set_option maxHeartbeats 4000000
namespace K23
open PySem PySem.Spec Pu
theorem dIx_body {B : List (List Int)} {k : Nat} (h : k < B.length) : dIx (bodyD B) (.int (k : Nat)) = .ok (.fr (rowT (B.getD k []))) := by
  have e : L2.atI (B.map rowT) (k : Nat) = some (rowT (B.getD k [])) := by
    refine L2.atI_nat ?_
    rw [List.getElem?_map, List.getElem?_eq_getElem h, List.getD_eq_getElem?_getD, List.getElem?_eq_getElem h]; rfl
  show (match L2.atI (B.map rowT) (k : Nat) with | some d => R1.ok (.fr d) | none => .no) = _
  rw [e]
theorem range_comb {ws : List Int} {B : List (List Int)} {i n : Nat} (h : ws.length = n) (h2 : B.length = n) : ((List.range n).map fun k => ws.getD k 0 * (B.getD k []).getD i 0) = (ws.zip B).map fun p => p.1 * p.2.getD i 0 := by
  apply List.ext_getElem (by simp [h, h2])
  intro k h1 h3
  simp only [List.length_map, List.length_range] at h1
  have k1 : k < ws.length := by omega
  have k2 : k < B.length := by omega
  rw [List.getElem_map, List.getElem_map, List.getElem_range, List.getElem_zip]
  simp [List.getD_eq_getElem?_getD, List.getElem?_eq_getElem k1, List.getElem?_eq_getElem k2]
theorem getD_app {ws : List Int} {L : Int} {k : Nat} (h : k < ws.length) : (ws ++ [L]).getD k 0 = ws.getD k 0 := by
  rw [List.getD_eq_getElem?_getD, List.getD_eq_getElem?_getD, List.getElem?_append_left h]
theorem e_givenL {B : List (List Int)} {d : Nat} {ws : List Int} {L : Int} (h : Slo B d) (hw : ws.length = d + 1) (sw : AllSz 700 ws) (sL : Sz 700 L) (L1 : 1 ≤ L) (t : Tps) :
    pGivenL [bodyD B, rowT (ws ++ [L])] t = .ok (.fr (rowT (Dt.lowL (givenZ ws B d ++ [L])))) t := by
  have hlim : ∀ {k : Nat}, k ≤ 12 → k ≤ lim := fun h => Nat.le_trans h (by decide)
  have d2 := h.d2
  let W : PyData := rowT (ws ++ [L])
  let q0 : Pst := ⟨[.fr (bodyD B), .fr W, .un, .un, .un, .un], t⟩
  let q1 : Pst := ⟨[.fr (bodyD B), .fr W, .fr (.int (d : Nat)), .un, .un, .un], t⟩
  let q2 : Pst := ⟨[.fr (bodyD B), .fr W, .fr (.int (d : Nat)), .ow (iL (givenZ ws B d)), .un, .un], t⟩
  let q3 : Pst := ⟨[.fr (bodyD B), .fr W, .fr (.int (d : Nat)), .fr (rowL (givenZ ws B d)), .un, .un], t⟩
  show fin (seqF _ _ q0) = _
  refine (congrArg fin (seq_ok (s1 := q1) (set_ok (s1 := q0) (x := .fr (.int (d : Nat))) ?_ (by show 2 < 6; decide)))).trans ?_
  · refine bin_ok (x := .fr (.int (B.length : Nat))) (y := .fr (.int 1)) (s1 := q0) (un_ok (d := bodyD B) rfl len_body) rfl ?_
    show okI _ = _
    rw [h.blen, show ((d + 1 : Nat) : Int) - 1 = (d : Nat) by omega]; rfl
  refine (congrArg fin (seq_ok (s1 := q2) (set_ok (s1 := q1) (x := .ow (iL (givenZ ws B d))) ?_ (by show 3 < 6; decide)))).trans ?_
  · show _ = Rs.ok (OV.ow (iL ((List.range d).map fun i => combZ ws B i))) q1
    unfold iL
    rw [List.map_map]
    refine lc_one (s := q1) (xs := List.range d) (fun k => PyData.int (k : Nat)) (fun i => .int (combZ ws B i)) ?_ (by rw [List.length_range]; exact hlim (by omega)) (by show 4 < 6; decide) rfl fun i hi => ⟨.fr (.int (combZ ws B i)), ?_, rfl⟩
    · have e : consF (var 2) nilF q1 = .ok [.int (d : Nat)] q1 := rfl
      rw [bnd_ok e]
      exact rng1_nat (by omega) _
    · refine un_ok (d := .list (iL ((List.range (d + 1)).map fun k => ws.getD k 0 * (B.getD k []).getD i 0))) (dat_ok (x := .ow _) ?_) ?_
      · unfold iL
        rw [List.map_map]
        refine lc_one (s := put 4 (.fr (.int (i : Nat))) q1) (xs := List.range (d + 1)) (fun k => PyData.int (k : Nat)) (fun k => .int (ws.getD k 0 * (B.getD k []).getD i 0)) ?_ (by rw [List.length_range]; exact hlim (by omega)) (by show 5 < 6; decide) rfl fun k hk => ⟨.fr (.int (ws.getD k 0 * (B.getD k []).getD i 0)), ?_, rfl⟩
        · have e : consF (bin dAdd (var 2) (cst (.int 1))) nilF (put 4 (.fr (.int (i : Nat))) q1) = .ok [.int ((d + 1 : Nat) : Int)] (put 4 (.fr (.int (i : Nat))) q1) := rfl
          rw [bnd_ok e]
          exact rng1_nat (by omega) _
        · have hk' := List.mem_range.mp hk
          have kB : k < B.length := by rw [h.blen]; exact hk'
          have mB : B.getD k [] ∈ B := by rw [List.getD_eq_getElem?_getD, List.getElem?_eq_getElem kB]; exact List.getElem_mem kB
          have hr := h.rows _ mB
          have hi' : i < (B.getD k []).length := by rw [hr.1]; exact List.mem_range.mp hi
          refine bin_ok (x := .fr (.int (ws.getD k 0))) (y := .fr (.int ((B.getD k []).getD i 0))) (ixv_fr (d := W) (y := .fr (.int (k : Nat))) rfl rfl rfl ?_) (bin_ok (x := .fr (rowT (B.getD k []))) (y := .fr (.int (i : Nat))) (ixv_fr (d := bodyD B) (y := .fr (.int (k : Nat))) rfl rfl rfl (dIx_body kB)) rfl (dIx_natT hi')) (dMul_ii (n := 700) (m := 100) ?_ ?_ (by decide))
          · have z := dIx_natT (r := ws ++ [L]) (k := k) (by rw [List.length_append, hw]; omega)
            rw [getD_app (by omega)] at z
            exact z
          · rw [List.getD_eq_getElem?_getD, List.getElem?_eq_getElem (by omega)]
            exact sw _ (List.getElem_mem _)
          · rw [List.getD_eq_getElem?_getD, List.getElem?_eq_getElem hi']
            exact hr.2 _ (List.getElem_mem hi')
      · rw [sum_iL, range_comb hw h.blen]
        rfl
  have hne : L ≠ 0 := by omega
  have hm : L ∈ givenZ ws B d ++ [L] := List.mem_append_right _ List.mem_cons_self
  refine fin_ret (s1 := q3) (call_eq (s1 := q3) (ds := [rowL (givenZ ws B d ++ [L])]) (cons_ok (x := .ow (iL (givenZ ws B d ++ [L]))) (s1 := q3) ?_ rfl) rfl (e_lowestL (row_l _) ?_ (gN_pos hm hne) (fun x hx => ?_) t)) rfl
  · refine bin_ok (x := .fr (rowL (givenZ ws B d))) (y := .ow [.int L]) (s1 := q3) rfl (mkL_ok (ds := [.int L]) (cons_ok (x := .fr (.int L)) (s1 := q3) (ixv_cstN (d := W) rfl dIx_last) rfl) (by show 1 ≤ 100000; decide)) ?_
    show fit _ _ = _
    unfold fit
    rw [if_pos (by unfold iL givenZ; rw [List.length_map, List.length_map, List.length_range]; exact hlim (show d + 1 ≤ 12 by omega))]
    unfold iL
    rw [List.map_append]; rfl
  · rw [List.length_append]
    unfold givenZ
    rw [List.length_map, List.length_range]
    exact hlim (show d + 1 ≤ 12 by omega)
  · have z : Sz 900 x := by
      rcases List.mem_append.mp hx with hx | hx
      · obtain ⟨i, _, rfl⟩ := List.mem_map.mp hx
        exact sz_le (comb_sz sw fun r hr => (h.rows r hr).2) (by omega)
      · rw [List.mem_singleton.mp hx]; exact sL.mono (by decide)
    exact Nat.lt_trans z (Nat.pow_lt_pow_right (by decide) (by decide))
/-! ### measures -/
theorem e_measureOf {B : List (List Int)} {d : Nat} (h : Slo B d) (t : Tps) : pMeasureOf [bodyD B] t = .ok (.fr (.int ((detZ B).natAbs : Nat))) t := by
  let q : Pst := ⟨[.fr (bodyD B)], t⟩
  refine fin_ret (s := q) (s1 := q) (un_ok (d := .int (detZ B)) (dat_ok (x := .fr (.int (detZ B))) (bin_ok (x := .fr (.tuple [.int (detZ B), .list ((slopesZ B).map rowL)])) (y := .fr (.int 0)) (s1 := q) (call_eq (s1 := q) (ds := [bodyD B]) rfl rfl (h.run t)) rfl rfl)) ?_) rfl
  show okI _ = okI _
  congr 1
  split <;> omega
theorem e_isFlat {B : List (List Int)} {d : Nat} (h : Slo B d) (t : Tps) : pIsFlat [bodyD B] t = .ok (.fr (.bool (decide (detZ B = 0)))) t := by
  let q : Pst := ⟨[.fr (bodyD B)], t⟩
  refine fin_ret (s := q) (s1 := q) (bin_ok (x := .fr (.int ((detZ B).natAbs : Nat))) (y := .fr (.int 0)) (s1 := q) (call_eq (s1 := q) (ds := [bodyD B]) rfl rfl (e_measureOf h t)) rfl ?_) rfl
  show okB _ = okB _
  congr 1
  exact decide_eq_decide.mpr ⟨fun z => by omega, fun z => by omega⟩
end K23
end SecPh
section SecPi
set_option Elab.async false
set_option linter.all false
set_option maxRecDepth 100000
set_option maxHeartbeats 4000000
namespace K23
open PySem PySem.Spec Pu
def turnZ : List Int → List Int → List Int → Int
  | [a0, a1, a2], [b0, b1, b2], [c0, c1, c2] => a0 * b1 * c2 + a1 * b2 * c0 + a2 * b0 * c1 - a2 * b1 * c0 - a1 * b0 * c2 - a0 * b2 * c1
  | _, _, _ => 0
theorem e_turnedL {a0 a1 a2 b0 b1 b2 c0 c1 c2 : Int} (ha : AllSz 100 [a0, a1, a2]) (hb : AllSz 100 [b0, b1, b2]) (hc : AllSz 100 [c0, c1, c2]) (t : Tps) :
    pTurnedL [rowT [a0, a1, a2], rowT [b0, b1, b2], rowT [c0, c1, c2]] t = .ok (.fr (.int (turnZ [a0, a1, a2] [b0, b1, b2] [c0, c1, c2]))) t := by
  let q0 : Pst := ⟨[.fr (rowT [a0, a1, a2]), .fr (rowT [b0, b1, b2]), .fr (rowT [c0, c1, c2]), .un], t⟩
  let q1 : Pst := ⟨[.fr (rowT [a0, a1, a2]), .fr (rowT [b0, b1, b2]), .fr (rowT [c0, c1, c2]), .fr (.int (a0 * b1 * c2 + a1 * b2 * c0 + a2 * b0 * c1))], t⟩
  have one : ∀ (s : Pst), sl s 0 = .fr (rowT [a0, a1, a2]) → sl s 1 = .fr (rowT [b0, b1, b2]) → sl s 2 = .fr (rowT [c0, c1, c2]) → ∀ (i j k : Int) (x y z : Int), x ∈ [a0, a1, a2] → y ∈ [b0, b1, b2] → z ∈ [c0, c1, c2] →
      dIx (rowT [a0, a1, a2]) (.int i) = .ok (.fr (.int x)) → dIx (rowT [b0, b1, b2]) (.int j) = .ok (.fr (.int y)) → dIx (rowT [c0, c1, c2]) (.int k) = .ok (.fr (.int z)) →
      bin dMul (bin dMul (ixv 0 (cst (.int i))) (ixv 1 (cst (.int j)))) (ixv 2 (cst (.int k))) s = .ok (.fr (.int (x * y * z))) s := fun s s0 s1 s2 i j k x y z hx hy hz e1 e2 e3 =>
    bin_ok (x := .fr (.int (x * y))) (y := .fr (.int z)) (s1 := s) (bin_ok (x := .fr (.int x)) (y := .fr (.int y)) (s1 := s) (ixv_cst s0 e1) (ixv_cst s1 e2) (dMul_ii (ha x hx) (hb y hy) (by decide))) (ixv_cst s2 e3) (dMul_ii (Sz.mul (ha x hx) (hb y hy)) (hc z hz) (by decide))
  have ma0 : a0 ∈ [a0, a1, a2] := by simp
  have ma1 : a1 ∈ [a0, a1, a2] := by simp
  have ma2 : a2 ∈ [a0, a1, a2] := by simp
  have mb0 : b0 ∈ [b0, b1, b2] := by simp
  have mb1 : b1 ∈ [b0, b1, b2] := by simp
  have mb2 : b2 ∈ [b0, b1, b2] := by simp
  have mc0 : c0 ∈ [c0, c1, c2] := by simp
  have mc1 : c1 ∈ [c0, c1, c2] := by simp
  have mc2 : c2 ∈ [c0, c1, c2] := by simp
  show fin (seqF _ _ q0) = _
  refine (congrArg fin (seq_ok (s1 := q1) (set_ok (s1 := q0) (x := .fr (.int (a0 * b1 * c2 + a1 * b2 * c0 + a2 * b0 * c1))) ?_ (by show 3 < 4; decide)))).trans ?_
  · have o := one q0 rfl rfl rfl
    exact bin_ok (x := .fr (.int (a0 * b1 * c2 + a1 * b2 * c0))) (y := .fr (.int (a2 * b0 * c1))) (s1 := q0) (bin_ok (x := .fr (.int (a0 * b1 * c2))) (y := .fr (.int (a1 * b2 * c0))) (s1 := q0) (o 0 1 2 _ _ _ ma0 mb1 mc2 rfl rfl rfl) (o 1 2 0 _ _ _ ma1 mb2 mc0 rfl rfl rfl) rfl) (o 2 0 1 _ _ _ ma2 mb0 mc1 rfl rfl rfl) rfl
  · have o := one q1 rfl rfl rfl
    exact fin_ret (s1 := q1) (bin_ok (x := .fr (.int (a0 * b1 * c2 + a1 * b2 * c0 + a2 * b0 * c1 - a2 * b1 * c0 - a1 * b0 * c2))) (y := .fr (.int (a0 * b2 * c1))) (s1 := q1) (bin_ok (x := .fr (.int (a0 * b1 * c2 + a1 * b2 * c0 + a2 * b0 * c1 - a2 * b1 * c0))) (y := .fr (.int (a1 * b0 * c2))) (s1 := q1) (bin_ok (x := .fr (.int (a0 * b1 * c2 + a1 * b2 * c0 + a2 * b0 * c1))) (y := .fr (.int (a2 * b1 * c0))) (s1 := q1) rfl (o 2 1 0 _ _ _ ma2 mb1 mc0 rfl rfl rfl) rfl) (o 1 0 2 _ _ _ ma1 mb0 mc2 rfl rfl rfl) rfl) (o 0 2 1 _ _ _ ma0 mb2 mc1 rfl rfl rfl) rfl) rfl
theorem e_measureL2 {x0 y0 x1 y1 x2 y2 : Int} (a0 : Sz 60 x0) (b0 : Sz 60 y0) (a1 : Sz 60 x1) (b1 : Sz 60 y1) (a2 : Sz 60 x2) (b2 : Sz 60 y2) (t : Tps) :
    pMeasureL [bodyD [[x0, y0], [x1, y1], [x2, y2]]] t = .ok (.fr (.int ((detZ [[x0, y0], [x1, y1], [x2, y2]]).natAbs : Nat))) t := by
  let B : PyData := bodyD [[x0, y0], [x1, y1], [x2, y2]]
  let st : Sl → Int → Pst := fun u n => ⟨[.fr B, .fr (.int n), u], t⟩
  have turn : ∀ (k : Int) (n xp yp xk yk : Int), Sz 60 xp → Sz 60 yp → Sz 60 xk → Sz 60 yk → dIx B (.int (k - 1)) = .ok (.fr (rowT [xp, yp])) → dIx B (.int k) = .ok (.fr (rowT [xk, yk])) →
      setF 1 (bin dSub (bin dAdd (var 1) (bin dMul (bin dIx (ixv 0 (bin dSub (var 2) (cst (.int 1)))) (cst (.int 0))) (bin dIx (ixv 0 (var 2)) (cst (.int 1))))) (bin dMul (bin dIx (ixv 0 (bin dSub (var 2) (cst (.int 1)))) (cst (.int 1))) (bin dIx (ixv 0 (var 2)) (cst (.int 0))))) (st (.fr (.int k)) n) = .ok .nx (st (.fr (.int k)) (n + xp * yk - yp * xk)) := by
    intro k n xp yp xk yk h1 h2 h3 h4 e1 e2
    let s := st (.fr (.int k)) n
    have r1 : ixv 0 (bin dSub (var 2) (cst (.int 1))) s = .ok (.fr (rowT [xp, yp])) s := ixv_fr (d := B) (y := .fr (.int (k - 1))) rfl rfl rfl e1
    have r2 : ixv 0 (var 2) s = .ok (.fr (rowT [xk, yk])) s := ixv_fr (d := B) (y := .fr (.int k)) rfl rfl rfl e2
    refine set_ok (s1 := s) (x := .fr (.int (n + xp * yk - yp * xk))) ?_ (by show 1 < 3; decide)
    exact bin_ok (x := .fr (.int (n + xp * yk))) (y := .fr (.int (yp * xk))) (s1 := s) (bin_ok (x := .fr (.int n)) (y := .fr (.int (xp * yk))) (s1 := s) rfl (bin_ok (x := .fr (.int xp)) (y := .fr (.int yk)) (s1 := s) (bin_ok (y := .fr (.int 0)) r1 rfl rfl) (bin_ok (y := .fr (.int 1)) r2 rfl rfl) (dMul_ii h1 h4 (by decide))) rfl) (bin_ok (x := .fr (.int yp)) (y := .fr (.int xk)) (s1 := s) (bin_ok (y := .fr (.int 1)) r1 rfl rfl) (bin_ok (y := .fr (.int 0)) r2 rfl rfl) (dMul_ii h2 h3 (by decide))) rfl
  have key : x2 * y0 - y2 * x0 + (x0 * y1 - y0 * x1) + (x1 * y2 - y1 * x2) = detZ [[x0, y0], [x1, y1], [x2, y2]] := by rw [det2]; grind
  let N : Int := 0 + x2 * y0 - y2 * x0 + x0 * y1 - y0 * x1 + x1 * y2 - y1 * x2
  have hN : N = detZ [[x0, y0], [x1, y1], [x2, y2]] := by rw [← key]; show 0 + x2 * y0 - y2 * x0 + x0 * y1 - y0 * x1 + x1 * y2 - y1 * x2 = _; omega
  let q0 : Pst := ⟨[.fr B, .un, .un], t⟩
  show fin (seqF _ _ q0) = _
  refine (congrArg fin (seq_rt (s1 := st (.fr (.int 2)) N) (x := .fr (.int ((detZ [[x0, y0], [x1, y1], [x2, y2]]).natAbs : Nat))) ?_)).trans rfl
  refine Eq.trans (b := _) (if_true (s1 := q0) ?_) ?_
  · rfl
  refine Eq.trans (b := _) (seq_ok (s1 := st .un 0) ?_) ?_
  · rfl
  refine (seq_ok (s1 := st (.fr (.int 2)) N) ?_).trans ?_
  · exact for_go (rng1_nat (n := 3) (by decide) (st .un 0)) (go_next (s1 := st (.fr (.int 0)) 0) rfl (turn 0 0 x2 y2 x0 y0 a2 b2 a0 b0 rfl rfl) (go_next rfl (turn 1 _ x0 y0 x1 y1 a0 b0 a1 b1 rfl rfl) (go_next rfl (turn 2 _ x1 y1 x2 y2 a1 b1 a2 b2 rfl rfl) rfl)))
  · refine ret_ok (un_ok (d := .int N) rfl ?_)
    show okI _ = okI _
    rw [hN]
    congr 1
    split <;> omega
theorem e_measureL3 {x0 y0 z0 x1 y1 z1 x2 y2 z2 x3 y3 z3 : Int} (a0 : Sz 60 x0) (b0 : Sz 60 y0) (c0 : Sz 60 z0) (a1 : Sz 60 x1) (b1 : Sz 60 y1) (c1 : Sz 60 z1) (a2 : Sz 60 x2) (b2 : Sz 60 y2) (c2 : Sz 60 z2) (a3 : Sz 60 x3) (b3 : Sz 60 y3) (c3 : Sz 60 z3) (t : Tps) :
    pMeasureL [bodyD [[x0, y0, z0], [x1, y1, z1], [x2, y2, z2], [x3, y3, z3]]] t = .ok (.fr (.int ((detZ [[x0, y0, z0], [x1, y1, z1], [x2, y2, z2], [x3, y3, z3]]).natAbs : Nat))) t := by
  let B : PyData := bodyD [[x0, y0, z0], [x1, y1, z1], [x2, y2, z2], [x3, y3, z3]]
  have r0 : AllSz 100 [x0, y0, z0] := by walk_at "v allsz"
  have r1 : AllSz 100 [x1, y1, z1] := by walk_at "v allsz"
  have r2 : AllSz 100 [x2, y2, z2] := by walk_at "v allsz"
  have r3 : AllSz 100 [x3, y3, z3] := by walk_at "v allsz"
  let T (a b c : List Int) : Int := turnZ a b c
  let N1 : Int := T [x1, y1, z1] [x2, y2, z2] [x3, y3, z3] - T [x0, y0, z0] [x2, y2, z2] [x3, y3, z3]
  let N : Int := N1 + T [x0, y0, z0] [x1, y1, z1] [x3, y3, z3] - T [x0, y0, z0] [x1, y1, z1] [x2, y2, z2]
  let q0 : Pst := ⟨[.fr B, .un, .un], t⟩
  let q1 : Pst := ⟨[.fr B, .fr (.int N1), .un], t⟩
  have call : ∀ (s : Pst) (i j k : Int) (u v w : PyData) (n : Int), sl s 0 = .fr B → dIx B (.int i) = .ok (.fr u) → dIx B (.int j) = .ok (.fr v) → dIx B (.int k) = .ok (.fr w) → pTurnedL [u, v, w] s.t = .ok (.fr (.int n)) s.t →
      callF 3 pTurnedL (consF (ixv 0 (cst (.int i))) (consF (ixv 0 (cst (.int j))) (consF (ixv 0 (cst (.int k))) nilF))) s = .ok (.fr (.int n)) s := fun s i j k u v w n h e1 e2 e3 e =>
    call_eq (s1 := s) (ds := [u, v, w]) (cons_ok (x := .fr u) (ixv_cst h e1) (cons_ok (x := .fr v) (ixv_cst h e2) (cons_ok (x := .fr w) (ixv_cst h e3) rfl))) rfl e
  show fin (seqF _ _ q0) = _
  refine (congrArg fin (seq_ok (s1 := q0) ?_)).trans ?_
  · exact if_false (s1 := q0) rfl
  refine (congrArg fin (seq_ok (s1 := q1) (set_ok (s1 := q0) (x := .fr (.int N1)) (bin_ok (x := .fr (.int (T [x1, y1, z1] [x2, y2, z2] [x3, y3, z3]))) (y := .fr (.int (T [x0, y0, z0] [x2, y2, z2] [x3, y3, z3]))) (s1 := q0)
    (call q0 1 2 3 _ _ _ _ rfl rfl rfl rfl (e_turnedL r1 r2 r3 t)) (call q0 0 2 3 _ _ _ _ rfl rfl rfl rfl (e_turnedL r0 r2 r3 t)) rfl) (by show 1 < 3; decide)))).trans ?_
  refine fin_ret (s1 := q1) (un_ok (d := .int N) (dat_ok (x := .fr (.int N)) (bin_ok (x := .fr (.int (N1 + T [x0, y0, z0] [x1, y1, z1] [x3, y3, z3]))) (y := .fr (.int (T [x0, y0, z0] [x1, y1, z1] [x2, y2, z2]))) (s1 := q1) (bin_ok (x := .fr (.int N1)) (y := .fr (.int (T [x0, y0, z0] [x1, y1, z1] [x3, y3, z3]))) (s1 := q1) rfl
    (call q1 0 1 3 _ _ _ _ rfl rfl rfl rfl (e_turnedL r0 r1 r3 t)) rfl) (call q1 0 1 2 _ _ _ _ rfl rfl rfl rfl (e_turnedL r0 r1 r2 t)) rfl)) ?_) rfl
  have hN : N = detZ [[x0, y0, z0], [x1, y1, z1], [x2, y2, z2], [x3, y3, z3]] := by
    rw [det3]
    show turnZ [x1, y1, z1] [x2, y2, z2] [x3, y3, z3] - turnZ [x0, y0, z0] [x2, y2, z2] [x3, y3, z3] + turnZ [x0, y0, z0] [x1, y1, z1] [x3, y3, z3] - turnZ [x0, y0, z0] [x1, y1, z1] [x2, y2, z2] = _
    unfold turnZ
    grind
  show okI _ = okI _
  rw [hN]
  congr 1
  split <;> omega
theorem e_measureL {B : List (List Int)} (h : Bo 60 B) (t : Tps) : pMeasureL [bodyD B] t = .ok (.fr (.int ((detZ B).natAbs : Nat))) t := by
  cases h with
  | two a0 b0 a1 b1 a2 b2 => exact e_measureL2 a0 b0 a1 b1 a2 b2 t
  | three a0 b0 c0 a1 b1 c1 a2 b2 c2 a3 b3 c3 => exact e_measureL3 a0 b0 c0 a1 b1 c1 a2 b2 c2 a3 b3 c3 t
end K23
end SecPi
section SecPj
set_option Elab.async false
set_option linter.all false
set_option maxRecDepth 100000
set_option maxHeartbeats 4000000
namespace K23
open PySem PySem.Spec Pu
/-! ### the same -/
/-- of the kinds that are compared, so deep at most -/
inductive Gd : Nat → PyData → Prop
  | non {n : Nat} : Gd n .none
  | bl {n : Nat} (b : Bool) : Gd n (.bool b)
  | int {n : Nat} (i : Int) : Gd n (.int i)
  | str {n : Nat} {z : Str} (h : dEq (.str z) (.str z) = okB true) : Gd n (.str z)
  | tup {n : Nat} {ds : List PyData} (h : ∀ d ∈ ds, Gd n d) (l : ds.length ≤ 1000000) : Gd (n + 1) (.tuple ds)
theorem recF_succ (b : Fn → Fn) (n : Nat) : recF b (n + 1) = b (recF b n) := rfl
theorem e_same : ∀ {n : Nat} {d : PyData}, Gd n d → ∀ t : Tps, recF bSameL (n + 1) [d, d] t = .ok (.fr (.bool true)) t
  | n, .none, _, t => rfl
  | n, .bool true, _, t => rfl
  | n, .bool false, _, t => rfl
  | n, .int i, _, t => by
    have e : recF bSameL (n + 1) [.int i, .int i] t = .ok (.fr (.bool (decide (i = i)))) t := rfl
    rw [e, decide_eq_true rfl]
  | n, .str z, h, t => by
    have hz : dEq (.str z) (.str z) = okB true := by cases h; assumption
    let q : Pst := ⟨[.fr (.str z), .fr (.str z), .un], t⟩
    rw [recF_succ]
    show fin (seqF _ _ q) = _
    refine (congrArg fin (seq_ok (s1 := q) ?_)).trans ?_
    · exact if_false (s1 := q) rfl
    refine (congrArg fin (seq_ok (s1 := q) ?_)).trans ?_
    · exact if_false (s1 := q) rfl
    refine (congrArg fin (seq_ok (s1 := q) ?_)).trans ?_
    · exact if_false (s1 := q) rfl
    refine (congrArg fin (seq_ok (s1 := q) ?_)).trans ?_
    · exact if_false (s1 := q) rfl
    refine (congrArg fin (seq_rt (s1 := q) (x := .fr (.bool true)) ?_)).trans rfl
    refine Eq.trans (b := _) (if_true (s1 := q) ?_) ?_
    · rfl
    refine ret_ok ?_
    show (dEq (.str z) (.str z)).m q = _
    rw [hz]; rfl
  | 0, .tuple ds, h, t => by cases h
  | n + 1, .tuple ds, h, t => by
    have hd : ∀ d ∈ ds, Gd n d := by cases h; assumption
    have hl : ds.length ≤ 1000000 := by cases h; assumption
    let q : Pst := ⟨[.fr (.tuple ds), .fr (.tuple ds), .un], t⟩
    rw [recF_succ]
    show fin (seqF _ _ q) = _
    refine (congrArg fin (seq_ok (s1 := q) ?_)).trans ?_
    · exact if_false (s1 := q) rfl
    refine (congrArg fin (seq_ok (s1 := q) ?_)).trans ?_
    · exact if_false (s1 := q) rfl
    refine (congrArg fin (seq_ok (s1 := q) ?_)).trans ?_
    · exact if_false (s1 := q) rfl
    refine (congrArg fin (seq_ok (s1 := q) ?_)).trans ?_
    · exact if_false (s1 := q) rfl
    refine (congrArg fin (seq_ok (s1 := q) ?_)).trans ?_
    · exact if_false (s1 := q) rfl
    refine (congrArg fin (seq_ok (s1 := q) ?_)).trans ?_
    · refine if_false (s1 := q) ?_
      have e : orT (notT (tru (dat (un (dIsi "tuple") (peek 0))))) (tst (bin dNe (un dLen (peek 0)) (un dLen (peek 1)))) q = .ok (!decide (((ds.length : Nat) : Int) = (ds.length : Nat))) q := rfl
      rw [e, decide_eq_true rfl]; rfl
    obtain ⟨u', e, _⟩ := for_fold (s0 := q) (A := nmA 2) (B := ifF (notT (tru (dat (callF 2 (recF bSameL (n + 1)) (consF (ixv 0 (var 2)) (consF (ixv 1 (var 2)) nilF)))))) (retF (cst (.bool false))) (pur .nx)) (Fi := bnd (consF (un dLen (peek 1)) nilF) rng1)
      (fun k : Nat => PyData.int (k : Nat)) (fun u (_ : Unit) => (⟨[.fr (.tuple ds), .fr (.tuple ds), u], t⟩ : Pst)) (fun b _ => b) (fun _ => True) (xs := List.range ds.length) (u := .un) (b := ()) (by rw [bnd_ok (show consF (un dLen (peek 1)) nilF q = .ok [.int (ds.length : Nat)] q from rfl)]; exact rng1_nat hl _) rfl trivial fun k hk u b _ => by
        let s : Pst := ⟨[.fr (.tuple ds), .fr (.tuple ds), .fr (.int (k : Nat))], t⟩
        refine ⟨s, rfl, ?_, trivial⟩
        have k1 := List.mem_range.mp hk
        have ix : dIx (.tuple ds) (.int (k : Nat)) = .ok (.fr ds[k]) := by
          have z : L2.atI ds (k : Nat) = some ds[k] := L2.atI_nat (List.getElem?_eq_getElem k1)
          show (match L2.atI ds (k : Nat) with | some d => R1.ok (.fr d) | none => .no) = _
          rw [z]
        refine if_false (s1 := s) ?_
        have c : callF 2 (recF bSameL (n + 1)) (consF (ixv 0 (var 2)) (consF (ixv 1 (var 2)) nilF)) s = .ok (.fr (.bool true)) s :=
          call_eq (s1 := s) (ds := [ds[k], ds[k]]) (cons_ok (x := .fr ds[k]) (s1 := s) (ixv_fr (d := .tuple ds) (y := .fr (.int (k : Nat))) rfl rfl rfl ix) (cons_ok (x := .fr ds[k]) (s1 := s) (ixv_fr (d := .tuple ds) (y := .fr (.int (k : Nat))) rfl rfl rfl ix) rfl)) rfl (e_same (hd _ (List.getElem_mem k1)) t)
        have c2 : tru (dat (callF 2 (recF bSameL (n + 1)) (consF (ixv 0 (var 2)) (consF (ixv 1 (var 2)) nilF)))) s = .ok true s := by
          unfold tru
          rw [bnd_ok (dat_ok c)]; rfl
        show notT _ s = _
        unfold notT
        rw [bnd_ok c2]; rfl
    refine (congrArg fin (seq_ok (s1 := ⟨[.fr (.tuple ds), .fr (.tuple ds), u'], t⟩) e)).trans ?_
    rfl
/-- what is asked of same -/
theorem same5 {d : PyData} (h : Gd 5 d) (t : Tps) : pSameL [d, d] t = .ok (.fr (.bool true)) t := e_same h t
theorem Gd.mono {n m : Nat} : ∀ {d : PyData}, Gd n d → n ≤ m → Gd m d := by
  intro d h
  induction h generalizing m with
  | non => exact fun _ => .non
  | bl b => exact fun _ => .bl b
  | int i => exact fun _ => .int i
  | str h => exact fun _ => .str h
  | tup h l ih =>
    intro hm
    obtain ⟨k, rfl⟩ : ∃ k, m = k + 1 := ⟨m - 1, by omega⟩
    exact .tup (fun d hd => ih d hd (by omega)) l
theorem gd_row {n : Nat} {xs : List Int} (h : xs.length ≤ 1000000) : Gd (n + 1) (rowT xs) := by
  have hl : (iL xs).length ≤ 1000000 := by
    have e : (iL xs).length = xs.length := List.length_map _
    rw [e]; exact h
  refine Gd.tup (fun d hd => ?_) hl
  obtain ⟨x, _, rfl⟩ := List.mem_map.mp hd
  exact .int x
end K23
end SecPj
section SecPk
set_option Elab.async false
set_option linter.all false
set_option maxRecDepth 100000
set_option maxHeartbeats 4000000
namespace K23
open PySem PySem.Spec Pu
/-! ### sorted -/
abbrev dLe' (x y : PyData) : Bool := !PySem.W.dataLt y x
theorem dle_trans (a b c : PyData) (h1 : dLe' a b = true) (h2 : dLe' b c = true) : dLe' a c = true := by
  unfold dLe' at *
  rw [Bool.not_eq_true'] at *
  cases h : PySem.W.dataLt c a with
  | false => rfl
  | true =>
    rcases (PyProof.Rows.listOrd PyProof.Rows.itemOrd).negTrans _ (PySem.W.keyToks b) _ h with z | z
    · have z' : PySem.W.dataLt c b = true := z
      rw [h2] at z'; cases z'
    · have z' : PySem.W.dataLt b a = true := z
      rw [h1] at z'; cases z'
theorem dle_total (a b : PyData) : (dLe' a b || dLe' b a) = true := by
  unfold dLe'
  cases h : PySem.W.dataLt b a with
  | false => rfl
  | true =>
    cases h2 : PySem.W.dataLt a b with
    | false => rfl
    | true =>
      have z : PySem.W.dataLt a a = true := (PyProof.Rows.listOrd PyProof.Rows.itemOrd).trans _ _ _ h2 h
      have y : PySem.W.dataLt a a = false := (PyProof.Rows.listOrd PyProof.Rows.itemOrd).irrefl _
      rw [z] at y; cases y
theorem sort_perm {l m : List PyData} (h : l.Perm m) (inj : ∀ a b, a ∈ l → b ∈ l → PySem.W.keyToks a = PySem.W.keyToks b → a = b) : sortD l = sortD m := by
  unfold sortD
  refine List.Perm.eq_of_pairwise (le := fun x y => dLe' x y = true) (fun a b ha hb h1 h2 => ?_) (List.pairwise_mergeSort dle_trans dle_total l) (List.pairwise_mergeSort dle_trans dle_total m) (((List.mergeSort_perm l _).trans h).trans (List.mergeSort_perm m _).symm)
  have ha' : a ∈ l := List.mem_mergeSort.mp ha
  have hb' : b ∈ l := h.symm.mem_iff.mp (List.mem_mergeSort.mp hb)
  refine inj a b ha' hb' ?_
  unfold dLe' at h1 h2
  rw [Bool.not_eq_true'] at h1 h2
  exact (PyProof.Rows.listOrd PyProof.Rows.itemOrd).total _ _ h2 h1
theorem toks_row : ∀ {xs ys : List Int} {r s : List (Int ⊕ List Nat)}, PySem.W.keyToksAll (iL xs) ++ r = PySem.W.keyToksAll (iL ys) ++ s → xs = ys ∧ r = s
  | [], [], r, s, h => by
    have h' : Sum.inl 0 :: r = Sum.inl 0 :: s := h
    exact ⟨rfl, (List.cons.inj h').2⟩
  | [], y :: ys, r, s, h => by
    have h' : Sum.inl 0 :: r = Sum.inl 1 :: (Sum.inl y :: (PySem.W.keyToksAll (iL ys) ++ s)) := h
    have := Sum.inl.inj (List.cons.inj h').1
    omega
  | x :: xs, [], r, s, h => by
    have h' : Sum.inl 1 :: (Sum.inl x :: (PySem.W.keyToksAll (iL xs) ++ r)) = Sum.inl 0 :: s := h
    have := Sum.inl.inj (List.cons.inj h').1
    omega
  | x :: xs, y :: ys, r, s, h => by
    have h' : Sum.inl 1 :: (Sum.inl x :: (PySem.W.keyToksAll (iL xs) ++ r)) = Sum.inl 1 :: (Sum.inl y :: (PySem.W.keyToksAll (iL ys) ++ s)) := h
    obtain ⟨_, h2⟩ := List.cons.inj h'
    obtain ⟨h3, h4⟩ := List.cons.inj h2
    have e := Sum.inl.inj h3
    obtain ⟨h5, h6⟩ := toks_row h4
    exact ⟨by rw [e, h5], h6⟩
/-- a corner with its quotient -/
def pairD (r q : List Int) : PyData := .tuple [rowT r, rowT q]
theorem toks_pair {r q r' q' : List Int} (h : PySem.W.keyToks (pairD r q) = PySem.W.keyToks (pairD r' q')) : r = r' ∧ q = q' := by
  have h' : Sum.inl 1 :: (PySem.W.keyToksAll (iL r) ++ (Sum.inl 1 :: (PySem.W.keyToksAll (iL q) ++ [Sum.inl 0]))) = Sum.inl 1 :: (PySem.W.keyToksAll (iL r') ++ (Sum.inl 1 :: (PySem.W.keyToksAll (iL q') ++ [Sum.inl 0]))) := h
  obtain ⟨e1, h2⟩ := toks_row (List.cons.inj h').2
  exact ⟨e1, (toks_row (List.cons.inj h2).2).1⟩
theorem alike_row : ∀ {xs ys : List Int}, PySem.W.alikeAll (iL xs) (iL ys) = true
  | [], ys => by cases ys <;> rfl
  | x :: xs, [] => rfl
  | x :: xs, y :: ys => by
    show (true && PySem.W.alikeAll (iL xs) (iL ys)) = true
    rw [Bool.true_and]; exact alike_row
theorem alike_pair {r q r' q' : List Int} : PySem.W.alike (pairD r q) (pairD r' q') = true := by
  show (PySem.W.alikeAll (iL r) (iL r') && (PySem.W.alikeAll (iL q) (iL q') && true)) = true
  rw [alike_row, alike_row]; rfl
theorem plain_row {xs : List Int} : noTapes (iL xs) = true ∧ PyData.canLayAll0 (iL xs) = true ∧ PyData.depthAll (iL xs) = 0 := by
  induction xs with
  | nil => exact ⟨rfl, rfl, rfl⟩
  | cons x xs ih =>
    obtain ⟨h1, h2, h3⟩ := ih
    refine ⟨h1, ?_, ?_⟩
    · show (true && PyData.canLayAll0 (iL xs)) = true
      rw [h2]; rfl
    · show max 0 (PyData.depthAll (iL xs)) = 0
      rw [h3]; rfl
theorem plain_pair {r q : List Int} : Pu.plain (pairD r q) = true := by
  obtain ⟨a1, a2, a3⟩ := plain_row (xs := r)
  obtain ⟨b1, b2, b3⟩ := plain_row (xs := q)
  unfold Pu.plain SeqAt.shaped
  have n : noTape (pairD r q) = true := by
    show (noTapes (iL r) && (noTapes (iL q) && true)) = true
    rw [a1, b1]; rfl
  have c : PyData.canLay0 (pairD r q) = true := by
    show (PyData.canLayAll0 (iL r) && (PyData.canLayAll0 (iL q) && true)) = true
    rw [a2, b2]; rfl
  have dp : PyData.depth (pairD r q) = 2 := by
    show max (PyData.depthAll (iL r) + 1) (max (PyData.depthAll (iL q) + 1) 0) + 1 = 2
    rw [a3, b3]; rfl
  rw [n, c, dp]; rfl
theorem sorts {ps : List (List Int × List Int)} : dSortL (.list (ps.map fun p => pairD p.1 p.2)) = .ok (.ow (sortD (ps.map fun p => pairD p.1 p.2))) := by
  show (if _ then _ else _) = _
  rw [if_pos]
  refine ⟨?_, ?_, ?_⟩
  · unfold alikeB
    rw [List.all_eq_true]
    intro x hx
    rw [List.all_eq_true]
    intro y hy
    obtain ⟨p, _, rfl⟩ := List.mem_map.mp hx
    obtain ⟨q, _, rfl⟩ := List.mem_map.mp hy
    exact alike_pair
  · unfold sortableB
    rw [Bool.or_eq_true]
    refine .inl ?_
    rw [List.all_eq_true]
    intro x hx
    obtain ⟨p, _, rfl⟩ := List.mem_map.mp hx
    rfl
  · rw [List.all_eq_true]
    intro x hx
    obtain ⟨p, _, rfl⟩ := List.mem_map.mp hx
    exact plain_pair
/-- the carrier: corners whose weight is above 0, ascending -/
def carL (B : List (List Int)) (ws : List Int) (L : Int) : List (List Int × List Int) := ((B.zip ws).filter fun p => decide (0 < p.2)).map fun p => (p.1, Dt.lowL [p.2, L])
def carD (B : List (List Int)) (ws : List Int) (L : Int) : PyData := if ws.all (fun w => decide (0 ≤ w)) then .tuple (sortD ((carL B ws L).map fun p => pairD p.1 p.2)) else .none
theorem car_rot {B : List (List Int)} {ws : List Int} {L : Int} (h : B.length = ws.length) : carD (rot B) (rot ws) L = carD B ws L := by
  match B, ws, h with
  | [], [], _ => rfl
  | r :: B, w :: ws, h =>
    have h' : B.length = ws.length := by simpa using h
    unfold carD
    have e1 : (rot (w :: ws)).all (fun w => decide (0 ≤ w)) = (w :: ws).all fun w => decide (0 ≤ w) := by
      show (ws ++ [w]).all _ = _
      rw [List.all_append, List.all_cons, List.all_cons, List.all_nil, Bool.and_true, Bool.and_comm]
    rw [e1]
    have e2 : ((carL (r :: B) (w :: ws) L).map fun p => pairD p.1 p.2).Perm ((carL (rot (r :: B)) (rot (w :: ws)) L).map fun p => pairD p.1 p.2) := by
      refine List.Perm.map _ ?_
      unfold carL
      refine List.Perm.map _ (List.Perm.filter _ ?_)
      show ((r, w) :: B.zip ws).Perm ((B ++ [r]).zip (ws ++ [w]))
      rw [List.zip_append h']
      exact (List.perm_append_comm (l₁ := [(r, w)]) (l₂ := B.zip ws))
    rw [sort_perm e2 fun a b ha hb hk => ?_]
    obtain ⟨p, _, rfl⟩ := List.mem_map.mp ha
    obtain ⟨q, _, rfl⟩ := List.mem_map.mp hb
    obtain ⟨h1, h2⟩ := toks_pair hk
    rw [h1, h2]
end K23
end SecPk
section SecPl
set_option Elab.async false
set_option linter.all false
set_option maxRecDepth 100000
set_option maxHeartbeats 4000000
namespace K23
open PySem PySem.Spec Pu
theorem demand_ok {Fx : M OV} {s : Pst} {w : Str} (h : Fx s = .ok (.fr (.bool true)) s) : dropF (callF 2 pDemand (consF Fx (consF (cst (.str w)) nilF))) s = .ok .nx s :=
  drop_ok (call_eq (s1 := s) (ds := [.bool true, .str w]) (cons_ok h rfl) rfl (e_demand true w s.t))
theorem call_err {n : Nat} {p : Fn} {F : M (List PyData)} {ds : List PyData} {s s1 : Pst} {c : Str} {fs : List (Str × L2.V)} {t : Tps} (a : F s = .ok ds s1) (h : ds.length = n) (b : p ds s1.t = .err c fs t) : callF n p F s = .err c fs t := by
  unfold callF; rw [bnd_ok a]; show (if _ then _ else _) = _; rw [if_pos h, b]
theorem drop_err {Fa : M OV} {s : Pst} {c : Str} {fs : List (Str × L2.V)} {t : Tps} (a : Fa s = .err c fs t) : dropF Fa s = .err c fs t := by unfold dropF; rw [bnd_err a]
theorem seq_err {Fs Fs' : M Fw} {s : Pst} {c : Str} {fs : List (Str × L2.V)} {t : Tps} (a : Fs s = .err c fs t) : seqF Fs Fs' s = .err c fs t := by unfold seqF; rw [bnd_err a]
abbrev nuF (w : Str) : List (Str × L2.V) := [(("at" : Str), .int (-1)), (("word" : Str), .str w)]
theorem demand_no {Fx : M OV} {s : Pst} {w : Str} (h : Fx s = .ok (.fr (.bool false)) s) : dropF (callF 2 pDemand (consF Fx (consF (cst (.str w)) nilF))) s = .err "NotUsable" (nuF w) s.t :=
  drop_err (call_err (s1 := s) (ds := [.bool false, .str w]) (cons_ok h rfl) rfl (e_demand false w s.t))
/-! ### quotients -/
theorem lowL_two {w L : Int} (L1 : 1 ≤ L) : 0 < gN [w, L] := gN_pos (List.mem_cons_of_mem _ List.mem_cons_self) (by omega)
theorem e_quotientOf {w L : Int} (L1 : 1 ≤ L) (sL : Sz 700 L) (t : Tps) : pQuotientOf [.int w, .int L] t = .ok (.fr (rowT (Dt.lowL [w, L]))) t := by
  let q : Pst := ⟨[.fr (.int w), .fr (.int L)], t⟩
  show fin (seqF _ _ q) = _
  refine (congrArg fin (seq_ok (s1 := q) ?_)).trans ?_
  · exact demand_ok (call_eq (s1 := q) (ds := [.int w]) rfl rfl (e_isInteger (d := .int w) rfl t))
  refine (congrArg fin (seq_ok (s1 := q) ?_)).trans ?_
  · refine demand_ok ?_
    have e : callF 1 pIsInteger (consF (var 1) nilF) q = .ok (.fr (.bool true)) q := call_eq (s1 := q) (ds := [.int L]) rfl rfl (e_isInteger (d := .int L) rfl t)
    unfold andV
    rw [bnd_ok e]
    show (okB (!decide (L = 0))).m q = _
    rw [decide_eq_false (by omega : ¬ L = 0)]; rfl
  refine (congrArg fin (seq_ok (s1 := q) ?_)).trans ?_
  · refine if_false (s1 := q) ?_
    have e : tst (bin dLt (var 1) (cst (.int 0))) q = .ok (decide (L < 0)) q := rfl
    rw [e, decide_eq_false (by omega)]
  refine fin_ret (s1 := q) (call_eq (s1 := q) (ds := [rowT [w, L]]) (cons_ok (x := .fr (rowT [w, L])) (s1 := q) (mkT_ok (ds := [.int w, .int L]) rfl (by show 2 ≤ 100000; decide)) rfl) rfl (e_lowest (row_t [w, L]) (by show 2 ≤ 100000; decide) (lowL_two L1) ?_ t)) rfl
  exact Nat.lt_of_le_of_lt (gN_le (List.mem_cons_of_mem _ List.mem_cons_self) (by omega : L ≠ 0)) (Nat.lt_trans sL (Nat.pow_lt_pow_right (by decide) (by decide)))
/-! ### what is demanded of a place -/
theorem dLow_row {d : Nat} {ps : List Int} {b : Int} (hl : ps.length = d) (b1 : 1 ≤ b) (g : gN (ps ++ [b]) = 1) {n : Nat} (hn : n = d + 1) : Dt.dLow (n : Nat) (rowT (ps ++ [b])) = true := by
  subst hn
  unfold Dt.dLow
  have h1 : Dt.dRow ((d + 1 : Nat) : Int) (rowT (ps ++ [b])) = true := by
    show (decide (((iL (ps ++ [b])).length : Int) = ((d + 1 : Nat) : Int)) && (iL (ps ++ [b])).all Dt.dInt) = true
    have e : (iL (ps ++ [b])).length = d + 1 := by unfold iL; rw [List.length_map, List.length_append, hl]; rfl
    rw [e, decide_eq_true rfl, Bool.true_and]
    unfold iL
    rw [List.all_map, List.all_eq_true]
    intro x _; rfl
  rw [h1]
  show (true && Dt.lowB (Dt.intsOf ((ps ++ [b]).map PyData.int))) = true
  rw [Dt.intsOf_map]
  unfold Dt.lowB
  have hlast : (ps ++ [b]).getLastD 0 = b := by simp
  rw [hlast, decide_eq_true b1, gcdL_eq, g]
  rfl
theorem nt_row {xs : List Int} : noTape (rowT xs) = true := (plain_row (xs := xs)).1
theorem row_lim {xs : List Int} {l : List PyData} (h : rowT xs = .tuple l) (hx : xs.length ≤ 12) : l.length ≤ lim := by
  cases h
  unfold iL
  rw [List.length_map]
  exact Nat.le_trans hx (by decide)
theorem fits_ok {B : List (List Int)} {d : Nat} {ps : List Int} {b : Int} (hB : B.length = d + 1) (d2 : d = 2 ∨ d = 3) (p : Pl d ps b) (t : Tps) : pFitsBody [bodyD B, rowT (ps ++ [b])] t = .ok (.fr (.bool true)) t := by
  have z := e_fitsBody (B := B) (d := rowT (ps ++ [b])) (by omega) nt_row (fun l h => row_lim h (by rw [List.length_append, p.len]; show d + 1 ≤ 12; omega)) t
  rw [dLow_row p.len p.b1 p.g hB] at z
  exact z
theorem e_weightsIn {B : List (List Int)} {d : Nat} {ps : List Int} {b : Int} (h : Bd B d) (p : Pl d ps b) (t : Tps) : pWeightsIn [bodyD B, rowT (ps ++ [b])] t = .ok (.fr (rowT (WZ B ps b))) t := by
  let q : Pst := ⟨[.fr (bodyD B), .fr (rowT (ps ++ [b]))], t⟩
  show fin (seqF _ _ q) = _
  refine (congrArg fin (seq_ok (s1 := q) ?_)).trans ?_
  · exact demand_ok (call_eq (s1 := q) (ds := [bodyD B, rowT (ps ++ [b])]) rfl rfl (fits_ok h.slo.blen h.slo.d2 p t))
  · exact fin_ret (s1 := q) (call_eq (s1 := q) (ds := [bodyD B, rowT (ps ++ [b])]) rfl rfl (e_wm h p.len p.sp p.sb p.b1 t)) rfl
/-- what is no place is refused -/
theorem no_place {B : List (List Int)} {v : PyData} (hB : 1 ≤ B.length) (hn : noTape v = true) (hl : ∀ l, v = .tuple l → l.length ≤ lim) (hv : Dt.dLow (B.length : Nat) v = false) (t : Tps) :
    pWeightsIn [bodyD B, v] t = .err "NotUsable" (nuF "place") t ∧ pHolds [bodyD B, v] t = .err "NotUsable" (nuF "place") t ∧ pCarrierIn [bodyD B, v] t = .err "NotUsable" (nuF "place") t := by
  have z := e_fitsBody hB hn hl t
  rw [hv] at z
  refine ⟨?_, ?_, ?_⟩
  · let q : Pst := ⟨[.fr (bodyD B), .fr v], t⟩
    show fin (seqF _ _ q) = _
    exact (congrArg fin (seq_err (demand_no (s := q) (call_eq (s1 := q) (ds := [bodyD B, v]) rfl rfl z)))).trans rfl
  · let q : Pst := ⟨[.fr (bodyD B), .fr v], t⟩
    show fin (seqF _ _ q) = _
    exact (congrArg fin (seq_err (demand_no (s := q) (call_eq (s1 := q) (ds := [bodyD B, v]) rfl rfl z)))).trans rfl
  · let q : Pst := ⟨[.fr (bodyD B), .fr v, .un, .un, .un, .un], t⟩
    show fin (seqF _ _ q) = _
    exact (congrArg fin (seq_err (demand_no (s := q) (call_eq (s1 := q) (ds := [bodyD B, v]) rfl rfl z)))).trans rfl
end K23
end SecPl
section SecPn
set_option Elab.async false
set_option linter.all false
set_option maxRecDepth 100000
set_option maxHeartbeats 4000000
namespace K23
open PySem PySem.Spec Pu
/-! ### weights as a thing -/
def sumLast (xs : List Int) : Bool := decide (xs.dropLast.sum = xs.getLastD 0)
def areB (n : Int) (v : PyData) : Bool := Dt.dLow n v && sumLast (match v with | .tuple ds => Dt.intsOf ds | _ => [])
theorem sum_iLT (xs : List Int) : dSumA (.tuple (iL xs)) = okI xs.sum := by
  show (match Pu.intsOf (iL xs) with | some ns => _ | none => _) = _
  rw [intsOf_iL]
theorem e_areWeights {B : List (List Int)} {v : PyData} (hn : noTape v = true) (hl : ∀ l, v = .tuple l → l.length ≤ lim) (t : Tps) : pAreWeights [bodyD B, v] t = .ok (.fr (.bool (areB ((B.length : Nat) + 1) v))) t := by
  let q : Pst := ⟨[.fr (bodyD B), .fr v], t⟩
  refine fin_ret (s := q) (s1 := q) (x := .fr (.bool (areB ((B.length : Nat) + 1) v))) ?_ rfl
  have a0 : callF 2 pIsRow (consF (bin dAdd (un dLen (peek 0)) (cst (.int 1))) (consF (var 1) nilF)) q = .ok (.fr (.bool (Dt.dRow ((B.length : Nat) + 1) v))) q := by
    refine call_eq (s1 := q) (ds := [.int ((B.length : Nat) + 1), v]) ?_ rfl (e_isRow hn hl t)
    exact cons_ok (x := .fr (.int ((B.length : Nat) + 1))) (s1 := q) (bin_ok (x := .fr (.int (B.length : Nat))) (y := .fr (.int 1)) (s1 := q) (un_ok (d := bodyD B) rfl len_body) rfl rfl) (cons_ok (x := .fr v) (s1 := q) rfl rfl)
  unfold andV
  rw [bnd_ok a0]
  unfold areB Dt.dLow
  cases hr : Dt.dRow (((B.length : Nat) : Int) + 1) v with
  | false => rfl
  | true =>
    obtain ⟨xs, b, rfl, _⟩ := rowT_split (by omega) hr
    have e1 : callF 1 pIsLowest (consF (var 0) nilF) ⟨[.fr (rowT (xs ++ [b]))], t⟩ = callF 1 pIsLowest (consF (var 0) nilF) ⟨[.fr (rowT (xs ++ [b]))], t⟩ := rfl
    have a1 : callF 1 pIsLowest (consF (var 1) nilF) q = .ok (.fr (.bool (Dt.lowB (xs ++ [b])))) q := call_eq (s1 := q) (ds := [rowT (xs ++ [b])]) rfl rfl (e_isLowest t)
    show (bnd (callF 1 pIsLowest (consF (var 1) nilF)) _) q = _
    rw [bnd_ok a1]
    have ei : Dt.intsOf (iL (xs ++ [b])) = xs ++ [b] := Dt.intsOf_map _
    show _ = Rs.ok (OV.fr (.bool ((true && Dt.lowB (Dt.intsOf (iL (xs ++ [b])))) && sumLast (Dt.intsOf (iL (xs ++ [b])))))) q
    rw [ei, Bool.true_and]
    have hs : sumLast (xs ++ [b]) = decide (xs.sum = b) := by
      unfold sumLast
      rw [List.dropLast_concat]
      simp
    rw [hs]
    cases hb : Dt.lowB (xs ++ [b]) with
    | false => rfl
    | true =>
      show bin dEq (un dSumA (dat (slcv 1 noPart (part (un dNeg (dat (cst (.int 1)))))))) (ixv 1 (un dNeg (dat (cst (.int 1))))) q = _
      refine bin_ok (x := .fr (.int xs.sum)) (y := .fr (.int b)) (s1 := q) (un_ok (d := .tuple (iL xs)) (dat_ok (x := .fr (.tuple (iL xs))) ?_) (sum_iLT xs)) (ixv_cstN (d := rowT (xs ++ [b])) rfl dIx_last) rfl
      show ((R1.ok (.fr (.tuple (cutD (iL (xs ++ [b])) none (some (-1)))))).m q : Rs OV) = _
      rw [show iL (xs ++ [b]) = iL xs ++ [.int b] from List.map_append, cutD_init]
      rfl
theorem areB_ok {n : Nat} {ws : List Int} {L : Int} (hl : ws.length = n) (L1 : 1 ≤ L) (g : gN (ws ++ [L]) = 1) (s : ws.sum = L) : areB ((n : Nat) + 1) (rowT (ws ++ [L])) = true := by
  unfold areB
  have z := dLow_row hl L1 g (n := n + 1) rfl
  rw [show ((n + 1 : Nat) : Int) = (n : Nat) + 1 by omega] at z
  rw [z]
  show (true && sumLast (Dt.intsOf ((ws ++ [L]).map PyData.int))) = true
  rw [Dt.intsOf_map]
  unfold sumLast
  rw [List.dropLast_concat]
  simp [s]
theorem e_blend {B : List (List Int)} {d : Nat} {ws : List Int} {L : Int} (h : Slo B d) (hw : ws.length = d + 1) (sw : AllSz 700 ws) (sL : Sz 700 L) (L1 : 1 ≤ L) (g : gN (ws ++ [L]) = 1) (s : ws.sum = L) (t : Tps) :
    pBlend [bodyD B, rowT (ws ++ [L])] t = .ok (.fr (rowT (Dt.lowL (givenZ ws B d ++ [L])))) t := by
  let q : Pst := ⟨[.fr (bodyD B), .fr (rowT (ws ++ [L]))], t⟩
  have d2 := h.d2
  have z := e_areWeights (B := B) (v := rowT (ws ++ [L])) nt_row (fun l hh => row_lim hh (by rw [List.length_append, hw]; show d + 1 + 1 ≤ 12; omega)) t
  rw [areB_ok (by rw [h.blen]; exact hw) L1 g s] at z
  show fin (seqF _ _ q) = _
  refine (congrArg fin (seq_ok (s1 := q) ?_)).trans ?_
  · exact demand_ok (call_eq (s1 := q) (ds := [bodyD B, rowT (ws ++ [L])]) rfl rfl z)
  · exact fin_ret (s1 := q) (call_eq (s1 := q) (ds := [bodyD B, rowT (ws ++ [L])]) rfl rfl (e_blendMade h hw sw sL L1 t)) rfl
theorem no_weights {B : List (List Int)} {v : PyData} (hn : noTape v = true) (hl : ∀ l, v = .tuple l → l.length ≤ lim) (hv : areB ((B.length : Nat) + 1) v = false) (t : Tps) : pBlend [bodyD B, v] t = .err "NotUsable" (nuF "weights") t := by
  have z := e_areWeights (B := B) hn hl t
  rw [hv] at z
  let q : Pst := ⟨[.fr (bodyD B), .fr v], t⟩
  show fin (seqF _ _ q) = _
  exact (congrArg fin (seq_err (demand_no (s := q) (call_eq (s1 := q) (ds := [bodyD B, v]) rfl rfl z)))).trans rfl
/-! ### holds -/
theorem min_iL {x : Int} {xs : List Int} : dMinA (.tuple (iL (x :: xs))) = okI (xs.foldl min x) := by
  show (match Pu.intsOf (iL (x :: xs)) with | some ns => (if 0 < ns.length then okI (minL ns) else .no) | none => _) = _
  rw [intsOf_iL]
  show (if 0 < (x :: xs).length then okI (minL (x :: xs)) else .no) = _
  rw [if_pos (by simp)]
  rfl
theorem min_ge : ∀ (xs : List Int) (x : Int), (0 ≤ xs.foldl min x) = (0 ≤ x ∧ ∀ y ∈ xs, 0 ≤ y)
  | [], x => by simp
  | y :: ys, x => by
    rw [List.foldl_cons, min_ge ys (min x y)]
    simp only [List.mem_cons, forall_eq_or_imp]
    rw [← and_assoc]
    congr 1
    apply propext
    omega
theorem e_holdsMade {B : List (List Int)} {d : Nat} {ps : List Int} {b : Int} {ws : List Int} {L : Int} (h : Bd B d) (p : Pl d ps b) (w : WtOk B d ps b ws L) (t : Tps) : pHoldsMade [bodyD B, rowT (ps ++ [b])] t = .ok (.fr (.bool (ws.all fun w => decide (0 ≤ w)))) t := by
  let q : Pst := ⟨[.fr (bodyD B), .fr (rowT (ps ++ [b]))], t⟩
  obtain ⟨x, xs, e⟩ : ∃ x xs, ws ++ [L] = x :: xs := by cases ws with | nil => exact ⟨L, [], rfl⟩ | cons y ys => exact ⟨y, ys ++ [L], rfl⟩
  have hb : decide (0 ≤ xs.foldl min x) = ws.all fun w => decide (0 ≤ w) := by
    rw [show decide (0 ≤ xs.foldl min x) = decide (0 ≤ x ∧ ∀ y ∈ xs, 0 ≤ y) from decide_eq_decide.mpr (by rw [min_ge])]
    rw [Bool.eq_iff_iff, decide_eq_true_eq, List.all_eq_true]
    have L1 := w.L1
    constructor
    · intro ⟨h1, h2⟩ y hy
      refine decide_eq_true ?_
      have : y ∈ x :: xs := by rw [← e]; exact List.mem_append_left _ hy
      rcases List.mem_cons.mp this with rfl | h3
      · exact h1
      · exact h2 y h3
    · intro hh
      have all : ∀ y ∈ x :: xs, 0 ≤ y := fun y hy => by
        rw [← e] at hy
        rcases List.mem_append.mp hy with hy | hy
        · exact of_decide_eq_true (hh y hy)
        · rw [List.mem_singleton.mp hy]; omega
      exact ⟨all x List.mem_cons_self, fun y hy => all y (List.mem_cons_of_mem _ hy)⟩
  refine fin_ret (s := q) (s1 := q) (bin_ok (x := .fr (.int (xs.foldl min x))) (y := .fr (.int 0)) (s1 := q) (un_ok (d := .tuple (iL (x :: xs))) (dat_ok (x := .fr (.tuple (iL (x :: xs)))) (call_eq (s1 := q) (ds := [bodyD B, rowT (ps ++ [b])]) rfl rfl ?_)) min_iL) rfl ?_) rfl
  · have z := e_wm h p.len p.sp p.sb p.b1 t
    rw [w.eq, e] at z
    exact z
  · show okB (decide (0 ≤ xs.foldl min x)) = _
    rw [hb]; rfl
theorem e_holds {B : List (List Int)} {d : Nat} {ps : List Int} {b : Int} {ws : List Int} {L : Int} (h : Bd B d) (p : Pl d ps b) (w : WtOk B d ps b ws L) (t : Tps) : pHolds [bodyD B, rowT (ps ++ [b])] t = .ok (.fr (.bool (ws.all fun w => decide (0 ≤ w)))) t := by
  let q : Pst := ⟨[.fr (bodyD B), .fr (rowT (ps ++ [b]))], t⟩
  show fin (seqF _ _ q) = _
  refine (congrArg fin (seq_ok (s1 := q) ?_)).trans ?_
  · exact demand_ok (call_eq (s1 := q) (ds := [bodyD B, rowT (ps ++ [b])]) rfl rfl (fits_ok h.slo.blen h.slo.d2 p t))
  · exact fin_ret (s1 := q) (call_eq (s1 := q) (ds := [bodyD B, rowT (ps ++ [b])]) rfl rfl (e_holdsMade h p w t)) rfl
end K23
end SecPn
section SecPo
set_option Elab.async false
set_option linter.all false
set_option maxRecDepth 100000
set_option maxHeartbeats 4000000
namespace K23
open PySem PySem.Spec Pu
/-! ### carriers -/
theorem wt_sz {B : List (List Int)} {d : Nat} {ps : List Int} {b : Int} {ws : List Int} {L : Int} (h : Bd B d) (hl : ps.length = d) (sp : AllSz 100 ps) (sb : Sz 100 b) (b1 : 1 ≤ b) (e : WZ B ps b = ws ++ [L]) : AllSz 700 (ws ++ [L]) := by
  intro x hx
  rw [← e] at hx
  obtain ⟨y, hy, rfl⟩ := List.mem_map.mp hx
  have z := low_le raw_last (raw_ne h b1) hy
  have sy : Sz 700 y := by
    obtain ⟨u, hu, rfl⟩ := List.mem_map.mp hy
    exact sz_le (Sz.mul (n := 1) (by unfold sgnZ Sz; split <;> decide) ((T_sz h hl sp sb).1 u hu)) (by decide)
  exact Nat.lt_of_le_of_lt z sy
theorem carL_pairs {B : List (List Int)} {ws : List Int} {L : Int} : (carL B ws L).map (fun p => pairD p.1 p.2) = ((B.zip ws).filter fun p => decide (0 < p.2)).map fun p => pairD p.1 (Dt.lowL [p.2, L]) := by
  unfold carL; rw [List.map_map]; rfl
theorem filter_map' {α β : Type} (f : α → β) (c : β → Bool) (xs : List α) : (xs.map f).filter c = (xs.filter fun a => c (f a)).map f := by
  induction xs with
  | nil => rfl
  | cons a xs ih =>
    rw [List.map_cons, List.filter_cons, List.filter_cons, ih]
    by_cases h : c (f a) = true
    · rw [if_pos h, if_pos h, List.map_cons]
    · rw [if_neg h, if_neg h]
theorem e_carrierIn {B : List (List Int)} {d : Nat} {ps : List Int} {b : Int} {ws : List Int} {L : Int} (h : Bd B d) (p : Pl d ps b) (w : WtOk B d ps b ws L) (t : Tps) : pCarrierIn [bodyD B, rowT (ps ++ [b])] t = .ok (.fr (carD B ws L)) t := by
  have hlim : ∀ {k : Nat}, k ≤ 12 → k ≤ lim := fun h => Nat.le_trans h (by decide)
  have d2 := h.slo.d2
  have sz := wt_sz h p.len p.sp p.sb p.b1 w.eq
  have L1 := w.L1
  have sL : Sz 700 L := sz L (List.mem_append_right _ List.mem_cons_self)
  let P : PyData := rowT (ps ++ [b])
  let W : PyData := rowT (ws ++ [L])
  let q0 : Pst := ⟨[.fr (bodyD B), .fr P, .un, .un, .un, .un], t⟩
  let q1 : Pst := ⟨[.fr (bodyD B), .fr P, .fr W, .un, .un, .un], t⟩
  have hW : pWeightsMade [bodyD B, P] t = .ok (.fr W) t := by
    have z := e_wm h p.len p.sp p.sb p.b1 t
    rw [w.eq] at z
    exact z
  obtain ⟨x, xs, e⟩ : ∃ x xs, ws ++ [L] = x :: xs := by cases ws with | nil => exact ⟨L, [], rfl⟩ | cons y ys => exact ⟨y, ys ++ [L], rfl⟩
  have hb : decide (xs.foldl min x < 0) = !(ws.all fun w => decide (0 ≤ w)) := by
    have h1 : decide (xs.foldl min x < 0) = !decide (0 ≤ xs.foldl min x) := by
      by_cases hh : xs.foldl min x < 0
      · rw [decide_eq_true hh, decide_eq_false (by omega)]; rfl
      · rw [decide_eq_false hh, decide_eq_true (by omega)]; rfl
    rw [h1]
    congr 1
    rw [show decide (0 ≤ xs.foldl min x) = decide (0 ≤ x ∧ ∀ y ∈ xs, 0 ≤ y) from decide_eq_decide.mpr (by rw [min_ge])]
    rw [Bool.eq_iff_iff, decide_eq_true_eq, List.all_eq_true]
    constructor
    · intro ⟨h1, h2⟩ y hy
      refine decide_eq_true ?_
      have : y ∈ x :: xs := by rw [← e]; exact List.mem_append_left _ hy
      rcases List.mem_cons.mp this with rfl | h3
      · exact h1
      · exact h2 y h3
    · intro hh
      have all : ∀ y ∈ x :: xs, 0 ≤ y := fun y hy => by
        rw [← e] at hy
        rcases List.mem_append.mp hy with hy | hy
        · exact of_decide_eq_true (hh y hy)
        · rw [List.mem_singleton.mp hy]; omega
      exact ⟨all x List.mem_cons_self, fun y hy => all y (List.mem_cons_of_mem _ hy)⟩
  show fin (seqF _ _ q0) = _
  refine (congrArg fin (seq_ok (s1 := q0) ?_)).trans ?_
  · exact demand_ok (call_eq (s1 := q0) (ds := [bodyD B, P]) rfl rfl (fits_ok h.slo.blen h.slo.d2 p t))
  refine (congrArg fin (seq_ok (s1 := q1) (set_ok (s1 := q0) (x := .fr W) (call_eq (s1 := q0) (ds := [bodyD B, P]) rfl rfl hW) (by show 2 < 6; decide)))).trans ?_
  have tm : tst (bin dLt (un dMinA (peek 2)) (cst (.int 0))) q1 = .ok (!(ws.all fun w => decide (0 ≤ w))) q1 := by
    have z : bin dLt (un dMinA (peek 2)) (cst (.int 0)) q1 = .ok (.fr (.bool (decide (xs.foldl min x < 0)))) q1 := bin_ok (x := .fr (.int (xs.foldl min x))) (y := .fr (.int 0)) (s1 := q1) (un_ok (d := W) rfl (by show dMinA (.tuple (iL (ws ++ [L]))) = _; rw [e]; exact min_iL)) rfl rfl
    unfold tst
    rw [bnd_ok z, hb]; rfl
  unfold carD
  cases hall : ws.all fun w => decide (0 ≤ w) with
  | false =>
    rw [hall] at tm
    rw [if_neg Bool.false_ne_true]
    refine (congrArg fin (seq_rt (s1 := q1) (x := .fr .none) ?_)).trans rfl
    refine Eq.trans (b := _) (if_true (s1 := q1) tm) ?_
    exact ret_ok rfl
  | true =>
    rw [hall] at tm
    rw [if_pos rfl]
    refine (congrArg fin (seq_ok (s1 := q1) ?_)).trans ?_
    · exact if_false (s1 := q1) tm
    let q2 : Pst := ⟨[.fr (bodyD B), .fr P, .fr W, .ow ((carL B ws L).map fun p => pairD p.1 p.2), .un, .un], t⟩
    refine (congrArg fin (seq_ok (s1 := q2) (set_ok (s1 := q1) (x := .ow ((carL B ws L).map fun p => pairD p.1 p.2)) ?_ (by show 3 < 6; decide)))).trans ?_
    · have hBw : B.length = ws.length := by rw [h.slo.blen, w.len]
      have key := lc_val (own := [4, 5]) (A := tupA 2 (consA (nmA 4) (consA (nmA 5) nilA))) (Fi := bnd (consF (var 0) (consF (var 2) nilF)) zipA) (Ft := tst (bin dGt (var 5) (cst (.int 0)))) (Fe := mkT (consF (var 4) (consF (callF 2 pQuotientOf (consF (var 5) (consF (ixv 2 (un dNeg (dat (cst (.int 1))))) nilF))) nilF))) (s := q1)
        (ds := (B.zip (ws ++ [L])).map fun p => .tuple [rowT p.1, .int p.2]) (g := fun d => match d with | .tuple [r, .int w] => .tuple [r, rowT (Dt.lowL [w, L])] | _ => .none) (c := fun d => match d with | .tuple [r, .int w] => decide (0 < w) | _ => false) ?_ ?_ ?_ ?_
      · rw [key, filter_map', List.map_map, carL_pairs]
        have ez : B.zip (ws ++ [L]) = B.zip ws := by
          have z := List.zip_append (l₁ := B) (r₁ := []) (l₂ := ws) (r₂ := [L]) hBw
          simpa using z
        rw [ez]
        rfl
      · have e1 : consF (var 0) (consF (var 2) nilF) q1 = .ok [bodyD B, W] q1 := rfl
        rw [bnd_ok e1]
        show Rs.ok (zipD (B.map rowT) ((ws ++ [L]).map PyData.int)) q1 = _
        rw [zipD_map]
      · rw [List.length_map, List.length_zip, h.slo.blen]
        exact hlim (by omega)
      · intro i hi
        rcases List.mem_cons.mp hi with rfl | hi
        · rfl
        · rw [List.mem_singleton.mp hi]; rfl
      · intro dd hdd s' o
        obtain ⟨pp, hpp, rfl⟩ := List.mem_map.mp hdd
        obtain ⟨u, v, rfl⟩ := o.two
        let s2 : Pst := ⟨[.fr (bodyD B), .fr P, .fr W, .un, .fr (rowT pp.1), .fr (.int pp.2)], t⟩
        have o2 : Off [4, 5] q1 s2 := (Off.put (s := q1) (x := .fr (rowT pp.1)) (own := [4, 5]) (i := 4) (by decide)).trans (.put (i := 5) (x := .fr (.int pp.2)) (by decide))
        refine ⟨s2, s2, rfl, rfl, o2, fun _ => ⟨.fr (.tuple [rowT pp.1, rowT (Dt.lowL [pp.2, L])]), s2, ?_, rfl, o2⟩⟩
        refine mkT_ok (ds := [rowT pp.1, rowT (Dt.lowL [pp.2, L])]) (cons_ok (x := .fr (rowT pp.1)) (s1 := s2) rfl (cons_ok (x := .fr (rowT (Dt.lowL [pp.2, L]))) (s1 := s2) ?_ rfl)) (by show 2 ≤ 100000; decide)
        exact call_eq (s1 := s2) (ds := [.int pp.2, .int L]) (cons_ok (x := .fr (.int pp.2)) (s1 := s2) rfl (cons_ok (x := .fr (.int L)) (s1 := s2) (ixv_cstN (d := W) rfl dIx_last) rfl)) rfl (e_quotientOf L1 sL t)
    · exact fin_ret (s1 := q2) (un_ok (d := .list (sortD ((carL B ws L).map fun p => pairD p.1 p.2))) (dat_ok (x := .ow (sortD ((carL B ws L).map fun p => pairD p.1 p.2))) (un_ok (d := .list ((carL B ws L).map fun p => pairD p.1 p.2)) rfl sorts)) rfl) rfl
end K23
end SecPo
section SecPp
set_option Elab.async false
set_option linter.all false
set_option maxRecDepth 100000
set_option maxHeartbeats 4000000
namespace K23
open PySem PySem.Spec Pu
theorem app_ok {i : Nat} {F : M OV} {s s1 : Pst} {l l1 : List PyData} {x : OV} (h : sl s i = .ow l) (a : F s = .ok x s1) (h1 : sl s1 i = .ow l1) (hl : l1.length + 1 ≤ lim) : appF i F s = .ok .nx (put i (.ow (l1 ++ [x.d])) s1) := by
  unfold appF onOw
  rw [h]
  dsimp only
  rw [bnd_ok a]
  unfold grow
  rw [h1]
  dsimp only
  rw [if_pos (by rw [List.length_append]; exact hl)]
theorem e_carrierL {B : List (List Int)} {d : Nat} {ws : List Int} {L : Int} (h : Slo B d) (hw : ws.length = d + 1) (sz : AllSz 700 (ws ++ [L])) (L1 : 1 ≤ L) (t : Tps) : pCarrierL [bodyD B, rowT (ws ++ [L])] t = .ok (.fr (carD B ws L)) t := by
  have hlim : ∀ {k : Nat}, k ≤ 12 → k ≤ lim := fun h => Nat.le_trans h (by decide)
  have d2 := h.d2
  have hBw : B.length = ws.length := by rw [h.blen, hw]
  have sL : Sz 700 L := sz L (List.mem_append_right _ List.mem_cons_self)
  let W : PyData := rowT (ws ++ [L])
  let st : List PyData → Sl → Pst := fun acc u => ⟨[.fr (bodyD B), .fr W, .ow acc, u], t⟩
  let G : List (List Int) → List Int → List PyData := fun C vs => ((C.zip vs).filter fun p => decide (0 < p.2)).map fun p => pairD p.1 (Dt.lowL [p.2, L])
  let bd : M Fw := seqF (ifF (tst (bin dLt (ixv 1 (var 3)) (cst (.int 0)))) (retF (cst .none)) (pur .nx)) (ifF (tst (bin dGt (ixv 1 (var 3)) (cst (.int 0)))) (appF 2 (mkT (consF (ixv 0 (var 3)) (consF (callF 1 pLowestL (consF (mkL (consF (ixv 1 (var 3)) (consF (ixv 1 (un dNeg (dat (cst (.int 1))))) nilF))) nilF)) nilF)))) (pur .nx))
  have go : ∀ (m i : Nat) (acc : List PyData) (u : Sl), i + m = ws.length → acc.length ≤ i →
      ((ws.drop i).all (fun w => decide (0 ≤ w)) = true → ∃ u', forGo (nmA 3) bd ((List.range' i m).map fun k => PyData.int (k : Nat)) (st acc u) = .ok .nx (st (acc ++ G (B.drop i) (ws.drop i)) u')) ∧
      ((ws.drop i).all (fun w => decide (0 ≤ w)) = false → ∃ acc' u', forGo (nmA 3) bd ((List.range' i m).map fun k => PyData.int (k : Nat)) (st acc u) = .ok (.rt (.fr .none)) (st acc' u')) := by
    intro m
    induction m with
    | zero =>
      intro i acc u hi ha
      have e1 : ws.drop i = [] := List.drop_eq_nil_of_le (by omega)
      rw [e1]
      refine ⟨fun _ => ⟨u, ?_⟩, fun z => by cases z⟩
      have e2 : G (B.drop i) [] = [] := by
        show (((B.drop i).zip ([] : List Int)).filter _).map _ = []
        rw [List.zip_nil_right]; rfl
      rw [e2, List.append_nil]
      rfl
    | succ m ih =>
      intro i acc u hi ha
      have iw : i < ws.length := by omega
      have iB : i < B.length := by omega
      have ew : ws.drop i = ws[i] :: ws.drop (i + 1) := List.drop_eq_getElem_cons iw
      have eB : B.drop i = B[i] :: B.drop (i + 1) := List.drop_eq_getElem_cons iB
      let s : Pst := st acc (.fr (.int (i : Nat)))
      have ixw : ixv 1 (var 3) s = .ok (.fr (.int ws[i])) s := by
        refine ixv_fr (d := W) (y := .fr (.int (i : Nat))) rfl rfl rfl ?_
        have z := dIx_natT (r := ws ++ [L]) (k := i) (by rw [List.length_append]; omega)
        rw [getD_app iw, List.getD_eq_getElem?_getD, List.getElem?_eq_getElem iw] at z
        exact z
      have t1 : tst (bin dLt (ixv 1 (var 3)) (cst (.int 0))) s = .ok (decide (ws[i] < 0)) s := by
        have z : bin dLt (ixv 1 (var 3)) (cst (.int 0)) s = .ok (.fr (.bool (decide (ws[i] < 0)))) s := bin_ok (x := .fr (.int ws[i])) (y := .fr (.int 0)) (s1 := s) ixw rfl rfl
        unfold tst; rw [bnd_ok z]; rfl
      have t2 : tst (bin dGt (ixv 1 (var 3)) (cst (.int 0))) s = .ok (decide (0 < ws[i])) s := by
        have z : bin dGt (ixv 1 (var 3)) (cst (.int 0)) s = .ok (.fr (.bool (decide (0 < ws[i])))) s := bin_ok (x := .fr (.int ws[i])) (y := .fr (.int 0)) (s1 := s) ixw rfl rfl
        unfold tst; rw [bnd_ok z]; rfl
      rw [List.range'_succ, List.map_cons]
      by_cases hneg : ws[i] < 0
      · have hf : (ws.drop i).all (fun w => decide (0 ≤ w)) = false := by
          rw [ew, List.all_cons, decide_eq_false (by omega), Bool.false_and]
        rw [hf]
        refine ⟨fun z => (by cases z), fun _ => ⟨acc, .fr (.int (i : Nat)), ?_⟩⟩
        refine go_ret (s1 := s) rfl ?_
        rw [decide_eq_true hneg] at t1
        exact seq_rt (Eq.trans (b := _) (if_true (s1 := s) t1) rfl)
      · rw [decide_eq_false hneg] at t1
        have b1 : ifF (tst (bin dLt (ixv 1 (var 3)) (cst (.int 0)))) (retF (cst .none)) (pur .nx) s = .ok .nx s := Eq.trans (b := _) (if_false (s1 := s) t1) rfl
        have hall : (ws.drop i).all (fun w => decide (0 ≤ w)) = (ws.drop (i + 1)).all fun w => decide (0 ≤ w) := by
          rw [ew, List.all_cons, decide_eq_true (by omega), Bool.true_and]
        rw [hall]
        by_cases hpos : 0 < ws[i]
        · rw [decide_eq_true hpos] at t2
          have gi : pLowestL [.list (iL [ws[i], L])] t = .ok (.fr (rowT (Dt.lowL [ws[i], L]))) t := e_lowestL (row_l _) (by show 2 ≤ 100000; decide) (lowL_two L1) (fun x hx => by
            have z : Sz 700 x := by
              rcases List.mem_cons.mp hx with rfl | hx
              · exact sz _ (List.mem_append_left _ (List.getElem_mem iw))
              · rw [List.mem_singleton.mp hx]; exact sL
            exact Nat.lt_trans z (Nat.pow_lt_pow_right (by decide) (by decide))) t
          have ixB : ixv 0 (var 3) s = .ok (.fr (rowT B[i])) s := by
            refine ixv_fr (d := bodyD B) (y := .fr (.int (i : Nat))) rfl rfl rfl ?_
            have z := dIx_body iB
            rw [List.getD_eq_getElem?_getD, List.getElem?_eq_getElem iB] at z
            exact z
          have ap : appF 2 (mkT (consF (ixv 0 (var 3)) (consF (callF 1 pLowestL (consF (mkL (consF (ixv 1 (var 3)) (consF (ixv 1 (un dNeg (dat (cst (.int 1))))) nilF))) nilF)) nilF))) s = .ok .nx (st (acc ++ [pairD B[i] (Dt.lowL [ws[i], L])]) (.fr (.int (i : Nat)))) := by
            refine app_ok (l := acc) (l1 := acc) (x := .fr (pairD B[i] (Dt.lowL [ws[i], L]))) (s1 := s) rfl (mkT_ok (ds := [rowT B[i], rowT (Dt.lowL [ws[i], L])]) (cons_ok (x := .fr (rowT B[i])) (s1 := s) ixB (cons_ok (x := .fr (rowT (Dt.lowL [ws[i], L]))) (s1 := s) ?_ rfl)) (by show 2 ≤ 100000; decide)) rfl (hlim (by omega))
            exact call_eq (s1 := s) (ds := [.list (iL [ws[i], L])]) (cons_ok (x := .ow (iL [ws[i], L])) (s1 := s) (mkL_ok (ds := [.int ws[i], .int L]) (cons_ok (x := .fr (.int ws[i])) (s1 := s) ixw (cons_ok (x := .fr (.int L)) (s1 := s) (ixv_cstN (d := W) rfl dIx_last) rfl)) (by show 2 ≤ 100000; decide)) rfl) rfl gi
          obtain ⟨k1, k2⟩ := ih (i + 1) (acc ++ [pairD B[i] (Dt.lowL [ws[i], L])]) (.fr (.int (i : Nat))) (by omega) (by rw [List.length_append]; show acc.length + 1 ≤ i + 1; omega)
          have stp : bd s = .ok .nx (st (acc ++ [pairD B[i] (Dt.lowL [ws[i], L])]) (.fr (.int (i : Nat)))) := (seq_ok b1).trans (Eq.trans (b := _) (if_true (s1 := s) t2) ap)
          refine ⟨fun z => ?_, fun z => ?_⟩
          · obtain ⟨u', k1⟩ := k1 z
            refine ⟨u', go_next (s1 := s) rfl stp (k1.trans ?_)⟩
            have eG : G (B.drop i) (ws.drop i) = pairD B[i] (Dt.lowL [ws[i], L]) :: G (B.drop (i + 1)) (ws.drop (i + 1)) := by
              show (((B.drop i).zip (ws.drop i)).filter _).map _ = _
              rw [eB, ew, List.zip_cons_cons, List.filter_cons]
              show (if decide (0 < ws[i]) = true then _ else _ : List (List Int × Int)).map _ = _
              rw [if_pos (decide_eq_true hpos)]
              rfl
            rw [eG, List.append_assoc]
            rfl
          · obtain ⟨a', u', k2⟩ := k2 z
            exact ⟨a', u', go_next (s1 := s) rfl stp k2⟩
        · rw [decide_eq_false hpos] at t2
          obtain ⟨k1, k2⟩ := ih (i + 1) acc (.fr (.int (i : Nat))) (by omega) (by omega)
          have stp : bd s = .ok .nx s := (seq_ok b1).trans (Eq.trans (b := _) (if_false (s1 := s) t2) rfl)
          refine ⟨fun z => ?_, fun z => ?_⟩
          · obtain ⟨u', k1⟩ := k1 z
            refine ⟨u', go_next (s1 := s) rfl stp (k1.trans ?_)⟩
            have eG : G (B.drop i) (ws.drop i) = G (B.drop (i + 1)) (ws.drop (i + 1)) := by
              show (((B.drop i).zip (ws.drop i)).filter _).map _ = _
              rw [eB, ew, List.zip_cons_cons, List.filter_cons]
              show (if decide (0 < ws[i]) = true then _ else _ : List (List Int × Int)).map _ = _
              rw [if_neg (by rw [decide_eq_false hpos]; exact Bool.false_ne_true)]
            rw [eG]
          · obtain ⟨a', u', k2⟩ := k2 z
            exact ⟨a', u', go_next (s1 := s) rfl stp k2⟩
  obtain ⟨g1, g2⟩ := go ws.length 0 [] .un (by omega) (Nat.le_refl _)
  simp only [List.drop_zero] at g1 g2
  have rg : (bnd (consF (un dLen (peek 0)) nilF) rng1) (st [] .un) = .ok ((List.range' 0 ws.length).map fun k => PyData.int (k : Nat)) (st [] .un) := by
    have e : consF (un dLen (peek 0)) nilF (st [] .un) = .ok [.int (ws.length : Nat)] (st [] .un) := cons_ok (x := .fr (.int (ws.length : Nat))) (s1 := st [] .un) (un_ok (d := bodyD B) rfl (by rw [len_body, hBw]; rfl)) rfl
    rw [bnd_ok e, ← List.range_eq_range']
    exact rng1_nat (by omega) _
  let s0 : Pst := ⟨[.fr (bodyD B), .fr W, .un, .un], t⟩
  have e0 : pCarrierL [bodyD B, rowT (ws ++ [L])] t = fin (seqF (setF 2 (mkL nilF)) (seqF (forF (nmA 3) (bnd (consF (un dLen (peek 0)) nilF) rng1) bd) (retF (un dTuple (dat (un dSortL (peek 2)))))) s0) := by unfold pCarrierL fnF begin; rfl
  rw [e0]
  refine (congrArg fin (seq_ok (s1 := st [] .un) ?_)).trans ?_
  · exact set_ok (s1 := s0) (x := .ow []) rfl (by show 2 < 4; decide)
  unfold carD
  cases hall : ws.all fun w => decide (0 ≤ w) with
  | false =>
    obtain ⟨a', u', e⟩ := g2 hall
    rw [if_neg Bool.false_ne_true]
    exact (congrArg fin (seq_rt (for_go rg e))).trans rfl
  | true =>
    obtain ⟨u', e⟩ := g1 hall
    rw [if_pos rfl]
    let s2 : Pst := st ([] ++ G B ws) u'
    refine (congrArg fin (seq_ok (s1 := s2) (for_go rg e))).trans ?_
    have eG : ([] ++ G B ws : List PyData) = (carL B ws L).map fun p => pairD p.1 p.2 := by rw [carL_pairs]; rfl
    refine fin_ret (s1 := s2) (un_ok (d := .list (sortD ((carL B ws L).map fun p => pairD p.1 p.2))) (dat_ok (x := .ow (sortD ((carL B ws L).map fun p => pairD p.1 p.2))) (un_ok (d := .list ((carL B ws L).map fun p => pairD p.1 p.2)) ?_ sorts)) rfl) rfl
    show Rs.ok (PyData.list ([] ++ G B ws)) s2 = _
    rw [eG]
end K23
end SecPp
section SecPq
set_option Elab.async false
set_option linter.all false
set_option maxRecDepth 100000
set_option maxHeartbeats 4000000
namespace K23
open PySem PySem.Spec Pu
theorem and_true {Fa Fb : M OV} {s : Pst} {r : Rs OV} (a : Fa s = .ok (.fr (.bool true)) s) (b : Fb s = r) : andV Fa Fb s = r := by
  unfold andV; rw [bnd_ok a]; exact b
theorem not_tru {Fa : M OV} {s : Pst} (a : Fa s = .ok (.fr (.bool true)) s) : notT (tru (dat Fa)) s = .ok false s := by
  have e : tru (dat Fa) s = .ok true s := by unfold tru; rw [bnd_ok (dat_ok a)]; rfl
  unfold notT
  rw [bnd_ok e]; rfl
theorem tst_ok {Fa : M OV} {s s1 : Pst} {b : Bool} (a : Fa s = .ok (.fr (.bool b)) s1) : tst Fa s = .ok b s1 := by
  unfold tst; rw [bnd_ok a]; rfl
theorem len_row {xs : List Int} : dLen (rowT xs) = okI (xs.length : Nat) := by
  show okI (((iL xs).length : Nat) : Int) = _
  unfold iL
  rw [List.length_map]
theorem slc_init {i : Nat} {s : Pst} {xs : List Int} {b : Int} (h : sl s i = .fr (rowT (xs ++ [b]))) : slcv i noPart (part (un dNeg (dat (cst (.int 1))))) s = .ok (.fr (rowT xs)) s := by
  unfold slcv
  rw [h]
  dsimp only
  have p1 : noPart s = .ok none s := rfl
  have p2 : part (un dNeg (dat (cst (.int 1)))) s = .ok (some (-1)) s := rfl
  rw [bnd_ok p1, bnd_ok p2, h]
  dsimp only
  show ((R1.ok (.fr (.tuple (cutD (iL (xs ++ [b])) none (some (-1)))))).m s : Rs OV) = _
  rw [show iL (xs ++ [b]) = iL xs ++ [.int b] from List.map_append, cutD_init]
  rfl
theorem e_formL {B : List (List Int)} {d : Nat} {ws : List Int} {L : Int} (h : Slo B d) (hw : ws.length = d + 1) (sz : AllSz 700 (ws ++ [L])) (L1 : 1 ≤ L) (g : gN (ws ++ [L]) = 1) (hs : ws.sum = L) (t : Tps) : pFormL [bodyD B, rowT (ws ++ [L])] t = .ok (.fr (.bool true)) t := by
  have d2 := h.d2
  let W : PyData := rowT (ws ++ [L])
  let st : Sl → Nat → Pst := fun u c => ⟨[.fr (bodyD B), .fr W, .fr (.int c), u], t⟩
  let q0 : Pst := ⟨[.fr (bodyD B), .fr W, .un, .un], t⟩
  have lW : (ws ++ [L]).length = d + 2 := by rw [List.length_append, hw]; rfl
  show fin (seqF _ _ q0) = _
  refine (congrArg fin (seq_ok (s1 := q0) ?_)).trans ?_
  · refine if_false (s1 := q0) ?_
    have a1 : notT (tru (dat (un (dIsi "tuple") (peek 1)))) q0 = .ok false q0 := not_tru rfl
    have a2 : tst (bin dNe (un dLen (peek 1)) (bin dAdd (un dLen (peek 0)) (cst (.int 1)))) q0 = .ok false q0 := by
      refine tst_ok (bin_ok (x := .fr (.int (d + 2 : Nat))) (y := .fr (.int (d + 2 : Nat))) (s1 := q0) (un_ok (d := W) rfl (by rw [show dLen W = okI ((ws ++ [L]).length : Nat) from len_row, lW]; rfl)) (bin_ok (x := .fr (.int (d + 1 : Nat))) (y := .fr (.int 1)) (s1 := q0) (un_ok (d := bodyD B) rfl (by rw [len_body, h.blen]; rfl)) rfl ?_) ?_)
      · show okI _ = _
        rw [show ((d + 1 : Nat) : Int) + 1 = ((d + 2 : Nat) : Int) by omega]; rfl
      · show okB (!decide (((d + 2 : Nat) : Int) = ((d + 2 : Nat) : Int))) = _
        rw [decide_eq_true rfl]; rfl
    unfold orT
    rw [bnd_ok a1]
    exact a2
  refine (congrArg fin (seq_ok (s1 := st .un 0) ?_)).trans ?_
  · exact set_ok (s1 := q0) (x := .fr (.int 0)) rfl (by show 2 < 4; decide)
  obtain ⟨u', e, hi, hu⟩ := for_fold (s0 := st .un 0) (A := nmA 3) (B := seqF (ifF (orT (notT (tru (dat (un (dIsi "int") (peek 3))))) (tru (dat (un (dIsi "bool") (peek 3))))) (retF (cst (.bool false))) (pur .nx)) (setF 2 (callF 2 pCommonL (consF (var 2) (consF (var 3) nilF))))) (Fi := itF (var 1)) PyData.int st (fun g n => Nat.gcd g n.natAbs) (fun g => g < 2 ^ 9000) (xs := ws ++ [L]) (u := .un) (b := 0) (it_row (row_t _) _) rfl (Nat.two_pow_pos _)
    fun a ha u b hb => ⟨st (.fr (.int a)) b, rfl, by
      refine Eq.trans (b := _) (seq_ok (s1 := st (.fr (.int a)) b) ?_) ?_
      · rfl
      refine set_ok (x := .fr (.int (Nat.gcd b a.natAbs : Nat))) (s1 := st (.fr (.int a)) b) (call_eq (s1 := st (.fr (.int a)) b) (ds := [.int b, .int a]) rfl rfl (by
        have z := e_commonL (a := (b : Int)) (b := a) (by rw [Int.natAbs_natCast]; exact hb) (Nat.lt_trans (sz a ha) (Nat.pow_lt_pow_right (by decide) (by decide))) t
        rw [Int.natAbs_natCast] at z
        exact z)) (by show 2 < 4; decide), by
      rcases Nat.eq_zero_or_pos b with hb0 | hb0
      · subst hb0; rw [Nat.gcd_zero_left]; exact Nat.lt_trans (sz a ha) (Nat.pow_lt_pow_right (by decide) (by decide))
      · exact Nat.lt_of_le_of_lt (Nat.gcd_le_left _ hb0) hb⟩
  have e' : (ws ++ [L]).foldl (fun g n => Nat.gcd g n.natAbs) 0 = 1 := g
  rw [e'] at e
  refine (congrArg fin (seq_ok (s1 := st u' 1) e)).trans ?_
  refine fin_ret (s1 := st u' 1) (and_true rfl (and_true ?_ ?_)) rfl
  · refine bin_ok (x := .fr (.int L)) (y := .fr (.int 1)) (s1 := st u' 1) (ixv_cstN (d := W) rfl dIx_last) rfl ?_
    show okB (decide (1 ≤ L)) = _
    rw [decide_eq_true L1]; rfl
  · refine bin_ok (x := .fr (.int ws.sum)) (y := .fr (.int L)) (s1 := st u' 1) (un_ok (d := .tuple (iL ws)) (dat_ok (x := .fr (rowT ws)) (slc_init rfl)) (sum_iLT ws)) (ixv_cstN (d := W) rfl dIx_last) ?_
    show okB (decide (ws.sum = L)) = _
    rw [decide_eq_true hs]; rfl
end K23
end SecPq
section SecPr
set_option Elab.async false
set_option linter.all false
set_option maxRecDepth 100000
set_option maxHeartbeats 4000000
namespace K23
open PySem PySem.Spec Pu
theorem cutD_take {α : Type} (xs : List α) (k : Nat) : cutD xs none (some (k : Int)) = xs.take k := by
  unfold cutD
  rw [HT.sIx_none, HT.sIx_nat, List.drop_zero, Nat.sub_zero]
  by_cases h : k ≤ xs.length
  · rw [Nat.min_eq_left h]
  · rw [Nat.min_eq_right (by omega), List.take_of_length_le (Nat.le_refl _), List.take_of_length_le (by omega)]
theorem cutD_drop {α : Type} (xs : List α) (k : Nat) : cutD xs (some (k : Int)) none = xs.drop k := by
  unfold cutD
  rw [HT.sIx_none, HT.sIx_nat]
  by_cases h : k ≤ xs.length
  · rw [Nat.min_eq_left h, List.take_of_length_le (by rw [List.length_drop]; exact Nat.le_refl _)]
  · rw [Nat.min_eq_right (by omega), List.drop_eq_nil_of_le (Nat.le_refl _), List.drop_eq_nil_of_le (by omega), List.take_nil]
theorem slc_ok {i : Nat} {s : Pst} {l : List PyData} {Fl Fh : M (Option Int)} {a b : Option Int} (h : sl s i = .fr (.tuple l)) (hl : Fl s = .ok a s) (hh : Fh s = .ok b s) : slcv i Fl Fh s = .ok (.fr (.tuple (cutD l a b))) s := by
  unfold slcv
  rw [h]
  dsimp only
  rw [bnd_ok hl, bnd_ok hh, h]
  rfl
theorem tadd {a b : List PyData} (h : a.length + b.length ≤ lim) : dAdd (.tuple a) (.tuple b) = .ok (.fr (.tuple (a ++ b))) := by
  show fit _ _ = _
  unfold fit
  rw [if_pos h]
theorem gd_car {B : List (List Int)} {ws : List Int} {L : Int} (hB : ∀ r ∈ B, r.length ≤ 10) (hl : B.length ≤ 10) : Gd 5 (carD B ws L) := by
  unfold carD
  split
  · refine .tup (fun x hx => ?_) ?_
    · have hx' : x ∈ (carL B ws L).map fun p => pairD p.1 p.2 := List.mem_mergeSort.mp hx
      obtain ⟨p, hp, rfl⟩ := List.mem_map.mp hx'
      obtain ⟨q, hq, rfl⟩ := List.mem_map.mp hp
      have hr := hB _ (List.of_mem_zip (List.mem_filter.mp hq).1).1
      refine .tup (fun y hy => ?_) (by show 2 ≤ 1000000; decide)
      rcases List.mem_cons.mp hy with rfl | hy
      · exact (gd_row (Nat.le_trans hr (by decide)))
      · rw [List.mem_singleton.mp hy]
        exact (gd_row (by rw [low_len]; show 2 ≤ 1000000; decide))
    · unfold sortD
      rw [List.length_mergeSort, List.length_map]
      unfold carL
      rw [List.length_map]
      refine Nat.le_trans (List.length_filter_le _ _) ?_
      rw [List.length_zip]
      exact Nat.le_trans (Nat.min_le_left _ _) (Nat.le_trans hl (by decide))
  · exact .non
theorem wt_rotOk {B : List (List Int)} {d : Nat} {ps : List Int} {b : Int} {ws : List Int} {L : Int} (h : Bd B d) (h' : Bd (rot B) d) (hl : ps.length = d) (b1 : 1 ≤ b) (w : WtOk B d ps b ws L) : WtOk (rot B) d ps b (rot ws) L := by
  obtain ⟨ws', L', w'⟩ := wt h' hl b1
  have e := w'.eq.symm.trans (wt_rot h h' hl b1 w)
  obtain ⟨e1, e2⟩ := List.append_inj' e rfl
  cases e2
  rw [e1] at w'
  exact w'
theorem bo_set {B : List (List Int)} {d : Nat} {ps : List Int} (hB : Bo 60 B) (hd : B.length = d + 1) (hl : ps.length = d) (sp : AllSz 60 ps) {k : Nat} : Bo 60 (B.set k ps) := by
  cases hB with
  | two a0 b0 a1 b1 a2 b2 =>
    have : d = 2 := by simpa using hd.symm
    subst this
    match ps, hl with
    | [p, q], _ =>
      have hp := sp p (by simp)
      have hq := sp q (by simp)
      match k with
      | 0 => exact .two hp hq a1 b1 a2 b2
      | 1 => exact .two a0 b0 hp hq a2 b2
      | 2 => exact .two a0 b0 a1 b1 hp hq
      | k + 3 => exact .two a0 b0 a1 b1 a2 b2
  | three a0 b0 c0 a1 b1 c1 a2 b2 c2 a3 b3 c3 =>
    have : d = 3 := by simpa using hd.symm
    subst this
    match ps, hl with
    | [p, q, r], _ =>
      have hp := sp p (by simp)
      have hq := sp q (by simp)
      have hr := sp r (by simp)
      match k with
      | 0 => exact .three hp hq hr a1 b1 c1 a2 b2 c2 a3 b3 c3
      | 1 => exact .three a0 b0 c0 hp hq hr a2 b2 c2 a3 b3 c3
      | 2 => exact .three a0 b0 c0 a1 b1 c1 hp hq hr a3 b3 c3
      | 3 => exact .three a0 b0 c0 a1 b1 c1 a2 b2 c2 hp hq hr
      | k + 4 => exact .three a0 b0 c0 a1 b1 c1 a2 b2 c2 a3 b3 c3
/-- the moved measure is the weight's share -/
theorem share {B : List (List Int)} {d : Nat} {ps : List Int} {ws : List Int} {L : Int} (h : Bd B d) (hl : ps.length = d) (w : WtOk B d ps 1 ws L) {k : Nat} (hk : k < d + 1) : ((detZ (B.set k ps)).natAbs : Int) * L = ((ws.getD k 0).natAbs : Int) * ((detZ B).natAbs : Int) := by
  obtain ⟨G, hG, e1, e2⟩ := w.fac
  have m := h.geo.mov ps hl k hk
  have z := e2 k
  rw [m] at z
  have sD : sgnZ (detZ B) * detZ B = ((detZ B).natAbs : Nat) := sgn_mul _
  have e1' : L * G = ((detZ B).natAbs : Nat) := by rw [e1, ← sD]; grind
  have za : ((ws.getD k 0).natAbs : Int) * G = ((detZ (B.set k ps)).natAbs : Int) := by
    have y := congrArg Int.natAbs z
    rw [Int.natAbs_mul, Int.natAbs_mul] at y
    have s1 : (sgnZ (detZ B)).natAbs = 1 := by unfold sgnZ; split <;> rfl
    rw [s1, Nat.one_mul] at y
    have y' : (((ws.getD k 0).natAbs * G.natAbs : Nat) : Int) = ((detZ (B.set k ps)).natAbs : Int) := by rw [y]
    rw [Int.natCast_mul, Int.natAbs_of_nonneg (a := G) (by omega)] at y'
    exact y'
  have : ((detZ (B.set k ps)).natAbs : Int) * L * G = ((ws.getD k 0).natAbs : Int) * ((detZ B).natAbs : Int) * G := by
    rw [← za, ← e1']
    grind
  exact Int.eq_of_mul_eq_mul_right (by omega) this
end K23
end SecPr
section SecPs
set_option Elab.async false
set_option linter.all false
set_option maxRecDepth 100000
set_option maxHeartbeats 4000000
namespace K23
open PySem PySem.Spec Pu
theorem quiet_ok {F : M OV} {s s1 : Pst} {x : OV} (h : F s = .ok x s1) : quiet F s = .ok x s1 := by unfold quiet; rw [h]
/-- a test of sameness that passes -/
theorem if_same {Fx Fy : M OV} {s : Pst} {v : PyData} (hx : Fx s = .ok (.fr v) s) (hy : Fy s = .ok (.fr v) s) (g : Gd 5 v) : ifF (notT (tru (dat (callF 2 pSameL (consF Fx (consF Fy nilF)))))) (retF (cst (.bool false))) (pur .nx) s = .ok .nx s := by
  have c : callF 2 pSameL (consF Fx (consF Fy nilF)) s = .ok (.fr (.bool true)) s := call_eq (s1 := s) (ds := [v, v]) (cons_ok hx (cons_ok hy rfl)) rfl (same5 g s.t)
  exact (Pu.if_false (not_tru c)).trans rfl
theorem rot_body {B : List (List Int)} {c : List Int} {cs : List (List Int)} (e : B = c :: cs) (hl : cs.length ≤ 10) {s : Pst} (h : sl s 0 = .fr (bodyD B)) : bin dAdd (slcv 0 (part (cst (.int 1))) noPart) (slcv 0 noPart (part (cst (.int 1)))) s = .ok (.fr (bodyD (rot B))) s := by
  have s1 : slcv 0 (part (cst (.int 1))) noPart s = .ok (.fr (.tuple (cs.map rowT))) s := by
    have z := slc_ok (i := 0) (s := s) (l := B.map rowT) (Fl := part (cst (.int 1))) (Fh := noPart) (a := some 1) (b := none) h rfl rfl
    rw [e] at z
    rw [List.map_cons, cutD_tail] at z
    exact z
  have s2 : slcv 0 noPart (part (cst (.int 1))) s = .ok (.fr (.tuple [rowT c])) s := by
    have z := slc_ok (i := 0) (s := s) (l := B.map rowT) (Fl := noPart) (Fh := part (cst (.int 1))) (a := none) (b := some ((1 : Nat) : Int)) h rfl rfl
    rw [cutD_take, e] at z
    exact z
  refine bin_ok s1 s2 ?_
  show dAdd (.tuple (cs.map rowT)) (.tuple [rowT c]) = _
  rw [tadd (by rw [List.length_map]; exact Nat.le_trans (show cs.length + 1 ≤ 11 by omega) (by decide))]
  show R1.ok (.fr (.tuple (cs.map rowT ++ [rowT c]))) = R1.ok (.fr (.tuple ((rot B).map rowT)))
  rw [e]
  show _ = R1.ok (.fr (.tuple ((cs ++ [c]).map rowT)))
  rw [List.map_append]; rfl
theorem cutD_last {α : Type} (xs : List α) (b : α) : cutD (xs ++ [b]) (some (-1)) none = [b] := by
  have e : (xs ++ [b]).length = xs.length + 1 := by simp
  have h1 : HT.sIx (xs ++ [b]).length 0 (some (-1)) = xs.length := by
    unfold HT.sIx
    dsimp only
    rw [if_pos (by decide), e]
    omega
  unfold cutD
  rw [HT.sIx_none, h1, List.drop_left, e, Nat.add_sub_cancel_left]
  rfl
theorem cutD_mid {α : Type} (x : α) (xs : List α) (b : α) : cutD (x :: xs ++ [b]) (some 1) (some (-1)) = xs := by
  unfold cutD
  have h1 : HT.sIx (x :: xs ++ [b]).length 0 (some 1) = 1 := by
    have z := HT.sIx_nat (x :: xs ++ [b]).length 0 1
    rw [Nat.min_eq_left (by simp)] at z
    exact z
  have h2 : HT.sIx (x :: xs ++ [b]).length (x :: xs ++ [b]).length (some (-1)) = xs.length + 1 := by
    have e : (x :: xs ++ [b]).length = xs.length + 2 := by simp
    unfold HT.sIx
    dsimp only
    rw [if_pos (by decide), e]
    omega
  rw [h1, h2, Nat.add_sub_cancel]
  show (xs ++ [b]).take xs.length = xs
  rw [List.take_left]
theorem rot_row {ws : List Int} {w : Int} {vs : List Int} {L : Int} (e : ws = w :: vs) (hl : vs.length ≤ 10) {i : Nat} {s : Pst} (h : sl s i = .fr (rowT (ws ++ [L]))) :
    bin dAdd (bin dAdd (slcv i (part (cst (.int 1))) (part (un dNeg (dat (cst (.int 1)))))) (slcv i noPart (part (cst (.int 1))))) (slcv i (part (un dNeg (dat (cst (.int 1))))) noPart) s = .ok (.fr (rowT (rot ws ++ [L]))) s := by
  have el : iL (ws ++ [L]) = .int w :: iL vs ++ [.int L] := by rw [e]; unfold iL; rw [List.cons_append, List.map_cons, List.map_append]; rfl
  have h' : sl s i = .fr (.tuple (.int w :: iL vs ++ [.int L])) := by rw [h]; show Sl.fr (.tuple (iL (ws ++ [L]))) = _; rw [el]
  have s1 := slc_ok (i := i) (s := s) (Fl := part (cst (.int 1))) (Fh := part (un dNeg (dat (cst (.int 1))))) (a := some 1) (b := some (-1)) h' rfl rfl
  rw [cutD_mid] at s1
  have s2 := slc_ok (i := i) (s := s) (Fl := noPart) (Fh := part (cst (.int 1))) (a := none) (b := some ((1 : Nat) : Int)) h' rfl rfl
  rw [cutD_take] at s2
  have s3 := slc_ok (i := i) (s := s) (Fl := part (un dNeg (dat (cst (.int 1))))) (Fh := noPart) (a := some (-1)) (b := none) h' rfl rfl
  rw [show (PyData.int w :: iL vs ++ [.int L]) = (.int w :: iL vs) ++ [.int L] from rfl, cutD_last] at s3
  have lv : (iL vs).length = vs.length := List.length_map _
  refine bin_ok (bin_ok s1 s2 (tadd (by rw [lv]; exact Nat.le_trans (show vs.length + 1 ≤ 11 by omega) (by decide)))) s3 ?_
  show dAdd (.tuple (iL vs ++ [.int w])) (.tuple [.int L]) = _
  rw [tadd (by rw [List.length_append, lv]; exact Nat.le_trans (show vs.length + 1 + 1 ≤ 12 by omega) (by decide))]
  rw [e]
  show _ = R1.ok (.fr (.tuple (iL ((vs ++ [w]) ++ [L]))))
  unfold iL
  rw [List.map_append, List.map_append]
  rfl
theorem set_body {B : List (List Int)} {k : Nat} {ps : List Int} (hk : k < B.length) (hl : B.length ≤ 10) {P : PyData} {i j : Nat} {b : Int} {s : Pst} (h : sl s 0 = .fr (bodyD B)) (hj : sl s j = .fr (rowT (ps ++ [b]))) (hi : sl s i = .fr (.int (k : Nat))) :
    bin dAdd (bin dAdd (slcv 0 noPart (part (var i))) (mkT (consF (slcv j noPart (part (un dNeg (dat (cst (.int 1)))))) nilF))) (slcv 0 (part (bin dAdd (var i) (cst (.int 1)))) noPart) s = .ok (.fr (bodyD (B.set k ps))) s := by
  have vi : var i s = .ok (.fr (.int (k : Nat))) s := by unfold var; rw [hi]
  have p1 : part (var i) s = .ok (some ((k : Nat) : Int)) s := by unfold Pu.part; rw [bnd_ok vi]; rfl
  have p2 : part (bin dAdd (var i) (cst (.int 1))) s = .ok (some ((k + 1 : Nat) : Int)) s := by
    have z : bin dAdd (var i) (cst (.int 1)) s = .ok (.fr (.int ((k + 1 : Nat) : Int))) s := bin_ok (x := .fr (.int (k : Nat))) (y := .fr (.int 1)) (s1 := s) vi rfl rfl
    unfold Pu.part; rw [bnd_ok z]; rfl
  have s1 := slc_ok (i := 0) (s := s) (l := B.map rowT) (Fl := noPart) (Fh := part (var i)) (a := none) h rfl p1
  rw [cutD_take] at s1
  have s2 := slc_ok (i := 0) (s := s) (l := B.map rowT) (Fl := part (bin dAdd (var i) (cst (.int 1)))) (Fh := noPart) (b := none) h p2 rfl
  rw [cutD_drop] at s2
  have m : mkT (consF (slcv j noPart (part (un dNeg (dat (cst (.int 1)))))) nilF) s = .ok (.fr (.tuple [rowT ps])) s := mkT_ok (ds := [rowT ps]) (cons_ok (x := .fr (rowT ps)) (s1 := s) (slc_init hj) rfl) (by show 1 ≤ 100000; decide)
  have l1 : ((B.map rowT).take k).length = k := by rw [List.length_take, List.length_map]; omega
  refine bin_ok (bin_ok s1 m (tadd (by rw [l1]; exact Nat.le_trans (show k + 1 ≤ 11 by omega) (by decide)))) s2 ?_
  show dAdd (.tuple ((B.map rowT).take k ++ [rowT ps])) (.tuple ((B.map rowT).drop (k + 1))) = _
  rw [tadd (by rw [List.length_append, l1, List.length_drop, List.length_map]; exact Nat.le_trans (show k + 1 + (B.length - (k + 1)) ≤ 12 by omega) (by decide))]
  show R1.ok (.fr (.tuple _)) = R1.ok (.fr (.tuple ((B.set k ps).map rowT)))
  rw [List.map_set, List.set_eq_take_append_cons_drop, if_pos (by rw [List.length_map]; exact hk), List.append_assoc]
  rfl
end K23
end SecPs
section SecPt
set_option Elab.async false
set_option linter.all false
set_option maxRecDepth 100000
set_option maxHeartbeats 4000000
namespace K23
open PySem PySem.Spec Pu
theorem isNon_car {B : List (List Int)} {ws : List Int} {L : Int} : (!Pu.isNon (carD B ws L)) = ws.all fun w => decide (0 ≤ w) := by
  unfold carD
  cases ws.all fun w => decide (0 ≤ w) <;> rfl
theorem e_heldL {B : List (List Int)} {d : Nat} {ps : List Int} {b : Int} {ws : List Int} {L : Int} (hB : Bo 60 B) (h : Bd B d) (h' : Bd (rot B) d) (p : Pl d ps b) (sp : AllSz 60 ps) (w : WtOk B d ps b ws L) (t : Tps) :
    pHeldHoldsL [bodyD B, rowT (ps ++ [b]), rowT (ws ++ [L])] t = .ok (.fr (.bool true)) t := by
  have d2 := h.slo.d2
  have bl := h.slo.blen
  have sz := wt_sz h p.len p.sp p.sb p.b1 w.eq
  have sL : Sz 700 L := sz L (List.mem_append_right _ List.mem_cons_self)
  have w' := wt_rotOk h h' p.len p.b1 w
  obtain ⟨c, cs, eB⟩ := body_head bl
  obtain ⟨w0, vs, eW⟩ : ∃ w0 vs, ws = w0 :: vs := by
    cases hw : ws with
    | nil => have := w.len; rw [hw] at this; simp at this
    | cons x xs => exact ⟨x, xs, rfl⟩
  have lcs : cs.length ≤ 10 := by rw [eB] at bl; simp at bl; omega
  have lvs : vs.length ≤ 10 := by have := w.len; rw [eW] at this; simp at this; omega
  have gc : Gd 5 (carD B ws L) := gd_car (fun r hr => by rw [(h.slo.rows r hr).1]; omega) (by omega)
  let P : PyData := rowT (ps ++ [b])
  let W : PyData := rowT (ws ++ [L])
  let C : PyData := carD B ws L
  let T : PyData := bodyD (rot B)
  let q0 : Pst := ⟨[.fr (bodyD B), .fr P, .fr W, .un, .un, .un, .un, .un], t⟩
  let q1 : Pst := ⟨[.fr (bodyD B), .fr P, .fr W, .fr C, .un, .un, .un, .un], t⟩
  let q2 : Pst := ⟨[.fr (bodyD B), .fr P, .fr W, .fr C, .fr T, .un, .un, .un], t⟩
  have e0 : ∀ F, fnF 8 F [bodyD B, rowT (ps ++ [b]), rowT (ws ++ [L])] t = fin (F q0) := fun _ => rfl
  unfold pHeldHoldsL
  rw [e0]
  refine (congrArg fin (seq_ok (s1 := q1) ?_)).trans ?_
  · exact set_ok (s1 := q0) (x := .fr C) (call_eq (s1 := q0) (ds := [bodyD B, W]) rfl rfl (e_carrierL h.slo w.len sz w.L1 t)) (by show 3 < 8; decide)
  refine (congrArg fin (seq_ok (s1 := q1) ?_)).trans ?_
  · refine if_same (v := .bool (ws.all fun w => decide (0 ≤ w))) (quiet_ok (call_eq (s1 := q1) (ds := [P, bodyD B]) rfl rfl (e_holds h p w t))) ?_ (.bl _)
    refine bin_ok (x := .fr C) (y := .fr .none) (s1 := q1) rfl rfl ?_
    show okB (!Pu.isNon C) = _
    rw [show (!Pu.isNon C) = _ from isNon_car]; rfl
  refine (congrArg fin (seq_ok (s1 := q1) ?_)).trans ?_
  · exact if_same (v := C) (call_eq (s1 := q1) (ds := [bodyD B, P]) rfl rfl (e_carrierIn h p w t)) rfl gc
  refine (congrArg fin (seq_ok (s1 := q2) ?_)).trans ?_
  · exact set_ok (s1 := q1) (x := .fr T) (rot_body eB lcs rfl) (by show 4 < 8; decide)
  refine (congrArg fin (seq_ok (s1 := q2) ?_)).trans ?_
  · refine if_same (v := rowT (rot ws ++ [L])) (call_eq (s1 := q2) (ds := [T, P]) rfl rfl ?_) (rot_row (i := 2) eW lvs rfl) ((gd_row (n := 4) ?_))
    · have z := e_weightsIn h' p t
      rw [w'.eq] at z
      exact z
    · rw [List.length_append, rot_len, w.len]
      exact Nat.le_trans (show d + 1 + 1 ≤ 12 by omega) (by decide)
  refine (congrArg fin (seq_ok (s1 := q2) ?_)).trans ?_
  · refine if_same (v := C) (quiet_ok (call_eq (s1 := q2) (ds := [P, T]) rfl rfl ?_)) rfl gc
    have z := e_carrierIn h' p w' t
    rw [car_rot (by rw [bl, w.len])] at z
    exact z
  have tb : tst (bin dGt (ixv 1 (un dNeg (dat (cst (.int 1))))) (cst (.int 1))) q2 = .ok (decide (1 < b)) q2 := tst_ok (bin_ok (x := .fr (.int b)) (y := .fr (.int 1)) (s1 := q2) (ixv_cstN (d := P) rfl dIx_last) rfl rfl)
  by_cases hb : 1 < b
  · rw [decide_eq_true hb] at tb
    refine (congrArg fin (seq_rt (s1 := q2) (x := .fr (.bool true)) ?_)).trans rfl
    exact (Pu.if_true (s1 := q2) tb).trans rfl
  have b1 : b = 1 := by have := p.b1; omega
  rw [decide_eq_false hb] at tb
  refine (congrArg fin (seq_ok (s1 := q2) ?_)).trans ?_
  · exact (Pu.if_false (s1 := q2) tb).trans rfl
  let n : Int := ((detZ B).natAbs : Nat)
  let st : Sl → Sl → Pst := fun u v => ⟨[.fr (bodyD B), .fr P, .fr W, .fr C, .fr T, .fr (.int n), u, v], t⟩
  refine (congrArg fin (seq_ok (s1 := st .un .un) ?_)).trans ?_
  · exact set_ok (s1 := q2) (x := .fr (.int n)) (call_eq (s1 := q2) (ds := [bodyD B]) rfl rfl (e_measureL hB t)) (by show 5 < 8; decide)
  obtain ⟨⟨u', v'⟩, e⟩ : ∃ uv : Sl × Sl, forF (nmA 6) (bnd (consF (un dLen (peek 0)) nilF) rng1) _ (st .un .un) = .ok .nx (st uv.1 uv.2) := by
    have go : ∀ (l : List Nat), (∀ k ∈ l, k < d + 1) → ∀ u v : Sl, ∃ uv : Sl × Sl, forGo (nmA 6) (seqF (setF 7 (callF 1 pMeasureOf (consF (bin dAdd (bin dAdd (slcv 0 noPart (part (var 6))) (mkT (consF (slcv 1 noPart (part (un dNeg (dat (cst (.int 1)))))) nilF))) (slcv 0 (part (bin dAdd (var 6) (cst (.int 1)))) noPart)) nilF)))
      (seqF (ifF (orT (notT (tru (dat (un (dIsi "int") (peek 7))))) (tru (dat (un (dIsi "bool") (peek 7))))) (retF (cst (.bool false))) (pur .nx))
      (ifF (tst (bin dNe (bin dMul (var 7) (ixv 2 (un dNeg (dat (cst (.int 1)))))) (bin dMul (un dAbs (dat (ixv 2 (var 6)))) (var 5)))) (retF (cst (.bool false))) (pur .nx)))) (l.map fun k => PyData.int (k : Nat)) (st u v) = .ok .nx (st uv.1 uv.2) := by
      intro l
      induction l with
      | nil => exact fun _ u v => ⟨(u, v), rfl⟩
      | cons k l ih =>
        intro hl u v
        have hk := hl k List.mem_cons_self
        let m : Int := ((detZ (B.set k ps)).natAbs : Nat)
        obtain ⟨sd, ss⟩ := slo_of (bo_set (k := k) hB bl p.len sp)
        let s : Pst := st (.fr (.int (k : Nat))) v
        let s2 : Pst := st (.fr (.int (k : Nat))) (.fr (.int m))
        have c1 : setF 7 (callF 1 pMeasureOf (consF (bin dAdd (bin dAdd (slcv 0 noPart (part (var 6))) (mkT (consF (slcv 1 noPart (part (un dNeg (dat (cst (.int 1)))))) nilF))) (slcv 0 (part (bin dAdd (var 6) (cst (.int 1)))) noPart)) nilF)) s = .ok .nx s2 :=
          set_ok (s1 := s) (x := .fr (.int m)) (call_eq (s1 := s) (ds := [bodyD (B.set k ps)]) (cons_ok (x := .fr (bodyD (B.set k ps))) (s1 := s) (set_body (i := 6) (j := 1) (b := b) (P := P) (by rw [bl]; exact hk) (by omega) rfl rfl rfl) rfl) rfl (e_measureOf ss t)) (by show 7 < 8; decide)
        have c2 : ifF (orT (notT (tru (dat (un (dIsi "int") (peek 7))))) (tru (dat (un (dIsi "bool") (peek 7))))) (retF (cst (.bool false))) (pur .nx) s2 = .ok .nx s2 := rfl
        have kw : k < ws.length := by rw [w.len]; exact hk
        have c3 : ifF (tst (bin dNe (bin dMul (var 7) (ixv 2 (un dNeg (dat (cst (.int 1)))))) (bin dMul (un dAbs (dat (ixv 2 (var 6)))) (var 5)))) (retF (cst (.bool false))) (pur .nx) s2 = .ok .nx s2 := by
          have x1 : bin dMul (var 7) (ixv 2 (un dNeg (dat (cst (.int 1))))) s2 = .ok (.fr (.int (m * L))) s2 := by
            have sm : Sz 300 m := by
              have z := ss.szD
              show (((detZ (B.set k ps)).natAbs : Nat) : Int).natAbs < 2 ^ 300
              rw [Int.natAbs_natCast]; exact z
            exact bin_ok (x := .fr (.int m)) (y := .fr (.int L)) (s1 := s2) rfl (ixv_cstN (d := W) rfl dIx_last) (dMul_ii sm sL (by decide))
          have wk : Sz 700 (ws.getD k 0) := by
            rw [List.getD_eq_getElem?_getD, List.getElem?_eq_getElem kw]
            exact sz _ (List.mem_append_left _ (List.getElem_mem kw))
          have x2 : bin dMul (un dAbs (dat (ixv 2 (var 6)))) (var 5) s2 = .ok (.fr (.int (((ws.getD k 0).natAbs : Nat) * n))) s2 := by
            have ix : ixv 2 (var 6) s2 = .ok (.fr (.int (ws.getD k 0))) s2 := by
              refine ixv_fr (d := W) (y := .fr (.int (k : Nat))) rfl rfl rfl ?_
              have z := dIx_natT (r := ws ++ [L]) (k := k) (by rw [List.length_append]; omega)
              rw [getD_app kw] at z
              exact z
            refine bin_ok (x := .fr (.int ((ws.getD k 0).natAbs : Nat))) (y := .fr (.int n)) (s1 := s2) (un_ok (d := .int (ws.getD k 0)) (dat_ok ix) ?_) rfl (dMul_ii (n := 700) (m := 300) ?_ ?_ (by decide))
            · show okI _ = okI _
              congr 1
              split <;> omega
            · show (((ws.getD k 0).natAbs : Nat) : Int).natAbs < 2 ^ 700
              rw [Int.natAbs_natCast]; exact wk
            · show (((detZ B).natAbs : Nat) : Int).natAbs < 2 ^ 300
              rw [Int.natAbs_natCast]; exact h.slo.szD
          have sh : m * L = ((ws.getD k 0).natAbs : Nat) * n := by
            subst b1
            exact share h p.len w hk
          have tt : tst (bin dNe (bin dMul (var 7) (ixv 2 (un dNeg (dat (cst (.int 1)))))) (bin dMul (un dAbs (dat (ixv 2 (var 6)))) (var 5))) s2 = .ok false s2 := by
            refine tst_ok (bin_ok x1 x2 ?_)
            show okB (!decide (m * L = ((ws.getD k 0).natAbs : Nat) * n)) = _
            rw [decide_eq_true sh]; rfl
          exact (Pu.if_false (s1 := s2) tt).trans rfl
        obtain ⟨uv, e⟩ := ih (fun j hj => hl j (List.mem_cons_of_mem _ hj)) (.fr (.int (k : Nat))) (.fr (.int m))
        exact ⟨uv, go_next (s1 := s) rfl ((seq_ok c1).trans ((seq_ok c2).trans c3)) e⟩
    obtain ⟨uv, e⟩ := go (List.range (d + 1)) (fun k hk => List.mem_range.mp hk) .un .un
    refine ⟨uv, for_go (s1 := st .un .un) ?_ e⟩
    have e1 : consF (un dLen (peek 0)) nilF (st .un .un) = .ok [.int ((d + 1 : Nat) : Int)] (st .un .un) := cons_ok (x := .fr (.int ((d + 1 : Nat) : Int))) (s1 := st .un .un) (un_ok (d := bodyD B) rfl (by rw [len_body, bl]; rfl)) rfl
    rw [bnd_ok e1]
    exact rng1_nat (by omega) _
  refine (congrArg fin (seq_ok (s1 := st u' v') e)).trans ?_
  rfl
end K23
end SecPt
section SecPu1
set_option Elab.async false
set_option linter.all false
set_option maxRecDepth 100000
set_option maxHeartbeats 4000000
namespace K23
open PySem PySem.Spec Pu
theorem blend_back {B : List (List Int)} {d : Nat} {ps : List Int} {b : Int} {ws : List Int} {L : Int} (p : Pl d ps b) (w : WtOk B d ps b ws L) : Dt.lowL (givenZ ws B d ++ [L]) = ps ++ [b] := by
  have L1 := w.L1
  have b1 := p.b1
  have hm : L ∈ givenZ ws B d ++ [L] := List.mem_append_right _ List.mem_cons_self
  rw [low_prop (a := b) (c := L) (ys := ps ++ [b]) (by omega) (by omega) ?_ (gN_pos hm (by omega)), low_self p.g]
  rw [List.map_append, List.map_append]
  congr 1
  · unfold givenZ
    rw [List.map_map]
    apply List.ext_getElem (by simp [p.len])
    intro k h1 h2
    simp only [List.length_map, List.length_range] at h1
    have kp : k < ps.length := by rw [p.len]; exact h1
    rw [List.getElem_map, List.getElem_map, List.getElem_range]
    have z := w.comb k h1
    rw [List.getD_eq_getElem?_getD, List.getElem?_eq_getElem kp] at z
    have z' : combZ ws B k * b = ps[k] * L := z
    show b * combZ ws B k = L * ps[k]
    rw [Int.mul_comm, z', Int.mul_comm]
  · show [b * L] = [L * b]
    rw [Int.mul_comm]
theorem e_placeHoldsL {B : List (List Int)} {d : Nat} {ps : List Int} {b : Int} (hB : Bo 60 B) (h : Bd B d) (h' : Bd (rot B) d) (p : Pl d ps b) (sp : AllSz 60 ps) (t : Tps) :
    pPlaceHoldsL [bodyD B, rowT (ps ++ [b])] t = .ok (.fr (.bool true)) t := by
  have hlim : ∀ {k : Nat}, k ≤ 12 → k ≤ lim := fun h => Nat.le_trans h (by decide)
  obtain ⟨ws, L, w⟩ := wt h p.len p.b1
  have d2 := h.slo.d2
  have bl := h.slo.blen
  have sz := wt_sz h p.len p.sp p.sb p.b1 w.eq
  have sL : Sz 700 L := sz L (List.mem_append_right _ List.mem_cons_self)
  have sw : AllSz 700 ws := fun x hx => sz x (List.mem_append_left _ hx)
  let P : PyData := rowT (ps ++ [b])
  let W : PyData := rowT (ws ++ [L])
  let q0 : Pst := ⟨[.fr (bodyD B), .fr P, .un, .un, .un, .un], t⟩
  let q1 : Pst := ⟨[.fr (bodyD B), .fr P, .fr W, .un, .un, .un], t⟩
  let st : Sl → Sl → Pst := fun u v => ⟨[.fr (bodyD B), .fr P, .fr W, u, v, .un], t⟩
  have e0 : ∀ F, fnF 6 F [bodyD B, rowT (ps ++ [b])] t = fin (F q0) := fun _ => rfl
  unfold pPlaceHoldsL
  rw [e0]
  refine (congrArg fin (seq_ok (s1 := q1) ?_)).trans ?_
  · refine set_ok (s1 := q0) (x := .fr W) (call_eq (s1 := q0) (ds := [bodyD B, P]) rfl rfl ?_) (by show 2 < 6; decide)
    have z := e_weightsIn h p t
    rw [w.eq] at z
    exact z
  refine (congrArg fin (seq_ok (s1 := q1) ?_)).trans ?_
  · have c : callF 2 pFormL (consF (var 0) (consF (var 2) nilF)) q1 = .ok (.fr (.bool true)) q1 := call_eq (s1 := q1) (ds := [bodyD B, W]) rfl rfl (e_formL h.slo w.len sz w.L1 w.g w.sum t)
    exact (Pu.if_false (not_tru c)).trans rfl
  have bbl : dLen (bodyD B) = okI ((d + 1 : Nat) : Int) := by rw [len_body, bl]
  obtain ⟨uv, e⟩ : ∃ uv : Sl × Sl, forF (nmA 3) (bnd (consF (bin dSub (un dLen (peek 0)) (cst (.int 1))) nilF) rng1)
      (seqF (setF 4 (un dSumA (dat (lcF [5] (nmA 5) (bnd (consF (un dLen (peek 0)) nilF) rng1) yesT (bin dMul (ixv 2 (var 5)) (bin dIx (ixv 0 (var 5)) (var 3)))))))
      (ifF (tst (bin dNe (bin dMul (var 4) (ixv 1 (un dNeg (dat (cst (.int 1)))))) (bin dMul (ixv 1 (var 3)) (ixv 2 (un dNeg (dat (cst (.int 1)))))))) (retF (cst (.bool false))) (pur .nx))) q1 = .ok .nx (st uv.1 uv.2) := by
    have go : ∀ (l : List Nat), (∀ k ∈ l, k < d) → ∀ u v : Sl, ∃ uv : Sl × Sl, forGo (nmA 3) (seqF (setF 4 (un dSumA (dat (lcF [5] (nmA 5) (bnd (consF (un dLen (peek 0)) nilF) rng1) yesT (bin dMul (ixv 2 (var 5)) (bin dIx (ixv 0 (var 5)) (var 3)))))))
      (ifF (tst (bin dNe (bin dMul (var 4) (ixv 1 (un dNeg (dat (cst (.int 1)))))) (bin dMul (ixv 1 (var 3)) (ixv 2 (un dNeg (dat (cst (.int 1)))))))) (retF (cst (.bool false))) (pur .nx))) (l.map fun k => PyData.int (k : Nat)) (st u v) = .ok .nx (st uv.1 uv.2) := by
      intro l
      induction l with
      | nil => exact fun _ u v => ⟨(u, v), rfl⟩
      | cons i l ih =>
        intro hl u v
        have hi := hl i List.mem_cons_self
        let g : Int := combZ ws B i
        let s : Pst := st (.fr (.int (i : Nat))) v
        let s2 : Pst := st (.fr (.int (i : Nat))) (.fr (.int g))
        have c1 : setF 4 (un dSumA (dat (lcF [5] (nmA 5) (bnd (consF (un dLen (peek 0)) nilF) rng1) yesT (bin dMul (ixv 2 (var 5)) (bin dIx (ixv 0 (var 5)) (var 3)))))) s = .ok .nx s2 := by
          refine set_ok (s1 := s) (x := .fr (.int g)) (un_ok (d := .list (iL ((List.range (d + 1)).map fun k => ws.getD k 0 * (B.getD k []).getD i 0))) (dat_ok (x := .ow _) ?_) ?_) (by show 4 < 6; decide)
          · unfold iL
            rw [List.map_map]
            refine lc_one (s := s) (xs := List.range (d + 1)) (fun k => PyData.int (k : Nat)) (fun k => .int (ws.getD k 0 * (B.getD k []).getD i 0)) ?_ (by rw [List.length_range]; exact hlim (by omega)) (by show 5 < 6; decide) rfl fun k hk => ⟨.fr (.int (ws.getD k 0 * (B.getD k []).getD i 0)), ?_, rfl⟩
            · have e : consF (un dLen (peek 0)) nilF s = .ok [.int ((d + 1 : Nat) : Int)] s := cons_ok (x := .fr (.int ((d + 1 : Nat) : Int))) (s1 := s) (un_ok (d := bodyD B) rfl (by rw [bbl]; rfl)) rfl
              rw [bnd_ok e]
              exact rng1_nat (by omega) _
            · have hk' := List.mem_range.mp hk
              have kB : k < B.length := by rw [bl]; exact hk'
              have kw : k < ws.length := by rw [w.len]; exact hk'
              have mB : B.getD k [] ∈ B := by rw [List.getD_eq_getElem?_getD, List.getElem?_eq_getElem kB]; exact List.getElem_mem kB
              have hr := h.slo.rows _ mB
              have hi' : i < (B.getD k []).length := by rw [hr.1]; exact hi
              refine bin_ok (x := .fr (.int (ws.getD k 0))) (y := .fr (.int ((B.getD k []).getD i 0))) (ixv_fr (d := W) (y := .fr (.int (k : Nat))) rfl rfl rfl ?_) (bin_ok (x := .fr (rowT (B.getD k []))) (y := .fr (.int (i : Nat))) (ixv_fr (d := bodyD B) (y := .fr (.int (k : Nat))) rfl rfl rfl (dIx_body kB)) rfl (dIx_natT hi')) (dMul_ii (n := 700) (m := 100) ?_ ?_ (by decide))
              · have z := dIx_natT (r := ws ++ [L]) (k := k) (by rw [List.length_append]; omega)
                rw [getD_app kw] at z
                exact z
              · rw [List.getD_eq_getElem?_getD, List.getElem?_eq_getElem kw]
                exact sw _ (List.getElem_mem _)
              · rw [List.getD_eq_getElem?_getD, List.getElem?_eq_getElem hi']
                exact hr.2 _ (List.getElem_mem hi')
          · rw [sum_iL, range_comb w.len bl]
            rfl
        have sg : Sz 900 g := sz_le (comb_sz sw fun r hr => (h.slo.rows r hr).2) (by have := w.len; omega)
        have ip : i < ps.length := by rw [p.len]; exact hi
        have c3 : ifF (tst (bin dNe (bin dMul (var 4) (ixv 1 (un dNeg (dat (cst (.int 1)))))) (bin dMul (ixv 1 (var 3)) (ixv 2 (un dNeg (dat (cst (.int 1)))))))) (retF (cst (.bool false))) (pur .nx) s2 = .ok .nx s2 := by
          have x1 : bin dMul (var 4) (ixv 1 (un dNeg (dat (cst (.int 1))))) s2 = .ok (.fr (.int (g * b))) s2 := bin_ok (x := .fr (.int g)) (y := .fr (.int b)) (s1 := s2) rfl (ixv_cstN (d := P) rfl dIx_last) (dMul_ii sg p.sb (by decide))
          have x2 : bin dMul (ixv 1 (var 3)) (ixv 2 (un dNeg (dat (cst (.int 1))))) s2 = .ok (.fr (.int (ps.getD i 0 * L))) s2 := by
            refine bin_ok (x := .fr (.int (ps.getD i 0))) (y := .fr (.int L)) (s1 := s2) (ixv_fr (d := P) (y := .fr (.int (i : Nat))) rfl rfl rfl ?_) (ixv_cstN (d := W) rfl dIx_last) (dMul_ii (n := 100) ?_ sL (by decide))
            · have z := dIx_natT (r := ps ++ [b]) (k := i) (by rw [List.length_append]; omega)
              rw [getD_app ip] at z
              exact z
            · rw [List.getD_eq_getElem?_getD, List.getElem?_eq_getElem ip]
              exact p.sp _ (List.getElem_mem ip)
          have tt : tst (bin dNe (bin dMul (var 4) (ixv 1 (un dNeg (dat (cst (.int 1)))))) (bin dMul (ixv 1 (var 3)) (ixv 2 (un dNeg (dat (cst (.int 1))))))) s2 = .ok false s2 := by
            refine tst_ok (bin_ok x1 x2 ?_)
            show okB (!decide (g * b = ps.getD i 0 * L)) = _
            rw [decide_eq_true (w.comb i hi)]; rfl
          exact (Pu.if_false (s1 := s2) tt).trans rfl
        obtain ⟨uv, e⟩ := ih (fun j hj => hl j (List.mem_cons_of_mem _ hj)) (.fr (.int (i : Nat))) (.fr (.int g))
        exact ⟨uv, go_next (s1 := s) rfl ((seq_ok c1).trans c3) e⟩
    obtain ⟨uv, e⟩ := go (List.range d) (fun k hk => List.mem_range.mp hk) .un .un
    refine ⟨uv, for_go (s1 := st .un .un) ?_ e⟩
    have e1 : consF (bin dSub (un dLen (peek 0)) (cst (.int 1))) nilF q1 = .ok [.int ((d : Nat) : Int)] q1 := by
      refine cons_ok (x := .fr (.int ((d : Nat) : Int))) (s1 := q1) (bin_ok (x := .fr (.int ((d + 1 : Nat) : Int))) (y := .fr (.int 1)) (s1 := q1) (un_ok (d := bodyD B) rfl (by rw [bbl]; rfl)) rfl ?_) rfl
      show okI _ = _
      rw [show ((d + 1 : Nat) : Int) - 1 = ((d : Nat) : Int) by omega]; rfl
    rw [bnd_ok e1]
    exact rng1_nat (by omega) _
  obtain ⟨u', v'⟩ := uv
  let q9 : Pst := st u' v'
  refine (congrArg fin (seq_ok (s1 := q9) e)).trans ?_
  refine fin_ret (s1 := q9) (and_true ?_ ?_) rfl
  · refine call_eq (s1 := q9) (ds := [P, P]) (cons_ok (x := .fr P) (s1 := q9) (quiet_ok (call_eq (s1 := q9) (ds := [W, bodyD B]) rfl rfl ?_)) (cons_ok (x := .fr P) (s1 := q9) rfl rfl)) rfl (same5 (gd_row ?_) t)
    · have z := e_blend h.slo w.len sw sL w.L1 w.g w.sum t
      rw [blend_back p w] at z
      exact z
    · rw [List.length_append, p.len]
      exact Nat.le_trans (show d + 1 ≤ 12 by omega) (by decide)
  · exact call_eq (s1 := q9) (ds := [bodyD B, P, W]) rfl rfl (e_heldL hB h h' p sp w t)
end K23
end SecPu1
section SecPv
set_option Elab.async false
set_option linter.all false
set_option maxRecDepth 100000
set_option maxHeartbeats 4000000
namespace K23
open PySem PySem.Spec Pu
theorem max_iL {x : Int} {xs : List Int} : dMaxA (.list (iL (x :: xs))) = okI (xs.foldl max x) := by
  show (match Pu.intsOf (iL (x :: xs)) with | some ns => (if 0 < ns.length then okI (maxL ns) else .no) | none => _) = _
  rw [intsOf_iL]
  show (if 0 < (x :: xs).length then okI (maxL (x :: xs)) else .no) = _
  rw [if_pos (by simp)]
  rfl
theorem max_le : ∀ (xs : List Int) (x m : Int), xs.foldl max x ≤ m ↔ (x ≤ m ∧ ∀ y ∈ xs, y ≤ m)
  | [], x, m => by simp
  | y :: ys, x, m => by
    rw [List.foldl_cons, max_le ys (max x y) m]
    simp only [List.mem_cons, forall_eq_or_imp]
    rw [← and_assoc]
    refine and_congr_left fun _ => ?_
    omega
theorem pow_lit {a : Int} {n : Nat} {s : Pst} (h : a.natAbs < 2 ^ 64) (hn : n ≤ 1000000) : bin dPow (cst (.int a)) (cst (.int (n : Nat))) s = .ok (.fr (.int (a ^ n))) s := by
  refine bin_ok (x := .fr (.int a)) (y := .fr (.int (n : Nat))) (s1 := s) rfl rfl ?_
  show (if _ then _ else _) = _
  rw [if_pos ⟨by omega, by omega, h⟩]
  rfl
/-- what the law's weights are -/
structure Wt (d : Nat) (ws : List Int) (L : Int) : Prop where
  len : ws.length = d + 1
  sz : AllSz 600 (ws ++ [L])
  L1 : 1 ≤ L
  g : gN (ws ++ [L]) = 1
  sum : ws.sum = L
/-- a body with all that is known of it -/
structure Body (B : List (List Int)) (d : Nat) : Prop where
  bo : Bo 60 B
  bd : Bd B d
  rt : Bd (rot B) d
theorem e_weightsHoldL {B : List (List Int)} {d : Nat} {ws : List Int} {L : Int} (hB : Body B d) (hw : Wt d ws L) (t : Tps) : pWeightsHoldL [bodyD B, rowT (ws ++ [L])] t = .ok (.fr (.bool true)) t := by
  have hlim : ∀ {k : Nat}, k ≤ 12 → k ≤ lim := fun h => Nat.le_trans h (by decide)
  have h := hB.bd
  have d2 := h.slo.d2
  have bl := h.slo.blen
  have sw : AllSz 700 ws := fun x hx => sz_le (hw.sz x (List.mem_append_left _ hx)) (by decide)
  have sL : Sz 700 L := sz_le (hw.sz L (List.mem_append_right _ List.mem_cons_self)) (by decide)
  have L1 := hw.L1
  let gv : List Int := givenZ ws B d ++ [L]
  let g0 : Int := gN gv
  let ps : List Int := (givenZ ws B d).map fun x => x / g0
  let b : Int := L / g0
  have hm : L ∈ gv := List.mem_append_right _ List.mem_cons_self
  have gp : 0 < gN gv := gN_pos hm (by omega)
  have gp' : 0 < g0 := by show (0 : Int) < (gN gv : Nat); omega
  have elow : Dt.lowL gv = ps ++ [b] := by
    show gv.map (fun n => n / Dt.gcdL gv) = _
    rw [gcdL_eq]
    show (givenZ ws B d ++ [L]).map (fun n => n / g0) = _
    rw [List.map_append]; rfl
  have hbg : b * g0 = L := by
    have z := low_mul hm
    rw [gcdL_eq] at z
    exact z
  have b1 : 1 ≤ b := by
    have : 0 < b * g0 := by rw [hbg]; omega
    have := Int.pos_of_mul_pos_left this gp'
    omega
  have pl : ps.length = d := by show ((givenZ ws B d).map _).length = d; unfold givenZ; rw [List.length_map, List.length_map, List.length_range]
  have hc : ∀ i, i < d → ps.getD i 0 * g0 = combZ ws B i := fun i hi => by
    have ig : i < (givenZ ws B d).length := by unfold givenZ; rw [List.length_map, List.length_range]; exact hi
    have e : ps.getD i 0 = combZ ws B i / g0 := by
      rw [List.getD_eq_getElem?_getD, List.getElem?_map, List.getElem?_eq_getElem ig]
      have e3 : (givenZ ws B d)[i] = combZ ws B i := by
        have e4 : (givenZ ws B d)[i]? = some (combZ ws B i) := by
          unfold givenZ
          rw [List.getElem?_map, List.getElem?_range hi]
          rfl
        rw [List.getElem?_eq_getElem ig] at e4
        exact Option.some.inj e4
      show (givenZ ws B d)[i] / g0 = _
      rw [e3]
    rw [e]
    have m2 : combZ ws B i ∈ gv := List.mem_append_left _ (List.mem_map.mpr ⟨i, List.mem_range.mpr hi, rfl⟩)
    have z := low_mul m2
    rw [gcdL_eq] at z
    exact z
  have g1 : gN (ps ++ [b]) = 1 := by rw [← elow]; exact gN_low hm (by omega)
  let W : PyData := rowT (ws ++ [L])
  let P : PyData := rowT (ps ++ [b])
  let q0 : Pst := ⟨[.fr (bodyD B), .fr W, .un, .un], t⟩
  let q1 : Pst := ⟨[.fr (bodyD B), .fr W, .fr P, .un], t⟩
  have e0 : ∀ F, fnF 4 F [bodyD B, rowT (ws ++ [L])] t = fin (F q0) := fun _ => rfl
  have lP : (ps ++ [b]).length = d + 1 := by rw [List.length_append, pl]; rfl
  unfold pWeightsHoldL
  rw [e0]
  refine (congrArg fin (seq_ok (s1 := q1) ?_)).trans ?_
  · refine set_ok (s1 := q0) (x := .fr P) (call_eq (s1 := q0) (ds := [bodyD B, W]) rfl rfl ?_) (by show 2 < 4; decide)
    have z := e_givenL h.slo hw.len sw sL L1 t
    rw [elow] at z
    exact z
  refine (congrArg fin (seq_ok (s1 := q1) ?_)).trans ?_
  · refine if_same (v := P) (call_eq (s1 := q1) (ds := [bodyD B, W]) rfl rfl ?_) rfl (gd_row (by rw [lP]; exact Nat.le_trans (show d + 1 ≤ 12 by omega) (by decide)))
    have z := e_blend h.slo hw.len sw sL L1 hw.g hw.sum t
    rw [elow] at z
    exact z
  obtain ⟨x, xs, ex⟩ : ∃ x xs, (ps ++ [b]).map (fun x => ((x.natAbs : Nat) : Int)) = x :: xs := by
    cases hh : (ps ++ [b]).map (fun x => ((x.natAbs : Nat) : Int)) with
    | nil => have := congrArg List.length hh; rw [List.length_map, lP] at this; simp at this
    | cons y ys => exact ⟨y, ys, rfl⟩
  have tm : tst (bin dGt (un dMaxA (dat (lcF [3] (nmA 3) (itF (var 2)) yesT (un dAbs (peek 3))))) (bin dPow (cst (.int 10)) (cst (.int 6)))) q1 = .ok (decide (1000000 < xs.foldl max x)) q1 := by
    refine tst_ok (bin_ok (x := .fr (.int (xs.foldl max x))) (y := .fr (.int (10 ^ 6))) (s1 := q1) (un_ok (d := .list (iL (x :: xs))) (dat_ok (x := .ow (iL (x :: xs))) ?_) max_iL) (pow_lit (a := 10) (n := 6) (by decide) (by decide)) ?_)
    · rw [← ex, rowsMap]
      refine lc_one (s := q1) (xs := ps ++ [b]) PyData.int (fun x => .int ((x.natAbs : Nat) : Int)) rfl (by rw [lP]; exact hlim (by omega)) (by show 3 < 4; decide) rfl fun a _ => ⟨.fr (.int ((a.natAbs : Nat) : Int)), un_ok (d := .int a) rfl ?_, rfl⟩
      show okI _ = okI _
      congr 1
      split <;> omega
    · show okB (decide ((10 : Int) ^ 6 < xs.foldl max x)) = _
      rfl
  by_cases hbig : 1000000 < xs.foldl max x
  · rw [decide_eq_true hbig] at tm
    refine (congrArg fin (seq_rt (s1 := q1) (x := .fr (.bool true)) ?_)).trans rfl
    exact (Pu.if_true (s1 := q1) tm).trans rfl
  rw [decide_eq_false hbig] at tm
  refine (congrArg fin (seq_ok (s1 := q1) ?_)).trans ?_
  · exact (Pu.if_false (s1 := q1) tm).trans rfl
  have small : AllSz 60 (ps ++ [b]) := fun y hy => by
    have m : ((y.natAbs : Nat) : Int) ∈ x :: xs := by rw [← ex]; exact List.mem_map.mpr ⟨y, hy, rfl⟩
    have z := (max_le xs x 1000000).mp (by omega)
    have le : ((y.natAbs : Nat) : Int) ≤ 1000000 := by
      rcases List.mem_cons.mp m with e | m
      · rw [e]; exact z.1
      · exact z.2 _ m
    exact Nat.lt_of_le_of_lt (show y.natAbs ≤ 1000000 by omega) (by decide)
  have p : Pl d ps b := ⟨pl, fun y hy => sz_le (small y (List.mem_append_left _ hy)) (by decide), sz_le (small b (List.mem_append_right _ List.mem_cons_self)) (by decide), b1, g1⟩
  have sp : AllSz 60 ps := fun y hy => small y (List.mem_append_left _ hy)
  have eq : WZ B ps b = ws ++ [L] := by rw [wt_uniq h pl b1 hw.len hw.sum gp' hbg hc, low_self hw.g]
  have w : WtOk B d ps b ws L := by
    obtain ⟨ws', L', w'⟩ := wt h pl b1
    have e := w'.eq.symm.trans eq
    obtain ⟨e1, e2⟩ := List.append_inj' e rfl
    cases e2
    rw [e1] at w'
    exact w'
  refine fin_ret (s1 := q1) (and_true ?_ ?_) rfl
  · refine call_eq (s1 := q1) (ds := [W, W]) (cons_ok (x := .fr W) (s1 := q1) (quiet_ok (call_eq (s1 := q1) (ds := [P, bodyD B]) rfl rfl ?_)) (cons_ok (x := .fr W) (s1 := q1) rfl rfl)) rfl (same5 (gd_row ?_) t)
    · have z := e_weightsIn h p t
      rw [eq] at z
      exact z
    · rw [List.length_append, hw.len]
      exact Nat.le_trans (show d + 1 + 1 ≤ 12 by omega) (by decide)
  · exact call_eq (s1 := q1) (ds := [bodyD B, P, W]) rfl rfl (e_heldL hB.bo h hB.rt p sp w t)
end K23
end SecPv
section SecPw
set_option Elab.async false
set_option linter.all false
set_option maxRecDepth 100000
set_option maxHeartbeats 4000000
namespace K23
open PySem PySem.Spec Pu
/-! ### draws -/
theorem dMod_pos {i j : Int} (h : 0 < j) : dMod (.int i) (.int j) = okI (i % j) := by
  show (if 0 < j then okI (i % j) else if j < 0 then okI (i.fmod j) else .no) = _
  rw [if_pos h]
theorem dFdiv_pos {i j : Int} (h : 0 < j) (hl : j.natAbs.log2 < 9000) : dFdiv (.int i) (.int j) = okI (i / j) := by
  show (if 0 < j ∧ j.natAbs.log2 < 9000 then okI (i / j) else if j < 0 ∧ j.natAbs.log2 < 9000 then okI (i.fdiv j) else .no) = _
  rw [if_pos ⟨h, hl⟩]
def Tp (t : Tps) : Prop := ∃ r m : Int, t = ⟨2, [r, m], []⟩ ∧ 0 ≤ r ∧ 0 ≤ m ∧ m < 2147483587
theorem e_drawL {t : Tps} {n : Int} (h : Tp t) (h0 : 0 < n) (h1 : n.natAbs < 2 ^ 64) : ∃ v t', pDrawL [.dict [], .int n] t = .ok (.fr (.int v)) t' ∧ 0 ≤ v ∧ v < n ∧ Tp t' := by
  obtain ⟨r, m, rfl, hr, hm, hm2⟩ := h
  have hlog : n.natAbs.log2 < 9000 := by
    have : n.natAbs ≠ 0 := by omega
    exact (Nat.log2_lt this).mpr (Nat.lt_trans h1 (Nat.pow_lt_pow_right (by decide) (by decide)))
  let q0 : Pst := ⟨[.fr (.dict []), .fr (.int n), .un], ⟨2, [r, m], []⟩⟩
  have e0 : ∀ F, fnF 3 F [.dict [], .int n] ⟨2, [r, m], []⟩ = fin (F q0) := fun _ => rfl
  have t0 : tst (bin dGt (tgetF 0 0) (cst (.int 0))) q0 = .ok (decide (0 < r)) q0 := rfl
  by_cases hp : 0 < r
  · rw [decide_eq_true hp] at t0
    let q1 : Pst := ⟨[.fr (.dict []), .fr (.int n), .fr (.int (r % n))], ⟨2, [r, m], []⟩⟩
    let q2 : Pst := ⟨[.fr (.dict []), .fr (.int n), .fr (.int (r % n))], ⟨2, [r / n, m], []⟩⟩
    refine ⟨r % n, ⟨2, [r / n, m], []⟩, ?_, Int.emod_nonneg _ (by omega), Int.emod_lt_of_pos _ h0, r / n, m, rfl, Int.ediv_nonneg hr (by omega), hm, hm2⟩
    unfold pDrawL
    rw [e0]
    refine (congrArg fin (seq_rt (s1 := q2) (x := .fr (.int (r % n))) ?_)).trans rfl
    refine Eq.trans (b := _) (Pu.if_true (s1 := q0) t0) ?_
    refine Eq.trans (b := _) (seq_ok (s1 := q1) ?_) ?_
    · refine set_ok (s1 := q0) (x := .fr (.int (r % n))) (bin_ok (x := .fr (.int r)) (y := .fr (.int n)) (s1 := q0) rfl rfl ?_) (by show 2 < 3; decide)
      show (if _ then _ else _) = _
      rw [if_pos h0]; rfl
    refine Eq.trans (b := _) (seq_ok (s1 := q2) ?_) ?_
    · have e : bin dFdiv (un dInt (dat (tgetF 0 0))) (var 1) q1 = .ok (.fr (.int (r / n))) q1 := by
        refine bin_ok (x := .fr (.int r)) (y := .fr (.int n)) (s1 := q1) rfl rfl ?_
        show (if _ then _ else _) = _
        rw [if_pos ⟨h0, hlog⟩]; rfl
      unfold tsetF
      rw [bnd_ok e]
      rfl
    · rfl
  · rw [decide_eq_false hp] at t0
    let m' : Int := (m * 39373 + 104729) % 2147483587
    have hm' : 0 ≤ m' ∧ m' < 2147483587 := ⟨Int.emod_nonneg _ (by decide), Int.emod_lt_of_pos _ (by decide)⟩
    let q1 : Pst := ⟨[.fr (.dict []), .fr (.int n), .un], ⟨2, [r, m'], []⟩⟩
    refine ⟨m' * m' / 3001 % n, ⟨2, [r, m'], []⟩, ?_, Int.emod_nonneg _ (by omega), Int.emod_lt_of_pos _ h0, r, m', rfl, hr, hm'.1, hm'.2⟩
    unfold pDrawL
    rw [e0]
    refine (congrArg fin (seq_ok (s1 := q0) ?_)).trans ?_
    · exact (Pu.if_false (s1 := q0) t0).trans rfl
    have sm : Sz 64 m := Nat.lt_of_le_of_lt (show m.natAbs ≤ 2147483587 by omega) (by decide)
    have sm' : Sz 64 m' := Nat.lt_of_le_of_lt (show m'.natAbs ≤ 2147483587 by omega) (by decide)
    refine (congrArg fin (seq_ok (s1 := q1) ?_)).trans ?_
    · have e : bin dMod (bin dAdd (bin dMul (un dInt (dat (tgetF 0 1))) (cst (.int 39373))) (cst (.int 104729))) (cst (.int 2147483587)) q0 = .ok (.fr (.int m')) q0 := by
        refine bin_ok (x := .fr (.int (m * 39373 + 104729))) (y := .fr (.int 2147483587)) (s1 := q0) (bin_ok (x := .fr (.int (m * 39373))) (y := .fr (.int 104729)) (s1 := q0) (bin_ok (x := .fr (.int m)) (y := .fr (.int 39373)) (s1 := q0) rfl rfl (dMul_ii sm (sz_lit (by decide)) (by decide))) rfl rfl) rfl ?_
        exact dMod_pos (by decide)
      unfold tsetF
      rw [bnd_ok e]
      rfl
    · refine fin_ret (s1 := q1) (bin_ok (x := .fr (.int (m' * m' / 3001))) (y := .fr (.int n)) (s1 := q1) (bin_ok (x := .fr (.int (m' * m'))) (y := .fr (.int 3001)) (s1 := q1) (bin_ok (x := .fr (.int m')) (y := .fr (.int m')) (s1 := q1) rfl rfl (dMul_ii sm' sm' (by decide))) rfl ?_) rfl ?_) rfl
      · exact dFdiv_pos (by decide) ((Nat.log2_lt (by decide)).mpr (Nat.lt_trans (show (3001 : Int).natAbs < 2 ^ 12 by decide) (Nat.pow_lt_pow_right (by decide) (by decide))))
      · show (if _ then _ else _) = _
        rw [if_pos h0]; rfl
end K23
end SecPw
section SecPx
set_option Elab.async false
set_option linter.all false
set_option maxRecDepth 100000
set_option maxHeartbeats 4000000
namespace K23
open PySem PySem.Spec Pu
theorem e_tapeL (ns : List Int) (t : Tps) : ∃ r m : Int, pTapeL [scrD ns, .int 50021] t = .ok (.ow [.int r, .int m]) t ∧ 0 ≤ r ∧ 0 ≤ m ∧ m < 2147483587 := by
  let S : PyData := scrD ns
  let st : Sl → (Int × Int × Sl) → Pst := fun u b => ⟨[.fr S, .fr (.int 50021), .fr (.int b.1), .fr (.int b.2.1), u, b.2.2], t⟩
  let q0 : Pst := ⟨[.fr S, .fr (.int 50021), .un, .un, .un, .un], t⟩
  let bd : M Fw := seqF (setF 5 (un dAbs (dat (un dInt (peek 4))))) (ifF (andT (tst (bin dGe (var 5) (bin dPow (cst (.int 10)) (cst (.int 18))))) (tst (bin dEq (var 2) (cst (.int 0))))) (setF 2 (var 5)) (setF 3 (bin dMod (bin dAdd (bin dAdd (bin dAdd (bin dMul (var 3) (cst (.int 48271))) (bin dMod (var 5) (cst (.int 2147483587)))) (bin dMul (cst (.int 2)) (un dInt (dat (bin dLt (var 4) (cst (.int 0))))))) (cst (.int 1))) (cst (.int 2147483587)))))
  have go : ∀ (l : List Int) (u : Sl) (b : Int × Int × Sl), 0 ≤ b.1 → 0 ≤ b.2.1 → b.2.1 < 2147483587 → ∃ u' b', forGo (nmA 4) bd (l.map PyData.int) (st u b) = .ok .nx (st u' b') ∧ 0 ≤ b'.1 ∧ 0 ≤ b'.2.1 ∧ b'.2.1 < 2147483587 := by
    intro l
    induction l with
    | nil => exact fun u b h1 h2 h3 => ⟨u, b, rfl, h1, h2, h3⟩
    | cons c l ih =>
      intro u ⟨r, m, v⟩ h1 h2 h3
      have h1 : 0 ≤ r := h1
      have h2 : 0 ≤ m := h2
      have h3 : m < 2147483587 := h3
      let z : Int := if c < 0 then -c else c
      have hz : 0 ≤ z := by show 0 ≤ (if c < 0 then -c else c); split <;> omega
      let s : Pst := st (.fr (.int c)) (r, m, v)
      let s1 : Pst := st (.fr (.int c)) (r, m, .fr (.int z))
      have c1 : setF 5 (un dAbs (dat (un dInt (peek 4)))) s = .ok .nx s1 := set_ok (s1 := s) (x := .fr (.int z)) (un_ok (d := .int c) rfl rfl) (by show 5 < 6; decide)
      have x1 : tst (bin dGe (var 5) (bin dPow (cst (.int 10)) (cst (.int 18)))) s1 = .ok (decide ((10 : Int) ^ 18 ≤ z)) s1 := tst_ok (bin_ok (x := .fr (.int z)) (y := .fr (.int (10 ^ 18))) (s1 := s1) rfl (pow_lit (a := 10) (n := 18) (by decide) (by decide)) rfl)
      have x2 : tst (bin dEq (var 2) (cst (.int 0))) s1 = .ok (decide (r = 0)) s1 := rfl
      have x3 : andT (tst (bin dGe (var 5) (bin dPow (cst (.int 10)) (cst (.int 18))))) (tst (bin dEq (var 2) (cst (.int 0)))) s1 = .ok (decide ((10 : Int) ^ 18 ≤ z) && decide (r = 0)) s1 := by
        unfold andT
        rw [bnd_ok x1]
        cases decide ((10 : Int) ^ 18 ≤ z) with
        | false => rfl
        | true => exact x2
      cases hc : decide ((10 : Int) ^ 18 ≤ z) && decide (r = 0) with
      | true =>
        rw [hc] at x3
        let s2 : Pst := st (.fr (.int c)) (z, m, .fr (.int z))
        obtain ⟨u', b', e, k⟩ := ih (.fr (.int c)) (z, m, .fr (.int z)) hz h2 h3
        refine ⟨u', b', go_next (s1 := s) (s2 := s2) rfl ?_ e, k⟩
        exact (seq_ok c1).trans ((Pu.if_true (s1 := s1) x3).trans rfl)
      | false =>
        rw [hc] at x3
        let f : Int := if decide (c < 0) = true then 1 else 0
        let m' : Int := (m * 48271 + z % 2147483587 + 2 * f + 1) % 2147483587
        have hm' : 0 ≤ m' ∧ m' < 2147483587 := ⟨Int.emod_nonneg _ (by decide), Int.emod_lt_of_pos _ (by decide)⟩
        let s2 : Pst := st (.fr (.int c)) (r, m', .fr (.int z))
        obtain ⟨u', b', e, k⟩ := ih (.fr (.int c)) (r, m', .fr (.int z)) h1 hm'.1 hm'.2
        refine ⟨u', b', go_next (s1 := s) (s2 := s2) rfl ?_ e, k⟩
        refine (seq_ok c1).trans ((Pu.if_false (s1 := s1) x3).trans ?_)
        have sm : Sz 64 m := Nat.lt_of_le_of_lt (show m.natAbs ≤ 2147483587 by omega) (by decide)
        have sf : Sz 64 f := by show (if decide (c < 0) = true then (1 : Int) else 0).natAbs < 2 ^ 64; split <;> decide
        refine set_ok (s1 := s1) (x := .fr (.int m')) (bin_ok (x := .fr (.int (m * 48271 + z % 2147483587 + 2 * f + 1))) (y := .fr (.int 2147483587)) (s1 := s1) ?_ rfl (dMod_pos (by decide))) (by show 3 < 6; decide)
        refine bin_ok (x := .fr (.int (m * 48271 + z % 2147483587 + 2 * f))) (y := .fr (.int 1)) (s1 := s1) (bin_ok (x := .fr (.int (m * 48271 + z % 2147483587))) (y := .fr (.int (2 * f))) (s1 := s1) (bin_ok (x := .fr (.int (m * 48271))) (y := .fr (.int (z % 2147483587))) (s1 := s1) (bin_ok (x := .fr (.int m)) (y := .fr (.int 48271)) (s1 := s1) rfl rfl (dMul_ii sm (sz_lit (by decide)) (by decide))) (bin_ok (x := .fr (.int z)) (y := .fr (.int 2147483587)) (s1 := s1) rfl rfl (dMod_pos (by decide))) rfl) (bin_ok (x := .fr (.int 2)) (y := .fr (.int f)) (s1 := s1) rfl rfl (dMul_ii (sz_lit (by decide)) sf (by decide))) rfl) rfl rfl
  obtain ⟨u', ⟨r, m, v⟩, e, h1, h2, h3⟩ := go ns .un (0, 50021, .un) (by decide) (by decide) (by decide)
  refine ⟨r, m, ?_, h1, h2, h3⟩
  have e0 : ∀ F, fnF 6 F [scrD ns, .int 50021] t = fin (F q0) := fun _ => rfl
  unfold pTapeL
  rw [e0]
  let q1 : Pst := ⟨[.fr S, .fr (.int 50021), .fr (.int 0), .un, .un, .un], t⟩
  let q2 : Pst := st .un (0, 50021, .un)
  let q3 : Pst := st u' (r, m, v)
  refine (congrArg fin (seq_ok (s1 := q1) ?_)).trans ?_
  · exact set_ok (s1 := q0) (x := .fr (.int 0)) rfl (by show 2 < 6; decide)
  refine (congrArg fin (seq_ok (s1 := q2) ?_)).trans ?_
  · exact set_ok (s1 := q1) (x := .fr (.int 50021)) rfl (by show 3 < 6; decide)
  refine (congrArg fin (seq_ok (s1 := q3) ?_)).trans ?_
  · exact for_go (ds := ns.map PyData.int) (s1 := q2) rfl e
  · exact fin_ret (s1 := q3) (mkL_ok (ds := [.int r, .int m]) rfl (by show 2 ≤ 100000; decide)) rfl
end K23
end SecPx
section SecPz
set_option Elab.async false
set_option linter.all false
set_option maxRecDepth 100000
set_option maxHeartbeats 4000000
namespace K23
open PySem PySem.Spec Pu
theorem draw_ok {Fx : M OV} {s : Pst} {n : Int} (h0 : sl s 0 = .fr (.dict [])) (hx : Fx s = .ok (.fr (.int n)) s) (hT : Tp s.t) (hn : 0 < n) (h1 : n.natAbs < 2 ^ 64) : ∃ v t', callF 2 pDrawL (consF (var 0) (consF Fx nilF)) s = .ok (.fr (.int v)) { s with t := t' } ∧ 0 ≤ v ∧ v < n ∧ Tp t' := by
  obtain ⟨v, t', e, h2, h3, h4⟩ := e_drawL hT hn h1
  have v0 : var 0 s = .ok (.fr (.dict [])) s := by unfold var; rw [h0]
  exact ⟨v, t', call_eq (s1 := s) (ds := [.dict [], .int n]) (cons_ok v0 (cons_ok hx rfl)) rfl e, h2, h3, h4⟩
def IntQ (n : Nat) (d : PyData) : Prop := ∃ i : Int, d = .int i ∧ Sz n i
theorem ints_q {n : Nat} : ∀ {ds : List PyData}, (∀ d ∈ ds, IntQ n d) → ∃ rs, ds = iL rs ∧ AllSz n rs
  | [], _ => ⟨[], rfl, AllSz.nil⟩
  | d :: ds, h => by
    obtain ⟨i, rfl, si⟩ := h d List.mem_cons_self
    obtain ⟨rs, rfl, sr⟩ := ints_q fun e he => h e (List.mem_cons_of_mem _ he)
    exact ⟨i :: rs, rfl, AllSz.cons si sr⟩
theorem sz_of {n : Nat} {x a b : Int} (h1 : a ≤ x) (h2 : x ≤ b) (ha : a.natAbs < 2 ^ n) (hb : b.natAbs < 2 ^ n) : Sz n x := by
  unfold Sz
  omega
/-- a row of drawn numbers -/
theorem row_draw {i m : Nat} {v : List Sl} {t : Tps} {Fi : M (List PyData)} {Fe : M OV} {n : Nat} (hi : Fi ⟨v, t⟩ = .ok ((List.range m).map fun k => PyData.int (k : Nat)) ⟨v, t⟩) (hT : Tp t) (hm : m ≤ 12) (hn : i < v.length) (ho : v.getD i .un = .un)
    (h : ∀ k, k < m → ∀ t, Tp t → ∃ (x : Int) (t' : Tps), Fe (put i (.fr (.int (k : Nat))) ⟨v, t⟩) = .ok (.fr (.int x)) (put i (.fr (.int (k : Nat))) ⟨v, t'⟩) ∧ Sz n x ∧ Tp t') :
    ∃ rs t', lcF [i] (nmA i) Fi yesT Fe ⟨v, t⟩ = .ok (.ow (iL rs)) ⟨v, t'⟩ ∧ rs.length = m ∧ AllSz n rs ∧ Tp t' := by
  obtain ⟨ds, t', e, l, q, T'⟩ := lc_draw (fun k : Nat => PyData.int (k : Nat)) (IntQ n) Tp hi hT (by rw [List.length_range]; exact Nat.le_trans hm (by decide)) hn (fun t' => by
      have e : ∀ t : Tps, sl ⟨v, t⟩ i = .un := fun _ => ho
      rw [e, e]; rfl) rfl (fun k hk t hT => by
      obtain ⟨x, t', e, sx, T'⟩ := h k (List.mem_range.mp hk) t hT
      exact ⟨_, t', e, ⟨x, rfl, sx⟩, T'⟩) rfl
  obtain ⟨rs, rfl, sr⟩ := ints_q q
  refine ⟨rs, t', e, ?_, sr, T'⟩
  have : (iL rs).length = rs.length := List.length_map _
  rw [← this, l, List.length_range]
theorem e_weightsL {d : Nat} {t : Tps} (d2 : d = 2 ∨ d = 3) (hT : Tp t) : ∃ ws L t', pWeightsL [.dict [], .int (d : Nat)] t = .ok (.fr (rowT (ws ++ [L]))) t' ∧ Wt d ws L ∧ Tp t' := by
  have hlim : ∀ {k : Nat}, k ≤ 12 → k ≤ lim := fun h => Nat.le_trans h (by decide)
  let T : PyData := .dict []
  let D : PyData := .int (d : Nat)
  let q0 : Pst := ⟨[.fr T, .fr D, .un, .un, .un, .un, .un], t⟩
  obtain ⟨kd, t1, e1, k0, k5, T1⟩ := draw_ok (s := q0) (Fx := cst (.int 5)) rfl rfl hT (by decide) (by decide)
  let v1 : List Sl := [.fr T, .fr D, .fr (.int kd), .un, .un, .un, .un]
  have e0 : ∀ F, fnF 7 F [.dict [], .int (d : Nat)] t = fin (F q0) := fun _ => rfl
  have rng : ∀ (v : List Sl) (t : Tps), v.getD 1 .un = .fr D → (bnd (consF (bin dAdd (var 1) (cst (.int 1))) nilF) rng1) ⟨v, t⟩ = .ok ((List.range (d + 1)).map fun k => PyData.int (k : Nat)) ⟨v, t⟩ := fun v t hv => by
    have a1 : var 1 ⟨v, t⟩ = .ok (.fr D) ⟨v, t⟩ := by
      have z : sl ⟨v, t⟩ 1 = .fr D := hv
      unfold var; rw [z]
    have e : consF (bin dAdd (var 1) (cst (.int 1))) nilF ⟨v, t⟩ = .ok [.int ((d + 1 : Nat) : Int)] ⟨v, t⟩ := cons_ok (x := .fr (.int ((d + 1 : Nat) : Int))) (bin_ok (x := .fr D) (y := .fr (.int 1)) a1 rfl rfl) rfl
    rw [bnd_ok e]
    exact rng1_nat (by omega) _
  have rows : ∃ rs w5 t2, (ifF (tst (bin dLt (var 2) (cst (.int 2))))
    (setF 3 (lcF [4] (nmA 4) (bnd (consF (bin dAdd (var 1) (cst (.int 1))) nilF) rng1) yesT (callF 2 pDrawL (consF (var 0) (consF (cst (.int 4)) nilF)))))
    (ifF (tst (bin dEq (var 2) (cst (.int 2))))
      (setF 3 (lcF [4] (nmA 4) (bnd (consF (bin dAdd (var 1) (cst (.int 1))) nilF) rng1) yesT (bin dSub (callF 2 pDrawL (consF (var 0) (consF (cst (.int 15)) nilF))) (cst (.int 5)))))
      (ifF (tst (bin dEq (var 2) (cst (.int 3))))
        (seqF (setF 5 (callF 2 pDrawL (consF (var 0) (consF (bin dAdd (var 1) (cst (.int 1))) nilF))))
          (setF 3 (lcF [4] (nmA 4) (bnd (consF (bin dAdd (var 1) (cst (.int 1))) nilF) rng1) yesT (un dInt (dat (bin dEq (var 4) (var 5)))))))
        (setF 3 (lcF [4] (nmA 4) (bnd (consF (bin dAdd (var 1) (cst (.int 1))) nilF) rng1) yesT (bin dSub (callF 2 pDrawL (consF (var 0) (consF (bin dMul (cst (.int 2)) (bin dPow (cst (.int 10)) (cst (.int 9)))) nilF))) (bin dPow (cst (.int 10)) (cst (.int 9))))))))) ⟨v1, t1⟩
      = .ok .nx ⟨[.fr T, .fr D, .fr (.int kd), .ow (iL rs), .un, w5, .un], t2⟩ ∧ rs.length = d + 1 ∧ AllSz 40 rs ∧ Tp t2 ∧ backSl w5 = w5 := by
    have c1 : tst (bin dLt (var 2) (cst (.int 2))) ⟨v1, t1⟩ = .ok (decide (kd < 2)) ⟨v1, t1⟩ := rfl
    have c2 : tst (bin dEq (var 2) (cst (.int 2))) ⟨v1, t1⟩ = .ok (decide (kd = 2)) ⟨v1, t1⟩ := rfl
    have c3 : tst (bin dEq (var 2) (cst (.int 3))) ⟨v1, t1⟩ = .ok (decide (kd = 3)) ⟨v1, t1⟩ := rfl
    by_cases h1 : kd < 2
    · rw [decide_eq_true h1] at c1
      obtain ⟨rs, t2, e, l, sr, T2⟩ := row_draw (i := 4) (m := d + 1) (v := v1) (t := t1) (n := 40) (Fe := callF 2 pDrawL (consF (var 0) (consF (cst (.int 4)) nilF))) (rng v1 t1 rfl) T1 (by omega) (by show 4 < 7; decide) rfl fun k _ t hT => by
        obtain ⟨x, t', ex, x0, x4, T'⟩ := draw_ok (s := put 4 (.fr (.int (k : Nat))) ⟨v1, t⟩) (Fx := cst (.int 4)) rfl rfl hT (by decide) (by decide)
        exact ⟨x, t', ex, sz_of x0 (by omega : x ≤ 4) (by decide) (by decide), T'⟩
      refine ⟨rs, .un, t2, ?_, l, sr, T2, rfl⟩
      exact (Pu.if_true c1).trans (set_ok (x := .ow (iL rs)) e (by show 3 < 7; decide))
    rw [decide_eq_false h1] at c1
    by_cases h2 : kd = 2
    · rw [decide_eq_true h2] at c2
      obtain ⟨rs, t2, e, l, sr, T2⟩ := row_draw (i := 4) (m := d + 1) (v := v1) (t := t1) (n := 40) (Fe := bin dSub (callF 2 pDrawL (consF (var 0) (consF (cst (.int 15)) nilF))) (cst (.int 5))) (rng v1 t1 rfl) T1 (by omega) (by show 4 < 7; decide) rfl fun k _ t hT => by
        obtain ⟨x, t', ex, x0, x4, T'⟩ := draw_ok (s := put 4 (.fr (.int (k : Nat))) ⟨v1, t⟩) (Fx := cst (.int 15)) rfl rfl hT (by decide) (by decide)
        exact ⟨x - 5, t', bin_ok (x := .fr (.int x)) (y := .fr (.int 5)) ex rfl rfl, sz_of (a := -5) (b := 15) (by omega) (by omega) (by decide) (by decide), T'⟩
      refine ⟨rs, .un, t2, ?_, l, sr, T2, rfl⟩
      exact (Pu.if_false c1).trans ((Pu.if_true c2).trans (set_ok (x := .ow (iL rs)) e (by show 3 < 7; decide)))
    rw [decide_eq_false h2] at c2
    by_cases h3 : kd = 3
    · rw [decide_eq_true h3] at c3
      obtain ⟨one, t2, e2, o0, o1, T2⟩ := draw_ok (s := ⟨v1, t1⟩) (Fx := bin dAdd (var 1) (cst (.int 1))) (n := (d : Int) + 1) rfl rfl T1 (by omega) (by omega)
      let v2 : List Sl := [.fr T, .fr D, .fr (.int kd), .un, .un, .fr (.int one), .un]
      obtain ⟨rs, t3, e, l, sr, T3⟩ := row_draw (i := 4) (m := d + 1) (v := v2) (t := t2) (n := 40) (Fe := un dInt (dat (bin dEq (var 4) (var 5)))) (rng v2 t2 rfl) T2 (by omega) (by show 4 < 7; decide) rfl fun k _ t hT => by
        refine ⟨if decide (((k : Nat) : Int) = one) then 1 else 0, t, rfl, ?_, hT⟩
        unfold Sz
        split <;> decide
      refine ⟨rs, .fr (.int one), t3, ?_, l, sr, T3, rfl⟩
      refine (Pu.if_false c1).trans ((Pu.if_false c2).trans ((Pu.if_true c3).trans ?_))
      refine Eq.trans (b := _) (seq_ok (s1 := ⟨v2, t2⟩) ?_) ?_
      · exact set_ok (x := .fr (.int one)) e2 (by show 5 < 7; decide)
      · exact set_ok (x := .ow (iL rs)) e (by show 3 < 7; decide)
    · rw [decide_eq_false h3] at c3
      obtain ⟨rs, t2, e, l, sr, T2⟩ := row_draw (i := 4) (m := d + 1) (v := v1) (t := t1) (n := 40) (Fe := bin dSub (callF 2 pDrawL (consF (var 0) (consF (bin dMul (cst (.int 2)) (bin dPow (cst (.int 10)) (cst (.int 9)))) nilF))) (bin dPow (cst (.int 10)) (cst (.int 9)))) (rng v1 t1 rfl) T1 (by omega) (by show 4 < 7; decide) rfl fun k _ t hT => by
        obtain ⟨x, t', ex, x0, x4, T'⟩ := draw_ok (s := put 4 (.fr (.int (k : Nat))) ⟨v1, t⟩) (Fx := bin dMul (cst (.int 2)) (bin dPow (cst (.int 10)) (cst (.int 9)))) (n := 2 * 10 ^ 9) rfl (bin_ok (x := .fr (.int 2)) (y := .fr (.int (10 ^ 9))) rfl (pow_lit (a := 10) (n := 9) (by decide) (by decide)) (dMul_ii (sz_lit (by decide)) (n := 64) (m := 64) (sz_lit (by decide)) (by decide))) hT (by decide) (by decide)
        have x4' : x < 2000000000 := x4
        exact ⟨x - 10 ^ 9, t', bin_ok (x := .fr (.int x)) (y := .fr (.int (10 ^ 9))) ex (pow_lit (a := 10) (n := 9) (by decide) (by decide)) rfl, sz_of (a := -1000000000) (b := 1000000000) (by omega) (by omega) (by decide) (by decide), T'⟩
      refine ⟨rs, .un, t2, ?_, l, sr, T2, rfl⟩
      exact (Pu.if_false c1).trans ((Pu.if_false c2).trans ((Pu.if_false c3).trans (set_ok (x := .ow (iL rs)) e (by show 3 < 7; decide))))
  obtain ⟨rs, w5, t2, e2, lr, sr, T2, hw5⟩ := rows
  let q2 : Pst := ⟨[.fr T, .fr D, .fr (.int kd), .ow (iL rs), .un, w5, .un], t2⟩
  obtain ⟨at_, t3, e3, a0, a1, T3⟩ := draw_ok (s := q2) (Fx := bin dAdd (var 1) (cst (.int 1))) (n := (d : Int) + 1) rfl rfl T2 (by omega) (by omega)
  let st : List Int → Pst := fun rs => ⟨[.fr T, .fr D, .fr (.int kd), .ow (iL rs), .un, w5, .fr (.int at_)], t3⟩
  have fixd : ∃ us, ifF (tst (bin dLt (un dSumA (peek 3)) (cst (.int 1)))) (setAtF 3 (bin dSub (bin dAdd (ixv 3 (var 6)) (cst (.int 1))) (un dSumA (peek 3))) (var 6)) (pur .nx) (st rs) = .ok .nx (st us) ∧ us.length = d + 1 ∧ AllSz 60 us ∧ 1 ≤ us.sum := by
    have sums : ∀ us, un dSumA (peek 3) (st us) = .ok (.fr (.int us.sum)) (st us) := fun us => un_ok (d := .list (iL us)) rfl (sum_iL us)
    have c : tst (bin dLt (un dSumA (peek 3)) (cst (.int 1))) (st rs) = .ok (decide (rs.sum < 1)) (st rs) := tst_ok (bin_ok (x := .fr (.int rs.sum)) (y := .fr (.int 1)) (sums rs) rfl rfl)
    by_cases hs : rs.sum < 1
    · rw [decide_eq_true hs] at c
      obtain ⟨j, rfl⟩ : ∃ j : Nat, at_ = (j : Int) := ⟨at_.toNat, by omega⟩
      have hj : j < rs.length := by omega
      let x : Int := rs.getD j 0 + 1 - rs.sum
      refine ⟨rs.set j x, (Pu.if_true c).trans ?_, by rw [List.length_set]; exact lr, ?_, ?_⟩
      · have ex : bin dSub (bin dAdd (ixv 3 (var 6)) (cst (.int 1))) (un dSumA (peek 3)) (st rs) = .ok (.fr (.int x)) (st rs) := bin_ok (x := .fr (.int (rs.getD j 0 + 1))) (y := .fr (.int rs.sum)) (bin_ok (x := .fr (.int (rs.getD j 0))) (y := .fr (.int 1)) (ixv_ow (l := iL rs) (y := .fr (.int (j : Nat))) rfl rfl rfl (dIx_nat hj)) rfl rfl) (sums rs) rfl
        unfold setAtF
        rw [bnd_ok ex]
        show (match (setAt (.int (j : Nat)) (.int x) (iL rs)) with | some l' => _ | none => _) = _
        have e5 : setAt (.int (j : Nat)) (.int x) (iL rs) = some (iL (rs.set j x)) := by
          show (L2.ixN (iL rs).length (j : Nat)).map _ = _
          unfold L2.ixN
          have ll : (iL rs).length = rs.length := List.length_map _
          rw [if_pos (by omega), if_pos (by rw [ll]; omega)]
          show some ((iL rs).set ((j : Nat) : Int).toNat (.int x)) = _
          rw [Int.toNat_natCast]
          unfold iL
          rw [List.map_set]
        rw [e5]
        show (if _ then _ else _) = _
        rw [if_pos (by
          have : (iL (rs.set j x)).length = rs.length := by unfold iL; rw [List.length_map, List.length_set]
          rw [this, lr]
          exact hlim (by omega))]
        rfl
      · intro y hy
        rcases List.mem_or_eq_of_mem_set hy with hy | rfl
        · exact sz_le (sr y hy) (by decide)
        · have s1 : Sz 40 (rs.getD j 0) := by
            rw [List.getD_eq_getElem?_getD, List.getElem?_eq_getElem hj]
            exact sr _ (List.getElem_mem hj)
          have s2 : Sz (40 + rs.length) rs.sum := sum_sz sr
          rw [lr] at s2
          exact sz_le (Sz.sub (Sz.add s1 (sz_of (n := 1) (a := 1) (b := 1) (by decide) (by decide) (by decide) (by decide) : Sz 1 1)) s2) (by omega)
      · have set_sum : ∀ (l : List Int) (j : Nat) (x : Int), j < l.length → (l.set j x).sum = l.sum - l.getD j 0 + x := by
          intro l
          induction l with
          | nil => intro j x h; simp at h
          | cons y l ih =>
            intro j x h
            cases j with
            | zero => simp; omega
            | succ j =>
              have z := ih j x (by simpa using h)
              simp only [List.set_cons_succ, List.sum_cons, List.getD_cons_succ] at z ⊢
              omega
        rw [set_sum rs j x hj]
        show 1 ≤ rs.sum - rs.getD j 0 + (rs.getD j 0 + 1 - rs.sum)
        omega
    · rw [decide_eq_false hs] at c
      exact ⟨rs, (Pu.if_false c).trans rfl, lr, fun y hy => sz_le (sr y hy) (by decide), by omega⟩
  obtain ⟨us, e4, lu, su, s1⟩ := fixd
  have hm : us.sum ∈ us ++ [us.sum] := List.mem_append_right _ List.mem_cons_self
  have hne : us.sum ≠ 0 := by omega
  have gp : 0 < gN (us ++ [us.sum]) := gN_pos hm hne
  have sz : AllSz 100 (us ++ [us.sum]) := fun y hy => by
    rcases List.mem_append.mp hy with hy | hy
    · exact sz_le (su y hy) (by decide)
    · rw [List.mem_singleton.mp hy]
      exact sz_le (sum_sz su) (by omega)
  let g0 : Int := gN (us ++ [us.sum])
  have gp' : 0 < g0 := by show (0 : Int) < (gN (us ++ [us.sum]) : Nat); omega
  let ws : List Int := us.map fun x => x / g0
  let L : Int := us.sum / g0
  have elow : Dt.lowL (us ++ [us.sum]) = ws ++ [L] := by
    show (us ++ [us.sum]).map (fun n => n / Dt.gcdL (us ++ [us.sum])) = _
    rw [gcdL_eq]
    show (us ++ [us.sum]).map (fun n => n / g0) = _
    rw [List.map_append]; rfl
  have lm : ∀ x ∈ us ++ [us.sum], x / g0 * g0 = x := fun x hx => by
    have z := low_mul hx
    rw [gcdL_eq] at z
    exact z
  have hsum : ws.sum = L := by
    have z := sum_scale (G := g0) (s := 1) (f := fun x => x / g0) (xs := us) fun x hx => by rw [lm x (List.mem_append_left _ hx), Int.one_mul]
    rw [Int.one_mul] at z
    have y := lm us.sum hm
    exact Int.eq_of_mul_eq_mul_right (by omega) (z.trans y.symm)
  have L1 : 1 ≤ L := by
    have y : L * g0 = us.sum := lm us.sum hm
    have : 0 < L * g0 := by rw [y]; omega
    have := Int.pos_of_mul_pos_left this gp'
    omega
  refine ⟨ws, L, t3, ?_, ⟨by show (us.map _).length = _; rw [List.length_map, lu], fun x hx => ?_, L1, by rw [← elow]; exact gN_low hm hne, hsum⟩, T3⟩
  · unfold pWeightsL
    rw [e0]
    refine (congrArg fin (seq_ok (s1 := ⟨v1, t1⟩) ?_)).trans ?_
    · exact set_ok (x := .fr (.int kd)) e1 (by show 2 < 7; decide)
    refine (congrArg fin (seq_ok (s1 := q2) e2)).trans ?_
    refine (congrArg fin (seq_ok (s1 := st rs) ?_)).trans ?_
    · exact set_ok (x := .fr (.int at_)) e3 (by show 6 < 7; decide)
    refine (congrArg fin (seq_ok (s1 := st us) e4)).trans ?_
    let s9 : Pst := ⟨[.fr T, .fr D, .fr (.int kd), .fr (.list (iL us)), .un, w5, .fr (.int at_)], t3⟩
    have fz : bin dAdd (var 3) (mkL (consF (un dSumA (peek 3)) nilF)) (st us) = .ok (.ow (iL (us ++ [us.sum]))) s9 := by
      refine bin_ok (x := .fr (.list (iL us))) (y := .ow [.int us.sum]) (s1 := s9) rfl (mkL_ok (ds := [.int us.sum]) (cons_ok (x := .fr (.int us.sum)) (s1 := s9) (un_ok (d := .list (iL us)) rfl (sum_iL us)) rfl) (by show 1 ≤ 100000; decide)) ?_
      show fit _ _ = _
      unfold fit
      have : (iL us).length = us.length := List.length_map _
      rw [if_pos (by rw [this, lu]; exact hlim (show d + 1 + 1 ≤ 12 by omega))]
      unfold iL
      rw [List.map_append]; rfl
    have z := e_lowestL (row_l (us ++ [us.sum])) (by rw [List.length_append, lu]; exact hlim (show d + 1 + 1 ≤ 12 by omega)) gp (fun x hx => Nat.lt_trans (sz x hx) (Nat.pow_lt_pow_right (by decide) (by decide))) t3
    rw [elow] at z
    exact fin_ret (s1 := s9) (call_eq (s1 := s9) (ds := [.list (iL (us ++ [us.sum]))]) (cons_ok (x := .ow (iL (us ++ [us.sum]))) (s1 := s9) fz rfl) rfl z) rfl
  · rw [← elow] at hx
    obtain ⟨y, hy, rfl⟩ := List.mem_map.mp hx
    exact Nat.lt_of_le_of_lt (low_le hm hne hy) (sz_le (sz y hy) (by decide))
end K23
end SecPz
section SecQa
set_option Elab.async false
set_option linter.all false
set_option maxRecDepth 100000
set_option maxHeartbeats 4000000
namespace K23
open PySem PySem.Spec Pu
theorem if_skip {Ft : M Bool} {Fs : M Fw} {s s1 : Pst} (a : Ft s = .ok false s1) : ifF Ft Fs (pur .nx) s = .ok .nx s1 := (Pu.if_false a).trans rfl
theorem lowPl {d n : Nat} {xs : List Int} {c : Int} (hl : xs.length = d) (c1 : 1 ≤ c) (s : AllSz n (xs ++ [c])) : ∃ ps b, Dt.lowL (xs ++ [c]) = ps ++ [b] ∧ ps.length = d ∧ 1 ≤ b ∧ gN (ps ++ [b]) = 1 ∧ AllSz n (ps ++ [b]) := by
  have hm : c ∈ xs ++ [c] := List.mem_append_right _ List.mem_cons_self
  have hne : c ≠ 0 := by omega
  have gp : 0 < gN (xs ++ [c]) := gN_pos hm hne
  let g0 : Int := gN (xs ++ [c])
  have gp' : 0 < g0 := by show (0 : Int) < (gN (xs ++ [c]) : Nat); omega
  have elow : Dt.lowL (xs ++ [c]) = (xs.map fun x => x / g0) ++ [c / g0] := by
    show (xs ++ [c]).map (fun n => n / Dt.gcdL (xs ++ [c])) = _
    rw [gcdL_eq]
    show (xs ++ [c]).map (fun n => n / g0) = _
    rw [List.map_append]; rfl
  refine ⟨xs.map fun x => x / g0, c / g0, elow, by rw [List.length_map, hl], ?_, by rw [← elow]; exact gN_low hm hne, fun x hx => ?_⟩
  · have y := low_mul hm
    rw [gcdL_eq] at y
    have y' : c / g0 * g0 = c := y
    have : 0 < c / g0 * g0 := by rw [y']; omega
    have := Int.pos_of_mul_pos_left this gp'
    omega
  · rw [← elow] at hx
    obtain ⟨y, hy, rfl⟩ := List.mem_map.mp hx
    exact Nat.lt_of_le_of_lt (low_le hm hne hy) (s y hy)
theorem bo_rows {B : List (List Int)} (h : Bo 60 B) : ∀ r ∈ B, AllSz 60 r := by
  cases h with
  | two a0 b0 a1 b1 a2 b2 =>
    intro r hr
    simp only [List.mem_cons, List.not_mem_nil, or_false] at hr
    rcases hr with rfl | rfl | rfl <;> exact AllSz.cons (by assumption) (AllSz.cons (by assumption) AllSz.nil)
  | three a0 b0 c0 a1 b1 c1 a2 b2 c2 a3 b3 c3 =>
    intro r hr
    simp only [List.mem_cons, List.not_mem_nil, or_false] at hr
    rcases hr with rfl | rfl | rfl | rfl <;> exact AllSz.cons (by assumption) (AllSz.cons (by assumption) (AllSz.cons (by assumption) AllSz.nil))
/-- a drawn place -/
def PlQ (d : Nat) (v : PyData) : Prop := ∃ ps b, v = rowT (ps ++ [b]) ∧ Pl d ps b ∧ AllSz 60 ps
theorem plq {d : Nat} {xs : List Int} {c : Int} (hl : xs.length = d) (c1 : 1 ≤ c) (s : AllSz 60 (xs ++ [c])) : PlQ d (rowT (Dt.lowL (xs ++ [c]))) := by
  obtain ⟨ps, b, e, h1, h2, h3, h4⟩ := lowPl hl c1 s
  exact ⟨ps, b, by rw [e], ⟨h1, fun x hx => sz_le (h4 x (List.mem_append_left _ hx)) (by decide), sz_le (h4 b (List.mem_append_right _ List.mem_cons_self)) (by decide), h2, h3⟩, fun x hx => h4 x (List.mem_append_left _ hx)⟩
theorem e_placeL {B : List (List Int)} {d : Nat} {t : Tps} (hB : Body B d) (hT : Tp t) : ∃ v t', pPlaceL [.dict [], bodyD B] t = .ok (.fr v) t' ∧ PlQ d v ∧ Tp t' := by
  have hlim : ∀ {k : Nat}, k ≤ 12 → k ≤ lim := fun h => Nat.le_trans h (by decide)
  have h := hB.bd
  have d2 := h.slo.d2
  have bl := h.slo.blen
  have br := bo_rows hB.bo
  let T : PyData := .dict []
  let D : PyData := .int (d : Nat)
  let q0 : Pst := ⟨[.fr T, .fr (bodyD B), .un, .un, .un, .un, .un, .un, .un, .un], t⟩
  let q1 : Pst := ⟨[.fr T, .fr (bodyD B), .fr D, .un, .un, .un, .un, .un, .un, .un], t⟩
  obtain ⟨kd, t1, e1, k0, k5, T1⟩ := draw_ok (s := q1) (Fx := cst (.int 5)) rfl rfl hT (by decide) (by decide)
  let v1 : List Sl := [.fr T, .fr (bodyD B), .fr D, .fr (.int kd), .un, .un, .un, .un, .un, .un]
  have e0 : ∀ F, fnF 10 F [.dict [], bodyD B] t = fin (F q0) := fun _ => rfl
  have s2 : setF 2 (bin dSub (un dLen (peek 1)) (cst (.int 1))) q0 = .ok .nx q1 := by
    have lb : dLen (bodyD B) = .ok (.fr (.int ((d + 1 : Nat) : Int))) := by rw [len_body, bl]; rfl
    refine set_ok (s1 := q0) (x := .fr D) (bin_ok (x := .fr (.int ((d + 1 : Nat) : Int))) (y := .fr (.int 1)) (s1 := q0) (un_ok (d := bodyD B) rfl lb) rfl ?_) (by show 2 < 10; decide)
    show okI _ = _
    rw [show ((d + 1 : Nat) : Int) - 1 = (d : Nat) by omega]; rfl
  have s3 : setF 3 (callF 2 pDrawL (consF (var 0) (consF (cst (.int 5)) nilF))) q1 = .ok .nx ⟨v1, t1⟩ := set_ok (x := .fr (.int kd)) e1 (by show 3 < 10; decide)
  unfold pPlaceL
  rw [e0, seq_ok s2, seq_ok s3]
  have c0 : tst (bin dEq (var 3) (cst (.int 0))) ⟨v1, t1⟩ = .ok (decide (kd = 0)) ⟨v1, t1⟩ := rfl
  by_cases hk0 : kd = 0
  · rw [decide_eq_true hk0] at c0
    obtain ⟨j, t2, e2, j0, j1, T2⟩ := draw_ok (s := ⟨v1, t1⟩) (Fx := bin dAdd (var 2) (cst (.int 1))) (n := (d : Int) + 1) rfl rfl T1 (by omega) (by omega)
    obtain ⟨k, rfl⟩ : ∃ k : Nat, j = (k : Int) := ⟨j.toNat, by omega⟩
    have kB : k < B.length := by omega
    have mB : B.getD k [] ∈ B := by rw [List.getD_eq_getElem?_getD, List.getElem?_eq_getElem kB]; exact List.getElem_mem kB
    have hr := h.slo.rows _ mB
    refine ⟨rowT (B.getD k [] ++ [1]), t2, ?_, ⟨B.getD k [], 1, rfl, ⟨hr.1, hr.2, sz_le (sz_of (n := 1) (a := 1) (b := 1) (by decide) (by decide) (by decide) (by decide) : Sz 1 1) (by decide), by decide, ?_⟩, br _ mB⟩, T2⟩
    · refine (congrArg fin (seq_rt (s1 := ⟨v1, t2⟩) (x := .fr (rowT (B.getD k [] ++ [1]))) ?_)).trans rfl
      refine (Pu.if_true c0).trans (ret_ok ?_)
      refine bin_ok (x := .fr (rowT (B.getD k []))) (y := .fr (rowT [1])) (s1 := ⟨v1, t2⟩) (ixv_fr (d := bodyD B) (y := .fr (.int (k : Nat))) rfl e2 rfl (dIx_body kB)) (mkT_ok (ds := [.int 1]) rfl (by show 1 ≤ 100000; decide)) ?_
      show dAdd (.tuple (iL (B.getD k []))) (.tuple (iL [1])) = _
      rw [tadd (by
        have e : (iL (B.getD k [])).length = (B.getD k []).length := List.length_map _
        rw [e, hr.1]; exact hlim (show d + 1 ≤ 12 by omega))]
      unfold rowT iL
      rw [List.map_append]
    · exact Nat.dvd_one.mp (gN_dvd (n := 1) (List.mem_append_right _ List.mem_cons_self))
  rw [decide_eq_false hk0] at c0
  rw [seq_ok (if_skip c0)]
  -- the second kind may give a place; else the slots 4 and 7 hold what is not read again
  have drawn : ∀ (w4 w7 : Sl) (t1 : Tps), Tp t1 → ∃ v t', fin (seqF (setF 9 (bin dIx (mkL (consF (cst (.int 6)) (consF (cst (.int 40)) (consF (bin dPow (cst (.int 10)) (cst (.int 6))) nilF)))) (callF 2 pDrawL (consF (var 0) (consF (cst (.int 3)) nilF)))))
    (seqF (setF 4 (lcF [5] (nmA 5) (bnd (consF (var 2) nilF) rng1) yesT (bin dSub (callF 2 pDrawL (consF (var 0) (consF (bin dAdd (bin dMul (cst (.int 2)) (var 9)) (cst (.int 1))) nilF))) (var 9))))
    (retF (callF 1 pLowestL (consF (bin dAdd (var 4) (mkL (consF (bin dAdd (cst (.int 1)) (callF 2 pDrawL (consF (var 0) (consF (bin dIx (mkL (consF (cst (.int 1)) (consF (cst (.int 12)) (consF (bin dPow (cst (.int 10)) (cst (.int 6))) nilF)))) (callF 2 pDrawL (consF (var 0) (consF (cst (.int 3)) nilF)))) nilF)))) nilF))) nilF))))
      ⟨[.fr T, .fr (bodyD B), .fr D, .fr (.int kd), w4, .un, .un, w7, .un, .un], t1⟩) = .ok (.fr v) t' ∧ PlQ d v ∧ Tp t' := by
    intro w4 w7 t1 T1
    let v2 : List Sl := [.fr T, .fr (bodyD B), .fr D, .fr (.int kd), w4, .un, .un, w7, .un, .un]
    have pick : ∀ (s : Pst) (a b : Int), sl s 0 = .fr T → Tp s.t → 1 ≤ a ∧ a ≤ 1000000 → 1 ≤ b ∧ b ≤ 1000000 → ∃ (z : Int) (t' : Tps), bin dIx (mkL (consF (cst (.int a)) (consF (cst (.int b)) (consF (bin dPow (cst (.int 10)) (cst (.int 6))) nilF)))) (callF 2 pDrawL (consF (var 0) (consF (cst (.int 3)) nilF))) s = .ok (.fr (.int z)) { s with t := t' } ∧ 1 ≤ z ∧ z ≤ 1000000 ∧ Tp t' := by
      intro s a b h0 hT ha hb
      obtain ⟨j, t', e, j0, j1, T'⟩ := draw_ok (s := s) (Fx := cst (.int 3)) h0 rfl hT (by decide) (by decide)
      have l : mkL (consF (cst (.int a)) (consF (cst (.int b)) (consF (bin dPow (cst (.int 10)) (cst (.int 6))) nilF))) s = .ok (.ow [.int a, .int b, .int (10 ^ 6)]) s := mkL_ok (cons_ok (x := .fr (.int a)) rfl (cons_ok (x := .fr (.int b)) rfl (cons_ok (x := .fr (.int (10 ^ 6))) (pow_lit (a := 10) (n := 6) (by decide) (by decide)) rfl))) (by show 3 ≤ 100000; decide)
      rcases (by omega : j = 0 ∨ j = 1 ∨ j = 2) with rfl | rfl | rfl
      · exact ⟨a, t', bin_ok l e rfl, ha.1, ha.2, T'⟩
      · exact ⟨b, t', bin_ok l e rfl, hb.1, hb.2, T'⟩
      · exact ⟨10 ^ 6, t', bin_ok l e rfl, by decide, by decide, T'⟩
    obtain ⟨z, t2, e2, z1, z2, T2⟩ := pick ⟨v2, t1⟩ 6 40 rfl T1 (by decide) (by decide)
    let v3 : List Sl := [.fr T, .fr (bodyD B), .fr D, .fr (.int kd), w4, .un, .un, w7, .un, .fr (.int z)]
    have sz_z : Sz 64 z := sz_of z1 z2 (by decide) (by decide)
    obtain ⟨rs, t3, e3, l3, sr, T3⟩ := row_draw (i := 5) (m := d) (v := v3) (t := t2) (n := 40) (Fi := bnd (consF (var 2) nilF) rng1) (Fe := bin dSub (callF 2 pDrawL (consF (var 0) (consF (bin dAdd (bin dMul (cst (.int 2)) (var 9)) (cst (.int 1))) nilF))) (var 9)) (by
        have e : consF (var 2) nilF ⟨v3, t2⟩ = .ok [.int (d : Nat)] ⟨v3, t2⟩ := rfl
        rw [bnd_ok e]; exact rng1_nat (by omega) _) T2 (by omega) (by show 5 < 10; decide) rfl fun k _ t hT => by
      let s : Pst := put 5 (.fr (.int (k : Nat))) ⟨v3, t⟩
      have em : bin dAdd (bin dMul (cst (.int 2)) (var 9)) (cst (.int 1)) s = .ok (.fr (.int (2 * z + 1))) s := bin_ok (x := .fr (.int (2 * z))) (y := .fr (.int 1)) (s1 := s) (bin_ok (x := .fr (.int 2)) (y := .fr (.int z)) (s1 := s) rfl rfl (dMul_ii (sz_lit (by decide)) sz_z (by decide))) rfl rfl
      obtain ⟨x, t', ex, x0, x4, T'⟩ := draw_ok (s := s) (Fx := bin dAdd (bin dMul (cst (.int 2)) (var 9)) (cst (.int 1))) rfl em hT (by omega) (by omega)
      exact ⟨x - z, t', bin_ok (x := .fr (.int x)) (y := .fr (.int z)) ex rfl rfl, sz_of (a := -1000000) (b := 1000000) (by omega) (by omega) (by decide) (by decide), T'⟩
    let v4 : List Sl := [.fr T, .fr (bodyD B), .fr D, .fr (.int kd), .ow (iL rs), .un, .un, w7, .un, .fr (.int z)]
    let v5 : List Sl := [.fr T, .fr (bodyD B), .fr D, .fr (.int kd), .fr (.list (iL rs)), .un, .un, w7, .un, .fr (.int z)]
    obtain ⟨y, t4, e4, y1, y2, T4⟩ := pick ⟨v5, t3⟩ 1 12 rfl T3 (by decide) (by decide)
    -- the bound is drawn first, then the number
    obtain ⟨c, t5, e5, c0, c1, T5⟩ := e_drawL T4 (n := y) (by omega) (by omega)
    have ec : callF 2 pDrawL (consF (var 0) (consF (bin dIx (mkL (consF (cst (.int 1)) (consF (cst (.int 12)) (consF (bin dPow (cst (.int 10)) (cst (.int 6))) nilF)))) (callF 2 pDrawL (consF (var 0) (consF (cst (.int 3)) nilF)))) nilF)) ⟨v5, t3⟩ = .ok (.fr (.int c)) ⟨v5, t5⟩ := call_eq (s1 := ⟨v5, t4⟩) (ds := [.dict [], .int y]) (cons_ok (x := .fr (.dict [])) (s1 := ⟨v5, t3⟩) rfl (cons_ok e4 rfl)) rfl e5
    have f1 : bin dAdd (cst (.int 1)) (callF 2 pDrawL (consF (var 0) (consF (bin dIx (mkL (consF (cst (.int 1)) (consF (cst (.int 12)) (consF (bin dPow (cst (.int 10)) (cst (.int 6))) nilF)))) (callF 2 pDrawL (consF (var 0) (consF (cst (.int 3)) nilF)))) nilF))) ⟨v5, t3⟩ = .ok (.fr (.int (1 + c))) ⟨v5, t5⟩ := bin_ok (x := .fr (.int 1)) (y := .fr (.int c)) rfl ec rfl
    have szr : AllSz 60 (rs ++ [1 + c]) := fun x hx => by
      rcases List.mem_append.mp hx with hx | hx
      · exact sz_le (sr x hx) (by decide)
      · rw [List.mem_singleton.mp hx]; exact sz_of (a := 0) (b := 1000001) (by omega) (by omega) (by decide) (by decide)
    refine ⟨rowT (Dt.lowL (rs ++ [1 + c])), t5, ?_, plq l3 (by omega) szr, T5⟩
    have a1 : setF 9 (bin dIx (mkL (consF (cst (.int 6)) (consF (cst (.int 40)) (consF (bin dPow (cst (.int 10)) (cst (.int 6))) nilF)))) (callF 2 pDrawL (consF (var 0) (consF (cst (.int 3)) nilF)))) ⟨v2, t1⟩ = .ok .nx ⟨v3, t2⟩ := set_ok (x := .fr (.int z)) e2 (by show 9 < 10; decide)
    have a2 : setF 4 (lcF [5] (nmA 5) (bnd (consF (var 2) nilF) rng1) yesT (bin dSub (callF 2 pDrawL (consF (var 0) (consF (bin dAdd (bin dMul (cst (.int 2)) (var 9)) (cst (.int 1))) nilF))) (var 9))) ⟨v3, t2⟩ = .ok .nx ⟨v4, t3⟩ := set_ok (x := .ow (iL rs)) e3 (by show 4 < 10; decide)
    rw [seq_ok a1, seq_ok a2]
    have hm : 1 + c ∈ rs ++ [1 + c] := List.mem_append_right _ List.mem_cons_self
    refine fin_ret (s1 := ⟨v5, t5⟩) (call_eq (s1 := ⟨v5, t5⟩) (ds := [.list (iL (rs ++ [1 + c]))]) (cons_ok (x := .ow (iL (rs ++ [1 + c]))) (s1 := ⟨v5, t5⟩) ?_ rfl) rfl (e_lowestL (row_l _) (by rw [List.length_append, l3]; exact hlim (show d + 1 ≤ 12 by omega)) (gN_pos hm (by omega)) (fun x hx => Nat.lt_trans (szr x hx) (Nat.pow_lt_pow_right (by decide) (by decide))) t5)) rfl
    refine bin_ok (x := .fr (.list (iL rs))) (y := .ow [.int (1 + c)]) (s1 := ⟨v5, t3⟩) rfl (mkL_ok (ds := [.int (1 + c)]) (cons_ok (x := .fr (.int (1 + c))) (s1 := ⟨v5, t5⟩) f1 rfl) (by show 1 ≤ 100000; decide)) ?_
    show fit _ _ = _
    unfold fit
    have ll : (iL rs).length = rs.length := List.length_map _
    rw [if_pos (by rw [ll, l3]; exact hlim (show d + 1 ≤ 12 by omega))]
    unfold iL
    rw [List.map_append]; rfl
  have c1 : tst (bin dEq (var 3) (cst (.int 1))) ⟨v1, t1⟩ = .ok (decide (kd = 1)) ⟨v1, t1⟩ := rfl
  by_cases hk1 : kd = 1
  · rw [decide_eq_true hk1] at c1
    let sm : Nat → Int := fun i => (B.map fun r => r.getD i 0).sum
    let nums : List Int := (List.range d).map sm
    let w1 : Pst := ⟨[.fr T, .fr (bodyD B), .fr D, .fr (.int kd), .ow (iL nums), .un, .un, .un, .un, .un], t1⟩
    let w2 : Pst := ⟨[.fr T, .fr (bodyD B), .fr D, .fr (.int kd), .fr (.list (iL nums)), .un, .un, .un, .un, .un], t1⟩
    have ln : nums.length = d := by show ((List.range d).map sm).length = d; rw [List.length_map, List.length_range]
    have sn : AllSz 70 (nums ++ [(d : Int) + 1]) := fun x hx => by
      rcases List.mem_append.mp hx with hx | hx
      · obtain ⟨i, hi, rfl⟩ := List.mem_map.mp hx
        refine sz_le (sum_sz (k := 60) fun y hy => ?_) (by rw [List.length_map, bl]; omega)
        obtain ⟨r, hr, rfl⟩ := List.mem_map.mp hy
        have hi' : i < r.length := by rw [(h.slo.rows r hr).1]; exact List.mem_range.mp hi
        rw [List.getD_eq_getElem?_getD, List.getElem?_eq_getElem hi']
        exact br r hr _ (List.getElem_mem hi')
      · rw [List.mem_singleton.mp hx]; exact sz_of (a := 0) (b := 10) (by omega) (by omega) (by decide) (by decide)
    obtain ⟨ps, b, elow, p1, p2, p3, p4⟩ := lowPl ln (by omega : (1 : Int) ≤ (d : Int) + 1) sn
    let w3 : Pst := ⟨[.fr T, .fr (bodyD B), .fr D, .fr (.int kd), .fr (.list (iL nums)), .un, .un, .fr (rowT (ps ++ [b])), .un, .un], t1⟩
    have lP : (ps ++ [b]).length = d + 1 := by rw [List.length_append, p1]; rfl
    have a1 : setF 4 (lcF [5] (nmA 5) (bnd (consF (var 2) nilF) rng1) yesT (un dSumA (dat (lcF [6] (nmA 6) (itF (var 1)) yesT (ixv 6 (var 5)))))) ⟨v1, t1⟩ = .ok .nx w1 := by
      refine set_ok (s1 := ⟨v1, t1⟩) (x := .ow (iL nums)) ?_ (by show 4 < 10; decide)
      show _ = Rs.ok (OV.ow (iL ((List.range d).map sm))) ⟨v1, t1⟩
      unfold iL
      rw [List.map_map]
      refine lc_one (s := ⟨v1, t1⟩) (xs := List.range d) (fun k => PyData.int (k : Nat)) (fun i => .int (sm i)) ?_ (by rw [List.length_range]; exact hlim (by omega)) (by show 5 < 10; decide) rfl fun i hi => ⟨.fr (.int (sm i)), ?_, rfl⟩
      · have e : consF (var 2) nilF ⟨v1, t1⟩ = .ok [.int (d : Nat)] ⟨v1, t1⟩ := rfl
        rw [bnd_ok e]; exact rng1_nat (by omega) _
      · refine un_ok (d := .list (iL (B.map fun r => r.getD i 0))) (dat_ok (x := .ow _) ?_) (sum_iL _)
        unfold iL
        rw [List.map_map]
        refine lc_one (s := put 5 (.fr (.int (i : Nat))) ⟨v1, t1⟩) (xs := B) rowT (fun r => .int (r.getD i 0)) rfl (by rw [bl]; exact hlim (by omega)) (by show 6 < 10; decide) rfl fun r hr => ⟨.fr (.int (r.getD i 0)), ?_, rfl⟩
        exact ixv_fr (d := rowT r) (y := .fr (.int (i : Nat))) rfl rfl rfl (dIx_natT (by rw [(h.slo.rows r hr).1]; exact List.mem_range.mp hi))
    have hm : (d : Int) + 1 ∈ nums ++ [(d : Int) + 1] := List.mem_append_right _ List.mem_cons_self
    have a2 : setF 7 (callF 1 pLowestL (consF (bin dAdd (var 4) (mkL (consF (bin dAdd (var 2) (cst (.int 1))) nilF))) nilF)) w1 = .ok .nx w3 := by
      have z := e_lowestL (row_l (nums ++ [(d : Int) + 1])) (by rw [List.length_append, ln]; exact hlim (show d + 1 ≤ 12 by omega)) (gN_pos hm (by omega)) (fun x hx => Nat.lt_trans (sn x hx) (Nat.pow_lt_pow_right (by decide) (by decide))) t1
      rw [elow] at z
      refine set_ok (s1 := w2) (x := .fr (rowT (ps ++ [b]))) (call_eq (s1 := w2) (ds := [.list (iL (nums ++ [(d : Int) + 1]))]) (cons_ok (x := .ow (iL (nums ++ [(d : Int) + 1]))) (s1 := w2) ?_ rfl) rfl z) (by show 7 < 10; decide)
      refine bin_ok (x := .fr (.list (iL nums))) (y := .ow [.int ((d : Int) + 1)]) (s1 := w2) rfl (mkL_ok (ds := [.int ((d : Int) + 1)]) rfl (by show 1 ≤ 100000; decide)) ?_
      show fit _ _ = _
      unfold fit
      have ll : (iL nums).length = nums.length := List.length_map _
      rw [if_pos (by rw [ll, ln]; exact hlim (show d + 1 ≤ 12 by omega))]
      unfold iL
      rw [List.map_append]; rfl
    obtain ⟨x, xs, ex⟩ : ∃ x xs, (ps ++ [b]).map (fun x => ((x.natAbs : Nat) : Int)) = x :: xs := by
      cases hh : (ps ++ [b]).map (fun x => ((x.natAbs : Nat) : Int)) with
      | nil => have := congrArg List.length hh; rw [List.length_map, lP] at this; simp at this
      | cons y ys => exact ⟨y, ys, rfl⟩
    have tm : tst (bin dLe (un dMaxA (dat (lcF [8] (nmA 8) (itF (var 7)) yesT (un dAbs (peek 8))))) (bin dPow (cst (.int 10)) (cst (.int 6)))) w3 = .ok (decide (xs.foldl max x ≤ 1000000)) w3 := by
      refine tst_ok (bin_ok (x := .fr (.int (xs.foldl max x))) (y := .fr (.int (10 ^ 6))) (s1 := w3) (un_ok (d := .list (iL (x :: xs))) (dat_ok (x := .ow (iL (x :: xs))) ?_) max_iL) (pow_lit (a := 10) (n := 6) (by decide) (by decide)) ?_)
      rotate_left
      · show okB (decide (xs.foldl max x ≤ (10 : Int) ^ 6)) = _
        rfl
      rw [← ex, rowsMap]
      have hit : itF (var 7) w3 = .ok ((ps ++ [b]).map PyData.int) w3 := rfl
      have hb8 : backSl (sl w3 8) = sl w3 8 := rfl
      refine lc_one (s := w3) (xs := ps ++ [b]) PyData.int (fun x => .int ((x.natAbs : Nat) : Int)) hit (by rw [lP]; exact hlim (by omega)) (by show 8 < 10; decide) hb8 fun a _ => ⟨.fr (.int ((a.natAbs : Nat) : Int)), un_ok (d := .int a) rfl ?_, rfl⟩
      have ea : (if a < 0 then -a else a) = ((a.natAbs : Nat) : Int) := by split <;> omega
      show okI (if a < 0 then -a else a) = _
      rw [ea]; rfl
    by_cases hbig : xs.foldl max x ≤ 1000000
    · rw [decide_eq_true hbig] at tm
      have small : AllSz 60 (ps ++ [b]) := fun y hy => by
        have m : ((y.natAbs : Nat) : Int) ∈ x :: xs := by rw [← ex]; exact List.mem_map.mpr ⟨y, hy, rfl⟩
        have z := (max_le xs x 1000000).mp hbig
        have le : ((y.natAbs : Nat) : Int) ≤ 1000000 := by
          rcases List.mem_cons.mp m with e | m
          · rw [e]; exact z.1
          · exact z.2 _ m
        exact Nat.lt_of_le_of_lt (show y.natAbs ≤ 1000000 by omega) (by decide)
      refine ⟨rowT (ps ++ [b]), t1, ?_, ⟨ps, b, rfl, ⟨p1, fun y hy => sz_le (small y (List.mem_append_left _ hy)) (by decide), sz_le (small b (List.mem_append_right _ List.mem_cons_self)) (by decide), p2, p3⟩, fun y hy => small y (List.mem_append_left _ hy)⟩, T1⟩
      refine (congrArg fin (seq_rt (s1 := w3) (x := .fr (rowT (ps ++ [b]))) ?_)).trans rfl
      exact (Pu.if_true c1).trans ((seq_ok a1).trans ((seq_ok a2).trans ((Pu.if_true tm).trans rfl)))
    · rw [decide_eq_false hbig] at tm
      rw [seq_ok ((Pu.if_true c1).trans ((seq_ok a1).trans ((seq_ok a2).trans (if_skip tm))))]
      exact drawn (.fr (.list (iL nums))) (.fr (rowT (ps ++ [b]))) t1 T1
  · rw [decide_eq_false hk1] at c1
    rw [seq_ok (if_skip c1)]
    exact drawn .un .un t1 T1
end K23
end SecQa
section SecQb
set_option Elab.async false
set_option linter.all false
set_option maxRecDepth 100000
set_option maxHeartbeats 4000000
namespace K23
open PySem PySem.Spec Pu
/-! ### bodies -/
structure Rw (d : Nat) (R : List (List Int)) : Prop where
  len : R.length = d + 1
  row : ∀ r ∈ R, r.length = d ∧ AllSz 60 r
theorem rw_bo {d : Nat} {R : List (List Int)} (d2 : d = 2 ∨ d = 3) (h : Rw d R) : Bo 60 R := by
  rcases d2 with rfl | rfl
  · match R, h.len, h.row with
    | [r0, r1, r2], _, hr =>
      obtain ⟨l0, s0⟩ := hr r0 (by simp)
      obtain ⟨l1, s1⟩ := hr r1 (by simp)
      obtain ⟨l2, s2⟩ := hr r2 (by simp)
      match r0, r1, r2, l0, l1, l2, s0, s1, s2 with
      | [a, b], [c, e], [f, g], _, _, _, s0, s1, s2 => exact .two (s0 a (by simp)) (s0 b (by simp)) (s1 c (by simp)) (s1 e (by simp)) (s2 f (by simp)) (s2 g (by simp))
  · match R, h.len, h.row with
    | [r0, r1, r2, r3], _, hr =>
      obtain ⟨l0, s0⟩ := hr r0 (by simp)
      obtain ⟨l1, s1⟩ := hr r1 (by simp)
      obtain ⟨l2, s2⟩ := hr r2 (by simp)
      obtain ⟨l3, s3⟩ := hr r3 (by simp)
      match r0, r1, r2, r3, l0, l1, l2, l3, s0, s1, s2, s3 with
      | [a0, b0, c0], [a1, b1, c1], [a2, b2, c2], [a3, b3, c3], _, _, _, _, s0, s1, s2, s3 =>
        exact .three (s0 a0 (by simp)) (s0 b0 (by simp)) (s0 c0 (by simp)) (s1 a1 (by simp)) (s1 b1 (by simp)) (s1 c1 (by simp)) (s2 a2 (by simp)) (s2 b2 (by simp)) (s2 c2 (by simp)) (s3 a3 (by simp)) (s3 b3 (by simp)) (s3 c3 (by simp))
theorem body_of {B : List (List Int)} {d : Nat} (h : Bo 60 B) (hl : B.length = d + 1) (ne : detZ B ≠ 0) : Body B d := by
  cases h with
  | two a0 b0 a1 b1 a2 b2 =>
    have : d = 2 := by simpa using hl.symm
    subst this
    exact ⟨.two a0 b0 a1 b1 a2 b2, ⟨slo_two a0 b0 a1 b1 a2 b2, geo2, ne⟩, ⟨slo_two a1 b1 a2 b2 a0 b0, geo2, by show detZ [_, _, _] ≠ 0; rw [rot2]; exact ne⟩⟩
  | three a0 b0 c0 a1 b1 c1 a2 b2 c2 a3 b3 c3 =>
    have : d = 3 := by simpa using hl.symm
    subst this
    exact ⟨.three a0 b0 c0 a1 b1 c1 a2 b2 c2 a3 b3 c3, ⟨slo_three a0 b0 c0 a1 b1 c1 a2 b2 c2 a3 b3 c3, geo3, ne⟩, ⟨slo_three a1 b1 c1 a2 b2 c2 a3 b3 c3 a0 b0 c0, geo3, by show detZ [_, _, _, _] ≠ 0; rw [rot3]; omega⟩⟩
/-- the steps' body -/
def kuhn (d : Nat) (l : Int) : List (List Int) := (List.range (d + 1)).map fun (k : Nat) => (List.range d).map fun (i : Nat) => l + (if decide (((i : Nat) : Int) < ((k : Nat) : Int)) then 1 else 0)
theorem kuhn_body {d : Nat} {l : Int} (d2 : d = 2 ∨ d = 3) (h1 : -4 ≤ l) (h2 : l ≤ 4) : Body (kuhn d l) d := by
  have hr : Rw d (kuhn d l) := by
    refine ⟨by unfold kuhn; rw [List.length_map, List.length_range], fun r hr => ?_⟩
    obtain ⟨k, _, rfl⟩ := List.mem_map.mp hr
    refine ⟨by rw [List.length_map, List.length_range], fun x hx => ?_⟩
    obtain ⟨i, _, rfl⟩ := List.mem_map.mp hx
    refine sz_of (a := -4) (b := 5) ?_ ?_ (by decide) (by decide) <;> split <;> omega
  refine body_of (rw_bo d2 hr) hr.len ?_
  rcases d2 with rfl | rfl
  · have e : kuhn 2 l = [[l + 0, l + 0], [l + 1, l + 0], [l + 1, l + 1]] := rfl
    rw [e, det2]
    have : (l + 1 - (l + 0)) * (l + 1 - (l + 0)) - (l + 0 - (l + 0)) * (l + 1 - (l + 0)) = 1 := by grind
    omega
  · have e : kuhn 3 l = [[l + 0, l + 0, l + 0], [l + 1, l + 0, l + 0], [l + 1, l + 1, l + 0], [l + 1, l + 1, l + 1]] := rfl
    rw [e, det3]
    have : (l + 1 - (l + 0)) * ((l + 1 - (l + 0)) * (l + 1 - (l + 0)) - (l + 0 - (l + 0)) * (l + 1 - (l + 0))) + (l + 0 - (l + 0)) * ((l + 0 - (l + 0)) * (l + 1 - (l + 0)) - (l + 1 - (l + 0)) * (l + 1 - (l + 0))) + (l + 0 - (l + 0)) * ((l + 1 - (l + 0)) * (l + 1 - (l + 0)) - (l + 1 - (l + 0)) * (l + 1 - (l + 0))) = 1 := by grind
    omega
def RowQ (d : Nat) (v : PyData) : Prop := ∃ r, v = rowL r ∧ r.length = d ∧ AllSz 60 r
theorem rows_q {d : Nat} : ∀ {ds : List PyData}, (∀ v ∈ ds, RowQ d v) → ∃ R : List (List Int), ds = R.map rowL ∧ ∀ r ∈ R, r.length = d ∧ AllSz 60 r
  | [], _ => ⟨[], rfl, fun _ h => by cases h⟩
  | v :: ds, h => by
    obtain ⟨r, rfl, hr⟩ := h v List.mem_cons_self
    obtain ⟨R, rfl, hR⟩ := rows_q fun e he => h e (List.mem_cons_of_mem _ he)
    refine ⟨r :: R, rfl, fun x hx => ?_⟩
    rcases List.mem_cons.mp hx with rfl | hx
    · exact hr
    · exact hR x hx
/-- rows that are drawn -/
theorem rows_draw {d m : Nat} {v : List Sl} {t : Tps} {Fi : M (List PyData)} {Fe : M OV} (hi : Fi ⟨v, t⟩ = .ok ((List.range m).map fun k => PyData.int (k : Nat)) ⟨v, t⟩) (hT : Tp t) (hm : m ≤ 12) (hn : 5 < v.length) (ho : v.getD 5 .un = .un)
    (h : ∀ k, k < m → ∀ t, Tp t → ∃ (r : List Int) (t' : Tps), Fe (put 5 (.fr (.int (k : Nat))) ⟨v, t⟩) = .ok (.ow (iL r)) (put 5 (.fr (.int (k : Nat))) ⟨v, t'⟩) ∧ r.length = d ∧ AllSz 60 r ∧ Tp t') :
    ∃ (R : List (List Int)) (t' : Tps), lcF [5] (nmA 5) Fi yesT Fe ⟨v, t⟩ = .ok (.ow (R.map rowL)) ⟨v, t'⟩ ∧ R.length = m ∧ (∀ r ∈ R, r.length = d ∧ AllSz 60 r) ∧ Tp t' := by
  obtain ⟨ds, t', e, l, q, T'⟩ := lc_draw (fun k : Nat => PyData.int (k : Nat)) (RowQ d) Tp hi hT (by rw [List.length_range]; exact Nat.le_trans hm (by decide)) hn (fun t' => by
      have e : ∀ t : Tps, sl ⟨v, t⟩ 5 = .un := fun _ => ho
      rw [e, e]; rfl) rfl (fun k hk t hT => by
      obtain ⟨r, t', e, lr, sr, T'⟩ := h k (List.mem_range.mp hk) t hT
      exact ⟨_, t', e, ⟨r, rfl, lr, sr⟩, T'⟩) rfl
  obtain ⟨R, rfl, hR⟩ := rows_q q
  refine ⟨R, t', e, ?_, hR, T'⟩
  have : (R.map rowL).length = R.length := List.length_map _
  rw [← this, l, List.length_range]
/-- rows made tuples -/
theorem tuples {v v' : List Sl} {t : Tps} {R : List (List Int)} (hit : itF (var 4) ⟨v, t⟩ = .ok (R.map rowL) ⟨v', t⟩) (hl : R.length ≤ 12) (hn : 10 < v'.length) (ho : backSl (sl ⟨v', t⟩ 10) = sl ⟨v', t⟩ 10) (hv : v'.length = 12) :
    un dTuple (dat (lcF [10] (nmA 10) (itF (var 4)) yesT (un dTuple (peek 10)))) ⟨v, t⟩ = .ok (.fr (bodyD R)) ⟨v', t⟩ := by
  refine un_ok (d := .list (R.map rowT)) (dat_ok (x := .ow (R.map rowT)) ?_) rfl
  refine lc_one (s := ⟨v', t⟩) (xs := R) rowL rowT hit (Nat.le_trans hl (by decide)) hn ho fun r _ => ⟨.fr (rowT r), un_ok (d := rowL r) ?_ rfl, rfl⟩
  unfold peek
  have e : sl (put 10 (.fr (rowL r)) ⟨v', t⟩) 10 = .fr (rowL r) := by rw [sl_put hn, if_pos rfl]
  rw [e]
end K23
end SecQb
section SecQc
set_option Elab.async false
set_option linter.all false
set_option maxRecDepth 100000
set_option maxHeartbeats 4000000
namespace K23
open PySem PySem.Spec Pu
/-- the tail of _law_body -/
theorem body_tail {d : Nat} {t : Tps} {R : List (List Int)} {kd z : Int} {w5 w7 w8 : Sl} (d2 : d = 2 ∨ d = 3) (hT : Tp t) (hR : Rw d R) (h5 : backSl w5 = w5) :
    ∃ B t', fin (seqF (setF 9 (un dTuple (dat (lcF [10] (nmA 10) (itF (var 4)) yesT (un dTuple (peek 10))))))
    (seqF (ifF (tst (bin dGt (callF 1 pMeasureL (consF (var 9) nilF)) (cst (.int 0)))) (retvF 9) (pur .nx))
    (seqF (setF 11 (bin dSub (callF 2 pDrawL (consF (var 0) (consF (cst (.int 9)) nilF))) (cst (.int 4))))
    (seqF (setF 4 (lcF [5] (nmA 5) (bnd (consF (bin dAdd (var 1) (cst (.int 1))) nilF) rng1) yesT (lcF [6] (nmA 6) (bnd (consF (var 1) nilF) rng1) yesT (bin dAdd (var 11) (un dInt (dat (bin dLt (var 6) (var 5))))))))
    (retF (un dTuple (dat (lcF [10] (nmA 10) (itF (var 4)) yesT (un dTuple (peek 10))))))))) ⟨[.fr (.dict []), .fr (.int (d : Nat)), .fr (.int kd), .fr (.int z), .ow (R.map rowL), w5, .un, w7, w8, .un, .un, .un], t⟩) = .ok (.fr (bodyD B)) t' ∧ Body B d ∧ Tp t' := by
  have hlim : ∀ {k : Nat}, k ≤ 12 → k ≤ lim := fun h => Nat.le_trans h (by decide)
  let T : PyData := .dict []
  let D : PyData := .int (d : Nat)
  let v0 : List Sl := [.fr T, .fr D, .fr (.int kd), .fr (.int z), .ow (R.map rowL), w5, .un, w7, w8, .un, .un, .un]
  let v1 : List Sl := [.fr T, .fr D, .fr (.int kd), .fr (.int z), .fr (.list (R.map rowL)), w5, .un, w7, w8, .un, .un, .un]
  let v2 : List Sl := [.fr T, .fr D, .fr (.int kd), .fr (.int z), .fr (.list (R.map rowL)), w5, .un, w7, w8, .fr (bodyD R), .un, .un]
  have bo := rw_bo d2 hR
  have a1 : setF 9 (un dTuple (dat (lcF [10] (nmA 10) (itF (var 4)) yesT (un dTuple (peek 10))))) ⟨v0, t⟩ = .ok .nx ⟨v2, t⟩ :=
    set_ok (s1 := ⟨v1, t⟩) (x := .fr (bodyD R)) (tuples (v' := v1) (R := R) rfl (by rw [hR.len]; omega) (by show 10 < 12; decide) rfl rfl) (by show 9 < 12; decide)
  rw [seq_ok a1]
  have c : tst (bin dGt (callF 1 pMeasureL (consF (var 9) nilF)) (cst (.int 0))) ⟨v2, t⟩ = .ok (decide ((0 : Int) < ((detZ R).natAbs : Nat))) ⟨v2, t⟩ :=
    tst_ok (bin_ok (x := .fr (.int ((detZ R).natAbs : Nat))) (y := .fr (.int 0)) (s1 := ⟨v2, t⟩) (call_eq (s1 := ⟨v2, t⟩) (ds := [bodyD R]) rfl rfl (e_measureL bo t)) rfl rfl)
  by_cases hp : (0 : Int) < ((detZ R).natAbs : Nat)
  · rw [decide_eq_true hp] at c
    refine ⟨R, t, ?_, body_of bo hR.len (by omega), hT⟩
    refine (congrArg fin (seq_rt (s1 := ⟨v2, t⟩) (x := .fr (bodyD R)) ?_)).trans rfl
    exact (Pu.if_true c).trans rfl
  rw [decide_eq_false hp] at c
  rw [seq_ok (if_skip c)]
  obtain ⟨x, t', ex, x0, x9, T'⟩ := draw_ok (s := ⟨v2, t⟩) (Fx := cst (.int 9)) rfl rfl hT (by decide) (by decide)
  let l : Int := x - 4
  let v3 : List Sl := [.fr T, .fr D, .fr (.int kd), .fr (.int z), .fr (.list (R.map rowL)), w5, .un, w7, w8, .fr (bodyD R), .un, .fr (.int l)]
  let v4 : List Sl := [.fr T, .fr D, .fr (.int kd), .fr (.int z), .ow ((kuhn d l).map rowL), w5, .un, w7, w8, .fr (bodyD R), .un, .fr (.int l)]
  let v5 : List Sl := [.fr T, .fr D, .fr (.int kd), .fr (.int z), .fr (.list ((kuhn d l).map rowL)), w5, .un, w7, w8, .fr (bodyD R), .un, .fr (.int l)]
  have a2 : setF 11 (bin dSub (callF 2 pDrawL (consF (var 0) (consF (cst (.int 9)) nilF))) (cst (.int 4))) ⟨v2, t⟩ = .ok .nx ⟨v3, t'⟩ := set_ok (s1 := ⟨v2, t'⟩) (x := .fr (.int l)) (bin_ok (x := .fr (.int x)) (y := .fr (.int 4)) (s1 := ⟨v2, t'⟩) ex rfl rfl) (by show 11 < 12; decide)
  rw [seq_ok a2]
  have a3 : setF 4 (lcF [5] (nmA 5) (bnd (consF (bin dAdd (var 1) (cst (.int 1))) nilF) rng1) yesT (lcF [6] (nmA 6) (bnd (consF (var 1) nilF) rng1) yesT (bin dAdd (var 11) (un dInt (dat (bin dLt (var 6) (var 5))))))) ⟨v3, t'⟩ = .ok .nx ⟨v4, t'⟩ := by
    refine set_ok (s1 := ⟨v3, t'⟩) (x := .ow ((kuhn d l).map rowL)) ?_ (by show 4 < 12; decide)
    unfold kuhn
    rw [List.map_map]
    refine lc_one (s := ⟨v3, t'⟩) (xs := List.range (d + 1)) (fun k => PyData.int (k : Nat)) (fun (k : Nat) => rowL ((List.range d).map fun (i : Nat) => l + (if decide (((i : Nat) : Int) < ((k : Nat) : Int)) then 1 else 0))) ?_ (by rw [List.length_range]; exact hlim (by omega)) (by show 5 < 12; decide) h5 fun k _ => ⟨.ow (iL ((List.range d).map fun (i : Nat) => l + (if decide (((i : Nat) : Int) < ((k : Nat) : Int)) then 1 else 0))), ?_, rfl⟩
    · have e : consF (bin dAdd (var 1) (cst (.int 1))) nilF ⟨v3, t'⟩ = .ok [.int ((d + 1 : Nat) : Int)] ⟨v3, t'⟩ := rfl
      rw [bnd_ok e]; exact rng1_nat (by omega) _
    · unfold iL
      rw [List.map_map]
      refine lc_one (s := put 5 (.fr (.int (k : Nat))) ⟨v3, t'⟩) (xs := List.range d) (fun i => PyData.int (i : Nat)) (fun (i : Nat) => .int (l + (if decide (((i : Nat) : Int) < ((k : Nat) : Int)) then 1 else 0))) ?_ (by rw [List.length_range]; exact hlim (by omega)) (by show 6 < 12; decide) rfl fun i _ => ⟨.fr (.int (l + (if decide (((i : Nat) : Int) < ((k : Nat) : Int)) then 1 else 0))), rfl, rfl⟩
      have e : consF (var 1) nilF (put 5 (.fr (.int (k : Nat))) ⟨v3, t'⟩) = .ok [.int (d : Nat)] (put 5 (.fr (.int (k : Nat))) ⟨v3, t'⟩) := rfl
      rw [bnd_ok e]; exact rng1_nat (by omega) _
  rw [seq_ok a3]
  refine ⟨kuhn d l, t', ?_, kuhn_body d2 (by omega) (by omega), T'⟩
  exact fin_ret (s1 := ⟨v5, t'⟩) (tuples (v := v4) (v' := v5) (R := kuhn d l) rfl (by unfold kuhn; rw [List.length_map, List.length_range]; omega) (by show 10 < 12; decide) rfl rfl) rfl
end K23
end SecQc
section SecQd
set_option Elab.async false
set_option linter.all false
set_option maxRecDepth 100000
set_option maxHeartbeats 4000000
namespace K23
open PySem PySem.Spec Pu
theorem e_bodyL {d : Nat} {t : Tps} (d2 : d = 2 ∨ d = 3) (hT : Tp t) : ∃ B t', pBodyL [.dict [], .int (d : Nat)] t = .ok (.fr (bodyD B)) t' ∧ Body B d ∧ Tp t' := by
  have hlim : ∀ {k : Nat}, k ≤ 12 → k ≤ lim := fun h => Nat.le_trans h (by decide)
  let T : PyData := .dict []
  let D : PyData := .int (d : Nat)
  let q0 : Pst := ⟨[.fr T, .fr D, .un, .un, .un, .un, .un, .un, .un, .un, .un, .un], t⟩
  obtain ⟨kd, t1, e1, k0, k6, T1⟩ := draw_ok (s := q0) (Fx := cst (.int 6)) rfl rfl hT (by decide) (by decide)
  let v1 : List Sl := [.fr T, .fr D, .fr (.int kd), .un, .un, .un, .un, .un, .un, .un, .un, .un]
  have e0 : ∀ F, fnF 12 F [.dict [], .int (d : Nat)] t = fin (F q0) := fun _ => rfl
  have a1 : setF 2 (callF 2 pDrawL (consF (var 0) (consF (cst (.int 6)) nilF))) q0 = .ok .nx ⟨v1, t1⟩ := set_ok (s1 := ⟨q0.v, t1⟩) (x := .fr (.int kd)) e1 (by show 2 < 12; decide)
  unfold pBodyL
  rw [e0, seq_ok a1]
  -- the size
  have szs : ∃ z : Int, setF 3 (bin dIx (mkL (consF (cst (.int 3)) (consF (cst (.int 9)) (consF (cst (.int 1000)) (consF (bin dPow (cst (.int 10)) (cst (.int 6))) (consF (cst (.int 9)) (consF (cst (.int 3)) nilF))))))) (var 2)) ⟨v1, t1⟩ = .ok .nx ⟨[.fr T, .fr D, .fr (.int kd), .fr (.int z), .un, .un, .un, .un, .un, .un, .un, .un], t1⟩ ∧ 1 ≤ z ∧ z ≤ 1000000 := by
    have l : mkL (consF (cst (.int 3)) (consF (cst (.int 9)) (consF (cst (.int 1000)) (consF (bin dPow (cst (.int 10)) (cst (.int 6))) (consF (cst (.int 9)) (consF (cst (.int 3)) nilF)))))) ⟨v1, t1⟩ = .ok (.ow [.int 3, .int 9, .int 1000, .int (10 ^ 6), .int 9, .int 3]) ⟨v1, t1⟩ :=
      mkL_ok (cons_ok (x := .fr (.int 3)) rfl (cons_ok (x := .fr (.int 9)) rfl (cons_ok (x := .fr (.int 1000)) rfl (cons_ok (x := .fr (.int (10 ^ 6))) (pow_lit (a := 10) (n := 6) (by decide) (by decide)) (cons_ok (x := .fr (.int 9)) rfl (cons_ok (x := .fr (.int 3)) rfl rfl)))))) (by show 6 ≤ 100000; decide)
    have go : ∀ z : Int, dIx (.list [.int 3, .int 9, .int 1000, .int (10 ^ 6), .int 9, .int 3]) (.int kd) = .ok (.fr (.int z)) → setF 3 (bin dIx (mkL (consF (cst (.int 3)) (consF (cst (.int 9)) (consF (cst (.int 1000)) (consF (bin dPow (cst (.int 10)) (cst (.int 6))) (consF (cst (.int 9)) (consF (cst (.int 3)) nilF))))))) (var 2)) ⟨v1, t1⟩ = .ok .nx ⟨[.fr T, .fr D, .fr (.int kd), .fr (.int z), .un, .un, .un, .un, .un, .un, .un, .un], t1⟩ := fun z e =>
      set_ok (s1 := ⟨v1, t1⟩) (x := .fr (.int z)) (bin_ok (y := .fr (.int kd)) l rfl e) (by show 3 < 12; decide)
    rcases (by omega : kd = 0 ∨ kd = 1 ∨ kd = 2 ∨ kd = 3 ∨ kd = 4 ∨ kd = 5) with h | h | h | h | h | h
    · exact ⟨3, go 3 (by rw [h]; rfl), by decide, by decide⟩
    · exact ⟨9, go 9 (by rw [h]; rfl), by decide, by decide⟩
    · exact ⟨1000, go 1000 (by rw [h]; rfl), by decide, by decide⟩
    · exact ⟨10 ^ 6, go (10 ^ 6) (by rw [h]; rfl), by decide, by decide⟩
    · exact ⟨9, go 9 (by rw [h]; rfl), by decide, by decide⟩
    · exact ⟨3, go 3 (by rw [h]; rfl), by decide, by decide⟩
  obtain ⟨z, a2, z1, z2⟩ := szs
  have sz_z : Sz 64 z := sz_of z1 z2 (by decide) (by decide)
  let v2 : List Sl := [.fr T, .fr D, .fr (.int kd), .fr (.int z), .un, .un, .un, .un, .un, .un, .un, .un]
  rw [seq_ok a2]
  have rng1' : ∀ (v : List Sl) (t : Tps), v.getD 1 .un = .fr D → (bnd (consF (var 1) nilF) rng1) ⟨v, t⟩ = .ok ((List.range d).map fun k => PyData.int (k : Nat)) ⟨v, t⟩ := fun v t hv => by
    have b1 : var 1 ⟨v, t⟩ = .ok (.fr D) ⟨v, t⟩ := by
      have z : sl ⟨v, t⟩ 1 = .fr D := hv
      unfold var; rw [z]
    have e : consF (var 1) nilF ⟨v, t⟩ = .ok [.int (d : Nat)] ⟨v, t⟩ := cons_ok (x := .fr D) b1 rfl
    rw [bnd_ok e]; exact rng1_nat (by omega) _
  -- the first rows
  obtain ⟨R0, t2, e2, l2, r2, T2⟩ := rows_draw (d := d) (m := d + 1) (v := v2) (t := t1) (Fi := bnd (consF (bin dAdd (var 1) (cst (.int 1))) nilF) rng1) (Fe := lcF [6] (nmA 6) (bnd (consF (var 1) nilF) rng1) yesT (bin dSub (callF 2 pDrawL (consF (var 0) (consF (bin dAdd (bin dMul (cst (.int 2)) (var 3)) (cst (.int 1))) nilF))) (var 3))) (by
      have e : consF (bin dAdd (var 1) (cst (.int 1))) nilF ⟨v2, t1⟩ = .ok [.int ((d + 1 : Nat) : Int)] ⟨v2, t1⟩ := rfl
      rw [bnd_ok e]; exact rng1_nat (by omega) _) T1 (by omega) (by show 5 < 12; decide) rfl fun k _ t hT => by
    obtain ⟨rs, t3, e3, l3, sr, T3⟩ := row_draw (i := 6) (m := d) (v := v2.set 5 (.fr (.int (k : Nat)))) (t := t) (n := 60) (Fi := bnd (consF (var 1) nilF) rng1) (Fe := bin dSub (callF 2 pDrawL (consF (var 0) (consF (bin dAdd (bin dMul (cst (.int 2)) (var 3)) (cst (.int 1))) nilF))) (var 3)) (rng1' _ _ rfl) hT (by omega) (by show 6 < 12; decide) rfl fun j _ t hT => by
      let s : Pst := put 6 (.fr (.int (j : Nat))) ⟨v2.set 5 (.fr (.int (k : Nat))), t⟩
      have em : bin dAdd (bin dMul (cst (.int 2)) (var 3)) (cst (.int 1)) s = .ok (.fr (.int (2 * z + 1))) s := bin_ok (x := .fr (.int (2 * z))) (y := .fr (.int 1)) (s1 := s) (bin_ok (x := .fr (.int 2)) (y := .fr (.int z)) (s1 := s) rfl rfl (dMul_ii (sz_lit (by decide)) sz_z (by decide))) rfl rfl
      obtain ⟨x, t', ex, x0, x4, T'⟩ := draw_ok (s := s) (Fx := bin dAdd (bin dMul (cst (.int 2)) (var 3)) (cst (.int 1))) rfl em hT (by omega) (by omega)
      exact ⟨x - z, t', bin_ok (x := .fr (.int x)) (y := .fr (.int z)) ex rfl rfl, sz_of (a := -1000000) (b := 1000000) (by omega) (by omega) (by decide) (by decide), T'⟩
    exact ⟨rs, t3, e3, l3, sr, T3⟩
  let v3 : List Sl := [.fr T, .fr D, .fr (.int kd), .fr (.int z), .ow (R0.map rowL), .un, .un, .un, .un, .un, .un, .un]
  have a3 : setF 4 (lcF [5] (nmA 5) (bnd (consF (bin dAdd (var 1) (cst (.int 1))) nilF) rng1) yesT (lcF [6] (nmA 6) (bnd (consF (var 1) nilF) rng1) yesT (bin dSub (callF 2 pDrawL (consF (var 0) (consF (bin dAdd (bin dMul (cst (.int 2)) (var 3)) (cst (.int 1))) nilF))) (var 3)))) ⟨v2, t1⟩ = .ok .nx ⟨v3, t2⟩ := set_ok (s1 := ⟨v2, t2⟩) (x := .ow (R0.map rowL)) e2 (by show 4 < 12; decide)
  rw [seq_ok a3]
  have c4 : tst (bin dEq (var 2) (cst (.int 4))) ⟨v3, t2⟩ = .ok (decide (kd = 4)) ⟨v3, t2⟩ := rfl
  have c5 : tst (bin dEq (var 2) (cst (.int 5))) ⟨v3, t2⟩ = .ok (decide (kd = 5)) ⟨v3, t2⟩ := rfl
  by_cases h4 : kd = 4
  · rw [decide_eq_true h4] at c4
    -- one corner, then steps
    obtain ⟨rs, t3, e3, l3, sr, T3⟩ := row_draw (i := 6) (m := d) (v := v3) (t := t2) (n := 40) (Fi := bnd (consF (var 1) nilF) rng1) (Fe := bin dSub (callF 2 pDrawL (consF (var 0) (consF (cst (.int 2001)) nilF))) (cst (.int 1000))) (rng1' _ _ rfl) T2 (by omega) (by show 6 < 12; decide) rfl fun j _ t hT => by
      obtain ⟨x, t', ex, x0, x4, T'⟩ := draw_ok (s := put 6 (.fr (.int (j : Nat))) ⟨v3, t⟩) (Fx := cst (.int 2001)) rfl rfl hT (by decide) (by decide)
      exact ⟨x - 1000, t', bin_ok (x := .fr (.int x)) (y := .fr (.int 1000)) ex rfl rfl, sz_of (a := -1000) (b := 1001) (by omega) (by omega) (by decide) (by decide), T'⟩
    let v4 : List Sl := [.fr T, .fr D, .fr (.int kd), .fr (.int z), .ow [rowL rs], .un, .un, .un, .un, .un, .un, .un]
    have b1 : setF 4 (mkL (consF (lcF [6] (nmA 6) (bnd (consF (var 1) nilF) rng1) yesT (bin dSub (callF 2 pDrawL (consF (var 0) (consF (cst (.int 2001)) nilF))) (cst (.int 1000)))) nilF)) ⟨v3, t2⟩ = .ok .nx ⟨v4, t3⟩ := set_ok (s1 := ⟨v3, t3⟩) (x := .ow [rowL rs]) (mkL_ok (ds := [rowL rs]) (cons_ok (x := .ow (iL rs)) e3 rfl) (by show 1 ≤ 100000; decide)) (by show 4 < 12; decide)
    obtain ⟨st, t4, e4, l4, ss, T4⟩ := row_draw (i := 6) (m := d) (v := v4) (t := t3) (n := 40) (Fi := bnd (consF (var 1) nilF) rng1) (Fe := bin dAdd (cst (.int 1)) (callF 2 pDrawL (consF (var 0) (consF (cst (.int 400)) nilF)))) (rng1' _ _ rfl) T3 (by omega) (by show 6 < 12; decide) rfl fun j _ t hT => by
      obtain ⟨x, t', ex, x0, x4, T'⟩ := draw_ok (s := put 6 (.fr (.int (j : Nat))) ⟨v4, t⟩) (Fx := cst (.int 400)) rfl rfl hT (by decide) (by decide)
      exact ⟨1 + x, t', bin_ok (x := .fr (.int 1)) (y := .fr (.int x)) rfl ex rfl, sz_of (a := 0) (b := 401) (by omega) (by omega) (by decide) (by decide), T'⟩
    let vr : List (List Int) → Sl → List Sl := fun R u => [.fr T, .fr D, .fr (.int kd), .fr (.int z), .ow (R.map rowL), u, .un, .ow (iL st), .un, .un, .un, .un]
    have b2 : setF 7 (lcF [6] (nmA 6) (bnd (consF (var 1) nilF) rng1) yesT (bin dAdd (cst (.int 1)) (callF 2 pDrawL (consF (var 0) (consF (cst (.int 400)) nilF))))) ⟨v4, t3⟩ = .ok .nx ⟨vr [rs] .un, t4⟩ := set_ok (s1 := ⟨v4, t4⟩) (x := .ow (iL st)) e4 (by show 7 < 12; decide)
    have go : ∀ (m k : Nat) (R : List (List Int)) (u : Sl), k + m = d → R.length = k + 1 → (∀ r ∈ R, r.length = d ∧ AllSz (41 + 2 * k) r) → backSl u = u → ∃ R' u', forGo (nmA 5) (appF 4 (lcF [6] (nmA 6) (bnd (consF (var 1) nilF) rng1) yesT (bin dAdd (bin dIx (ixv 4 (var 5)) (var 6)) (bin dMul (ixv 7 (var 5)) (un dInt (dat (bin dEq (var 6) (var 5)))))))) ((List.range' k m).map fun k => PyData.int (k : Nat)) ⟨vr R u, t4⟩ = .ok .nx ⟨vr R' u', t4⟩ ∧ R'.length = d + 1 ∧ (∀ r ∈ R', r.length = d ∧ AllSz 60 r) ∧ backSl u' = u' := by
      intro m
      induction m with
      | zero =>
        intro k R u hk hl hr hu
        exact ⟨R, u, rfl, by omega, fun r h => ⟨(hr r h).1, (hr r h).2.mono (by omega)⟩, hu⟩
      | succ m ih =>
        intro k R u hk hl hr hu
        have kR : k < R.length := by omega
        have ks : k < st.length := by omega
        let f : Nat → Int := fun i => R[k].getD i 0 + st.getD k 0 * (if decide (((i : Nat) : Int) = ((k : Nat) : Int)) then 1 else 0)
        let nr : List Int := (List.range d).map f
        let s : Pst := ⟨vr R (.fr (.int (k : Nat))), t4⟩
        have hrk := hr R[k] (List.getElem_mem kR)
        have sk : Sz 40 (st.getD k 0) := by rw [List.getD_eq_getElem?_getD, List.getElem?_eq_getElem ks]; exact ss _ (List.getElem_mem ks)
        have ixR : dIx (.list (R.map rowL)) (.int (k : Nat)) = .ok (.fr (rowL R[k])) := by
          have e : L2.atI (R.map rowL) (k : Nat) = some (rowL R[k]) := L2.atI_nat (by rw [List.getElem?_map, List.getElem?_eq_getElem kR]; rfl)
          show (match L2.atI (R.map rowL) (k : Nat) with | some d => R1.ok (.fr d) | none => .no) = _
          rw [e]
        have row : lcF [6] (nmA 6) (bnd (consF (var 1) nilF) rng1) yesT (bin dAdd (bin dIx (ixv 4 (var 5)) (var 6)) (bin dMul (ixv 7 (var 5)) (un dInt (dat (bin dEq (var 6) (var 5)))))) s = .ok (.ow (iL nr)) s := by
          show _ = Rs.ok (OV.ow (iL ((List.range d).map f))) s
          unfold iL
          rw [List.map_map]
          refine lc_one (s := s) (xs := List.range d) (fun i => PyData.int (i : Nat)) (fun i => .int (f i)) (rng1' _ _ rfl) (by rw [List.length_range]; exact hlim (by omega)) (by show 6 < 12; decide) rfl fun i hi => ⟨.fr (.int (f i)), ?_, rfl⟩
          have hi' : i < R[k].length := by rw [hrk.1]; exact List.mem_range.mp hi
          let s6 : Pst := put 6 (.fr (.int (i : Nat))) s
          refine bin_ok (x := .fr (.int (R[k].getD i 0))) (y := .fr (.int (st.getD k 0 * (if decide (((i : Nat) : Int) = ((k : Nat) : Int)) then 1 else 0)))) (s1 := s6) (bin_ok (x := .fr (rowL R[k])) (y := .fr (.int (i : Nat))) (s1 := s6) (ixv_ow (l := R.map rowL) (y := .fr (.int (k : Nat))) rfl rfl rfl ixR) rfl (dIx_nat hi')) (bin_ok (x := .fr (.int (st.getD k 0))) (y := .fr (.int (if decide (((i : Nat) : Int) = ((k : Nat) : Int)) then 1 else 0))) (s1 := s6) (ixv_ow (l := iL st) (y := .fr (.int (k : Nat))) rfl rfl rfl (dIx_nat ks)) rfl (dMul_ii (n := 40) (m := 1) sk (by unfold Sz; split <;> decide) (by decide))) rfl
        have ap : appF 4 (lcF [6] (nmA 6) (bnd (consF (var 1) nilF) rng1) yesT (bin dAdd (bin dIx (ixv 4 (var 5)) (var 6)) (bin dMul (ixv 7 (var 5)) (un dInt (dat (bin dEq (var 6) (var 5))))))) s = .ok .nx ⟨vr (R ++ [nr]) (.fr (.int (k : Nat))), t4⟩ := by
          have zz := app_ok (i := 4) (s := s) (s1 := s) (l := R.map rowL) (l1 := R.map rowL) (x := .ow (iL nr)) rfl row rfl (by rw [List.length_map]; exact hlim (by omega))
          rw [zz]
          show Rs.ok Fw.nx (Pst.mk [.fr T, .fr D, .fr (.int kd), .fr (.int z), .ow (R.map rowL ++ [rowL nr]), .fr (.int (k : Nat)), .un, .ow (iL st), .un, .un, .un, .un] t4) = Rs.ok Fw.nx (Pst.mk [.fr T, .fr D, .fr (.int kd), .fr (.int z), .ow ((R ++ [nr]).map rowL), .fr (.int (k : Nat)), .un, .ow (iL st), .un, .un, .un, .un] t4)
          rw [List.map_append]; rfl
        obtain ⟨R', u', e', i1, i2, i3⟩ := ih (k + 1) (R ++ [nr]) (.fr (.int (k : Nat))) (by omega) (by rw [List.length_append, hl]; rfl) (fun r hr' => by
          rcases List.mem_append.mp hr' with h | h
          · exact ⟨(hr r h).1, (hr r h).2.mono (by omega)⟩
          · rw [List.mem_singleton.mp h]
            refine ⟨by show ((List.range d).map f).length = d; rw [List.length_map, List.length_range], fun x hx => ?_⟩
            obtain ⟨i, hi, rfl⟩ := List.mem_map.mp hx
            have hi' : i < R[k].length := by rw [hrk.1]; exact List.mem_range.mp hi
            have s1 : Sz (41 + 2 * k) (R[k].getD i 0) := by rw [List.getD_eq_getElem?_getD, List.getElem?_eq_getElem hi']; exact hrk.2 _ (List.getElem_mem hi')
            exact sz_le (Sz.add s1 (Sz.mul (m := 1) sk (by unfold Sz; split <;> decide))) (by omega)) rfl
        refine ⟨R', u', ?_, i1, i2, i3⟩
        rw [List.range'_succ, List.map_cons]
        exact go_next (s1 := s) rfl ap e'
    obtain ⟨R', u', e5, i1, i2, i3⟩ := go d 0 [rs] .un (by omega) rfl (fun r h => by rw [List.mem_singleton.mp h]; exact ⟨l3, sr.mono (by omega)⟩) rfl
    have b3 : forF (nmA 5) (bnd (consF (var 1) nilF) rng1) (appF 4 (lcF [6] (nmA 6) (bnd (consF (var 1) nilF) rng1) yesT (bin dAdd (bin dIx (ixv 4 (var 5)) (var 6)) (bin dMul (ixv 7 (var 5)) (un dInt (dat (bin dEq (var 6) (var 5)))))))) ⟨vr [rs] .un, t4⟩ = .ok .nx ⟨vr R' u', t4⟩ := for_go (s1 := ⟨vr [rs] .un, t4⟩) (by
      have z := rng1' (vr [rs] .un) t4 rfl
      rw [List.range_eq_range'] at z
      exact z) e5
    rw [seq_ok ((Pu.if_true c4).trans ((seq_ok b1).trans ((seq_ok b2).trans b3)))]
    exact body_tail d2 T4 ⟨i1, i2⟩ i3
  rw [decide_eq_false h4] at c4
  by_cases h5 : kd = 5
  · rw [decide_eq_true h5] at c5
    obtain ⟨f0, t3, e3, f1, f2, T3⟩ := draw_ok (s := ⟨v3, t2⟩) (Fx := bin dSub (bin dPow (cst (.int 10)) (cst (.int 6))) (cst (.int 1))) (n := 10 ^ 6 - 1) rfl (bin_ok (x := .fr (.int (10 ^ 6))) (y := .fr (.int 1)) (pow_lit (a := 10) (n := 6) (by decide) (by decide)) rfl rfl) T2 (by decide) (by decide)
    have f2' : f0 < 999999 := f2
    let far : Int := 1 + f0
    have sf : Sz 60 far := sz_of (a := 0) (b := 1000000) (by omega) (by omega) (by decide) (by decide)
    have sf1 : Sz 60 (far - 1) := sz_of (a := 0) (b := 1000000) (by omega) (by omega) (by decide) (by decide)
    have s0 : Sz 60 0 := Sz.zero
    have s1 : Sz 60 1 := sz_of (a := 1) (b := 1) (by decide) (by decide) (by decide) (by decide)
    let v4 : List Sl := [.fr T, .fr D, .fr (.int kd), .fr (.int z), .ow (R0.map rowL), .un, .un, .un, .fr (.int far), .un, .un, .un]
    have b1 : setF 8 (bin dAdd (cst (.int 1)) (callF 2 pDrawL (consF (var 0) (consF (bin dSub (bin dPow (cst (.int 10)) (cst (.int 6))) (cst (.int 1))) nilF)))) ⟨v3, t2⟩ = .ok .nx ⟨v4, t3⟩ := set_ok (s1 := ⟨v3, t3⟩) (x := .fr (.int far)) (bin_ok (x := .fr (.int 1)) (y := .fr (.int f0)) rfl e3 rfl) (by show 8 < 12; decide)
    have rows5 : ∃ R : List (List Int), (seqF (setF 4 (mkL (consF (bin dMul (mkL (consF (cst (.int 0)) nilF)) (var 1)) (consF (bin dAdd (mkL (consF (cst (.int 1)) nilF)) (bin dMul (mkL (consF (cst (.int 0)) nilF)) (bin dSub (var 1) (cst (.int 1))))) (consF (bin dAdd (mkL (consF (var 8) nilF)) (bin dMul (mkL (consF (cst (.int 1)) nilF)) (bin dSub (var 1) (cst (.int 1))))) nilF)))))
        (ifF (tst (bin dEq (var 1) (cst (.int 3))))
        (appF 4 (mkL (consF (cst (.int 0)) (consF (var 8) (consF (bin dSub (var 8) (cst (.int 1))) nilF)))))
        (pur .nx))) ⟨v4, t3⟩ = .ok .nx ⟨[.fr T, .fr D, .fr (.int kd), .fr (.int z), .ow (R.map rowL), .un, .un, .un, .fr (.int far), .un, .un, .un], t3⟩ ∧ Rw d R := by
      rcases d2 with rfl | rfl
      · refine ⟨[[0, 0], [1, 0], [far, 1]], rfl, rfl, fun r hr => ?_⟩
        simp only [List.mem_cons, List.not_mem_nil, or_false] at hr
        rcases hr with rfl | rfl | rfl
        · exact ⟨rfl, AllSz.cons s0 (AllSz.cons s0 AllSz.nil)⟩
        · exact ⟨rfl, AllSz.cons s1 (AllSz.cons s0 AllSz.nil)⟩
        · exact ⟨rfl, AllSz.cons sf (AllSz.cons s1 AllSz.nil)⟩
      · refine ⟨[[0, 0, 0], [1, 0, 0], [far, 1, 1], [0, far, far - 1]], rfl, rfl, fun r hr => ?_⟩
        simp only [List.mem_cons, List.not_mem_nil, or_false] at hr
        rcases hr with rfl | rfl | rfl | rfl
        · exact ⟨rfl, AllSz.cons s0 (AllSz.cons s0 (AllSz.cons s0 AllSz.nil))⟩
        · exact ⟨rfl, AllSz.cons s1 (AllSz.cons s0 (AllSz.cons s0 AllSz.nil))⟩
        · exact ⟨rfl, AllSz.cons sf (AllSz.cons s1 (AllSz.cons s1 AllSz.nil))⟩
        · exact ⟨rfl, AllSz.cons s0 (AllSz.cons sf (AllSz.cons sf1 AllSz.nil))⟩
    obtain ⟨R, e4, hR⟩ := rows5
    rw [seq_ok ((Pu.if_false c4).trans ((Pu.if_true c5).trans ((seq_ok b1).trans e4)))]
    exact body_tail d2 T3 hR rfl
  · rw [decide_eq_false h5] at c5
    rw [seq_ok ((Pu.if_false c4).trans (if_skip c5))]
    exact body_tail d2 T2 ⟨l2, r2⟩ rfl
end K23
end SecQd
section SecQe
set_option Elab.async false
set_option linter.all false
set_option maxRecDepth 100000
set_option maxHeartbeats 4000000
namespace K23
open PySem PySem.Spec Pu
/-- rows whose body is flat -/
def Flt (d : Nat) (R : List (List Int)) : Prop := Rw d R ∧ detZ R = 0
theorem same_call {Fx Fy : M OV} {s : Pst} {v : PyData} (hx : Fx s = .ok (.fr v) s) (hy : Fy s = .ok (.fr v) s) (g : Gd 5 v) : callF 2 pSameL (consF Fx (consF Fy nilF)) s = .ok (.fr (.bool true)) s :=
  call_eq (s1 := s) (ds := [v, v]) (cons_ok hx (cons_ok hy rfl)) rfl (same5 g s.t)
theorem flat_low {d : Nat} (d2 : d = 2 ∨ d = 3) {a b : List Int} {B : List (List Int)} (hB : B.length = d + 1) (hr : ∀ r ∈ B, r.length = d ∧ AllSz 60 r) (ha : a.length = d ∧ AllSz 60 a) (hb : b.length = d ∧ AllSz 60 b) : Flt d ([a, a, b] ++ B.take (d - 2)) := by
  rcases d2 with rfl | rfl
  · match a, b, ha.1, hb.1 with
    | [x, y], [u, v], _, _ =>
      refine ⟨⟨rfl, fun r h => ?_⟩, ?_⟩
      · have h' : r ∈ [[x, y], [x, y], [u, v]] := h
        simp only [List.mem_cons, List.not_mem_nil, or_false] at h'
        rcases h' with rfl | rfl | rfl
        · exact ha
        · exact ha
        · exact hb
      · show detZ [[x, y], [x, y], [u, v]] = 0
        rw [det2]; grind
  · match B, hB with
    | r0 :: B, _ =>
      have h0 := hr r0 List.mem_cons_self
      match a, b, r0, ha.1, hb.1, h0.1 with
      | [x, y, z], [u, v, w], [p, q, s], _, _, _ =>
        refine ⟨⟨rfl, fun r h => ?_⟩, ?_⟩
        · have h' : r ∈ [[x, y, z], [x, y, z], [u, v, w], [p, q, s]] := h
          simp only [List.mem_cons, List.not_mem_nil, or_false] at h'
          rcases h' with rfl | rfl | rfl | rfl
          · exact ha
          · exact ha
          · exact hb
          · exact h0
        · show detZ [[x, y, z], [x, y, z], [u, v, w], [p, q, s]] = 0
          rw [det3]; grind
theorem sz_small {x : Int} (h1 : -1000 ≤ x) (h2 : x ≤ 1000) : Sz 60 x := sz_of h1 h2 (by decide) (by decide)
/-- what the flat body is tried with -/
theorem flat_end {d : Nat} (d2 : d = 2 ∨ d = 3) {R : List (List Int)} (h : Flt d R) {s s1 : Pst} (hv : ∀ q : Pst, sl q 13 = .fr (bodyD R) → var 13 q = .ok (.fr (bodyD R)) q) (h13 : sl s 13 = .fr (bodyD R)) :
    retF (andV (callF 2 pSameL (consF (callF 1 pMeasureOf (consF (var 13) nilF)) (consF (cst (.int 0)) nilF))) (callF 2 pSameL (consF (callF 1 pIsFlat (consF (var 13) nilF)) (consF (cst (.bool true)) nilF)))) s = .ok (.rt (.fr (.bool true))) s := by
  obtain ⟨e, sl_⟩ := slo_of (rw_bo d2 h.1)
  have v := hv s h13
  refine ret_ok (and_true (same_call (v := .int 0) ?_ rfl (.int 0)) (same_call (v := .bool true) ?_ rfl (.bl true)))
  · refine call_eq (s1 := s) (ds := [bodyD R]) (cons_ok v rfl) rfl ?_
    have z := e_measureOf sl_ s.t
    rw [h.2] at z
    exact z
  · refine call_eq (s1 := s) (ds := [bodyD R]) (cons_ok v rfl) rfl ?_
    have z := e_isFlat sl_ s.t
    rw [h.2] at z
    exact z
theorem e_flatHoldsL {B : List (List Int)} {d : Nat} {t : Tps} (hB : Body B d) (hT : Tp t) : ∃ t', pFlatHoldsL [.dict [], bodyD B] t = .ok (.fr (.bool true)) t' ∧ Tp t' := by
  have hlim : ∀ {k : Nat}, k ≤ 12 → k ≤ lim := fun h => Nat.le_trans h (by decide)
  have h := hB.bd
  have d2 := h.slo.d2
  have bl := h.slo.blen
  have br : ∀ r ∈ B, r.length = d ∧ AllSz 60 r := fun r hr => ⟨(h.slo.rows r hr).1, bo_rows hB.bo r hr⟩
  let T : PyData := .dict []
  let D : PyData := .int (d : Nat)
  let q0 : Pst := ⟨[.fr T, .fr (bodyD B), .un, .un, .un, .un, .un, .un, .un, .un, .un, .un, .un, .un], t⟩
  let q1 : Pst := ⟨[.fr T, .fr (bodyD B), .fr D, .un, .un, .un, .un, .un, .un, .un, .un, .un, .un, .un], t⟩
  have e0 : ∀ F, fnF 14 F [.dict [], bodyD B] t = fin (F q0) := fun _ => rfl
  have lb : dLen (bodyD B) = .ok (.fr (.int ((d + 1 : Nat) : Int))) := by rw [len_body, bl]; rfl
  have a1 : setF 2 (bin dSub (un dLen (peek 1)) (cst (.int 1))) q0 = .ok .nx q1 := by
    refine set_ok (s1 := q0) (x := .fr D) (bin_ok (x := .fr (.int ((d + 1 : Nat) : Int))) (y := .fr (.int 1)) (s1 := q0) (un_ok (d := bodyD B) rfl lb) rfl ?_) (by show 2 < 14; decide)
    show okI _ = _
    rw [show ((d + 1 : Nat) : Int) - 1 = (d : Nat) by omega]; rfl
  unfold pFlatHoldsL
  rw [e0, seq_ok a1]
  have c1 : orT (notT (tru (dat (callF 2 pSameL (consF (callF 1 pMeasureOf (consF (var 1) nilF)) (consF (callF 1 pMeasureL (consF (var 1) nilF)) nilF)))))) (notT (tru (dat (callF 2 pSameL (consF (callF 1 pIsFlat (consF (var 1) nilF)) (consF (cst (.bool false)) nilF)))))) q1 = .ok false q1 := by
    have x1 := not_tru (same_call (s := q1) (Fx := callF 1 pMeasureOf (consF (var 1) nilF)) (Fy := callF 1 pMeasureL (consF (var 1) nilF)) (call_eq (s1 := q1) (ds := [bodyD B]) rfl rfl (e_measureOf h.slo t)) (call_eq (s1 := q1) (ds := [bodyD B]) rfl rfl (e_measureL hB.bo t)) (.int _))
    have x2 := not_tru (same_call (s := q1) (v := .bool false) (Fx := callF 1 pIsFlat (consF (var 1) nilF)) (Fy := cst (.bool false)) (call_eq (s1 := q1) (ds := [bodyD B]) rfl rfl (by
      have z := e_isFlat h.slo t
      rw [decide_eq_false h.ne] at z
      exact z)) rfl (.bl _))
    unfold orT
    rw [bnd_ok x1]
    exact x2
  rw [seq_ok (if_skip c1)]
  obtain ⟨o1, t1, e1, o10, o11, T1⟩ := draw_ok (s := q1) (Fx := bin dAdd (var 2) (cst (.int 1))) (n := (d : Int) + 1) rfl rfl hT (by omega) (by omega)
  obtain ⟨i, rfl⟩ : ∃ k : Nat, o1 = (k : Int) := ⟨o1.toNat, by omega⟩
  let q2 : Pst := ⟨[.fr T, .fr (bodyD B), .fr D, .fr (.int (i : Nat)), .un, .un, .un, .un, .un, .un, .un, .un, .un, .un], t1⟩
  have a2 : setF 3 (callF 2 pDrawL (consF (var 0) (consF (bin dAdd (var 2) (cst (.int 1))) nilF))) q1 = .ok .nx q2 := set_ok (s1 := ⟨q1.v, t1⟩) (x := .fr (.int (i : Nat))) e1 (by show 3 < 14; decide)
  rw [seq_ok a2]
  obtain ⟨o2, t2, e2, o20, o21, T2⟩ := draw_ok (s := q2) (Fx := bin dAdd (var 2) (cst (.int 1))) (n := (d : Int) + 1) rfl rfl T1 (by omega) (by omega)
  obtain ⟨j, rfl⟩ : ∃ k : Nat, o2 = (k : Int) := ⟨o2.toNat, by omega⟩
  let q3 : Pst := ⟨[.fr T, .fr (bodyD B), .fr D, .fr (.int (i : Nat)), .fr (.int (j : Nat)), .un, .un, .un, .un, .un, .un, .un, .un, .un], t2⟩
  have a3 : setF 4 (callF 2 pDrawL (consF (var 0) (consF (bin dAdd (var 2) (cst (.int 1))) nilF))) q2 = .ok .nx q3 := set_ok (s1 := ⟨q2.v, t2⟩) (x := .fr (.int (j : Nat))) e2 (by show 4 < 14; decide)
  rw [seq_ok a3]
  have iB : i < B.length := by omega
  have jB : j < B.length := by omega
  let a : List Int := B.getD i []
  let b : List Int := B.getD j []
  have mem : ∀ k, k < B.length → B.getD k [] ∈ B := fun k hk => by rw [List.getD_eq_getElem?_getD, List.getElem?_eq_getElem hk]; exact List.getElem_mem hk
  have ha := br a (mem i iB)
  have hb := br b (mem j jB)
  obtain ⟨k3, t3, e3, k30, k31, T3⟩ := draw_ok (s := q3) (Fx := cst (.int 3)) rfl rfl T2 (by decide) (by decide)
  have stepx : ∃ u : List Int, setF 5 (bin dIx (mkL (consF (un dTuple (dat (lcF [6] (nmA 6) (itF (ixv 1 (var 3))) yesT (bin dSub (cst (.int 0)) (var 6))))) (consF (ixv 1 (var 4)) (consF (bin dMul (mkT (consF (cst (.int 0)) nilF)) (var 2)) nilF)))) (callF 2 pDrawL (consF (var 0) (consF (cst (.int 3)) nilF)))) q3 = .ok .nx ⟨[.fr T, .fr (bodyD B), .fr D, .fr (.int (i : Nat)), .fr (.int (j : Nat)), .fr (rowT u), .un, .un, .un, .un, .un, .un, .un, .un], t3⟩ ∧ u.length = d ∧ AllSz 60 u := by
    let u1 : List Int := a.map fun x => 0 - x
    let u3 : List Int := (List.range d).map fun _ => 0
    have l1 : un dTuple (dat (lcF [6] (nmA 6) (itF (ixv 1 (var 3))) yesT (bin dSub (cst (.int 0)) (var 6)))) q3 = .ok (.fr (rowT u1)) q3 := by
      refine un_ok (d := .list (iL u1)) (dat_ok (x := .ow (iL u1)) ?_) rfl
      show _ = Rs.ok (OV.ow (iL (a.map fun x => 0 - x))) q3
      rw [rowsMap]
      have ii : ixv 1 (var 3) q3 = .ok (.fr (rowT a)) q3 := ixv_fr (d := bodyD B) (y := .fr (.int (i : Nat))) rfl rfl rfl (dIx_body iB)
      exact lc_one (s := q3) (xs := a) PyData.int (fun x => .int (0 - x)) (it_ok ii rfl) (by rw [ha.1]; exact hlim (by omega)) (by show 6 < 14; decide) rfl fun x _ => ⟨.fr (.int (0 - x)), rfl, rfl⟩
    have l2 : ixv 1 (var 4) q3 = .ok (.fr (rowT b)) q3 := ixv_fr (d := bodyD B) (y := .fr (.int (j : Nat))) rfl rfl rfl (dIx_body jB)
    have l3 : bin dMul (mkT (consF (cst (.int 0)) nilF)) (var 2) q3 = .ok (.fr (rowT u3)) q3 := by
      rcases d2 with rfl | rfl <;> rfl
    have lst : mkL (consF (un dTuple (dat (lcF [6] (nmA 6) (itF (ixv 1 (var 3))) yesT (bin dSub (cst (.int 0)) (var 6))))) (consF (ixv 1 (var 4)) (consF (bin dMul (mkT (consF (cst (.int 0)) nilF)) (var 2)) nilF))) q3 = .ok (.ow [rowT u1, rowT b, rowT u3]) q3 := mkL_ok (cons_ok l1 (cons_ok l2 (cons_ok l3 rfl))) (by show 3 ≤ 100000; decide)
    have go : ∀ u : List Int, dIx (.list [rowT u1, rowT b, rowT u3]) (.int k3) = .ok (.fr (rowT u)) → setF 5 (bin dIx (mkL (consF (un dTuple (dat (lcF [6] (nmA 6) (itF (ixv 1 (var 3))) yesT (bin dSub (cst (.int 0)) (var 6))))) (consF (ixv 1 (var 4)) (consF (bin dMul (mkT (consF (cst (.int 0)) nilF)) (var 2)) nilF)))) (callF 2 pDrawL (consF (var 0) (consF (cst (.int 3)) nilF)))) q3 = .ok .nx ⟨[.fr T, .fr (bodyD B), .fr D, .fr (.int (i : Nat)), .fr (.int (j : Nat)), .fr (rowT u), .un, .un, .un, .un, .un, .un, .un, .un], t3⟩ := fun u e =>
      set_ok (s1 := ⟨q3.v, t3⟩) (x := .fr (rowT u)) (bin_ok (y := .fr (.int k3)) lst e3 e) (by show 5 < 14; decide)
    rcases (by omega : k3 = 0 ∨ k3 = 1 ∨ k3 = 2) with hk | hk | hk
    · refine ⟨u1, go u1 (by rw [hk]; rfl), by show (a.map _).length = d; rw [List.length_map]; exact ha.1, fun x hx => ?_⟩
      obtain ⟨y, hy, rfl⟩ := List.mem_map.mp hx
      have := ha.2 y hy
      unfold Sz at this ⊢
      rw [Int.zero_sub, Int.natAbs_neg]; exact this
    · exact ⟨b, go b (by rw [hk]; rfl), hb⟩
    · refine ⟨u3, go u3 (by rw [hk]; rfl), by show ((List.range d).map _).length = d; rw [List.length_map, List.length_range], fun x hx => ?_⟩
      obtain ⟨y, _, rfl⟩ := List.mem_map.mp hx
      exact Sz.zero
  obtain ⟨u, a4, hu⟩ := stepx
  rw [seq_ok a4]
  let M' : List (List Int) := B.set j u
  have mbo : Bo 60 M' := bo_set hB.bo bl hu.1 hu.2
  obtain ⟨md, ms⟩ := slo_of mbo
  let w4 : Pst := ⟨[.fr T, .fr (bodyD B), .fr D, .fr (.int (i : Nat)), .fr (.int (j : Nat)), .fr (rowT u), .un, .un, .un, .un, .un, .un, .un, .un], t3⟩
  let w5 : Pst := ⟨[.fr T, .fr (bodyD B), .fr D, .fr (.int (i : Nat)), .fr (.int (j : Nat)), .fr (rowT u), .un, .fr (bodyD M'), .un, .un, .un, .un, .un, .un], t3⟩
  have a5 : setF 7 (bin dAdd (bin dAdd (slcv 1 noPart (part (var 4))) (mkT (consF (var 5) nilF))) (slcv 1 (part (bin dAdd (var 4) (cst (.int 1)))) noPart)) w4 = .ok .nx w5 := by
    refine set_ok (s1 := w4) (x := .fr (bodyD M')) ?_ (by show 7 < 14; decide)
    have s1 := slc_ok (i := 1) (s := w4) (l := B.map rowT) (Fl := noPart) (Fh := part (var 4)) (a := none) (b := some ((j : Nat) : Int)) rfl rfl rfl
    rw [cutD_take] at s1
    have s2 := slc_ok (i := 1) (s := w4) (l := B.map rowT) (Fl := part (bin dAdd (var 4) (cst (.int 1)))) (Fh := noPart) (a := some ((j + 1 : Nat) : Int)) (b := none) rfl rfl rfl
    rw [cutD_drop] at s2
    have m : mkT (consF (var 5) nilF) w4 = .ok (.fr (.tuple [rowT u])) w4 := rfl
    have l1 : ((B.map rowT).take j).length = j := by rw [List.length_take, List.length_map]; omega
    refine bin_ok (bin_ok s1 m (tadd (by rw [l1]; exact hlim (show j + 1 ≤ 12 by omega)))) s2 ?_
    show dAdd (.tuple ((B.map rowT).take j ++ [rowT u])) (.tuple ((B.map rowT).drop (j + 1))) = _
    rw [tadd (by rw [List.length_append, l1, List.length_drop, List.length_map]; exact hlim (show j + 1 + (B.length - (j + 1)) ≤ 12 by omega))]
    show R1.ok (.fr (.tuple _)) = R1.ok (.fr (.tuple ((B.set j u).map rowT)))
    rw [List.map_set, List.set_eq_take_append_cons_drop, if_pos (by rw [List.length_map]; exact jB), List.append_assoc]
    rfl
  rw [seq_ok a5]
  have a6 := if_same (s := w5) (Fx := quiet (callR 1 pMeasureOf (consF (var 7) nilF))) (Fy := callF 1 pMeasureL (consF (var 7) nilF)) (quiet_ok (call_eq (s1 := w5) (ds := [bodyD M']) rfl rfl (e_measureOf ms t3))) (call_eq (s1 := w5) (ds := [bodyD M']) rfl rfl (e_measureL mbo t3)) (.int _)
  rw [seq_ok a6]
  have a7 := if_same (s := w5) (v := .bool (decide (detZ M' = 0))) (Fx := quiet (callR 1 pIsFlat (consF (var 7) nilF))) (Fy := bin dEq (callF 1 pMeasureL (consF (var 7) nilF)) (cst (.int 0))) (quiet_ok (call_eq (s1 := w5) (ds := [bodyD M']) rfl rfl (e_isFlat ms t3))) (bin_ok (x := .fr (.int ((detZ M').natAbs : Nat))) (y := .fr (.int 0)) (s1 := w5) (call_eq (s1 := w5) (ds := [bodyD M']) rfl rfl (e_measureL mbo t3)) rfl (by
    show okB (decide ((((detZ M').natAbs : Nat) : Int) = 0)) = okB (decide (detZ M' = 0))
    congr 1
    exact decide_eq_decide.mpr ⟨fun z => by omega, fun z => by omega⟩)) (.bl _)
  rw [seq_ok a7]
  obtain ⟨k4, t4, e4, k40, k41, T4⟩ := draw_ok (s := w5) (Fx := cst (.int 4)) rfl rfl T3 (by decide) (by decide)
  let st : Sl → Sl → Sl → Sl → Pst := fun kk lo rw fl => ⟨[.fr T, .fr (bodyD B), .fr D, .fr (.int (i : Nat)), .fr (.int (j : Nat)), .fr (rowT u), .un, .fr (bodyD M'), kk, lo, rw, .un, .un, fl], t4⟩
  let K4 : Sl := .fr (.int k4)
  have a8 : setF 8 (callF 2 pDrawL (consF (var 0) (consF (cst (.int 4)) nilF))) w5 = .ok .nx (st K4 .un .un .un) := set_ok (s1 := ⟨w5.v, t4⟩) (x := .fr (.int k4)) e4 (by show 8 < 14; decide)
  rw [seq_ok a8]
  let A : Sl := .fr (rowT a)
  have a9 : setF 9 (ixv 1 (var 3)) (st K4 .un .un .un) = .ok .nx (st K4 A .un .un) := set_ok (s1 := st K4 .un .un .un) (x := .fr (rowT a)) (ixv_fr (d := bodyD B) (y := .fr (.int (i : Nat))) rfl rfl rfl (dIx_body iB)) (by show 9 < 14; decide)
  rw [seq_ok a9]
  refine ⟨t4, ?_, T4⟩
  let R0 : List (List Int) := [a, a, b] ++ B.take (d - 2)
  have f0 : Flt d R0 := flat_low d2 bl br ha hb
  have lB : ixv 1 (var 4) (st K4 A .un .un) = .ok (.fr (rowT b)) (st K4 A .un .un) := ixv_fr (d := bodyD B) (y := .fr (.int (j : Nat))) rfl rfl rfl (dIx_body jB)
  have l3 : mkL (consF (var 9) (consF (var 9) (consF (ixv 1 (var 4)) nilF))) (st K4 A .un .un) = .ok (.ow [rowT a, rowT a, rowT b]) (st K4 A .un .un) := mkL_ok (cons_ok (x := .fr (rowT a)) rfl (cons_ok (x := .fr (rowT a)) rfl (cons_ok lB rfl))) (by show 3 ≤ 100000; decide)
  have l4 : lcF [11] (nmA 11) (bnd (consF (bin dSub (var 2) (cst (.int 2))) nilF) rng1) yesT (ixv 1 (var 11)) (st K4 A .un .un) = .ok (.ow ((B.take (d - 2)).map rowT)) (st K4 A .un .un) := by
    have z := lc_one (s00 := st K4 A .un .un) (s := st K4 A .un .un) (i := 11) (Fi := bnd (consF (bin dSub (var 2) (cst (.int 2))) nilF) rng1) (Fe := ixv 1 (var 11)) (xs := List.range (d - 2)) (fun k => PyData.int (k : Nat)) (fun k => rowT (B.getD k [])) (by
      have e : consF (bin dSub (var 2) (cst (.int 2))) nilF (st K4 A .un .un) = .ok [.int ((d - 2 : Nat) : Int)] (st K4 A .un .un) := by
        refine cons_ok (x := .fr (.int ((d - 2 : Nat) : Int))) (s1 := st K4 A .un .un) (bin_ok (x := .fr D) (y := .fr (.int 2)) (s1 := st K4 A .un .un) rfl rfl ?_) rfl
        show okI ((d : Nat) - 2) = _
        rw [show ((d : Nat) : Int) - 2 = ((d - 2 : Nat) : Int) by omega]; rfl
      rw [bnd_ok e]; exact rng1_nat (by omega) _) (by rw [List.length_range]; exact hlim (by omega)) (by show 11 < 14; decide) rfl fun k hk => ⟨.fr (rowT (B.getD k [])), ixv_fr (d := bodyD B) (y := .fr (.int (k : Nat))) rfl rfl rfl (dIx_body (by have := List.mem_range.mp hk; omega)), rfl⟩
    rw [z]
    have e : (List.range (d - 2)).map (fun k => rowT (B.getD k [])) = (B.take (d - 2)).map rowT := by
      apply List.ext_getElem (by simp; omega)
      intro k h1 h2
      simp only [List.length_map, List.length_range] at h1
      rw [List.getElem_map, List.getElem_map, List.getElem_range, List.getElem_take, List.getD_eq_getElem?_getD, List.getElem?_eq_getElem (by omega)]
      rfl
    rw [e]
  have b1 : setF 10 (bin dAdd (mkL (consF (var 9) (consF (var 9) (consF (ixv 1 (var 4)) nilF)))) (lcF [11] (nmA 11) (bnd (consF (bin dSub (var 2) (cst (.int 2))) nilF) rng1) yesT (ixv 1 (var 11)))) (st K4 A .un .un) = .ok .nx (st K4 A (.ow (R0.map rowT)) .un) := by
    refine set_ok (s1 := st K4 A .un .un) (x := .ow (R0.map rowT)) (bin_ok l3 l4 ?_) (by show 10 < 14; decide)
    show fit _ _ = _
    unfold fit
    rw [if_pos (by rw [List.length_map, List.length_take]; exact hlim (show 3 + min (d - 2) B.length ≤ 12 by omega))]
    rfl
  rw [seq_ok b1]
  have s3 : ∀ {l : List Int}, (∀ x ∈ l, -1000 ≤ x ∧ x ≤ 1000) → AllSz 60 l := fun h x hx => sz_small (h x hx).1 (h x hx).2
  have kinds : ∃ R : List (List Int), (ifF (tst (bin dEq (var 8) (cst (.int 1))))
    (setF 10 (lcF [11] (nmA 11) (bnd (consF (bin dAdd (var 2) (cst (.int 1))) nilF) rng1) yesT (un dTuple (dat (lcF [12] (nmA 12) (bnd (consF (var 2) nilF) rng1) yesT (bin dSub (bin dMul (var 11) (bin dAdd (var 12) (cst (.int 1)))) (cst (.int 3))))))))
    (ifF (tst (bin dEq (var 8) (cst (.int 2))))
      (setF 10 (lcF [11] (nmA 11) (bnd (consF (bin dAdd (var 2) (cst (.int 1))) nilF) rng1) yesT (slc (mkT (consF (ixv 9 (cst (.int 0))) (consF (bin dMul (var 11) (var 11)) (consF (var 11) nilF)))) noPart (part (var 2)))))
      (ifF (tst (bin dEq (var 8) (cst (.int 3))))
        (setF 10 (bin dMul (mkL (consF (var 9) nilF)) (bin dAdd (var 2) (cst (.int 1)))))
        (pur .nx)))) (st K4 A (.ow (R0.map rowT)) .un) = .ok .nx (st K4 A (.ow (R.map rowT)) .un) ∧ Flt d R := by
    have c1 : tst (bin dEq (var 8) (cst (.int 1))) (st K4 A (.ow (R0.map rowT)) .un) = .ok (decide (k4 = 1)) (st K4 A (.ow (R0.map rowT)) .un) := rfl
    have c2 : tst (bin dEq (var 8) (cst (.int 2))) (st K4 A (.ow (R0.map rowT)) .un) = .ok (decide (k4 = 2)) (st K4 A (.ow (R0.map rowT)) .un) := rfl
    have c3 : tst (bin dEq (var 8) (cst (.int 3))) (st K4 A (.ow (R0.map rowT)) .un) = .ok (decide (k4 = 3)) (st K4 A (.ow (R0.map rowT)) .un) := rfl
    by_cases h1 : k4 = 1
    · rw [decide_eq_true h1] at c1
      have go : ∃ R : List (List Int), setF 10 (lcF [11] (nmA 11) (bnd (consF (bin dAdd (var 2) (cst (.int 1))) nilF) rng1) yesT (un dTuple (dat (lcF [12] (nmA 12) (bnd (consF (var 2) nilF) rng1) yesT (bin dSub (bin dMul (var 11) (bin dAdd (var 12) (cst (.int 1)))) (cst (.int 3))))))) (st K4 A (.ow (R0.map rowT)) .un) = .ok .nx (st K4 A (.ow (R.map rowT)) .un) ∧ Flt d R := by
        let f : Nat → Nat → Int := fun k i => (k : Int) * ((i : Int) + 1) - 3
        let R1 : List (List Int) := (List.range (d + 1)).map fun k => (List.range d).map fun i => f k i
        let s0 : Pst := st K4 A (.ow (R0.map rowT)) .un
        refine ⟨R1, ?_, ?_⟩
        · refine set_ok (s1 := s0) (x := .ow (R1.map rowT)) ?_ (by show 10 < 14; decide)
          show _ = Rs.ok (OV.ow (((List.range (d + 1)).map fun k => (List.range d).map fun i => f k i).map rowT)) s0
          rw [List.map_map]
          refine lc_one (s := s0) (xs := List.range (d + 1)) (fun k => PyData.int (k : Nat)) (fun (k : Nat) => rowT ((List.range d).map fun i => f k i)) ?_ (by rw [List.length_range]; exact hlim (by omega)) (by show 11 < 14; decide) rfl fun k hk => ⟨.fr (rowT ((List.range d).map fun i => f k i)), ?_, rfl⟩
          · have e : consF (bin dAdd (var 2) (cst (.int 1))) nilF s0 = .ok [.int ((d + 1 : Nat) : Int)] s0 := rfl
            rw [bnd_ok e]; exact rng1_nat (by omega) _
          · let s1 : Pst := put 11 (.fr (.int (k : Nat))) s0
            refine un_ok (d := .list (iL ((List.range d).map fun i => f k i))) (dat_ok (x := .ow (iL ((List.range d).map fun i => f k i))) ?_) rfl
            show _ = Rs.ok (OV.ow (iL ((List.range d).map fun i => f k i))) s1
            unfold iL
            rw [List.map_map]
            have hk' := List.mem_range.mp hk
            refine lc_one (s := s1) (xs := List.range d) (fun i => PyData.int (i : Nat)) (fun (i : Nat) => .int (f k i)) ?_ (by rw [List.length_range]; exact hlim (by omega)) (by show 12 < 14; decide) rfl fun i hi => ⟨.fr (.int (f k i)), ?_, rfl⟩
            · have e : consF (var 2) nilF s1 = .ok [.int (d : Nat)] s1 := rfl
              rw [bnd_ok e]; exact rng1_nat (by omega) _
            · let s2 : Pst := put 12 (.fr (.int (i : Nat))) s1
              have hi' := List.mem_range.mp hi
              exact bin_ok (x := .fr (.int ((k : Int) * ((i : Int) + 1)))) (y := .fr (.int 3)) (s1 := s2) (bin_ok (x := .fr (.int (k : Nat))) (y := .fr (.int ((i : Int) + 1))) (s1 := s2) rfl (bin_ok (x := .fr (.int (i : Nat))) (y := .fr (.int 1)) (s1 := s2) rfl rfl rfl) (dMul_ii (n := 60) (m := 60) (sz_small (by omega) (by omega)) (sz_small (by omega) (by omega)) (by decide))) rfl rfl
        · refine ⟨⟨by show ((List.range (d + 1)).map _).length = d + 1; rw [List.length_map, List.length_range], fun r hr => ?_⟩, ?_⟩
          · obtain ⟨k, hk, rfl⟩ := List.mem_map.mp hr
            refine ⟨by rw [List.length_map, List.length_range], s3 fun x hx => ?_⟩
            obtain ⟨i, hi, rfl⟩ := List.mem_map.mp hx
            have hk' := List.mem_range.mp hk
            have hi' := List.mem_range.mp hi
            show -1000 ≤ (k : Int) * ((i : Int) + 1) - 3 ∧ (k : Int) * ((i : Int) + 1) - 3 ≤ 1000
            have h1 : (k : Int) * ((i : Int) + 1) ≤ 4 * 4 := Int.mul_le_mul (by omega) (by omega) (by omega) (by decide)
            have h2 : 0 ≤ (k : Int) * ((i : Int) + 1) := Int.mul_nonneg (by omega) (by omega)
            omega
          · rcases d2 with rfl | rfl
            · show detZ [[-3, -3], [-2, -1], [-1, 1]] = 0
              decide
            · show detZ [[-3, -3, -3], [-2, -1, 0], [-1, 1, 3], [0, 3, 6]] = 0
              decide
      obtain ⟨R, e, f⟩ := go
      exact ⟨R, (Pu.if_true c1).trans e, f⟩
    rw [decide_eq_false h1] at c1
    by_cases h2 : k4 = 2
    · rw [decide_eq_true h2] at c2
      have go : ∃ R : List (List Int), setF 10 (lcF [11] (nmA 11) (bnd (consF (bin dAdd (var 2) (cst (.int 1))) nilF) rng1) yesT (slc (mkT (consF (ixv 9 (cst (.int 0))) (consF (bin dMul (var 11) (var 11)) (consF (var 11) nilF)))) noPart (part (var 2)))) (st K4 A (.ow (R0.map rowT)) .un) = .ok .nx (st K4 A (.ow (R.map rowT)) .un) ∧ Flt d R := by
        obtain ⟨x, xs, ea⟩ : ∃ x xs, a = x :: xs := by
          cases hh : a with
          | nil => have := ha.1; rw [hh] at this; simp at this; omega
          | cons x xs => exact ⟨x, xs, rfl⟩
        have sx := ha.2 x (by rw [ea]; simp)
        let f : Nat → List Int := fun k => [x, (k : Int) * (k : Int), (k : Int)].take d
        let Rk : List (List Int) := (List.range (d + 1)).map f
        let s0 : Pst := st K4 A (.ow (R0.map rowT)) .un
        refine ⟨Rk, ?_, ?_⟩
        · refine set_ok (s1 := s0) (x := .ow (Rk.map rowT)) ?_ (by show 10 < 14; decide)
          show _ = Rs.ok (OV.ow (((List.range (d + 1)).map f).map rowT)) s0
          rw [List.map_map]
          refine lc_one (s := s0) (xs := List.range (d + 1)) (fun k => PyData.int (k : Nat)) (fun (k : Nat) => rowT (f k)) ?_ (by rw [List.length_range]; exact hlim (by omega)) (by show 11 < 14; decide) rfl fun k hk => ⟨.fr (rowT (f k)), ?_, rfl⟩
          · have e : consF (bin dAdd (var 2) (cst (.int 1))) nilF s0 = .ok [.int ((d + 1 : Nat) : Int)] s0 := rfl
            rw [bnd_ok e]; exact rng1_nat (by omega) _
          · let s1 : Pst := put 11 (.fr (.int (k : Nat))) s0
            have hk' := List.mem_range.mp hk
            have i9 : ixv 9 (cst (.int 0)) s1 = .ok (.fr (.int x)) s1 := ixv_cst (d := rowT a) rfl (by rw [ea]; exact dIx_zeroT)
            have tp : mkT (consF (ixv 9 (cst (.int 0))) (consF (bin dMul (var 11) (var 11)) (consF (var 11) nilF))) s1 = .ok (.fr (rowT [x, (k : Int) * (k : Int), (k : Int)])) s1 := mkT_ok (ds := iL [x, (k : Int) * (k : Int), (k : Int)]) (cons_ok (x := .fr (.int x)) (s1 := s1) i9 (cons_ok (x := .fr (.int ((k : Int) * (k : Int)))) (s1 := s1) (bin_ok (x := .fr (.int (k : Nat))) (y := .fr (.int (k : Nat))) (s1 := s1) rfl rfl (dMul_ii (n := 60) (m := 60) (sz_small (by omega) (by omega)) (sz_small (by omega) (by omega)) (by decide))) rfl)) (by show 3 ≤ 100000; decide)
            have p2 : part (var 2) s1 = .ok (some ((d : Nat) : Int)) s1 := rfl
            show slc _ noPart (part (var 2)) s1 = _
            unfold slc
            rw [bnd_ok tp, bnd_ok (show noPart s1 = .ok none s1 from rfl), bnd_ok p2]
            show ((R1.ok (.fr (.tuple (cutD (iL [x, (k : Int) * (k : Int), (k : Int)]) none (some ((d : Nat) : Int)))))).m s1 : Rs OV) = _
            rw [cutD_take]
            show Rs.ok (OV.fr (.tuple ((iL [x, (k : Int) * (k : Int), (k : Int)]).take d))) s1 = Rs.ok (OV.fr (.tuple (iL ([x, (k : Int) * (k : Int), (k : Int)].take d)))) s1
            unfold iL
            rw [List.map_take]
        · refine ⟨⟨by show ((List.range (d + 1)).map _).length = d + 1; rw [List.length_map, List.length_range], fun r hr => ?_⟩, ?_⟩
          · obtain ⟨k, hk, rfl⟩ := List.mem_map.mp hr
            have hk' := List.mem_range.mp hk
            refine ⟨by show (List.take d _).length = d; rw [List.length_take]; show min d 3 = d; omega, fun y hy => ?_⟩
            have hy' := List.mem_of_mem_take hy
            simp only [List.mem_cons, List.not_mem_nil, or_false] at hy'
            have kk : (k : Int) * (k : Int) ≤ 4 * 4 := Int.mul_le_mul (by omega) (by omega) (by omega) (by decide)
            have k0 : 0 ≤ (k : Int) * (k : Int) := Int.mul_nonneg (by omega) (by omega)
            rcases hy' with rfl | rfl | rfl
            · exact sx
            · exact sz_small (by omega) (by omega)
            · exact sz_small (by omega) (by omega)
          · rcases d2 with rfl | rfl
            · show detZ [[x, 0], [x, 1], [x, 4]] = 0
              rw [det2]; grind
            · show detZ [[x, 0, 0], [x, 1, 1], [x, 4, 2], [x, 9, 3]] = 0
              rw [det3]; grind
      obtain ⟨R, e, f⟩ := go
      exact ⟨R, (Pu.if_false c1).trans ((Pu.if_true c2).trans e), f⟩
    rw [decide_eq_false h2] at c2
    by_cases h3 : k4 = 3
    · rw [decide_eq_true h3] at c3
      have go : ∃ R : List (List Int), setF 10 (bin dMul (mkL (consF (var 9) nilF)) (bin dAdd (var 2) (cst (.int 1)))) (st K4 A (.ow (R0.map rowT)) .un) = .ok .nx (st K4 A (.ow (R.map rowT)) .un) ∧ Flt d R := by
        rcases d2 with rfl | rfl
        · refine ⟨[a, a, a], set_ok (s1 := st K4 A (.ow (R0.map rowT)) .un) (x := .ow [rowT a, rowT a, rowT a]) (bin_ok (x := .ow [rowT a]) (y := .fr (.int 3)) (s1 := st K4 A (.ow (R0.map rowT)) .un) rfl rfl rfl) (by show 10 < 14; decide), ⟨rfl, fun r hr => ?_⟩, ?_⟩
          · simp only [List.mem_cons, List.not_mem_nil, or_false] at hr
            rcases hr with rfl | rfl | rfl <;> exact ha
          · match a, ha.1 with
            | [x, y], _ => rw [det2]; grind
        · refine ⟨[a, a, a, a], set_ok (s1 := st K4 A (.ow (R0.map rowT)) .un) (x := .ow [rowT a, rowT a, rowT a, rowT a]) (bin_ok (x := .ow [rowT a]) (y := .fr (.int 4)) (s1 := st K4 A (.ow (R0.map rowT)) .un) rfl rfl rfl) (by show 10 < 14; decide), ⟨rfl, fun r hr => ?_⟩, ?_⟩
          · simp only [List.mem_cons, List.not_mem_nil, or_false] at hr
            rcases hr with rfl | rfl | rfl | rfl <;> exact ha
          · match a, ha.1 with
            | [x, y, z], _ => rw [det3]; grind
      obtain ⟨R, e, f⟩ := go
      exact ⟨R, (Pu.if_false c1).trans ((Pu.if_false c2).trans ((Pu.if_true c3).trans e)), f⟩
    rw [decide_eq_false h3] at c3
    exact ⟨R0, (Pu.if_false c1).trans ((Pu.if_false c2).trans (if_skip c3)), f0⟩
  obtain ⟨R, e10, fR⟩ := kinds
  rw [seq_ok e10]
  have b2 : setF 13 (un dTuple (peek 10)) (st K4 A (.ow (R.map rowT)) .un) = .ok .nx (st K4 A (.ow (R.map rowT)) (.fr (bodyD R))) := set_ok (s1 := st K4 A (.ow (R.map rowT)) .un) (x := .fr (bodyD R)) (un_ok (d := .list (R.map rowT)) rfl rfl) (by show 13 < 14; decide)
  rw [seq_ok b2, flat_end (s1 := st K4 A .un .un) d2 fR (fun q hq => by unfold var; rw [hq]) rfl]
  rfl
end K23
end SecQe
section SecQf
set_option Elab.async false
set_option linter.all false
set_option maxRecDepth 100000
set_option maxHeartbeats 1000000
namespace K23
open PySem PySem.Spec Pu
theorem deq_str {z : Str} (h : Pu.plain (.str z) = true) : dEq (.str z) (.str z) = okB true := by
  have e : PyData.eqv (.str z) (.str z) = true := by simp [PyData.eqv]
  show deepEq _ _ = _
  unfold deepEq
  rw [if_pos ⟨h, h⟩, e]
theorem gd_place : Gd 5 (.tuple [.str "place", .int (-1)]) := .tup (fun x hx => by
  simp only [List.mem_cons, List.not_mem_nil, or_false] at hx
  rcases hx with rfl | rfl
  · exact .str (deq_str (by decide +kernel))
  · exact .int _) (by show 2 ≤ 1000000; decide)
theorem gd_weights : Gd 5 (.tuple [.str "weights", .int (-1)]) := .tup (fun x hx => by
  simp only [List.mem_cons, List.not_mem_nil, or_false] at hx
  rcases hx with rfl | rfl
  · exact .str (deq_str (by decide +kernel))
  · exact .int _) (by show 2 ≤ 1000000; decide)
/-- the handler -/
theorem handler {w : Int} {B v : PyData} {t : Tps} {word : Str} {a d : Nat} (hw : (word = "place" ∧ decide (w = 3) = false) ∨ (word = "weights" ∧ decide (w = 3) = true)) :
    clr 3 ((seqF (setF 4 (bin dIx (mkL (consF (mkT (consF (cst (.str ("place" : Str))) (consF (un dNeg (dat (cst (.int 1)))) nilF))) (consF (mkT (consF (cst (.str ("weights" : Str))) (consF (un dNeg (dat (cst (.int 1)))) nilF))) nilF))) (un dInt (dat (bin dEq (var 0) (cst (.int 3)))))))
      (retF (andV (excIs 3 a d true) (quiet (callF 2 pSameL (consF (mkT (consF (excF 3 a d "word") (consF (excF 3 a d "at") nilF))) (consF (var 4) nilF))))))) ⟨[.fr (.int w), .fr B, .fr v, .fr (tokX a d [(.str "at", .int (-1)), (.str "word", .str word)]), .un], t⟩)
      = .ok (.rt (.fr (.bool true))) ⟨[.fr (.int w), .fr B, .fr v, .un, .fr (.tuple [.str word, .int (-1)])], t⟩ := by
  let K : PyData := tokX a d [(.str "at", .int (-1)), (.str "word", .str word)]
  let s0 : Pst := ⟨[.fr (.int w), .fr B, .fr v, .fr K, .un], t⟩
  let due : PyData := .tuple [.str word, .int (-1)]
  let s1 : Pst := ⟨[.fr (.int w), .fr B, .fr v, .fr K, .fr due], t⟩
  have a1 : setF 4 (bin dIx (mkL (consF (mkT (consF (cst (.str ("place" : Str))) (consF (un dNeg (dat (cst (.int 1)))) nilF))) (consF (mkT (consF (cst (.str ("weights" : Str))) (consF (un dNeg (dat (cst (.int 1)))) nilF))) nilF))) (un dInt (dat (bin dEq (var 0) (cst (.int 3)))))) s0 = .ok .nx s1 := by
    have x1 : un dInt (dat (bin dEq (var 0) (cst (.int 3)))) s0 = .ok (.fr (.int (if decide (w = 3) then 1 else 0))) s0 := rfl
    have x2 : mkL (consF (mkT (consF (cst (.str ("place" : Str))) (consF (un dNeg (dat (cst (.int 1)))) nilF))) (consF (mkT (consF (cst (.str ("weights" : Str))) (consF (un dNeg (dat (cst (.int 1)))) nilF))) nilF)) s0 = .ok (.ow [.tuple [.str "place", .int (-1)], .tuple [.str "weights", .int (-1)]]) s0 := rfl
    refine set_ok (s1 := s0) (x := .fr due) (bin_ok x2 x1 ?_) (by show 4 < 5; decide)
    rcases hw with ⟨rfl, e⟩ | ⟨rfl, e⟩ <;> (rw [e]; rfl)
  have ei : excIs 3 a d true s1 = .ok (.fr (.bool true)) s1 := by
    show (if ((a : Int) = a ∧ (d : Int) = d) then Rs.ok (OV.fr (.bool true)) s1 else .no) = _
    rw [if_pos ⟨rfl, rfl⟩]
  have ew : excF 3 a d "word" s1 = .ok (.fr (.str word)) s1 := by
    show (if ((a : Int) = a ∧ (d : Int) = d) then (match lookD "word" [(.str "at", .int (-1)), (.str "word", .str word)] with | some v => Rs.ok (OV.fr v) s1 | none => .no) else .no) = _
    rw [if_pos ⟨rfl, rfl⟩]
    rfl
  have ea : excF 3 a d "at" s1 = .ok (.fr (.int (-1))) s1 := by
    show (if ((a : Int) = a ∧ (d : Int) = d) then (match lookD "at" [(.str "at", .int (-1)), (.str "word", .str word)] with | some v => Rs.ok (OV.fr v) s1 | none => .no) else .no) = _
    rw [if_pos ⟨rfl, rfl⟩]
    rfl
  have gd : Gd 5 due := by
    rcases hw with ⟨rfl, _⟩ | ⟨rfl, _⟩
    · exact gd_place
    · exact gd_weights
  have sm : quiet (callF 2 pSameL (consF (mkT (consF (excF 3 a d "word") (consF (excF 3 a d "at") nilF))) (consF (var 4) nilF))) s1 = .ok (.fr (.bool true)) s1 := quiet_ok (same_call (v := due) (mkT_ok (cons_ok ew (cons_ok ea rfl)) (by show 2 ≤ 100000; decide)) rfl gd)
  rw [seq_ok a1, ret_ok (and_true ei sm)]
  rfl
theorem refused_of {w : Int} {B v : PyData} {t : Tps} {word : Str} (hw : (word = "place" ∧ decide (w = 3) = false) ∨ (word = "weights" ∧ decide (w = 3) = true))
    (hb : (ifF (quietT (tst (bin dEq (var 0) (cst (.int 0)))))
      (dropF (callF 2 pWeightsIn (quietA (consF (var 1) (consF (var 2) nilF)))))
      (ifF (quietT (tst (bin dEq (var 0) (cst (.int 1)))))
        (dropF (callF 2 pHolds (quietA (consF (var 1) (consF (var 2) nilF)))))
        (ifF (quietT (tst (bin dEq (var 0) (cst (.int 2)))))
          (dropF (callF 2 pCarrierIn (quietA (consF (var 1) (consF (var 2) nilF)))))
          (dropF (callF 2 pBlend (quietA (consF (var 1) (consF (var 2) nilF)))))))) ⟨[.fr (.int w), .fr B, .fr v, .un, .un], t⟩ = .err "NotUsable" (nuF word) t) : pRefusedL [.int w, B, v] t = .ok (.fr (.bool true)) t := by
  let q0 : Pst := ⟨[.fr (.int w), .fr B, .fr v, .un, .un], t⟩
  have e0 : ∀ F, fnF 5 F [.int w, B, v] t = fin (F q0) := fun _ => rfl
  unfold pRefusedL
  rw [e0]
  rw [seq_rt (s1 := ⟨[.fr (.int w), .fr B, .fr v, .un, .fr (.tuple [.str word, .int (-1)])], t⟩) (x := .fr (.bool true)) (tryF_err (kvs := [(.str "at", .int (-1)), (.str "word", .str word)]) rfl (by show 3 < 5; decide) hb List.mem_cons_self rfl fun a d => handler hw)]
  rfl
theorem e_refused0 {B : List (List Int)} {v : PyData} (k : Int) (hk : k = 0 ∨ k = 1 ∨ k = 2) (hB : 1 ≤ B.length) (hn : noTape v = true) (hl : ∀ l, v = .tuple l → l.length ≤ lim) (hv : Dt.dLow (B.length : Nat) v = false) (t : Tps) : pRefusedL [.int k, bodyD B, v] t = .ok (.fr (.bool true)) t := by
  obtain ⟨n1, n2, n3⟩ := no_place hB hn hl hv t
  rcases hk with rfl | rfl | rfl
  · exact refused_of (word := "place") (.inl ⟨rfl, rfl⟩) (drop_err (call_err (ds := [bodyD B, v]) (s1 := ⟨[.fr (.int 0), .fr (bodyD B), .fr v, .un, .un], t⟩) rfl rfl n1))
  · exact refused_of (word := "place") (.inl ⟨rfl, rfl⟩) (drop_err (call_err (ds := [bodyD B, v]) (s1 := ⟨[.fr (.int 1), .fr (bodyD B), .fr v, .un, .un], t⟩) rfl rfl n2))
  · exact refused_of (word := "place") (.inl ⟨rfl, rfl⟩) (drop_err (call_err (ds := [bodyD B, v]) (s1 := ⟨[.fr (.int 2), .fr (bodyD B), .fr v, .un, .un], t⟩) rfl rfl n3))
theorem e_refused3 {B : List (List Int)} {v : PyData} (hn : noTape v = true) (hl : ∀ l, v = .tuple l → l.length ≤ lim) (hv : areB ((B.length : Nat) + 1) v = false) (t : Tps) : pRefusedL [.int 3, bodyD B, v] t = .ok (.fr (.bool true)) t :=
  refused_of (word := "weights") (.inr ⟨rfl, rfl⟩) (drop_err (call_err (ds := [bodyD B, v]) (s1 := ⟨[.fr (.int 3), .fr (bodyD B), .fr v, .un, .un], t⟩) rfl rfl (no_weights hn hl hv t)))
end K23
end SecQf
section SecQg
set_option Elab.async false
set_option linter.all false
set_option maxRecDepth 100000
set_option maxHeartbeats 1000000
namespace K23
open PySem PySem.Spec Pu
theorem dLow_eq (n : Nat) (xs : List Int) : Dt.dLow (n : Nat) (rowT xs) = (decide (xs.length = n) && Dt.lowB xs) := by
  unfold Dt.dLow
  have h1 : Dt.dRow (n : Nat) (rowT xs) = decide (xs.length = n) := by
    show (decide (((iL xs).length : Int) = (n : Nat)) && (iL xs).all Dt.dInt) = _
    have e : (iL xs).length = xs.length := List.length_map _
    have a : (iL xs).all Dt.dInt = true := by
      unfold iL
      rw [List.all_map, List.all_eq_true]
      intro x _; rfl
    rw [e, a, Bool.and_true]
    exact decide_eq_decide.mpr ⟨fun z => by omega, fun z => by omega⟩
  rw [h1]
  show (_ && Dt.lowB (Dt.intsOf (xs.map PyData.int))) = _
  rw [Dt.intsOf_map]
theorem lowB_last {xs : List Int} {c : Int} (h : c < 1) : Dt.lowB (xs ++ [c]) = false := by
  unfold Dt.lowB
  have hlast : (xs ++ [c]).getLastD 0 = c := by simp
  rw [hlast, decide_eq_false (by omega), Bool.false_and]
theorem lowB_gcd {xs : List Int} (h : gN xs ≠ 1) : Dt.lowB xs = false := by
  unfold Dt.lowB
  rw [gcdL_eq, decide_eq_false (p := ((gN xs : Nat) : Int) = 1) (by omega), Bool.and_false]
/-- refused as a place -/
structure Bad (n : Nat) (v : PyData) : Prop where
  nt : noTape v = true
  ln : ∀ l, v = .tuple l → l.length ≤ lim
  no : Dt.dLow (n : Nat) v = false
/-- refused as weights -/
structure BadW (n : Nat) (v : PyData) : Prop where
  nt : noTape v = true
  ln : ∀ l, v = .tuple l → l.length ≤ lim
  no : areB (n : Nat) v = false
theorem bad_row {n : Nat} {xs : List Int} (hl : xs.length ≤ 12) (h : xs.length ≠ n ∨ Dt.lowB xs = false) : Bad n (rowT xs) := by
  refine ⟨nt_row, fun l e => row_lim e hl, ?_⟩
  rw [dLow_eq]
  rcases h with h | h
  · rw [decide_eq_false h, Bool.false_and]
  · rw [h, Bool.and_false]
theorem bad_tup {n : Nat} {l : List PyData} (hn : noTapes l = true) (hl : l.length ≤ 12) (h : l.all Dt.dInt = false) : Bad n (.tuple l) := by
  refine ⟨hn, fun l' e => by cases e; exact Nat.le_trans hl (by decide), ?_⟩
  unfold Dt.dLow
  have : Dt.dRow (n : Nat) (.tuple l) = false := by
    show (decide ((l.length : Int) = (n : Nat)) && l.all Dt.dInt) = false
    rw [h, Bool.and_false]
  rw [this, Bool.false_and]
theorem bad_other {n : Nat} {v : PyData} (h : noTape v = true) (hv : ∀ l, v ≠ .tuple l) : Bad n v := by
  refine ⟨h, fun l e => (hv l e).elim, ?_⟩
  cases v <;> first | rfl | exact (hv _ rfl).elim
theorem Bad.w {n : Nat} {v : PyData} (h : Bad n v) : BadW n v := ⟨h.nt, h.ln, by unfold areB; rw [h.no, Bool.false_and]⟩
theorem nt_rows : ∀ {R : List (List Int)}, noTapes (R.map rowT) = true
  | [] => rfl
  | r :: R => by
    show (noTape (rowT r) && noTapes (R.map rowT)) = true
    rw [nt_row, nt_rows]; rfl
theorem bad_body {n : Nat} {B : List (List Int)} (h : B ≠ []) (hl : B.length ≤ 12) : Bad n (bodyD B) := by
  refine bad_tup nt_rows (by rw [List.length_map]; exact hl) ?_
  cases B with
  | nil => exact (h rfl).elim
  | cons r R => rfl
/-- the odd places, the odd weights -/
def odd1 (z : List Int) (B : List (List Int)) (ps : List Int) (b : Int) : List PyData :=
  [.none, .list (iL (ps ++ [b])), rowT ps, rowT (ps ++ [b] ++ [1]), rowT ([4] ++ z.drop 1 ++ [2]), rowT (ps ++ [0]), .str "0", .tuple (iL z ++ [.bool true])] ++ [rowT ((ps ++ [b]).map fun x => 0 - x), .tuple ([.bool true] ++ iL (z.drop 1) ++ [.int 1]), .tuple [], rowT (z ++ [3]), .tuple (iL z ++ [.none]), bodyD B]
def odd2 (z : List Int) (ps : List Int) (b : Int) (ws : List Int) (L : Int) : List PyData :=
  [.none, .list (iL (ws ++ [L])), rowT ws, rowT (ws ++ [L] ++ [1]), rowT ((ws ++ [L]).map fun x => 2 * x), .str "1", rowT (ps ++ [b])] ++ [rowT ((ws ++ [L]).map fun x => 0 - x), .tuple ([.bool true] ++ iL z ++ [.int 1]), .tuple ([.int 1] ++ iL z ++ [.bool true]), rowT (z ++ [0, 0])] ++ [rowT ([1] ++ z.drop 1 ++ [-1, 0]), rowT (ws ++ [L + 1])]
theorem odd1_bad {d : Nat} {B : List (List Int)} {ps : List Int} {b : Int} (d2 : d = 2 ∨ d = 3) (hB : B.length = d + 1) (p : Pl d ps b) : ∀ v ∈ odd1 (List.replicate d 0) B ps b, Bad (d + 1) v := by
  have hp := p.len
  have b1 := p.b1
  intro v hv
  simp only [odd1, List.cons_append, List.nil_append, List.mem_cons, List.not_mem_nil, or_false] at hv
  rcases hv with rfl | rfl | rfl | rfl | rfl | rfl | rfl | rfl | rfl | rfl | rfl | rfl | rfl | rfl
  · exact bad_other rfl fun l e => by cases e
  · exact bad_other (plain_row (xs := ps ++ [b])).1 fun l e => by cases e
  · exact bad_row (by omega) (.inl (by omega))
  · exact bad_row (by simp; omega) (.inl (by simp; omega))
  · rcases d2 with rfl | rfl
    · exact bad_row (by decide) (.inr (by decide +kernel))
    · exact bad_row (by decide) (.inr (by decide +kernel))
  · exact bad_row (by simp; omega) (.inr (lowB_last (by decide)))
  · exact bad_other rfl fun l e => by cases e
  · rcases d2 with rfl | rfl <;> exact bad_tup rfl (by decide) rfl
  · refine bad_row (by simp; omega) (.inr ?_)
    rw [List.map_append]
    exact lowB_last (c := 0 - b) (by omega)
  · rcases d2 with rfl | rfl <;> exact bad_tup rfl (by decide) rfl
  · exact bad_row (xs := []) (by decide) (.inl (by show 0 ≠ d + 1; omega))
  · rcases d2 with rfl | rfl
    · exact bad_row (by decide) (.inr (by decide +kernel))
    · exact bad_row (by decide) (.inr (by decide +kernel))
  · rcases d2 with rfl | rfl <;> exact bad_tup rfl (by decide) rfl
  · exact bad_body (fun z => by rw [z] at hB; simp at hB) (by omega)
theorem odd2_bad {d : Nat} {ps : List Int} {b : Int} {ws : List Int} {L : Int} (d2 : d = 2 ∨ d = 3) (p : Pl d ps b) (w : Wt d ws L) : ∀ v ∈ odd2 (List.replicate d 0) ps b ws L, BadW (d + 2) v := by
  have hp := p.len
  have hw := w.len
  have L1 := w.L1
  intro v hv
  simp only [odd2, List.cons_append, List.nil_append, List.append_assoc, List.mem_cons, List.not_mem_nil, or_false] at hv
  rcases hv with rfl | rfl | rfl | rfl | rfl | rfl | rfl | rfl | rfl | rfl | rfl | rfl | rfl
  · exact (bad_other rfl fun l e => by cases e).w
  · exact (bad_other (v := .list (iL (ws ++ [L]))) (plain_row (xs := ws ++ [L])).1 fun l e => by cases e).w
  · exact (bad_row (by omega) (.inl (by omega))).w
  · exact (bad_row (by simp; omega) (.inl (by simp; omega))).w
  · refine (bad_row (by simp; omega) (.inr (lowB_gcd ?_))).w
    rw [gN_mul, w.g]
    decide
  · exact (bad_other rfl fun l e => by cases e).w
  · exact (bad_row (by simp; omega) (.inl (by simp; omega))).w
  · refine (bad_row (by simp; omega) (.inr ?_)).w
    rw [List.map_append]
    exact lowB_last (c := 0 - L) (by omega)
  · rcases d2 with rfl | rfl <;> exact (bad_tup rfl (by decide) rfl).w
  · rcases d2 with rfl | rfl <;> exact (bad_tup rfl (by decide) rfl).w
  · rcases d2 with rfl | rfl
    · exact (bad_row (xs := [0, 0] ++ [0] ++ [0]) (by decide) (.inr (lowB_last (by decide)))).w
    · exact (bad_row (xs := [0, 0, 0] ++ [0] ++ [0]) (by decide) (.inr (lowB_last (by decide)))).w
  · rcases d2 with rfl | rfl
    · exact (bad_row (xs := [1, 0] ++ [-1] ++ [0]) (by decide) (.inr (lowB_last (by decide)))).w
    · exact (bad_row (xs := [1, 0, 0] ++ [-1] ++ [0]) (by decide) (.inr (lowB_last (by decide)))).w
  · refine ⟨nt_row, fun l e => row_lim e (by simp; omega), ?_⟩
    unfold areB
    have e : sumLast (Dt.intsOf ((ws ++ [L + 1]).map PyData.int)) = false := by
      rw [Dt.intsOf_map]
      unfold sumLast
      rw [List.dropLast_concat]
      have hs := w.sum
      simp
      omega
    show (_ && sumLast (Dt.intsOf ((ws ++ [L + 1]).map PyData.int))) = false
    rw [e, Bool.and_false]
end K23
end SecQg
section SecQh
set_option Elab.async false
set_option linter.all false
set_option maxRecDepth 100000
set_option maxHeartbeats 1000000
namespace K23
open PySem PySem.Spec Pu
theorem at_mod {l : List PyData} {n : Nat} (hl : l.length = n) (h0 : 0 < n) {k : Int} : ∃ v, dIx (.list l) (.int (k % (n : Nat))) = .ok (.fr v) ∧ v ∈ l := by
  have h1 : 0 ≤ k % (n : Int) := Int.emod_nonneg _ (by omega)
  have h2 : k % (n : Int) < n := Int.emod_lt_of_pos _ (by omega)
  obtain ⟨j, hj⟩ : ∃ j : Nat, k % (n : Int) = (j : Int) := ⟨(k % (n : Int)).toNat, by omega⟩
  have jl : j < l.length := by omega
  refine ⟨l[j], ?_, List.getElem_mem jl⟩
  have e : L2.atI l (j : Nat) = some l[j] := L2.atI_nat (List.getElem?_eq_getElem jl)
  rw [hj]
  show (match L2.atI l (j : Nat) with | some d => R1.ok (.fr d) | none => .no) = _
  rw [e]
theorem radd {xs ys : List Int} (h : xs.length + ys.length ≤ 14) : dAdd (rowT xs) (rowT ys) = .ok (.fr (rowT (xs ++ ys))) := by
  have l1 : (iL xs).length = xs.length := List.length_map _
  have l2 : (iL ys).length = ys.length := List.length_map _
  show dAdd (.tuple (iL xs)) (.tuple (iL ys)) = _
  rw [tadd (by rw [l1, l2]; exact Nat.le_trans h (by decide))]
  show R1.ok (.fr (.tuple _)) = R1.ok (.fr (.tuple (iL (xs ++ ys))))
  unfold iL
  rw [List.map_append]
theorem slc_tail {i : Nat} {s : Pst} {xs : List Int} (h : sl s i = .fr (rowT xs)) : slcv i (part (cst (.int 1))) noPart s = .ok (.fr (rowT (xs.drop 1))) s := by
  have z := slc_ok (i := i) (s := s) (l := iL xs) (Fl := part (cst (.int 1))) (Fh := noPart) (a := some ((1 : Nat) : Int)) (b := none) h rfl rfl
  rw [cutD_drop] at z
  rw [z]
  show Rs.ok (OV.fr (.tuple ((iL xs).drop 1))) s = Rs.ok (OV.fr (.tuple (iL (xs.drop 1)))) s
  unfold iL
  rw [List.map_drop]
theorem negs {i : Nat} {s : Pst} {xs : List Int} (h : var i s = .ok (.fr (rowT xs)) s) (hl : xs.length ≤ 14) (hn : 7 < s.v.length) (ho : backSl (sl s 7) = sl s 7) : un dTuple (dat (lcF [7] (nmA 7) (itF (var i)) yesT (bin dSub (cst (.int 0)) (var 7)))) s = .ok (.fr (rowT (xs.map fun x => 0 - x))) s := by
  refine un_ok (d := .list (iL (xs.map fun x => 0 - x))) (dat_ok (x := .ow (iL (xs.map fun x => 0 - x))) ?_) rfl
  rw [rowsMap]
  refine lc_one (s := s) (xs := xs) PyData.int (fun x => .int (0 - x)) (it_ok h rfl) (Nat.le_trans hl (by decide)) hn ho fun x _ => ⟨.fr (.int (0 - x)), ?_, rfl⟩
  have e : var 7 (put 7 (.fr (.int x)) s) = .ok (.fr (.int x)) (put 7 (.fr (.int x)) s) := by unfold var; rw [sl_put hn, if_pos rfl]
  exact bin_ok (x := .fr (.int 0)) (y := .fr (.int x)) rfl e rfl
theorem twos {i : Nat} {s : Pst} {xs : List Int} (h : var i s = .ok (.fr (rowT xs)) s) (sx : AllSz 700 xs) (hl : xs.length ≤ 14) (hn : 7 < s.v.length) (ho : backSl (sl s 7) = sl s 7) : un dTuple (dat (lcF [7] (nmA 7) (itF (var i)) yesT (bin dMul (cst (.int 2)) (var 7)))) s = .ok (.fr (rowT (xs.map fun x => 2 * x))) s := by
  refine un_ok (d := .list (iL (xs.map fun x => 2 * x))) (dat_ok (x := .ow (iL (xs.map fun x => 2 * x))) ?_) rfl
  rw [rowsMap]
  refine lc_one (s := s) (xs := xs) PyData.int (fun x => .int (2 * x)) (it_ok h rfl) (Nat.le_trans hl (by decide)) hn ho fun x hx => ⟨.fr (.int (2 * x)), ?_, rfl⟩
  have e : var 7 (put 7 (.fr (.int x)) s) = .ok (.fr (.int x)) (put 7 (.fr (.int x)) s) := by unfold var; rw [sl_put hn, if_pos rfl]
  exact bin_ok (x := .fr (.int 2)) (y := .fr (.int x)) rfl e (dMul_ii (sz_lit (by decide)) (sx x hx) (by decide))
theorem mk_lit (l : List Int) : mkT (l.foldr (fun i F => consF (cst (.int i)) F) nilF) = fun s => (fit l.length (.ok (.fr (rowT l)))).m s := by
  funext s
  have e : ∀ l : List Int, l.foldr (fun i F => consF (cst (.int i)) F) nilF s = .ok (iL l) s := by
    intro l
    induction l with
    | nil => rfl
    | cons i l ih => exact cons_ok (x := .fr (.int i)) rfl ih
  unfold mkT
  rw [bnd_ok (e l)]
  show (fit (iL l).length (.ok (.fr (.tuple (iL l))))).m s = _
  rw [show (iL l).length = l.length from List.length_map _]
  rfl
theorem e_badHoldsL {B : List (List Int)} {d : Nat} {ps : List Int} {b : Int} {ws : List Int} {L : Int} {k : Int} (hB : Body B d) (p : Pl d ps b) (w : Wt d ws L) (t : Tps) :
    pBadHoldsL [bodyD B, rowT (ps ++ [b]), rowT (ws ++ [L]), .int k] t = .ok (.fr (.bool true)) t := by
  have hlim : ∀ {k : Nat}, k ≤ 14 → k ≤ lim := fun h => Nat.le_trans h (by decide)
  have d2 := hB.bd.slo.d2
  have bl := hB.bd.slo.blen
  let P : PyData := rowT (ps ++ [b])
  let W : PyData := rowT (ws ++ [L])
  let D : PyData := .int (d : Nat)
  let Z : List Int := List.replicate d 0
  let st : Sl → Sl → Sl → Sl → Pst := fun d5 zz od wh => ⟨[.fr (bodyD B), .fr P, .fr W, .fr (.int k), d5, zz, od, .un, wh], t⟩
  let q0 : Pst := st .un .un .un .un
  have e0 : ∀ F, fnF 9 F [bodyD B, rowT (ps ++ [b]), rowT (ws ++ [L]), .int k] t = fin (F q0) := fun _ => rfl
  have lb : dLen (bodyD B) = .ok (.fr (.int ((d + 1 : Nat) : Int))) := by rw [len_body, bl]; rfl
  have a1 : setF 4 (bin dSub (un dLen (peek 0)) (cst (.int 1))) q0 = .ok .nx (st (.fr D) .un .un .un) := by
    refine set_ok (s1 := q0) (x := .fr D) (bin_ok (x := .fr (.int ((d + 1 : Nat) : Int))) (y := .fr (.int 1)) (s1 := q0) (un_ok (d := bodyD B) rfl lb) rfl ?_) (by show 4 < 9; decide)
    show okI _ = _
    rw [show ((d + 1 : Nat) : Int) - 1 = (d : Nat) by omega]; rfl
  have a2 : setF 5 (bin dMul (mkT (consF (cst (.int 0)) nilF)) (var 4)) (st (.fr D) .un .un .un) = .ok .nx (st (.fr D) (.fr (rowT Z)) .un .un) := by
    refine set_ok (s1 := st (.fr D) .un .un .un) (x := .fr (rowT Z)) (bin_ok (x := .fr (rowT [0])) (y := .fr D) (s1 := st (.fr D) .un .un .un) rfl rfl ?_) (by show 5 < 9; decide)
    show dMul (.tuple (iL [0])) (.int (d : Nat)) = R1.ok (.fr (.tuple (iL (List.replicate d 0))))
    rcases d2 with rfl | rfl <;> rfl
  unfold pBadHoldsL
  rw [e0, seq_ok a1, seq_ok a2]
  let s1 : Pst := st (.fr D) (.fr (rowT Z)) .un .un
  have lZ : Z.length = d := List.length_replicate
  have lP : (ps ++ [b]).length = d + 1 := by rw [List.length_append, p.len]; rfl
  have lW : (ws ++ [L]).length = d + 2 := by rw [List.length_append, w.len]; rfl
  have lit1 : ∀ (i : Int) (s : Pst), mkT (consF (cst (.int i)) nilF) s = .ok (.fr (rowT [i])) s := fun _ _ => rfl
  have x1 : bin dAdd (var 1) (mkT (consF (cst (.int 1)) nilF)) s1 = .ok (.fr (rowT (ps ++ [b] ++ [1]))) s1 := bin_ok (x := .fr P) (y := .fr (rowT [1])) (s1 := s1) rfl (lit1 1 s1) (radd (by rw [lP]; show d + 1 + 1 ≤ 14; omega))
  have x2 : bin dAdd (bin dAdd (mkT (consF (cst (.int 4)) nilF)) (slcv 5 (part (cst (.int 1))) noPart)) (mkT (consF (cst (.int 2)) nilF)) s1 = .ok (.fr (rowT ([4] ++ Z.drop 1 ++ [2]))) s1 := bin_ok (bin_ok (lit1 4 s1) (slc_tail (i := 5) (s := s1) (xs := Z) rfl) (radd (by rw [List.length_drop, lZ]; show 1 + (d - 1) ≤ 14; omega))) (lit1 2 s1) (radd (by rw [List.length_append, List.length_drop, lZ]; show 1 + (d - 1) + 1 ≤ 14; omega))
  have x3 : bin dAdd (slcv 1 noPart (part (un dNeg (dat (cst (.int 1)))))) (mkT (consF (cst (.int 0)) nilF)) s1 = .ok (.fr (rowT (ps ++ [0]))) s1 := bin_ok (slc_init (i := 1) (s := s1) (xs := ps) (b := b) rfl) (lit1 0 s1) (radd (by rw [p.len]; show d + 1 ≤ 14; omega))
  let O1a : List PyData := [.none, .list (iL (ps ++ [b])), rowT ps, rowT (ps ++ [b] ++ [1]), rowT ([4] ++ Z.drop 1 ++ [2]), rowT (ps ++ [0]), .str "0"]
  have a3 := set_ok (i := 6) (s := s1) (s1 := s1) (x := .ow O1a) (mkL_ok (ds := O1a) (cons_ok (x := .fr .none) (Fa := cst .none) rfl (cons_ok (x := .ow (iL (ps ++ [b]))) (Fa := un dList (peek 1)) rfl (cons_ok (slc_init (i := 1) (s := s1) (xs := ps) (b := b) rfl) (cons_ok x1 (cons_ok x2 (cons_ok x3 (cons_ok (x := .fr (.str "0")) (Fa := cst (.str ("0" : Str))) rfl (show nilF s1 = .ok [] s1 from rfl)))))))) (by show 7 ≤ 100000; decide)) (by show 6 < 9; decide)
  rw [seq_ok a3]
  let s2 : Pst := st (.fr D) (.fr (rowT Z)) (.ow O1a) .un
  have lZd : ∀ l : List PyData, l.length ≤ 3 → (iL Z).length + l.length ≤ lim := fun l h => by
    have e : (iL Z).length = Z.length := List.length_map _
    rw [e, lZ]; exact hlim (by omega)
  have y1 : bin dAdd (var 5) (mkT (consF (cst (.bool true)) nilF)) s2 = .ok (.fr (.tuple (iL Z ++ [.bool true]))) s2 := bin_ok (x := .fr (rowT Z)) (y := .fr (.tuple [.bool true])) (s1 := s2) rfl rfl (tadd (lZd [.bool true] (by show 1 ≤ 3; decide)))
  let s3 : Pst := st (.fr D) (.fr (rowT Z)) (.ow (O1a ++ [.tuple (iL Z ++ [.bool true])])) .un
  have a4 : appF 6 (bin dAdd (var 5) (mkT (consF (cst (.bool true)) nilF))) s2 = .ok .nx s3 := app_ok (i := 6) (s := s2) (s1 := s2) (l := O1a) (l1 := O1a) (x := .fr (.tuple (iL Z ++ [.bool true]))) rfl y1 rfl (by show 8 ≤ lim; decide)
  refine (congrArg fin (seq_ok (s1 := s3) a4)).trans ?_
  let O1 : List PyData := odd1 Z B ps b
  let s4 : Pst := st (.fr D) (.fr (rowT Z)) (.fr (.list (O1a ++ [.tuple (iL Z ++ [.bool true])]))) .un
  let s5 : Pst := st (.fr D) (.fr (rowT Z)) (.ow O1) .un
  have z1 := negs (i := 1) (s := s4) (xs := ps ++ [b]) rfl (by omega) (by show 7 < 9; decide) rfl
  have z2 : bin dAdd (bin dAdd (mkT (consF (cst (.bool true)) nilF)) (slcv 5 (part (cst (.int 1))) noPart)) (mkT (consF (cst (.int 1)) nilF)) s4 = .ok (.fr (.tuple ([.bool true] ++ iL (Z.drop 1) ++ [.int 1]))) s4 := by
    have l1 : (iL (Z.drop 1)).length = d - 1 := by unfold iL; rw [List.length_map, List.length_drop, lZ]
    exact bin_ok (bin_ok (x := .fr (.tuple [.bool true])) (y := .fr (rowT (Z.drop 1))) (s1 := s4) rfl (slc_tail (i := 5) (s := s4) (xs := Z) rfl) (tadd (a := [.bool true]) (by rw [l1]; exact hlim (show 1 + (d - 1) ≤ 14 by omega)))) (lit1 1 s4) (tadd (b := [.int 1]) (by rw [List.length_append, l1]; exact hlim (show 1 + (d - 1) + 1 ≤ 14 by omega)))
  have z3 : bin dAdd (var 5) (mkT (consF (cst (.int 3)) nilF)) s4 = .ok (.fr (rowT (Z ++ [3]))) s4 := bin_ok (x := .fr (rowT Z)) (y := .fr (rowT [3])) (s1 := s4) rfl (lit1 3 s4) (radd (by rw [lZ]; show d + 1 ≤ 14; omega))
  have z4 : bin dAdd (var 5) (mkT (consF (cst .none) nilF)) s4 = .ok (.fr (.tuple (iL Z ++ [.none]))) s4 := bin_ok (x := .fr (rowT Z)) (y := .fr (.tuple [.none])) (s1 := s4) rfl rfl (tadd (lZd [.none] (by show 1 ≤ 3; decide)))
  let O1b : List PyData := [rowT ((ps ++ [b]).map fun x => 0 - x), .tuple ([.bool true] ++ iL (Z.drop 1) ++ [.int 1]), .tuple [], rowT (Z ++ [3]), .tuple (iL Z ++ [.none]), bodyD B]
  have mk2 := mkL_ok (ds := O1b) (s := s4) (s1 := s4) (cons_ok z1 (cons_ok z2 (cons_ok (x := .fr (.tuple [])) (Fa := mkT nilF) rfl (cons_ok z3 (cons_ok z4 (cons_ok (x := .fr (bodyD B)) (Fa := var 0) rfl (show nilF s4 = .ok [] s4 from rfl))))))) (by show 6 ≤ 100000; decide)
  have a5 := set_ok (i := 6) (s := s3) (s1 := s4) (x := .ow O1) (bin_ok (Fa := var 6) (g := dAdd) (x := .fr (.list (O1a ++ [.tuple (iL Z ++ [.bool true])]))) (y := .ow O1b) (z := .ow O1) rfl mk2 (by
    show fit _ _ = _
    unfold fit
    rw [if_pos (by show 8 + 6 ≤ 100000; decide)]
    rfl)) (by show 6 < 9; decide)
  refine (congrArg fin (seq_ok (s1 := s5) a5)).trans ?_
  have bad1 := odd1_bad d2 bl p
  have hB1 : 1 ≤ B.length := by omega
  have turn : ∀ (j : Nat) (wh : Sl), j < 3 → ifF (notT (tru (dat (callF 3 pRefusedL (consF (var 8) (consF (var 0) (consF (ixv 6 (bin dMod (un dInt (dat (bin dAdd (var 3) (var 8)))) (un dLen (peek 6)))) nilF))))))) (retF (cst (.bool false))) (pur .nx) (st (.fr D) (.fr (rowT Z)) (.ow O1) (.fr (.int (j : Nat)))) = .ok .nx (st (.fr D) (.fr (rowT Z)) (.ow O1) (.fr (.int (j : Nat)))) := by
    intro j wh hj
    let s : Pst := st (.fr D) (.fr (rowT Z)) (.ow O1) (.fr (.int (j : Nat)))
    obtain ⟨v, ev, mv⟩ := at_mod (l := O1) (n := 14) rfl (by decide) (k := k + (j : Int))
    have bv := bad1 v mv
    have ix : ixv 6 (bin dMod (un dInt (dat (bin dAdd (var 3) (var 8)))) (un dLen (peek 6))) s = .ok (.fr v) s := ixv_ow (l := O1) (y := .fr (.int ((k + (j : Int)) % (14 : Nat)))) rfl (bin_ok (x := .fr (.int (k + (j : Int)))) (y := .fr (.int (14 : Nat))) (s1 := s) rfl rfl (dMod_pos (by decide))) rfl ev
    have rf := e_refused0 (B := B) (v := v) (j : Int) (by omega) hB1 bv.nt bv.ln (by rw [bl]; exact bv.no) t
    exact if_skip (not_tru (call_eq (s1 := s) (ds := [.int (j : Nat), bodyD B, v]) (cons_ok (x := .fr (.int (j : Nat))) rfl (cons_ok (x := .fr (bodyD B)) rfl (cons_ok ix rfl))) rfl rf))
  let s6 : Pst := st (.fr D) (.fr (rowT Z)) (.ow O1) (.fr (.int (2 : Nat)))
  refine (congrArg fin (seq_ok (s1 := s6) ?_)).trans ?_
  · have r3 : (bnd (consF (cst (.int 3)) nilF) rng1) s5 = .ok [.int (0 : Nat), .int (1 : Nat), .int (2 : Nat)] s5 := rng1_nat (n := 3) (by decide) s5
    exact for_go r3 (go_next rfl (turn 0 .un (by decide)) (go_next rfl (turn 1 .un (by decide)) (go_next rfl (turn 2 .un (by decide)) rfl)))
  -- the odd weights
  let wh : Sl := .fr (.int (2 : Nat))
  let F1 : Pst := s6
  have sW : AllSz 700 (ws ++ [L]) := fun x hx => sz_le (w.sz x hx) (by decide)
  let Q1 : List PyData := [.none, .list (iL (ws ++ [L])), rowT ws, rowT (ws ++ [L] ++ [1]), rowT ((ws ++ [L]).map fun x => 2 * x), .str "1", rowT (ps ++ [b])]
  have u1 : bin dAdd (var 2) (mkT (consF (cst (.int 1)) nilF)) s6 = .ok (.fr (rowT (ws ++ [L] ++ [1]))) s6 := bin_ok (x := .fr W) (y := .fr (rowT [1])) (s1 := s6) rfl (lit1 1 s6) (radd (by rw [lW]; show d + 2 + 1 ≤ 14; omega))
  have u2 := twos (i := 2) (s := s6) (xs := ws ++ [L]) rfl sW (by omega) (by show 7 < 9; decide) rfl
  have a7 := set_ok (i := 6) (s := s6) (s1 := s6) (x := .ow Q1) (mkL_ok (ds := Q1) (cons_ok (x := .fr .none) (Fa := cst .none) rfl (cons_ok (x := .ow (iL (ws ++ [L]))) (Fa := un dList (peek 2)) rfl (cons_ok (slc_init (i := 2) (s := s6) (xs := ws) (b := L) rfl) (cons_ok u1 (cons_ok u2 (cons_ok (x := .fr (.str "1")) (Fa := cst (.str ("1" : Str))) rfl (cons_ok (x := .fr P) (Fa := var 1) rfl (show nilF s6 = .ok [] s6 from rfl)))))))) (by show 7 ≤ 100000; decide)) (by show 6 < 9; decide)
  let s7 : Pst := st (.fr D) (.fr (rowT Z)) (.ow Q1) wh
  refine (congrArg fin (seq_ok (s1 := s7) a7)).trans ?_
  let s8 : Pst := st (.fr D) (.fr (rowT Z)) (.fr (.list Q1)) wh
  have g1 := negs (i := 2) (s := s8) (xs := ws ++ [L]) rfl (by omega) (by show 7 < 9; decide) rfl
  have lZZ : (iL Z).length = d := by unfold iL; rw [List.length_map, lZ]
  have g2 : bin dAdd (bin dAdd (mkT (consF (cst (.bool true)) nilF)) (var 5)) (mkT (consF (cst (.int 1)) nilF)) s8 = .ok (.fr (.tuple ([.bool true] ++ iL Z ++ [.int 1]))) s8 :=
    bin_ok (bin_ok (x := .fr (.tuple [.bool true])) (y := .fr (rowT Z)) (s1 := s8) rfl rfl (tadd (a := [.bool true]) (by rw [lZZ]; exact hlim (show 1 + d ≤ 14 by omega)))) (lit1 1 s8) (tadd (b := [.int 1]) (by rw [List.length_append, lZZ]; exact hlim (show 1 + d + 1 ≤ 14 by omega)))
  have g3 : bin dAdd (bin dAdd (mkT (consF (cst (.int 1)) nilF)) (var 5)) (mkT (consF (cst (.bool true)) nilF)) s8 = .ok (.fr (.tuple ([.int 1] ++ iL Z ++ [.bool true]))) s8 :=
    bin_ok (bin_ok (x := .fr (.tuple [.int 1])) (y := .fr (rowT Z)) (s1 := s8) rfl rfl (tadd (a := [.int 1]) (by rw [lZZ]; exact hlim (show 1 + d ≤ 14 by omega)))) (y := .fr (.tuple [.bool true])) rfl (tadd (b := [.bool true]) (by rw [List.length_append, lZZ]; exact hlim (show 1 + d + 1 ≤ 14 by omega)))
  have g4 : bin dAdd (var 5) (mkT (consF (cst (.int 0)) (consF (cst (.int 0)) nilF))) s8 = .ok (.fr (rowT (Z ++ [0, 0]))) s8 := bin_ok (x := .fr (rowT Z)) (y := .fr (rowT [0, 0])) (s1 := s8) rfl rfl (radd (by rw [lZ]; show d + 2 ≤ 14; omega))
  let Q2 : List PyData := [rowT ((ws ++ [L]).map fun x => 0 - x), .tuple ([.bool true] ++ iL Z ++ [.int 1]), .tuple ([.int 1] ++ iL Z ++ [.bool true]), rowT (Z ++ [0, 0])]
  have mk3 := mkL_ok (ds := Q2) (s := s8) (s1 := s8) (cons_ok g1 (cons_ok g2 (cons_ok g3 (cons_ok g4 (show nilF s8 = .ok [] s8 from rfl))))) (by show 4 ≤ 100000; decide)
  have a8 := set_ok (i := 6) (s := s7) (s1 := s8) (x := .ow (Q1 ++ Q2)) (bin_ok (Fa := var 6) (g := dAdd) (x := .fr (.list Q1)) (y := .ow Q2) (z := .ow (Q1 ++ Q2)) rfl mk3 (by
    show fit _ _ = _
    unfold fit
    rw [if_pos (by show 7 + 4 ≤ 100000; decide)])) (by show 6 < 9; decide)
  let s9 : Pst := st (.fr D) (.fr (rowT Z)) (.ow (Q1 ++ Q2)) wh
  refine (congrArg fin (seq_ok (s1 := s9) a8)).trans ?_
  have h1 : bin dAdd (bin dAdd (mkT (consF (cst (.int 1)) nilF)) (slcv 5 (part (cst (.int 1))) noPart)) (mkT (consF (un dNeg (dat (cst (.int 1)))) (consF (cst (.int 0)) nilF))) s9 = .ok (.fr (rowT ([1] ++ Z.drop 1 ++ [-1, 0]))) s9 := bin_ok (bin_ok (lit1 1 s9) (slc_tail (i := 5) (s := s9) (xs := Z) rfl) (radd (by rw [List.length_drop, lZ]; show 1 + (d - 1) ≤ 14; omega))) (y := .fr (rowT [-1, 0])) rfl (radd (by rw [List.length_append, List.length_drop, lZ]; show 1 + (d - 1) + 2 ≤ 14; omega))
  let Q3 : List PyData := Q1 ++ Q2 ++ [rowT ([1] ++ Z.drop 1 ++ [-1, 0])]
  let s10 : Pst := st (.fr D) (.fr (rowT Z)) (.ow Q3) wh
  have a9 := app_ok (i := 6) (s := s9) (s1 := s9) (l := Q1 ++ Q2) (l1 := Q1 ++ Q2) (x := .fr (rowT ([1] ++ Z.drop 1 ++ [-1, 0]))) rfl h1 rfl (by show 12 ≤ 100000; decide)
  refine (congrArg fin (seq_ok (s1 := s10) a9)).trans ?_
  have hL1 : mkT (consF (bin dAdd (ixv 2 (un dNeg (dat (cst (.int 1))))) (cst (.int 1))) nilF) s10 = .ok (.fr (rowT [L + 1])) s10 := mkT_ok (ds := iL [L + 1]) (cons_ok (x := .fr (.int (L + 1))) (bin_ok (x := .fr (.int L)) (y := .fr (.int 1)) (s1 := s10) (ixv_cstN (d := W) rfl dIx_last) rfl rfl) rfl) (by show 1 ≤ 100000; decide)
  have h2 : bin dAdd (slcv 2 noPart (part (un dNeg (dat (cst (.int 1)))))) (mkT (consF (bin dAdd (ixv 2 (un dNeg (dat (cst (.int 1))))) (cst (.int 1))) nilF)) s10 = .ok (.fr (rowT (ws ++ [L + 1]))) s10 := bin_ok (slc_init (i := 2) (s := s10) (xs := ws) (b := L) rfl) hL1 (radd (by rw [w.len]; show d + 1 + 1 ≤ 14; omega))
  let O2 : List PyData := odd2 Z ps b ws L
  let s11 : Pst := st (.fr D) (.fr (rowT Z)) (.ow O2) wh
  have a10 := app_ok (i := 6) (s := s10) (s1 := s10) (l := Q3) (l1 := Q3) (x := .fr (rowT (ws ++ [L + 1]))) rfl h2 rfl (by show 13 ≤ 100000; decide)
  refine (congrArg fin (seq_ok (s1 := s11) a10)).trans ?_
  obtain ⟨v, ev, mv⟩ := at_mod (l := O2) (n := 13) rfl (by decide) (k := k)
  have bv := odd2_bad d2 p w v mv
  have ix : ixv 6 (bin dMod (un dInt (peek 3)) (un dLen (peek 6))) s11 = .ok (.fr v) s11 := ixv_ow (l := O2) (y := .fr (.int (k % (13 : Nat)))) rfl (bin_ok (x := .fr (.int k)) (y := .fr (.int (13 : Nat))) (s1 := s11) rfl rfl (dMod_pos (by decide))) rfl ev
  have rf := e_refused3 (B := B) (v := v) bv.nt bv.ln (by rw [bl, show ((d + 1 : Nat) : Int) + 1 = ((d + 2 : Nat) : Int) by omega]; exact bv.no) t
  obtain ⟨ws', L', w'⟩ := wt hB.bd p.len p.b1
  have eh : callF 2 pHolds (consF (var 0) (consF (var 1) nilF)) s11 = .ok (.fr (.bool (ws'.all fun w => decide (0 ≤ w)))) s11 := call_eq (s1 := s11) (ds := [bodyD B, P]) rfl rfl (e_holds hB.bd p w' t)
  exact fin_ret (s1 := s11) (and_true (call_eq (s1 := s11) (ds := [.int 3, bodyD B, v]) (cons_ok (x := .fr (.int 3)) rfl (cons_ok (x := .fr (bodyD B)) rfl (cons_ok ix rfl))) rfl rf) (same_call eh eh (.bl _))) rfl
end K23
end SecQh
section SecP23
set_option Elab.async false
set_option linter.all false
set_option maxRecDepth 100000
set_option maxHeartbeats 1000000
namespace K23
open PySem PySem.Spec Pu
theorem lap {d : Nat} {t : Tps} {j : Int} {a b c : Sl} (d2 : d = 2 ∨ d = 3) (hT : Tp t) : ∃ (e : Nat) (t' : Tps) (a' b' c' : Sl), (e = 2 ∨ e = 3) ∧ Tp t' ∧ (seqF (setF 4 (callF 2 pBodyL (consF (var 1) (consF (var 2) nilF))))
      (seqF (setF 5 (callF 2 pWeightsL (consF (var 1) (consF (var 2) nilF))))
      (seqF (setF 6 (callF 2 pPlaceL (consF (var 1) (consF (var 4) nilF))))
      (seqF (ifF (orT (notT (tru (dat (callF 2 pWeightsHoldL (consF (var 4) (consF (var 5) nilF)))))) (notT (tru (dat (callF 2 pPlaceHoldsL (consF (var 4) (consF (var 6) nilF)))))))
      (retF (cst (.bool false)))
      (pur .nx))
      (seqF (ifF (notT (tru (dat (callF 2 pFlatHoldsL (consF (var 1) (consF (var 4) nilF))))))
      (retF (cst (.bool false)))
      (pur .nx))
      (seqF (ifF (notT (tru (dat (callF 4 pBadHoldsL (consF (var 4) (consF (var 6) (consF (var 5) (consF (callF 2 pDrawL (consF (var 1) (consF (cst (.int 546)) nilF))) nilF))))))))
      (retF (cst (.bool false)))
      (pur .nx))
      (setF 2 (bin dSub (cst (.int 5)) (var 2))))))))) ⟨[.un, .fr (.dict []), .fr (.int (d : Nat)), .fr (.int j), a, b, c], t⟩ = .ok .nx ⟨[.un, .fr (.dict []), .fr (.int (e : Nat)), .fr (.int j), a', b', c'], t'⟩ := by
  obtain ⟨B, t1, e1, hB, T1⟩ := e_bodyL d2 hT
  obtain ⟨ws, L, t2, e2, hw, T2⟩ := e_weightsL d2 T1
  obtain ⟨v, t3, e3, ⟨ps, pb, rfl, p, sp⟩, T3⟩ := e_placeL hB T2
  obtain ⟨t4, e4, T4⟩ := e_flatHoldsL hB T3
  obtain ⟨k, t5, e5, k0, k1, T5⟩ := e_drawL T4 (n := 546) (by decide) (by decide)
  let st : Nat → Sl → Sl → Sl → Tps → Pst := fun d a b c t => ⟨[.un, .fr (.dict []), .fr (.int (d : Nat)), .fr (.int j), a, b, c], t⟩
  let A : Sl := .fr (bodyD B)
  let W : Sl := .fr (rowT (ws ++ [L]))
  let P : Sl := .fr (rowT (ps ++ [pb]))
  have a1 : setF 4 (callF 2 pBodyL (consF (var 1) (consF (var 2) nilF))) (st d a b c t) = .ok .nx (st d A b c t1) := set_ok (s1 := st d a b c t1) (x := .fr (bodyD B)) (call_eq (s1 := st d a b c t) (ds := [.dict [], .int (d : Nat)]) rfl rfl e1) (by show 4 < 7; decide)
  have a2 : setF 5 (callF 2 pWeightsL (consF (var 1) (consF (var 2) nilF))) (st d A b c t1) = .ok .nx (st d A W c t2) := set_ok (s1 := st d A b c t2) (x := .fr (rowT (ws ++ [L]))) (call_eq (s1 := st d A b c t1) (ds := [.dict [], .int (d : Nat)]) rfl rfl e2) (by show 5 < 7; decide)
  have a3 : setF 6 (callF 2 pPlaceL (consF (var 1) (consF (var 4) nilF))) (st d A W c t2) = .ok .nx (st d A W P t3) := set_ok (s1 := st d A W c t3) (x := .fr (rowT (ps ++ [pb]))) (call_eq (s1 := st d A W c t2) (ds := [.dict [], bodyD B]) rfl rfl e3) (by show 6 < 7; decide)
  have c1 : orT (notT (tru (dat (callF 2 pWeightsHoldL (consF (var 4) (consF (var 5) nilF)))))) (notT (tru (dat (callF 2 pPlaceHoldsL (consF (var 4) (consF (var 6) nilF)))))) (st d A W P t3) = .ok false (st d A W P t3) := by
    have x1 := not_tru (s := st d A W P t3) (Fa := callF 2 pWeightsHoldL (consF (var 4) (consF (var 5) nilF))) (call_eq (s1 := st d A W P t3) (ds := [bodyD B, rowT (ws ++ [L])]) rfl rfl (e_weightsHoldL hB hw t3))
    have x2 := not_tru (s := st d A W P t3) (Fa := callF 2 pPlaceHoldsL (consF (var 4) (consF (var 6) nilF))) (call_eq (s1 := st d A W P t3) (ds := [bodyD B, rowT (ps ++ [pb])]) rfl rfl (e_placeHoldsL hB.bo hB.bd hB.rt p sp t3))
    unfold orT
    rw [bnd_ok x1]
    exact x2
  have c2 : notT (tru (dat (callF 2 pFlatHoldsL (consF (var 1) (consF (var 4) nilF))))) (st d A W P t3) = .ok false (st d A W P t4) := by
    have x : callF 2 pFlatHoldsL (consF (var 1) (consF (var 4) nilF)) (st d A W P t3) = .ok (.fr (.bool true)) (st d A W P t4) := call_eq (s1 := st d A W P t3) (ds := [.dict [], bodyD B]) rfl rfl e4
    have y : tru (dat (callF 2 pFlatHoldsL (consF (var 1) (consF (var 4) nilF)))) (st d A W P t3) = .ok true (st d A W P t4) := by unfold tru; rw [bnd_ok (dat_ok x)]; rfl
    unfold notT
    rw [bnd_ok y]; rfl
  have c3 : notT (tru (dat (callF 4 pBadHoldsL (consF (var 4) (consF (var 6) (consF (var 5) (consF (callF 2 pDrawL (consF (var 1) (consF (cst (.int 546)) nilF))) nilF))))))) (st d A W P t4) = .ok false (st d A W P t5) := by
    have dr : callF 2 pDrawL (consF (var 1) (consF (cst (.int 546)) nilF)) (st d A W P t4) = .ok (.fr (.int k)) (st d A W P t5) := call_eq (s1 := st d A W P t4) (ds := [.dict [], .int 546]) rfl rfl e5
    have x : callF 4 pBadHoldsL (consF (var 4) (consF (var 6) (consF (var 5) (consF (callF 2 pDrawL (consF (var 1) (consF (cst (.int 546)) nilF))) nilF)))) (st d A W P t4) = .ok (.fr (.bool true)) (st d A W P t5) := call_eq (s1 := st d A W P t5) (ds := [bodyD B, rowT (ps ++ [pb]), rowT (ws ++ [L]), .int k]) (cons_ok (x := .fr (bodyD B)) (s1 := st d A W P t4) rfl (cons_ok (x := .fr (rowT (ps ++ [pb]))) (s1 := st d A W P t4) rfl (cons_ok (x := .fr (rowT (ws ++ [L]))) (s1 := st d A W P t4) rfl (cons_ok dr rfl)))) rfl (e_badHoldsL hB p hw t5)
    have y : tru (dat (callF 4 pBadHoldsL (consF (var 4) (consF (var 6) (consF (var 5) (consF (callF 2 pDrawL (consF (var 1) (consF (cst (.int 546)) nilF))) nilF)))))) (st d A W P t4) = .ok true (st d A W P t5) := by unfold tru; rw [bnd_ok (dat_ok x)]; rfl
    unfold notT
    rw [bnd_ok y]; rfl
  refine ⟨5 - d, t5, A, W, P, by omega, T5, ?_⟩
  have a9 : setF 2 (bin dSub (cst (.int 5)) (var 2)) (st d A W P t5) = .ok .nx (st (5 - d) A W P t5) := by
    refine set_ok (s1 := st d A W P t5) (x := .fr (.int ((5 - d : Nat) : Int))) (bin_ok (x := .fr (.int 5)) (y := .fr (.int (d : Nat))) (s1 := st d A W P t5) rfl rfl ?_) (by show 2 < 7; decide)
    show okI (5 - (d : Int)) = _
    rw [show (5 : Int) - (d : Int) = ((5 - d : Nat) : Int) by omega]; rfl
  exact (seq_ok a1).trans ((seq_ok a2).trans ((seq_ok a3).trans ((seq_ok (if_skip c1)).trans ((seq_ok (if_skip c2)).trans ((seq_ok (if_skip c3)).trans a9)))))
theorem law_ok : ∀ ns : List Int, ns.length ≤ 63 → (∀ z ∈ ns, Builtin.Int.intBits z ≤ 1048576) → lawF 1 2 law1 law2 (begin 7 [scrD ns] ⟨0, [], []⟩) := by
  intro ns _ _
  obtain ⟨r, m, e, hr, hm, hm2⟩ := e_tapeL ns ⟨0, [], []⟩
  let q0 : Pst := ⟨[.fr (scrD ns), .un, .un, .un, .un, .un, .un], ⟨0, [], []⟩⟩
  let q1 : Pst := ⟨[.fr (scrD ns), .ow [.int r, .int m], .un, .un, .un, .un, .un], ⟨0, [], []⟩⟩
  let t0 : Tps := ⟨2, [r, m], []⟩
  have T0 : Tp t0 := ⟨r, m, rfl, hr, hm, hm2⟩
  have f1 : law1 (begin 7 [scrD ns] ⟨0, [], []⟩) = .ok .nx q1 := by
    unfold law1
    exact set_ok (s1 := q0) (x := .ow [.int r, .int m]) (call_eq (s1 := q0) (ds := [scrD ns, .int 50021]) rfl rfl e) (by show 1 < 7; decide)
  let p0 : Pst := ⟨[.un, .fr (.dict []), .un, .un, .un, .un, .un], t0⟩
  obtain ⟨x, t1, e1, x0, x2, T1⟩ := e_drawL T0 (n := 2) (by decide) (by decide)
  obtain ⟨d, hd, d2⟩ : ∃ d : Nat, 2 + x = (d : Int) ∧ (d = 2 ∨ d = 3) := ⟨(2 + x).toNat, by omega, by omega⟩
  have f2 : ∃ s, law2 p0 = .ok (.rt (.fr (.bool true))) s := by
    let p1 : Pst := ⟨[.un, .fr (.dict []), .fr (.int (d : Nat)), .un, .un, .un, .un], t1⟩
    have b1 : setF 2 (bin dAdd (cst (.int 2)) (callF 2 pDrawL (consF (var 1) (consF (cst (.int 2)) nilF)))) p0 = .ok .nx p1 := by
      have dr : callF 2 pDrawL (consF (var 1) (consF (cst (.int 2)) nilF)) p0 = .ok (.fr (.int x)) ⟨p0.v, t1⟩ := call_eq (s1 := p0) (ds := [.dict [], .int 2]) rfl rfl e1
      refine set_ok (s1 := ⟨p0.v, t1⟩) (x := .fr (.int (d : Nat))) (bin_ok (x := .fr (.int 2)) (y := .fr (.int x)) rfl dr ?_) (by show 2 < 7; decide)
      show okI (2 + x) = _
      rw [hd]; rfl
    obtain ⟨d', t2, a, b, c, d2', T2, l1⟩ := lap (j := ((0 : Nat) : Int)) (a := .un) (b := .un) (c := .un) d2 T1
    obtain ⟨d'', t3, a', b', c', _, T3, l2⟩ := lap (j := ((1 : Nat) : Int)) (a := a) (b := b) (c := c) d2' T2
    let p9 : Pst := ⟨[.un, .fr (.dict []), .fr (.int (d'' : Nat)), .fr (.int ((1 : Nat) : Int)), a', b', c'], t3⟩
    refine ⟨p9, ?_⟩
    unfold law2
    refine (seq_ok b1).trans ?_
    refine (seq_ok (s1 := p9) ?_).trans rfl
    have r2 : (bnd (consF (cst (.int 2)) nilF) rng1) p1 = .ok [.int (0 : Nat), .int (1 : Nat)] p1 := rng1_nat (n := 2) (by decide) p1
    exact for_go r2 (go_next rfl l1 (go_next rfl l2 rfl))
  obtain ⟨s, f2⟩ := f2
  unfold lawF
  rw [f1]
  show (match (some t0 : Option Tps) with | some t => (match law2 (swi 1 t q1) with | .ok (.rt (.fr (.bool true))) _ => True | _ => False) | none => False)
  have e2 : swi 1 t0 q1 = p0 := rfl
  dsimp only
  rw [e2, f2]
  trivial
end K23
end SecP23
section SecD23a
set_option Elab.async false
set_option linter.all false
set_option maxRecDepth 100000
set_option maxHeartbeats 4000000
set_option pp.deepTerms false
namespace K23
open PySem PySem.Spec PyProof.Rows L2 L2H Err Pu
section
variable {P : Program} {w : World} {K : PySem.W.Frag} {mg : Str → Option Value} {base : Heap} {ca : Str → Addr}
abbrev sDemand : Stmt := topS 6
theorem scDemand : FnScope ["fits", "word"] ["fits", "word"] (defScope sDemand) := ⟨rfl, rfl, rfl, by decide +kernel, rfl, by decide +kernel, by decide +kernel⟩
theorem okDemand {f : Addr} {fd : FuncData} (F : Fun K "demand" "demand" sDemand f fd) (T : Tx mg) {ANotUsable : Addr} (CNotUsable : ca "NotUsable" = ANotUsable) (LNotUsable : Dt.Kl P w K mg base "NotUsable" ANotUsable ["word", "at"]) : FnOk P w K mg base (L2N.CX P w) 3 f fd ["fits", "word"] (spF ca 2 pDemand) :=
  ok_fn F scDemand (by decide) fun cdv A outer s H E hr =>
    (pss_oneU (ps_ifU (pt_notU (pt_tru (pk_var (pv 0))))
    (pss_oneU (ps_raiseU CNotUsable (Dt.ps_rse E LNotUsable rfl (hr.mono (by omega)) (L2N.takes_of rfl rfl rfl rfl) (pus_cons (pu_var (pv 1)) (pus_cons (pu_un un_neg sim_neg (pk_of (pu_c pe_int fun _ _ => .int _))) pus_nil)))))
    pss_nilU))
abbrev sCommonDivisor : Stmt := topS 8
theorem scCommonDivisor : FnScope ["numbers", "found", "number"] ["numbers"] (defScope sCommonDivisor) := ⟨rfl, rfl, rfl, by decide +kernel, rfl, by decide +kernel, by decide +kernel⟩
theorem okCommonDivisor {f : Addr} {fd : FuncData} (F : Fun K "common_divisor" "common_divisor" sCommonDivisor f fd) (T : Tx mg)  : FnOk P w K mg base (L2N.CX P w) 1 f fd ["numbers"] (spF ca 1 pCommonDivisor) :=
  ok_fn F scCommonDivisor (by decide) fun cdv A outer s H E hr =>
    (pss_consU (ps_setU (ps_set (i := 1) scCommonDivisor.nd rfl (Or.inl rfl) (pu_c pe_int fun _ _ => .int _)))
    (pss_consU (ps_forU tg_name (ps_for (passes_of rfl) rfl (pi_any (pu_var (pv 0))) (pg_name (i := 2) scCommonDivisor.nd rfl (Or.inl rfl))
    (pss_oneU (ps_setU (ps_set (i := 1) scCommonDivisor.nd rfl (Or.inl rfl) (pu_c2 sim_gcd (pe_callBfun cr_gcd (by rfl) T.n_gcd (pa_cons (pu_var (pv 1)) (pa_cons (pu_var (pv 2)) pa_nil)))))))))
    (pss_oneU (ps_retvU (ps_ret (pv 1))))))
abbrev sLowestTerms : Stmt := topS 9
theorem scLowestTerms : FnScope ["numbers", "divisor", "number"] ["numbers"] (defScope sLowestTerms) := ⟨rfl, rfl, rfl, by decide +kernel, rfl, by decide +kernel, by decide +kernel⟩
theorem okLowestTerms {f : Addr} {fd : FuncData} (F : Fun K "lowest_terms" "lowest_terms" sLowestTerms f fd) (T : Tx mg) (DCommonDivisor : Dt.Dn P w K mg base (L2N.CX P w) "common_divisor" 1 ["numbers"] (spF ca 1 pCommonDivisor)) : FnOk P w K mg base (L2N.CX P w) 2 f fd ["numbers"] (spF ca 1 pLowestTerms) :=
  ok_fn F scLowestTerms (by decide) fun cdv A outer s H E hr =>
    (pss_consU (ps_setU (ps_set (i := 1) scLowestTerms.nd rfl (Or.inr rfl) (pu_call (Dt.pe_dnX DCommonDivisor (hr.mono (by omega)) (L2N.takes_of rfl rfl rfl rfl) (pus_cons (pu_var (pv 0)) pus_nil)))))
    (pss_oneU (ps_retU (ps_ret (pu_c1 sim_tuple (pe_callTy call_tuple_of (by rfl) T.n_tuple (by decide +kernel) (pa_cons (pk_of (pu_lc (own := [2]) tg_name (by decide) (pe_lc (own := [("number", 2)]) (by rfl) scLowestTerms.nd (pi_any (pu_var (pv 0))) (blkOk_by (own := [("number", 2)]) (N := ["numbers", "divisor", "number"]) (sc := defScope sLowestTerms) (by decide +kernel)) (fun _ _ _ _ _ => (pg_name (i := 2) scLowestTerms.nd rfl (Or.inl rfl))) (fun _ _ _ _ _ => pts_nilU) (fun _ _ _ _ _ => (pu_op op_fdivD sim_fdiv (pu_var (pv 2)) (pu_var (pv 1))))))) pa_nil)))))))
abbrev sIsInteger : Stmt := topS 11
theorem scIsInteger : FnScope ["thing"] ["thing"] (defScope sIsInteger) := ⟨rfl, rfl, rfl, by decide +kernel, rfl, by decide +kernel, by decide +kernel⟩
theorem okIsInteger {f : Addr} {fd : FuncData} (F : Fun K "is_integer" "is_integer" sIsInteger f fd) (T : Tx mg)  : FnOk P w K mg base (L2N.CX P w) 1 f fd ["thing"] (spF ca 1 pIsInteger) :=
  ok_fn F scIsInteger (by decide) fun cdv A outer s H E hr =>
    (pss_oneU (ps_retU (ps_ret (pu_andV (pu_isi sim_isi_int (pe_callB call_isi (by rfl) T.n_isinstance (by decide +kernel) (pa_cons (pk_var (pv 0)) (pa_cons (pe_bltn (v := .ty "int") (u := .type "int") rfl T.n_int (by decide +kernel) rfl) pa_nil)))) (pe_one (pu_notV (pk_of (pu_isi sim_isi_bool (pe_callB call_isi (by rfl) T.n_isinstance (by decide +kernel) (pa_cons (pk_var (pv 0)) (pa_cons (pe_bltn (v := .ty "bool") (u := .type "bool") rfl T.n_bool (by decide +kernel) rfl) pa_nil)))))))))))
abbrev sIsRow : Stmt := topS 12
theorem scIsRow : FnScope ["many", "thing", "number"] ["many", "thing"] (defScope sIsRow) := ⟨rfl, rfl, rfl, by decide +kernel, rfl, by decide +kernel, by decide +kernel⟩
theorem okIsRow {f : Addr} {fd : FuncData} (F : Fun K "is_row" "is_row" sIsRow f fd) (T : Tx mg) (DIsInteger : Dt.Dn P w K mg base (L2N.CX P w) "is_integer" 1 ["thing"] (spF ca 1 pIsInteger)) : FnOk P w K mg base (L2N.CX P w) 2 f fd ["many", "thing"] (spF ca 2 pIsRow) :=
  ok_fn F scIsRow (by decide) fun cdv A outer s H E hr =>
    (pss_oneU (ps_retU (ps_ret (pu_andV (pu_isi sim_isi_tuple (pe_callB call_isi (by rfl) T.n_isinstance (by decide +kernel) (pa_cons (pk_var (pv 1)) (pa_cons (pe_bltn (v := .ty "tuple") (u := .type "tuple") rfl T.n_tuple (by decide +kernel) rfl) pa_nil)))) (pu_andV (pu_cmp (op_eqD (hr.units)) sim_eq (pu_c1 sim_len (pe_callB call_len (by rfl) T.n_len (by decide +kernel) (pa_cons (pk_var (pv 1)) pa_nil))) (pu_var (pv 0)) (nomark _)) (pe_one (pu_c1 sim_all (pe_callB (cr_all rfl) (by rfl) T.n_all (by decide +kernel) (pa_cons (pk_of (pu_lc (own := [2]) tg_name (by decide) (pe_lc (own := [("number", 2)]) (by rfl) scIsRow.nd (pi_any (pu_var (pv 1))) (blkOk_by (own := [("number", 2)]) (N := ["many", "thing", "number"]) (sc := defScope sIsRow) (by decide +kernel)) (fun _ _ _ _ _ => (pg_name (i := 2) scIsRow.nd rfl (Or.inl rfl))) (fun _ _ _ _ _ => pts_nilU) (fun _ _ _ _ _ => (pu_call (Dt.pe_dn0 DIsInteger (hr.mono (by omega)) (pus_cons (pu_var (pv 2)) pus_nil))))))) pa_nil)))))))))
abbrev sIsLowest : Stmt := topS 13
theorem scIsLowest : FnScope ["thing"] ["thing"] (defScope sIsLowest) := ⟨rfl, rfl, rfl, by decide +kernel, rfl, by decide +kernel, by decide +kernel⟩
theorem okIsLowest {f : Addr} {fd : FuncData} (F : Fun K "is_lowest" "is_lowest" sIsLowest f fd) (T : Tx mg) (DCommonDivisor : Dt.Dn P w K mg base (L2N.CX P w) "common_divisor" 1 ["numbers"] (spF ca 1 pCommonDivisor)) : FnOk P w K mg base (L2N.CX P w) 2 f fd ["thing"] (spF ca 1 pIsLowest) :=
  ok_fn F scIsLowest (by decide) fun cdv A outer s H E hr =>
    (pss_oneU (ps_retU (ps_ret (pu_andV (pu_cmp op_ge sim_ge (pu_ixv (pv 0) (pu_un un_neg sim_neg (pk_of (pu_c pe_int fun _ _ => .int _))) (fun _ _ => rfl)) (pu_c pe_int fun _ _ => .int _) (nomark _)) (pe_one (pu_cmp (op_eqD (hr.units)) sim_eq (pu_call (Dt.pe_dnX DCommonDivisor (hr.mono (by omega)) (L2N.takes_of rfl rfl rfl rfl) (pus_cons (pu_var (pv 0)) pus_nil))) (pu_c pe_int fun _ _ => .int _) (nomark _)))))))
abbrev sIsPlace : Stmt := topS 14
theorem scIsPlace : FnScope ["space", "thing"] ["space", "thing"] (defScope sIsPlace) := ⟨rfl, rfl, rfl, by decide +kernel, rfl, by decide +kernel, by decide +kernel⟩
theorem okIsPlace {f : Addr} {fd : FuncData} (F : Fun K "is_place" "is_place" sIsPlace f fd) (T : Tx mg) (DIsLowest : Dt.Dn P w K mg base (L2N.CX P w) "is_lowest" 2 ["thing"] (spF ca 1 pIsLowest)) (DIsRow : Dt.Dn P w K mg base (L2N.CX P w) "is_row" 2 ["many", "thing"] (spF ca 2 pIsRow)) : FnOk P w K mg base (L2N.CX P w) 3 f fd ["space", "thing"] (spF ca 2 pIsPlace) :=
  ok_fn F scIsPlace (by decide) fun cdv A outer s H E hr =>
    (pss_oneU (ps_retU (ps_ret (pu_andV (pu_call (Dt.pe_dnX DIsRow (hr.mono (by omega)) (L2N.takes_of rfl rfl rfl rfl) (pus_cons (pu_op op_addD sim_add (pu_ixv (pv 0) (pu_c pe_int fun _ _ => .int _) (fun _ _ => rfl)) (pu_c pe_int fun _ _ => .int _)) (pus_cons (pu_var (pv 1)) pus_nil)))) (pe_one (pu_call (Dt.pe_dnX DIsLowest (hr.mono (by omega)) (L2N.takes_of rfl rfl rfl rfl) (pus_cons (pu_var (pv 1)) pus_nil))))))))
abbrev sQuotientOf : Stmt := topS 16
theorem scQuotientOf : FnScope ["top", "bottom"] ["top", "bottom"] (defScope sQuotientOf) := ⟨rfl, rfl, rfl, by decide +kernel, rfl, by decide +kernel, by decide +kernel⟩
theorem okQuotientOf {f : Addr} {fd : FuncData} (F : Fun K "quotient_of" "quotient_of" sQuotientOf f fd) (T : Tx mg) (DDemand : Dt.Dn P w K mg base (L2N.CX P w) "demand" 3 ["fits", "word"] (spF ca 2 pDemand)) (DIsInteger : Dt.Dn P w K mg base (L2N.CX P w) "is_integer" 1 ["thing"] (spF ca 1 pIsInteger)) (DLowestTerms : Dt.Dn P w K mg base (L2N.CX P w) "lowest_terms" 2 ["numbers"] (spF ca 1 pLowestTerms)) : FnOk P w K mg base (L2N.CX P w) 4 f fd ["top", "bottom"] (spF ca 2 pQuotientOf) :=
  ok_fn F scQuotientOf (by decide) fun cdv A outer s H E hr =>
    (pss_consU (ps_exprU (ps_expr (pu_call (Dt.pe_dnX DDemand (hr.mono (by omega)) (L2N.takes_of rfl rfl rfl rfl) (pus_cons (pu_call (Dt.pe_dnX DIsInteger (hr.mono (by omega)) (L2N.takes_of rfl rfl rfl rfl) (pus_cons (pu_var (pv 0)) pus_nil))) (pus_cons (pu_c pe_str fun _ _ => .str _) pus_nil))))))
    (pss_consU (ps_exprU (ps_expr (pu_call (Dt.pe_dnX DDemand (hr.mono (by omega)) (L2N.takes_of rfl rfl rfl rfl) (pus_cons (pu_andV (pu_call (Dt.pe_dnX DIsInteger (hr.mono (by omega)) (L2N.takes_of rfl rfl rfl rfl) (pus_cons (pu_var (pv 1)) pus_nil))) (pe_one (pu_cmp (op_neD (hr.units)) sim_ne (pu_var (pv 1)) (pu_c pe_int fun _ _ => .int _) (nomark _)))) (pus_cons (pu_c pe_str fun _ _ => .str _) pus_nil))))))
    (pss_consU (ps_ifU (pt_cmpU op_lt sim_lt (pu_var (pv 1)) (pu_c pe_int fun _ _ => .int _) (nomark _))
    (pss_oneU (ps_retU (ps_ret (pu_call (Dt.pe_dnX DLowestTerms (hr.mono (by omega)) (L2N.takes_of rfl rfl rfl rfl) (pus_cons (pu_tup (pus_cons (pu_un un_neg sim_neg (pk_var (pv 0))) (pus_cons (pu_un un_neg sim_neg (pk_var (pv 1))) pus_nil))) pus_nil))))))
    pss_nilU)
    (pss_oneU (ps_retU (ps_ret (pu_call (Dt.pe_dnX DLowestTerms (hr.mono (by omega)) (L2N.takes_of rfl rfl rfl rfl) (pus_cons (pu_tup (pus_cons (pu_var (pv 0)) (pus_cons (pu_var (pv 1)) pus_nil))) pus_nil)))))))))
abbrev sMinusRows : Stmt := topS 18
theorem scMinusRows : FnScope ["one", "other", "a", "b"] ["one", "other"] (defScope sMinusRows) := ⟨rfl, rfl, rfl, by decide +kernel, rfl, by decide +kernel, by decide +kernel⟩
theorem okMinusRows {f : Addr} {fd : FuncData} (F : Fun K "minus_rows" "minus_rows" sMinusRows f fd) (T : Tx mg)  : FnOk P w K mg base (L2N.CX P w) 1 f fd ["one", "other"] (spF ca 2 pMinusRows) :=
  ok_fn F scMinusRows (by decide) fun cdv A outer s H E hr =>
    (pss_oneU (ps_retU (ps_ret (pu_lc (own := [2, 3]) (tg_tup (tg_cons tg_name (tg_cons tg_name tg_nil))) (by decide) (pe_lc (own := [("a", 2), ("b", 3)]) (by rfl) scMinusRows.nd (pi_zipAllU (pi_zipAll rfl T.n_zip (pus_cons (pu_var (pv 0)) (pus_cons (pu_var (pv 1)) pus_nil)))) (blkOk_by (own := [("a", 2), ("b", 3)]) (N := ["one", "other", "a", "b"]) (sc := defScope sMinusRows) (by decide +kernel)) (fun _ _ _ _ _ => (pg_tup rfl (pgs_cons (pg_name (i := 2) scMinusRows.nd rfl (Or.inl rfl)) (pgs_cons (pg_name (i := 3) scMinusRows.nd rfl (Or.inl rfl)) pgs_nil)))) (fun _ _ _ _ _ => pts_nilU) (fun _ _ _ _ _ => (pu_op op_sub sim_sub (pu_var (pv 2)) (pu_var (pv 3)))))))))
abbrev sDot : Stmt := topS 19
theorem scDot : FnScope ["one", "other", "a", "b"] ["one", "other"] (defScope sDot) := ⟨rfl, rfl, rfl, by decide +kernel, rfl, by decide +kernel, by decide +kernel⟩
theorem okDot {f : Addr} {fd : FuncData} (F : Fun K "dot" "dot" sDot f fd) (T : Tx mg)  : FnOk P w K mg base (L2N.CX P w) 1 f fd ["one", "other"] (spF ca 2 pDot) :=
  ok_fn F scDot (by decide) fun cdv A outer s H E hr =>
    (pss_oneU (ps_retU (ps_ret (pu_c1 sim_sumA (pe_callB (Tsu.cr_or (cr_sum rfl) (Tsu.cr_sumT rfl)) (by rfl) T.n_sum (by decide +kernel) (pa_cons (pk_of (pu_lc (own := [2, 3]) (tg_tup (tg_cons tg_name (tg_cons tg_name tg_nil))) (by decide) (pe_lc (own := [("a", 2), ("b", 3)]) (by rfl) scDot.nd (pi_zipAllU (pi_zipAll rfl T.n_zip (pus_cons (pu_var (pv 0)) (pus_cons (pu_var (pv 1)) pus_nil)))) (blkOk_by (own := [("a", 2), ("b", 3)]) (N := ["one", "other", "a", "b"]) (sc := defScope sDot) (by decide +kernel)) (fun _ _ _ _ _ => (pg_tup rfl (pgs_cons (pg_name (i := 2) scDot.nd rfl (Or.inl rfl)) (pgs_cons (pg_name (i := 3) scDot.nd rfl (Or.inl rfl)) pgs_nil)))) (fun _ _ _ _ _ => pts_nilU) (fun _ _ _ _ _ => (pu_op op_mulD sim_mul (pu_var (pv 2)) (pu_var (pv 3))))))) pa_nil))))))
abbrev sCross : Stmt := topS 20
theorem scCross : FnScope ["one", "other"] ["one", "other"] (defScope sCross) := ⟨rfl, rfl, rfl, by decide +kernel, rfl, by decide +kernel, by decide +kernel⟩
theorem okCross {f : Addr} {fd : FuncData} (F : Fun K "cross" "cross" sCross f fd) (T : Tx mg)  : FnOk P w K mg base (L2N.CX P w) 1 f fd ["one", "other"] (spF ca 2 pCross) :=
  ok_fn F scCross (by decide) fun cdv A outer s H E hr =>
    (pss_oneU (ps_retU (ps_ret (pu_lst (pus_cons (pu_op op_sub sim_sub (pu_op op_mulD sim_mul (pu_ixv (pv 0) (pu_c pe_int fun _ _ => .int _) (fun _ _ => rfl)) (pu_ixv (pv 1) (pu_c pe_int fun _ _ => .int _) (fun _ _ => rfl))) (pu_op op_mulD sim_mul (pu_ixv (pv 0) (pu_c pe_int fun _ _ => .int _) (fun _ _ => rfl)) (pu_ixv (pv 1) (pu_c pe_int fun _ _ => .int _) (fun _ _ => rfl)))) (pus_cons (pu_op op_sub sim_sub (pu_op op_mulD sim_mul (pu_ixv (pv 0) (pu_c pe_int fun _ _ => .int _) (fun _ _ => rfl)) (pu_ixv (pv 1) (pu_c pe_int fun _ _ => .int _) (fun _ _ => rfl))) (pu_op op_mulD sim_mul (pu_ixv (pv 0) (pu_c pe_int fun _ _ => .int _) (fun _ _ => rfl)) (pu_ixv (pv 1) (pu_c pe_int fun _ _ => .int _) (fun _ _ => rfl)))) (pus_cons (pu_op op_sub sim_sub (pu_op op_mulD sim_mul (pu_ixv (pv 0) (pu_c pe_int fun _ _ => .int _) (fun _ _ => rfl)) (pu_ixv (pv 1) (pu_c pe_int fun _ _ => .int _) (fun _ _ => rfl))) (pu_op op_mulD sim_mul (pu_ixv (pv 0) (pu_c pe_int fun _ _ => .int _) (fun _ _ => rfl)) (pu_ixv (pv 1) (pu_c pe_int fun _ _ => .int _) (fun _ _ => rfl)))) pus_nil)))))))
abbrev sRisesOf : Stmt := topS 21
theorem scRisesOf : FnScope ["edges", "one", "other", "third"] ["edges"] (defScope sRisesOf) := ⟨rfl, rfl, rfl, by decide +kernel, rfl, by decide +kernel, by decide +kernel⟩
theorem okRisesOf {f : Addr} {fd : FuncData} (F : Fun K "rises_of" "rises_of" sRisesOf f fd) (T : Tx mg) (DCross : Dt.Dn P w K mg base (L2N.CX P w) "cross" 1 ["one", "other"] (spF ca 2 pCross)) : FnOk P w K mg base (L2N.CX P w) 2 f fd ["edges"] (spF ca 1 pRisesOf) :=
  ok_fn F scRisesOf (by decide) fun cdv A outer s H E hr =>
    (pss_consU (ps_ifU (pt_cmpU (op_eqD (hr.units)) sim_eq (pu_c1 sim_len (pe_callB call_len (by rfl) T.n_len (by decide +kernel) (pa_cons (pk_var (pv 0)) pa_nil))) (pu_c pe_int fun _ _ => .int _) (nomark _))
    (pss_consU (ps_asgU (tg_unl (tg_cons tg_name (tg_cons tg_name tg_nil))) (ps_asg (pu_var (pv 0)) (pg_unl rfl (pgs_cons (pg_name (i := 1) scRisesOf.nd rfl (Or.inl rfl)) (pgs_cons (pg_name (i := 2) scRisesOf.nd rfl (Or.inl rfl)) pgs_nil)))))
      (pss_oneU (ps_retU (ps_ret (pu_lst (pus_cons (pu_lst (pus_cons (pu_ixv (pv 2) (pu_c pe_int fun _ _ => .int _) (fun _ _ => rfl)) (pus_cons (pu_un un_neg sim_neg (pk_of (pu_ixv (pv 2) (pu_c pe_int fun _ _ => .int _) (fun _ _ => rfl)))) pus_nil))) (pus_cons (pu_lst (pus_cons (pu_un un_neg sim_neg (pk_of (pu_ixv (pv 1) (pu_c pe_int fun _ _ => .int _) (fun _ _ => rfl)))) (pus_cons (pu_ixv (pv 1) (pu_c pe_int fun _ _ => .int _) (fun _ _ => rfl)) pus_nil))) pus_nil)))))))
    pss_nilU)
    (pss_consU (ps_asgU (tg_unl (tg_cons tg_name (tg_cons tg_name (tg_cons tg_name tg_nil)))) (ps_asg (pu_var (pv 0)) (pg_unl rfl (pgs_cons (pg_name (i := 1) scRisesOf.nd rfl (Or.inl rfl)) (pgs_cons (pg_name (i := 2) scRisesOf.nd rfl (Or.inl rfl)) (pgs_cons (pg_name (i := 3) scRisesOf.nd rfl (Or.inl rfl)) pgs_nil))))))
    (pss_oneU (ps_retU (ps_ret (pu_lst (pus_cons (pu_call (Dt.pe_dnX DCross (hr.mono (by omega)) (L2N.takes_of rfl rfl rfl rfl) (pus_cons (pu_var (pv 2)) (pus_cons (pu_var (pv 3)) pus_nil)))) (pus_cons (pu_call (Dt.pe_dnX DCross (hr.mono (by omega)) (L2N.takes_of rfl rfl rfl rfl) (pus_cons (pu_var (pv 3)) (pus_cons (pu_var (pv 1)) pus_nil)))) (pus_cons (pu_call (Dt.pe_dnX DCross (hr.mono (by omega)) (L2N.takes_of rfl rfl rfl rfl) (pus_cons (pu_var (pv 1)) (pus_cons (pu_var (pv 2)) pus_nil)))) pus_nil)))))))))
abbrev sSlopesOf : Stmt := topS 22
theorem scSlopesOf : FnScope ["body", "edges", "corner", "rises", "falls", "i", "rise"] ["body"] (defScope sSlopesOf) := ⟨rfl, rfl, rfl, by decide +kernel, rfl, by decide +kernel, by decide +kernel⟩
theorem okSlopesOf {f : Addr} {fd : FuncData} (F : Fun K "slopes_of" "slopes_of" sSlopesOf f fd) (T : Tx mg) (DDot : Dt.Dn P w K mg base (L2N.CX P w) "dot" 1 ["one", "other"] (spF ca 2 pDot)) (DMinusRows : Dt.Dn P w K mg base (L2N.CX P w) "minus_rows" 1 ["one", "other"] (spF ca 2 pMinusRows)) (DRisesOf : Dt.Dn P w K mg base (L2N.CX P w) "rises_of" 2 ["edges"] (spF ca 1 pRisesOf)) : FnOk P w K mg base (L2N.CX P w) 3 f fd ["body"] (spF ca 1 pSlopesOf) :=
  ok_fn F scSlopesOf (by decide) fun cdv A outer s H E hr =>
    (pss_consU (ps_setLcU (own := [2]) tg_name (by decide) (ps_setLc (i := 1) (own := [("corner", 2)]) (by rfl) scSlopesOf.nd rfl rfl (sw_true rfl rfl rfl (by decide +kernel)) (pi_any (pu_slicev (pv 0) (po_someU (pu_c pe_int fun _ _ => .int _)) po_noneU)) (blkOk_by (own := [("corner", 2)]) (N := ["body", "edges", "corner", "rises", "falls", "i", "rise"]) (sc := defScope sSlopesOf) (by decide +kernel)) (fun _ _ _ _ _ => (pg_name (i := 2) scSlopesOf.nd rfl (Or.inl rfl))) (fun _ _ _ _ _ => pts_nilU) (fun _ _ _ _ _ => (pu_call (Dt.pe_dn0 DMinusRows (hr.mono (by omega)) (pus_cons (pu_var (pv 2)) (pus_cons (pu_ixv (pv 0) (pu_c pe_int fun _ _ => .int _) (fun _ _ => rfl)) pus_nil)))))))
    (pss_consU (ps_setU (ps_set (i := 3) scSlopesOf.nd rfl (Or.inr rfl) (pu_call (Dt.pe_dnX DRisesOf (hr.mono (by omega)) (L2N.takes_of rfl rfl rfl rfl) (pus_cons (pu_var (pv 1)) pus_nil)))))
    (pss_consU (ps_setLcU (own := [5]) tg_name (by decide) (ps_setLc (i := 4) (own := [("i", 5)]) (by rfl) scSlopesOf.nd rfl rfl (sw_true rfl rfl rfl (by decide +kernel)) (pi_rng1 (pi_range1 rfl T.n_range (pus_cons (pu_c1 sim_len (pe_callB call_len (by rfl) T.n_len (by decide +kernel) (pa_cons (pk_of (pu_ixv (pv 0) (pu_c pe_int fun _ _ => .int _) (fun _ _ => rfl))) pa_nil))) pus_nil))) (blkOk_by (own := [("i", 5)]) (N := ["body", "edges", "corner", "rises", "falls", "i", "rise"]) (sc := defScope sSlopesOf) (by decide +kernel)) (fun _ _ _ _ _ => (pg_name (i := 5) scSlopesOf.nd rfl (Or.inr rfl))) (fun _ _ _ _ _ => pts_nilU) (fun _ _ _ _ _ => (pu_un un_neg sim_neg (pk_of (pu_c1 sim_sumA (pe_callB (Tsu.cr_or (cr_sum rfl) (Tsu.cr_sumT rfl)) (by rfl) T.n_sum (by decide +kernel) (pa_cons (pk_of (pu_lc (own := [6]) tg_name (by decide) (pe_lc (own := [("rise", 6)]) (by rfl) scSlopesOf.nd (pi_any (pu_var (pv 3))) (blkOk_by (own := [("rise", 6)]) (N := ["body", "edges", "corner", "rises", "falls", "i", "rise"]) (by first | rfl | kernel_rfl)) (fun _ _ _ _ _ => (pg_name (i := 6) scSlopesOf.nd rfl (Or.inl rfl))) (fun _ _ _ _ _ => pts_nilU) (fun _ _ _ _ _ => (pu_ixv (pv 6) (pu_var (pv 5)) (fun _ _ => rfl)))))) pa_nil))))))))
    (pss_oneU (ps_retU (ps_ret (pu_tup (pus_cons (pu_call (Dt.pe_dnX DDot (hr.mono (by omega)) (L2N.takes_of rfl rfl rfl rfl) (pus_cons (pu_ixv (pv 1) (pu_c pe_int fun _ _ => .int _) (fun _ _ => rfl)) (pus_cons (pu_ixv (pv 3) (pu_c pe_int fun _ _ => .int _) (fun _ _ => rfl)) pus_nil)))) (pus_cons (pu_op op_addD sim_add (pu_lst (pus_cons (pu_var (pv 4)) pus_nil)) (pu_var (pv 3))) pus_nil)))))))))
abbrev sFitsBody : Stmt := topS 24
theorem scFitsBody : FnScope ["body", "place"] ["body", "place"] (defScope sFitsBody) := ⟨rfl, rfl, rfl, by decide +kernel, rfl, by decide +kernel, by decide +kernel⟩
theorem okFitsBody {f : Addr} {fd : FuncData} (F : Fun K "fits_body" "fits_body" sFitsBody f fd) (T : Tx mg) (DIsPlace : Dt.Dn P w K mg base (L2N.CX P w) "is_place" 3 ["space", "thing"] (spF ca 2 pIsPlace)) : FnOk P w K mg base (L2N.CX P w) 4 f fd ["body", "place"] (spF ca 2 pFitsBody) :=
  ok_fn F scFitsBody (by decide) fun cdv A outer s H E hr =>
    (pss_oneU (ps_retU (ps_ret (pu_call (Dt.pe_dnX DIsPlace (hr.mono (by omega)) (L2N.takes_of rfl rfl rfl rfl) (pus_cons (pu_tup (pus_cons (pu_op op_sub sim_sub (pu_c1 sim_len (pe_callB call_len (by rfl) T.n_len (by decide +kernel) (pa_cons (pk_var (pv 0)) pa_nil))) (pu_c pe_int fun _ _ => .int _)) (pus_cons (pu_c pe_int fun _ _ => .int _) pus_nil))) (pus_cons (pu_var (pv 1)) pus_nil)))))))
abbrev sWeightsMade : Stmt := topS 25
theorem scWeightsMade : FnScope ["body", "place", "determinant", "rises", "bottom", "way", "number", "tops", "rise", "sign"] ["body", "place"] (defScope sWeightsMade) := ⟨rfl, rfl, rfl, by decide +kernel, rfl, by decide +kernel, by decide +kernel⟩
theorem okWeightsMade {f : Addr} {fd : FuncData} (F : Fun K "weights_made" "weights_made" sWeightsMade f fd) (T : Tx mg) (DDot : Dt.Dn P w K mg base (L2N.CX P w) "dot" 1 ["one", "other"] (spF ca 2 pDot)) (DLowestTerms : Dt.Dn P w K mg base (L2N.CX P w) "lowest_terms" 2 ["numbers"] (spF ca 1 pLowestTerms)) (DMinusRows : Dt.Dn P w K mg base (L2N.CX P w) "minus_rows" 1 ["one", "other"] (spF ca 2 pMinusRows)) (DSlopesOf : Dt.Dn P w K mg base (L2N.CX P w) "slopes_of" 3 ["body"] (spF ca 1 pSlopesOf)) : FnOk P w K mg base (L2N.CX P w) 4 f fd ["body", "place"] (spF ca 2 pWeightsMade) :=
  ok_fn F scWeightsMade (by decide) fun cdv A outer s H E hr =>
    (pss_consU (ps_asgU (tg_tup (tg_cons tg_name (tg_cons tg_name tg_nil))) (ps_asg (pu_call (Dt.pe_dnX DSlopesOf (hr.mono (by omega)) (L2N.takes_of rfl rfl rfl rfl) (pus_cons (pu_var (pv 0)) pus_nil))) (pg_tup rfl (pgs_cons (pg_name (i := 2) scWeightsMade.nd rfl (Or.inl rfl)) (pgs_cons (pg_name (i := 3) scWeightsMade.nd rfl (Or.inl rfl)) pgs_nil)))))
    (pss_consU (ps_setU (ps_set (i := 4) scWeightsMade.nd rfl (Or.inr rfl) (pu_ixv (pv 1) (pu_un un_neg sim_neg (pk_of (pu_c pe_int fun _ _ => .int _))) (fun _ _ => rfl))))
    (pss_consU (ps_setU (ps_set (i := 5) scWeightsMade.nd rfl (Or.inr rfl) (pu_call (Dt.pe_dnX DMinusRows (hr.mono (by omega)) (L2N.takes_of rfl rfl rfl rfl) (pus_cons (pu_slicev (pv 1) po_noneU (po_someU (pu_un un_neg sim_neg (pk_of (pu_c pe_int fun _ _ => .int _))))) (pus_cons (pu_lc (own := [6]) tg_name (by decide) (pe_lc (own := [("number", 6)]) (by rfl) scWeightsMade.nd (pi_any (pu_ixv (pv 0) (pu_c pe_int fun _ _ => .int _) (fun _ _ => rfl))) (blkOk_by (own := [("number", 6)]) (N := ["body", "place", "determinant", "rises", "bottom", "way", "number", "tops", "rise", "sign"]) (sc := defScope sWeightsMade) (by decide +kernel)) (fun _ _ _ _ _ => (pg_name (i := 6) scWeightsMade.nd rfl (Or.inl rfl))) (fun _ _ _ _ _ => pts_nilU) (fun _ _ _ _ _ => (pu_op op_mulD sim_mul (pu_var (pv 4)) (pu_var (pv 6)))))) pus_nil))))))
    (pss_consU (ps_setLcU (own := [8]) tg_name (by decide) (ps_setLc (i := 7) (own := [("rise", 8)]) (by rfl) scWeightsMade.nd rfl rfl (sw_true rfl rfl rfl (by decide +kernel)) (pi_any (pu_var (pv 3))) (blkOk_by (own := [("rise", 8)]) (N := ["body", "place", "determinant", "rises", "bottom", "way", "number", "tops", "rise", "sign"]) (sc := defScope sWeightsMade) (by decide +kernel)) (fun _ _ _ _ _ => (pg_name (i := 8) scWeightsMade.nd rfl (Or.inl rfl))) (fun _ _ _ _ _ => pts_nilU) (fun _ _ _ _ _ => (pu_call (Dt.pe_dn0 DDot (hr.mono (by omega)) (pus_cons (pu_var (pv 5)) (pus_cons (pu_var (pv 8)) pus_nil)))))))
    (pss_consU (ps_setAtU (ps_asg (pu_op op_addD sim_add (pu_ixv (pv 7) (pu_c pe_int fun _ _ => .int _) (fun _ _ => rfl)) (pu_op op_mulD sim_mul (pu_var (pv 4)) (pu_var (pv 2)))) (pg_sub (pv 7) (pu_c pe_int fun _ _ => .int _) set_list)))
    (pss_consU (ps_setU (ps_set (i := 9) scWeightsMade.nd rfl (Or.inr rfl) (pu_ife (pt_cmpU op_gt sim_gt (pu_var (pv 2)) (pu_c pe_int fun _ _ => .int _) (nomark _)) (pu_c pe_int fun _ _ => .int _) (pu_un un_neg sim_neg (pk_of (pu_c pe_int fun _ _ => .int _))))))
    (pss_oneU (ps_retU (ps_ret (pu_call (Dt.pe_dnX DLowestTerms (hr.mono (by omega)) (L2N.takes_of rfl rfl rfl rfl) (pus_cons (pu_lc (own := [6]) tg_name (by decide) (pe_lc (own := [("number", 6)]) (by rfl) scWeightsMade.nd (pi_any (pu_op op_addD sim_add (pu_var (pv 7)) (pu_lst (pus_cons (pu_op op_mulD sim_mul (pu_var (pv 4)) (pu_var (pv 2))) pus_nil)))) (blkOk_by (own := [("number", 6)]) (N := ["body", "place", "determinant", "rises", "bottom", "way", "number", "tops", "rise", "sign"]) (sc := defScope sWeightsMade) (by decide +kernel)) (fun _ _ _ _ _ => (pg_name (i := 6) scWeightsMade.nd rfl (Or.inl rfl))) (fun _ _ _ _ _ => pts_nilU) (fun _ _ _ _ _ => (pu_op op_mulD sim_mul (pu_var (pv 9)) (pu_var (pv 6)))))) pus_nil))))))))))))
abbrev sBlendMade : Stmt := topS 26
theorem scBlendMade : FnScope ["body", "weights", "dims", "tops", "i", "weight", "corner"] ["body", "weights"] (defScope sBlendMade) := ⟨rfl, rfl, rfl, by decide +kernel, rfl, by decide +kernel, by decide +kernel⟩
theorem okBlendMade {f : Addr} {fd : FuncData} (F : Fun K "blend_made" "blend_made" sBlendMade f fd) (T : Tx mg) (DLowestTerms : Dt.Dn P w K mg base (L2N.CX P w) "lowest_terms" 2 ["numbers"] (spF ca 1 pLowestTerms)) : FnOk P w K mg base (L2N.CX P w) 3 f fd ["body", "weights"] (spF ca 2 pBlendMade) :=
  ok_fn F scBlendMade (by decide) fun cdv A outer s H E hr =>
    (pss_consU (ps_setU (ps_set (i := 2) scBlendMade.nd rfl (Or.inl rfl) (pu_op op_sub sim_sub (pu_c1 sim_len (pe_callB call_len (by rfl) T.n_len (by decide +kernel) (pa_cons (pk_var (pv 0)) pa_nil))) (pu_c pe_int fun _ _ => .int _))))
    (pss_consU (ps_setLcU (own := [4]) tg_name (by decide) (ps_setLc (i := 3) (own := [("i", 4)]) (by rfl) scBlendMade.nd rfl rfl (sw_true rfl rfl rfl (by decide +kernel)) (pi_rng1 (pi_range1 rfl T.n_range (pus_cons (pu_var (pv 2)) pus_nil))) (blkOk_by (own := [("i", 4)]) (N := ["body", "weights", "dims", "tops", "i", "weight", "corner"]) (sc := defScope sBlendMade) (by decide +kernel)) (fun _ _ _ _ _ => (pg_name (i := 4) scBlendMade.nd rfl (Or.inr rfl))) (fun _ _ _ _ _ => pts_nilU) (fun _ _ _ _ _ => (pu_c1 sim_sumA (pe_callB (Tsu.cr_or (cr_sum rfl) (Tsu.cr_sumT rfl)) (by rfl) T.n_sum (by decide +kernel) (pa_cons (pk_of (pu_lc (own := [5, 6]) (tg_tup (tg_cons tg_name (tg_cons tg_name tg_nil))) (by decide) (pe_lc (own := [("weight", 5), ("corner", 6)]) (by rfl) scBlendMade.nd (pi_zipAllU (pi_zipAll rfl T.n_zip (pus_cons (pu_var (pv 1)) (pus_cons (pu_var (pv 0)) pus_nil)))) (blkOk_by (own := [("weight", 5), ("corner", 6)]) (N := ["body", "weights", "dims", "tops", "i", "weight", "corner"]) (by first | rfl | kernel_rfl)) (fun _ _ _ _ _ => (pg_tup rfl (pgs_cons (pg_name (i := 5) scBlendMade.nd rfl (Or.inl rfl)) (pgs_cons (pg_name (i := 6) scBlendMade.nd rfl (Or.inl rfl)) pgs_nil)))) (fun _ _ _ _ _ => pts_nilU) (fun _ _ _ _ _ => (pu_op op_mulD sim_mul (pu_var (pv 5)) (pu_ixv (pv 6) (pu_var (pv 4)) (fun _ _ => rfl))))))) pa_nil))))))
    (pss_oneU (ps_retU (ps_ret (pu_call (Dt.pe_dnX DLowestTerms (hr.mono (by omega)) (L2N.takes_of rfl rfl rfl rfl) (pus_cons (pu_op op_addD sim_add (pu_var (pv 3)) (pu_lst (pus_cons (pu_ixv (pv 1) (pu_un un_neg sim_neg (pk_of (pu_c pe_int fun _ _ => .int _))) (fun _ _ => rfl)) pus_nil))) pus_nil))))))))
abbrev sHoldsMade : Stmt := topS 27
theorem scHoldsMade : FnScope ["body", "place"] ["body", "place"] (defScope sHoldsMade) := ⟨rfl, rfl, rfl, by decide +kernel, rfl, by decide +kernel, by decide +kernel⟩
theorem okHoldsMade {f : Addr} {fd : FuncData} (F : Fun K "holds_made" "holds_made" sHoldsMade f fd) (T : Tx mg) (DWeightsMade : Dt.Dn P w K mg base (L2N.CX P w) "weights_made" 4 ["body", "place"] (spF ca 2 pWeightsMade)) : FnOk P w K mg base (L2N.CX P w) 5 f fd ["body", "place"] (spF ca 2 pHoldsMade) :=
  ok_fn F scHoldsMade (by decide) fun cdv A outer s H E hr =>
    (pss_oneU (ps_retU (ps_ret (pu_cmp op_ge sim_ge (pu_c1 sim_minA (pe_callB (Tsu.cr_or (cr_min rfl) (Tsu.cr_minT rfl)) (by rfl) T.n_min (by decide +kernel) (pa_cons (pk_of (pu_call (Dt.pe_dnX DWeightsMade (hr.mono (by omega)) (L2N.takes_of rfl rfl rfl rfl) (pus_cons (pu_var (pv 0)) (pus_cons (pu_var (pv 1)) pus_nil))))) pa_nil))) (pu_c pe_int fun _ _ => .int _) (nomark _)))))
abbrev sWeightsIn : Stmt := topS 28
theorem scWeightsIn : FnScope ["body", "place"] ["body", "place"] (defScope sWeightsIn) := ⟨rfl, rfl, rfl, by decide +kernel, rfl, by decide +kernel, by decide +kernel⟩
theorem okWeightsIn {f : Addr} {fd : FuncData} (F : Fun K "weights_in" "weights_in" sWeightsIn f fd) (T : Tx mg) (DDemand : Dt.Dn P w K mg base (L2N.CX P w) "demand" 3 ["fits", "word"] (spF ca 2 pDemand)) (DFitsBody : Dt.Dn P w K mg base (L2N.CX P w) "fits_body" 4 ["body", "place"] (spF ca 2 pFitsBody)) (DWeightsMade : Dt.Dn P w K mg base (L2N.CX P w) "weights_made" 4 ["body", "place"] (spF ca 2 pWeightsMade)) : FnOk P w K mg base (L2N.CX P w) 5 f fd ["body", "place"] (spF ca 2 pWeightsIn) :=
  ok_fn F scWeightsIn (by decide) fun cdv A outer s H E hr =>
    (pss_consU (ps_exprU (ps_expr (pu_call (Dt.pe_dnX DDemand (hr.mono (by omega)) (L2N.takes_of rfl rfl rfl rfl) (pus_cons (pu_call (Dt.pe_dnX DFitsBody (hr.mono (by omega)) (L2N.takes_of rfl rfl rfl rfl) (pus_cons (pu_var (pv 0)) (pus_cons (pu_var (pv 1)) pus_nil)))) (pus_cons (pu_c pe_str fun _ _ => .str _) pus_nil))))))
    (pss_oneU (ps_retU (ps_ret (pu_call (Dt.pe_dnX DWeightsMade (hr.mono (by omega)) (L2N.takes_of rfl rfl rfl rfl) (pus_cons (pu_var (pv 0)) (pus_cons (pu_var (pv 1)) pus_nil))))))))
abbrev sAreWeights : Stmt := topS 29
theorem scAreWeights : FnScope ["body", "thing"] ["body", "thing"] (defScope sAreWeights) := ⟨rfl, rfl, rfl, by decide +kernel, rfl, by decide +kernel, by decide +kernel⟩
theorem okAreWeights {f : Addr} {fd : FuncData} (F : Fun K "are_weights" "are_weights" sAreWeights f fd) (T : Tx mg) (DIsLowest : Dt.Dn P w K mg base (L2N.CX P w) "is_lowest" 2 ["thing"] (spF ca 1 pIsLowest)) (DIsRow : Dt.Dn P w K mg base (L2N.CX P w) "is_row" 2 ["many", "thing"] (spF ca 2 pIsRow)) : FnOk P w K mg base (L2N.CX P w) 3 f fd ["body", "thing"] (spF ca 2 pAreWeights) :=
  ok_fn F scAreWeights (by decide) fun cdv A outer s H E hr =>
    (pss_oneU (ps_retU (ps_ret (pu_andV (pu_call (Dt.pe_dnX DIsRow (hr.mono (by omega)) (L2N.takes_of rfl rfl rfl rfl) (pus_cons (pu_op op_addD sim_add (pu_c1 sim_len (pe_callB call_len (by rfl) T.n_len (by decide +kernel) (pa_cons (pk_var (pv 0)) pa_nil))) (pu_c pe_int fun _ _ => .int _)) (pus_cons (pu_var (pv 1)) pus_nil)))) (pu_andV (pu_call (Dt.pe_dnX DIsLowest (hr.mono (by omega)) (L2N.takes_of rfl rfl rfl rfl) (pus_cons (pu_var (pv 1)) pus_nil))) (pe_one (pu_cmp (op_eqD (hr.units)) sim_eq (pu_c1 sim_sumA (pe_callB (Tsu.cr_or (cr_sum rfl) (Tsu.cr_sumT rfl)) (by rfl) T.n_sum (by decide +kernel) (pa_cons (pk_of (pu_slicev (pv 1) po_noneU (po_someU (pu_un un_neg sim_neg (pk_of (pu_c pe_int fun _ _ => .int _)))))) pa_nil))) (pu_ixv (pv 1) (pu_un un_neg sim_neg (pk_of (pu_c pe_int fun _ _ => .int _))) (fun _ _ => rfl)) (nomark _))))))))
abbrev sBlend : Stmt := topS 30
theorem scBlend : FnScope ["body", "weights"] ["body", "weights"] (defScope sBlend) := ⟨rfl, rfl, rfl, by decide +kernel, rfl, by decide +kernel, by decide +kernel⟩
theorem okBlend {f : Addr} {fd : FuncData} (F : Fun K "blend" "blend" sBlend f fd) (T : Tx mg) (DAreWeights : Dt.Dn P w K mg base (L2N.CX P w) "are_weights" 3 ["body", "thing"] (spF ca 2 pAreWeights)) (DBlendMade : Dt.Dn P w K mg base (L2N.CX P w) "blend_made" 3 ["body", "weights"] (spF ca 2 pBlendMade)) (DDemand : Dt.Dn P w K mg base (L2N.CX P w) "demand" 3 ["fits", "word"] (spF ca 2 pDemand)) : FnOk P w K mg base (L2N.CX P w) 4 f fd ["body", "weights"] (spF ca 2 pBlend) :=
  ok_fn F scBlend (by decide) fun cdv A outer s H E hr =>
    (pss_consU (ps_exprU (ps_expr (pu_call (Dt.pe_dnX DDemand (hr.mono (by omega)) (L2N.takes_of rfl rfl rfl rfl) (pus_cons (pu_call (Dt.pe_dnX DAreWeights (hr.mono (by omega)) (L2N.takes_of rfl rfl rfl rfl) (pus_cons (pu_var (pv 0)) (pus_cons (pu_var (pv 1)) pus_nil)))) (pus_cons (pu_c pe_str fun _ _ => .str _) pus_nil))))))
    (pss_oneU (ps_retU (ps_ret (pu_call (Dt.pe_dnX DBlendMade (hr.mono (by omega)) (L2N.takes_of rfl rfl rfl rfl) (pus_cons (pu_var (pv 0)) (pus_cons (pu_var (pv 1)) pus_nil))))))))
abbrev sHolds : Stmt := topS 31
theorem scHolds : FnScope ["body", "place"] ["body", "place"] (defScope sHolds) := ⟨rfl, rfl, rfl, by decide +kernel, rfl, by decide +kernel, by decide +kernel⟩
theorem okHolds {f : Addr} {fd : FuncData} (F : Fun K "holds" "holds" sHolds f fd) (T : Tx mg) (DDemand : Dt.Dn P w K mg base (L2N.CX P w) "demand" 3 ["fits", "word"] (spF ca 2 pDemand)) (DFitsBody : Dt.Dn P w K mg base (L2N.CX P w) "fits_body" 4 ["body", "place"] (spF ca 2 pFitsBody)) (DHoldsMade : Dt.Dn P w K mg base (L2N.CX P w) "holds_made" 5 ["body", "place"] (spF ca 2 pHoldsMade)) : FnOk P w K mg base (L2N.CX P w) 6 f fd ["body", "place"] (spF ca 2 pHolds) :=
  ok_fn F scHolds (by decide) fun cdv A outer s H E hr =>
    (pss_consU (ps_exprU (ps_expr (pu_call (Dt.pe_dnX DDemand (hr.mono (by omega)) (L2N.takes_of rfl rfl rfl rfl) (pus_cons (pu_call (Dt.pe_dnX DFitsBody (hr.mono (by omega)) (L2N.takes_of rfl rfl rfl rfl) (pus_cons (pu_var (pv 0)) (pus_cons (pu_var (pv 1)) pus_nil)))) (pus_cons (pu_c pe_str fun _ _ => .str _) pus_nil))))))
    (pss_oneU (ps_retU (ps_ret (pu_call (Dt.pe_dnX DHoldsMade (hr.mono (by omega)) (L2N.takes_of rfl rfl rfl rfl) (pus_cons (pu_var (pv 0)) (pus_cons (pu_var (pv 1)) pus_nil))))))))
abbrev sCarrierIn : Stmt := topS 32
theorem scCarrierIn : FnScope ["body", "place", "weights", "pairs", "corner", "weight"] ["body", "place"] (defScope sCarrierIn) := ⟨rfl, rfl, rfl, by decide +kernel, rfl, by decide +kernel, by decide +kernel⟩
theorem okCarrierIn {f : Addr} {fd : FuncData} (F : Fun K "carrier_in" "carrier_in" sCarrierIn f fd) (T : Tx mg) (DDemand : Dt.Dn P w K mg base (L2N.CX P w) "demand" 3 ["fits", "word"] (spF ca 2 pDemand)) (DFitsBody : Dt.Dn P w K mg base (L2N.CX P w) "fits_body" 4 ["body", "place"] (spF ca 2 pFitsBody)) (DQuotientOf : Dt.Dn P w K mg base (L2N.CX P w) "quotient_of" 4 ["top", "bottom"] (spF ca 2 pQuotientOf)) (DWeightsMade : Dt.Dn P w K mg base (L2N.CX P w) "weights_made" 4 ["body", "place"] (spF ca 2 pWeightsMade)) : FnOk P w K mg base (L2N.CX P w) 5 f fd ["body", "place"] (spF ca 2 pCarrierIn) :=
  ok_fn F scCarrierIn (by decide) fun cdv A outer s H E hr =>
    (pss_consU (ps_exprU (ps_expr (pu_call (Dt.pe_dnX DDemand (hr.mono (by omega)) (L2N.takes_of rfl rfl rfl rfl) (pus_cons (pu_call (Dt.pe_dnX DFitsBody (hr.mono (by omega)) (L2N.takes_of rfl rfl rfl rfl) (pus_cons (pu_var (pv 0)) (pus_cons (pu_var (pv 1)) pus_nil)))) (pus_cons (pu_c pe_str fun _ _ => .str _) pus_nil))))))
    (pss_consU (ps_setU (ps_set (i := 2) scCarrierIn.nd rfl (Or.inr rfl) (pu_call (Dt.pe_dnX DWeightsMade (hr.mono (by omega)) (L2N.takes_of rfl rfl rfl rfl) (pus_cons (pu_var (pv 0)) (pus_cons (pu_var (pv 1)) pus_nil))))))
    (pss_consU (ps_ifU (pt_cmpU op_lt sim_lt (pu_c1 sim_minA (pe_callB (Tsu.cr_or (cr_min rfl) (Tsu.cr_minT rfl)) (by rfl) T.n_min (by decide +kernel) (pa_cons (pk_var (pv 2)) pa_nil))) (pu_c pe_int fun _ _ => .int _) (nomark _))
    (pss_oneU (ps_retU (ps_ret (pu_c pe_non fun _ _ => .non))))
    pss_nilU)
    (pss_consU (ps_setLcU (own := [4, 5]) (tg_tup (tg_cons tg_name (tg_cons tg_name tg_nil))) (by decide) (ps_setLc (i := 3) (own := [("corner", 4), ("weight", 5)]) (by rfl) scCarrierIn.nd rfl rfl (sw_true rfl rfl rfl (by decide +kernel)) (pi_zipAllU (pi_zipAll rfl T.n_zip (pus_cons (pu_var (pv 0)) (pus_cons (pu_var (pv 2)) pus_nil)))) (blkOk_by (own := [("corner", 4), ("weight", 5)]) (N := ["body", "place", "weights", "pairs", "corner", "weight"]) (sc := defScope sCarrierIn) (by decide +kernel)) (fun _ _ _ _ _ => (pg_tup rfl (pgs_cons (pg_name (i := 4) scCarrierIn.nd rfl (Or.inl rfl)) (pgs_cons (pg_name (i := 5) scCarrierIn.nd rfl (Or.inl rfl)) pgs_nil)))) (fun _ _ _ _ _ => (pts_one (pt_cmpU op_gt sim_gt (pu_var (pv 5)) (pu_c pe_int fun _ _ => .int _) (nomark _)))) (fun _ _ _ _ _ => (pu_tup (pus_cons (pu_var (pv 4)) (pus_cons (pu_call (Dt.pe_dn0 DQuotientOf (hr.mono (by omega)) (pus_cons (pu_var (pv 5)) (pus_cons (pu_ixv (pv 2) (pu_un un_neg sim_neg (pk_of (pu_c pe_int fun _ _ => .int _))) (fun _ _ => rfl)) pus_nil)))) pus_nil))))))
    (pss_oneU (ps_retU (ps_ret (pu_c1 sim_tuple (pe_callTy call_tuple_of (by rfl) T.n_tuple (by decide +kernel) (pa_cons (pk_of (pu_c1 sim_sorted (pe_callB (cr_sortD (u70 hr)) (by rfl) T.n_sorted (by decide +kernel) (pa_cons (pk_var (pv 3)) pa_nil)))) pa_nil))))))))))
abbrev sMeasureOf : Stmt := topS 34
theorem scMeasureOf : FnScope ["body"] ["body"] (defScope sMeasureOf) := ⟨rfl, rfl, rfl, by decide +kernel, rfl, by decide +kernel, by decide +kernel⟩
theorem okMeasureOf {f : Addr} {fd : FuncData} (F : Fun K "measure_of" "measure_of" sMeasureOf f fd) (T : Tx mg) (DSlopesOf : Dt.Dn P w K mg base (L2N.CX P w) "slopes_of" 3 ["body"] (spF ca 1 pSlopesOf)) : FnOk P w K mg base (L2N.CX P w) 4 f fd ["body"] (spF ca 1 pMeasureOf) :=
  ok_fn F scMeasureOf (by decide) fun cdv A outer s H E hr =>
    (pss_oneU (ps_retU (ps_ret (pu_c1 sim_abs (pe_callB call_abs (by rfl) T.n_abs (by decide +kernel) (pa_cons (pk_of (pu_ix ix_seq sim_ix (pu_call (Dt.pe_dnX DSlopesOf (hr.mono (by omega)) (L2N.takes_of rfl rfl rfl rfl) (pus_cons (pu_var (pv 0)) pus_nil))) (pu_c pe_int fun _ _ => .int _) (fun _ _ => rfl))) pa_nil))))))
abbrev sIsFlat : Stmt := topS 35
theorem scIsFlat : FnScope ["body"] ["body"] (defScope sIsFlat) := ⟨rfl, rfl, rfl, by decide +kernel, rfl, by decide +kernel, by decide +kernel⟩
theorem okIsFlat {f : Addr} {fd : FuncData} (F : Fun K "is_flat" "is_flat" sIsFlat f fd) (T : Tx mg) (DMeasureOf : Dt.Dn P w K mg base (L2N.CX P w) "measure_of" 4 ["body"] (spF ca 1 pMeasureOf)) : FnOk P w K mg base (L2N.CX P w) 5 f fd ["body"] (spF ca 1 pIsFlat) :=
  ok_fn F scIsFlat (by decide) fun cdv A outer s H E hr =>
    (pss_oneU (ps_retU (ps_ret (pu_cmp (op_eqD (hr.units)) sim_eq (pu_call (Dt.pe_dnX DMeasureOf (hr.mono (by omega)) (L2N.takes_of rfl rfl rfl rfl) (pus_cons (pu_var (pv 0)) pus_nil))) (pu_c pe_int fun _ _ => .int _) (nomark _)))))
end
end K23
end SecD23a
section SecD23b
set_option Elab.async false
set_option linter.all false
set_option maxRecDepth 100000
set_option maxHeartbeats 4000000
set_option pp.deepTerms false
namespace K23
open PySem PySem.Spec PyProof.Rows L2 L2H Err Pu
section
variable {P : Program} {w : World} {K : PySem.W.Frag} {mg : Str → Option Value} {base : Heap} {ca : Str → Addr}
abbrev sTapeL : Stmt := topS 37
theorem scTapeL : FnScope ["script", "start", "rest", "mixed", "cell", "size"] ["script", "start"] (defScope sTapeL) := ⟨rfl, rfl, rfl, by decide +kernel, rfl, by decide +kernel, by decide +kernel⟩
theorem okTapeL {f : Addr} {fd : FuncData} (F : Fun K "_law_tape" "_law_tape" sTapeL f fd) (T : Tx mg)  : FnOk P w K mg base (L2N.CX P w) 1 f fd ["script", "start"] (spF ca 2 pTapeL) :=
  ok_fn F scTapeL (by decide) fun cdv A outer s H E hr =>
    (pss_consU (ps_setU (ps_set (i := 2) scTapeL.nd rfl (Or.inl rfl) (pu_c pe_int fun _ _ => .int _)))
    (pss_consU (ps_setU (ps_set (i := 3) scTapeL.nd rfl (Or.inl rfl) (pu_var (pv 1))))
    (pss_consU (ps_forU tg_name (ps_for (passes_of rfl) rfl (pi_scr (pu_var (pv 0))) (pg_name (i := 4) scTapeL.nd rfl (Or.inl rfl))
    (pss_consU (ps_setU (ps_set (i := 5) scTapeL.nd rfl (Or.inl rfl) (pu_c1 sim_abs (pe_callB call_abs (by rfl) T.n_abs (by decide +kernel) (pa_cons (pk_of (pu_c1 sim_int (pe_callTy call_int1 (by rfl) T.n_int (by decide +kernel) (pa_cons (pk_var (pv 4)) pa_nil)))) pa_nil)))))
      (pss_oneU (ps_ifU (PW.pt (pw_andU (pt_cmpU op_ge sim_ge (pu_var (pv 5)) (pu_op op_pow sim_pow (pu_c pe_int fun _ _ => .int _) (pu_c pe_int fun _ _ => .int _)) (nomark _)) (pw_and1 (pt_cmpU (op_eqD (hr.units)) sim_eq (pu_var (pv 2)) (pu_c pe_int fun _ _ => .int _) (nomark _)))))
      (pss_oneU (ps_setU (ps_set (i := 2) scTapeL.nd rfl (Or.inl rfl) (pu_var (pv 5)))))
      (pss_oneU (ps_setU (ps_set (i := 3) scTapeL.nd rfl (Or.inl rfl) (pu_op op_modD sim_mod (pu_op op_addD sim_add (pu_op op_addD sim_add (pu_op op_addD sim_add (pu_op op_mulD sim_mul (pu_var (pv 3)) (pu_c pe_int fun _ _ => .int _)) (pu_op op_modD sim_mod (pu_var (pv 5)) (pu_c pe_int fun _ _ => .int _))) (pu_op op_mulD sim_mul (pu_c pe_int fun _ _ => .int _) (pu_c1 sim_int (pe_callTy call_int1 (by rfl) T.n_int (by decide +kernel) (pa_cons (pk_of (pu_cmp op_lt sim_lt (pu_var (pv 4)) (pu_c pe_int fun _ _ => .int _) (nomark _))) pa_nil))))) (pu_c pe_int fun _ _ => .int _)) (pu_c pe_int fun _ _ => .int _))))))))))
    (pss_oneU (ps_retU (ps_ret (pu_lst (pus_cons (pu_var (pv 2)) (pus_cons (pu_var (pv 3)) pus_nil)))))))))
abbrev sDrawL : Stmt := topS 38
theorem scDrawL : FnScope ["tape", "many", "got"] ["tape", "many"] (defScope sDrawL) := ⟨rfl, rfl, rfl, by decide +kernel, rfl, by decide +kernel, by decide +kernel⟩
theorem okDrawL {f : Addr} {fd : FuncData} (F : Fun K "_law_draw" "_law_draw" sDrawL f fd) (T : Tx mg)  : FnOk P w K mg base (L2N.CX P w) 1 f fd ["tape", "many"] (spF ca 2 pDrawL) :=
  ok_fn F scDrawL (by decide) fun cdv A outer s H E hr =>
    (pss_consU (ps_ifU (pt_cmpU op_gt sim_gt (pu_tget (i := 0) (k := 0) (pe_ix ix_list (pv 0) pe_int (fun _ _ => rfl))) (pu_c pe_int fun _ _ => .int _) (nomark _))
    (pss_consU (ps_setU (ps_set (i := 2) scDrawL.nd rfl (Or.inl rfl) (pu_op op_modD sim_mod (pu_c1 sim_int (pe_callTy call_int1 (by rfl) T.n_int (by decide +kernel) (pa_cons (pk_of (pu_tget (i := 0) (k := 0) (pe_ix ix_list (pv 0) pe_int (fun _ _ => rfl)))) pa_nil))) (pu_var (pv 1)))))
      (pss_consU (ps_tset (i := 0) (k := 0) (ps_asg (pu_op op_fdivD sim_fdiv (pu_c1 sim_int (pe_callTy call_int1 (by rfl) T.n_int (by decide +kernel) (pa_cons (pk_of (pu_tget (i := 0) (k := 0) (pe_ix ix_list (pv 0) pe_int (fun _ _ => rfl)))) pa_nil))) (pu_var (pv 1))) (pg_sub (pv 0) pe_int set_list)))
      (pss_oneU (ps_retvU (ps_ret (pv 2))))))
    pss_nilU)
    (pss_consU (ps_tset (i := 0) (k := 1) (ps_asg (pu_op op_modD sim_mod (pu_op op_addD sim_add (pu_op op_mulD sim_mul (pu_c1 sim_int (pe_callTy call_int1 (by rfl) T.n_int (by decide +kernel) (pa_cons (pk_of (pu_tget (i := 0) (k := 1) (pe_ix ix_list (pv 0) pe_int (fun _ _ => rfl)))) pa_nil))) (pu_c pe_int fun _ _ => .int _)) (pu_c pe_int fun _ _ => .int _)) (pu_c pe_int fun _ _ => .int _)) (pg_sub (pv 0) pe_int set_list)))
    (pss_oneU (ps_retU (ps_ret (pu_op op_modD sim_mod (pu_op op_fdivD sim_fdiv (pu_op op_mulD sim_mul (pu_c1 sim_int (pe_callTy call_int1 (by rfl) T.n_int (by decide +kernel) (pa_cons (pk_of (pu_tget (i := 0) (k := 1) (pe_ix ix_list (pv 0) pe_int (fun _ _ => rfl)))) pa_nil))) (pu_c1 sim_int (pe_callTy call_int1 (by rfl) T.n_int (by decide +kernel) (pa_cons (pk_of (pu_tget (i := 0) (k := 1) (pe_ix ix_list (pv 0) pe_int (fun _ _ => rfl)))) pa_nil)))) (pu_c pe_int fun _ _ => .int _)) (pu_var (pv 1))))))))
abbrev sSameL : Stmt := topS 39
theorem scSameL : FnScope ["told", "due", "k"] ["told", "due"] (defScope sSameL) := ⟨rfl, rfl, rfl, by decide +kernel, rfl, by decide +kernel, by decide +kernel⟩
theorem okSameL {f : Addr} {fd : FuncData} (F : Fun K "_law_same" "_law_same" sSameL f fd) (T : Tx mg)  {k : Nat} {pr : Fn} (hk : 1 ≤ k) (DSameL : Dt.Dn P w K mg base (L2N.CX P w) "_law_same" k ["told", "due"] (spF ca 2 pr)) : FnOk P w K mg base (L2N.CX P w) (k + 1) f fd ["told", "due"] (spF ca 2 (bSameL pr)) :=
  ok_fn F scSameL (by decide) fun cdv A outer s H E hr =>
    (pss_consU (ps_ifU (pt_cmpU op_isD sim_is (pu_var (pv 1)) (pu_c pe_non fun _ _ => .non) (nomark _))
    (pss_oneU (ps_retU (ps_ret (pu_cmp op_isD sim_is (pu_var (pv 0)) (pu_c pe_non fun _ _ => .non) (nomark _)))))
    pss_nilU)
    (pss_consU (ps_ifU (pt_cmpU op_isD sim_is (pu_var (pv 1)) (pu_c pe_bl fun _ _ => .bl _) (nomark _))
    (pss_oneU (ps_retU (ps_ret (pu_cmp op_isD sim_is (pu_var (pv 0)) (pu_c pe_bl fun _ _ => .bl _) (nomark _)))))
    pss_nilU)
    (pss_consU (ps_ifU (pt_cmpU op_isD sim_is (pu_var (pv 1)) (pu_c pe_bl fun _ _ => .bl _) (nomark _))
    (pss_oneU (ps_retU (ps_ret (pu_cmp op_isD sim_is (pu_var (pv 0)) (pu_c pe_bl fun _ _ => .bl _) (nomark _)))))
    pss_nilU)
    (pss_consU (ps_ifU (pt_tru (pk_of (pu_isi sim_isi_int (pe_callB call_isi (by rfl) T.n_isinstance (by decide +kernel) (pa_cons (pk_var (pv 1)) (pa_cons (pe_bltn (v := .ty "int") (u := .type "int") rfl T.n_int (by decide +kernel) rfl) pa_nil))))))
    (pss_oneU (ps_retU (ps_ret (pu_andV (pu_isi sim_isi_int (pe_callB call_isi (by rfl) T.n_isinstance (by decide +kernel) (pa_cons (pk_var (pv 0)) (pa_cons (pe_bltn (v := .ty "int") (u := .type "int") rfl T.n_int (by decide +kernel) rfl) pa_nil)))) (pu_andV (pu_notV (pk_of (pu_isi sim_isi_bool (pe_callB call_isi (by rfl) T.n_isinstance (by decide +kernel) (pa_cons (pk_var (pv 0)) (pa_cons (pe_bltn (v := .ty "bool") (u := .type "bool") rfl T.n_bool (by decide +kernel) rfl) pa_nil)))))) (pe_one (pu_cmp (op_eqD (hr.units)) sim_eq (pu_var (pv 0)) (pu_var (pv 1)) (nomark _))))))))
    pss_nilU)
    (pss_consU (ps_ifU (pt_tru (pk_of (pu_isi sim_isi_str (pe_callB call_isi (by rfl) T.n_isinstance (by decide +kernel) (pa_cons (pk_var (pv 1)) (pa_cons (pe_bltn (v := .ty "str") (u := .type "str") rfl T.n_str (by decide +kernel) rfl) pa_nil))))))
    (pss_oneU (ps_retU (ps_ret (pu_andV (pu_isi sim_isi_str (pe_callB call_isi (by rfl) T.n_isinstance (by decide +kernel) (pa_cons (pk_var (pv 0)) (pa_cons (pe_bltn (v := .ty "str") (u := .type "str") rfl T.n_str (by decide +kernel) rfl) pa_nil)))) (pe_one (pu_cmp (op_eqD (hr.units)) sim_eq (pu_var (pv 0)) (pu_var (pv 1)) (nomark _)))))))
    pss_nilU)
    (pss_consU (ps_ifU (PW.pt (pw_orU (pt_notU (pt_tru (pk_of (pu_isi sim_isi_tuple (pe_callB call_isi (by rfl) T.n_isinstance (by decide +kernel) (pa_cons (pk_var (pv 0)) (pa_cons (pe_bltn (v := .ty "tuple") (u := .type "tuple") rfl T.n_tuple (by decide +kernel) rfl) pa_nil))))))) (pw_or1 (pt_cmpU (op_neD (hr.units)) sim_ne (pu_c1 sim_len (pe_callB call_len (by rfl) T.n_len (by decide +kernel) (pa_cons (pk_var (pv 0)) pa_nil))) (pu_c1 sim_len (pe_callB call_len (by rfl) T.n_len (by decide +kernel) (pa_cons (pk_var (pv 1)) pa_nil))) (nomark _)))))
    (pss_oneU (ps_retU (ps_ret (pu_c pe_bl fun _ _ => .bl _))))
    pss_nilU)
    (pss_consU (ps_forU tg_name (ps_for (passes_of rfl) rfl (pi_rng1 (pi_range1 rfl T.n_range (pus_cons (pu_c1 sim_len (pe_callB call_len (by rfl) T.n_len (by decide +kernel) (pa_cons (pk_var (pv 1)) pa_nil))) pus_nil))) (pg_name (i := 2) scSameL.nd rfl (Or.inl rfl))
    (pss_oneU (ps_ifU (pt_notU (pt_tru (pk_of (pu_call (Dt.pe_dnX DSameL (hr.mono (by omega)) (L2N.takes_of rfl rfl rfl rfl) (pus_cons (pu_ixv (pv 0) (pu_var (pv 2)) (fun _ _ => rfl)) (pus_cons (pu_ixv (pv 1) (pu_var (pv 2)) (fun _ _ => rfl)) pus_nil)))))))
      (pss_oneU (ps_retU (ps_ret (pu_c pe_bl fun _ _ => .bl _))))
      pss_nilU))))
    (pss_oneU (ps_retU (ps_ret (pu_c pe_bl fun _ _ => .bl _)))))))))))
theorem okSameLM {f : Addr} {fd : FuncData} (F : Fun K "_law_same" "_law_same" sSameL f fd) (T : Tx mg)  {k : Nat} {pr : Fn} (hk : 1 ≤ k) (DSameLM : Dt.Dm P w K mg base "_law_same" k ["told", "due"] (fun _ => spF ca 2 pr)) : FnB P w K mg base (k + 1) f fd ["told", "due"] (fun _ => spF ca 2 (bSameL pr)) :=
  ok_fnB F scSameL (by decide) fun cdv A outer s H b pl hr mc =>
    (pss_consU (ps_ifU (pt_cmpU op_isD sim_is (pu_var (pv 1)) (pu_c pe_non fun _ _ => .non) (nomark _))
    (pss_oneU (ps_retU (ps_ret (pu_cmp op_isD sim_is (pu_var (pv 0)) (pu_c pe_non fun _ _ => .non) (nomark _)))))
    pss_nilU)
    (pss_consU (ps_ifU (pt_cmpU op_isD sim_is (pu_var (pv 1)) (pu_c pe_bl fun _ _ => .bl _) (nomark _))
    (pss_oneU (ps_retU (ps_ret (pu_cmp op_isD sim_is (pu_var (pv 0)) (pu_c pe_bl fun _ _ => .bl _) (nomark _)))))
    pss_nilU)
    (pss_consU (ps_ifU (pt_cmpU op_isD sim_is (pu_var (pv 1)) (pu_c pe_bl fun _ _ => .bl _) (nomark _))
    (pss_oneU (ps_retU (ps_ret (pu_cmp op_isD sim_is (pu_var (pv 0)) (pu_c pe_bl fun _ _ => .bl _) (nomark _)))))
    pss_nilU)
    (pss_consU (ps_ifU (pt_tru (pk_of (pu_isi sim_isi_int (pe_callB call_isi (by rfl) T.n_isinstance (by decide +kernel) (pa_cons (pk_var (pv 1)) (pa_cons (pe_bltn (v := .ty "int") (u := .type "int") rfl T.n_int (by decide +kernel) rfl) pa_nil))))))
    (pss_oneU (ps_retU (ps_ret (pu_andV (pu_isi sim_isi_int (pe_callB call_isi (by rfl) T.n_isinstance (by decide +kernel) (pa_cons (pk_var (pv 0)) (pa_cons (pe_bltn (v := .ty "int") (u := .type "int") rfl T.n_int (by decide +kernel) rfl) pa_nil)))) (pu_andV (pu_notV (pk_of (pu_isi sim_isi_bool (pe_callB call_isi (by rfl) T.n_isinstance (by decide +kernel) (pa_cons (pk_var (pv 0)) (pa_cons (pe_bltn (v := .ty "bool") (u := .type "bool") rfl T.n_bool (by decide +kernel) rfl) pa_nil)))))) (pe_one (pu_cmp (op_eqD (Dt.hu2 hr)) sim_eq (pu_var (pv 0)) (pu_var (pv 1)) (nomark _))))))))
    pss_nilU)
    (pss_consU (ps_ifU (pt_tru (pk_of (pu_isi sim_isi_str (pe_callB call_isi (by rfl) T.n_isinstance (by decide +kernel) (pa_cons (pk_var (pv 1)) (pa_cons (pe_bltn (v := .ty "str") (u := .type "str") rfl T.n_str (by decide +kernel) rfl) pa_nil))))))
    (pss_oneU (ps_retU (ps_ret (pu_andV (pu_isi sim_isi_str (pe_callB call_isi (by rfl) T.n_isinstance (by decide +kernel) (pa_cons (pk_var (pv 0)) (pa_cons (pe_bltn (v := .ty "str") (u := .type "str") rfl T.n_str (by decide +kernel) rfl) pa_nil)))) (pe_one (pu_cmp (op_eqD (Dt.hu2 hr)) sim_eq (pu_var (pv 0)) (pu_var (pv 1)) (nomark _)))))))
    pss_nilU)
    (pss_consU (ps_ifU (PW.pt (pw_orU (pt_notU (pt_tru (pk_of (pu_isi sim_isi_tuple (pe_callB call_isi (by rfl) T.n_isinstance (by decide +kernel) (pa_cons (pk_var (pv 0)) (pa_cons (pe_bltn (v := .ty "tuple") (u := .type "tuple") rfl T.n_tuple (by decide +kernel) rfl) pa_nil))))))) (pw_or1 (pt_cmpU (op_neD (Dt.hu2 hr)) sim_ne (pu_c1 sim_len (pe_callB call_len (by rfl) T.n_len (by decide +kernel) (pa_cons (pk_var (pv 0)) pa_nil))) (pu_c1 sim_len (pe_callB call_len (by rfl) T.n_len (by decide +kernel) (pa_cons (pk_var (pv 1)) pa_nil))) (nomark _)))))
    (pss_oneU (ps_retU (ps_ret (pu_c pe_bl fun _ _ => .bl _))))
    pss_nilU)
    (pss_consU (ps_forRU tg_name (ps_forR mc (passes_of rfl) rfl T.n_range (pus_cons (pu_c1 sim_len (pe_callB call_len (by rfl) T.n_len (by decide +kernel) (pa_cons (pk_var (pv 1)) pa_nil))) pus_nil) (pg_name (i := 2) scSameL.nd rfl (Or.inl rfl))
    (pss_oneU (ps_ifU (pt_notU (pt_tru (pk_of (pu_callB (Dt.pe_dm DSameLM (hr.mono (by omega)) mc (pus_cons (pu_ixv (pv 0) (pu_var (pv 2)) (fun _ _ => rfl)) (pus_cons (pu_ixv (pv 1) (pu_var (pv 2)) (fun _ _ => rfl)) pus_nil)))))))
      (pss_oneU (ps_retU (ps_ret (pu_c pe_bl fun _ _ => .bl _))))
      pss_nilU))))
    (pss_oneU (ps_retU (ps_ret (pu_c pe_bl fun _ _ => .bl _)))))))))))
abbrev sCommonL : Stmt := topS 40
theorem scCommonL : FnScope ["one", "other", "turn", "rest"] ["one", "other"] (defScope sCommonL) := ⟨rfl, rfl, rfl, by decide +kernel, rfl, by decide +kernel, by decide +kernel⟩
theorem okCommonL {f : Addr} {fd : FuncData} (F : Fun K "_law_common" "_law_common" sCommonL f fd) (T : Tx mg)  : FnOk P w K mg base (L2N.CX P w) 1 f fd ["one", "other"] (spF ca 2 pCommonL) :=
  ok_fn F scCommonL (by decide) fun cdv A outer s H E hr =>
    (pss_consU (ps_setU (ps_set (i := 0) scCommonL.nd rfl (Or.inl rfl) (pu_c1 sim_abs (pe_callB call_abs (by rfl) T.n_abs (by decide +kernel) (pa_cons (pk_of (pu_c1 sim_int (pe_callTy call_int1 (by rfl) T.n_int (by decide +kernel) (pa_cons (pk_var (pv 0)) pa_nil)))) pa_nil)))))
    (pss_consU (ps_setU (ps_set (i := 1) scCommonL.nd rfl (Or.inl rfl) (pu_c1 sim_abs (pe_callB call_abs (by rfl) T.n_abs (by decide +kernel) (pa_cons (pk_of (pu_c1 sim_int (pe_callTy call_int1 (by rfl) T.n_int (by decide +kernel) (pa_cons (pk_var (pv 1)) pa_nil)))) pa_nil)))))
    (pss_consU (ps_forU tg_name (ps_for (passes_of rfl) rfl (pi_rng1 (pi_range1 rfl T.n_range (pus_cons (pu_op op_addD sim_add (pu_op op_mulD sim_mul (pu_c pe_int fun _ _ => .int _) (pu_bits (pe_bits (pk_of (pu_c2 sim_max2 (pe_callB (call_max2 rfl) (by rfl) T.n_max (by decide +kernel) (pa_cons (pu_var (pv 0)) (pa_cons (pu_var (pv 1)) pa_nil)))))))) (pu_c pe_int fun _ _ => .int _)) pus_nil))) (pg_name (i := 2) scCommonL.nd rfl (Or.inl rfl))
    (pss_consU (ps_ifU (pt_cmpU (op_eqD (hr.units)) sim_eq (pu_var (pv 1)) (pu_c pe_int fun _ _ => .int _) (nomark _))
      (pss_oneU (ps_breakU ps_break))
      pss_nilU)
      (pss_consU (ps_setU (ps_set (i := 3) scCommonL.nd rfl (Or.inl rfl) (pu_op op_modD sim_mod (pu_c1 sim_int (pe_callTy call_int1 (by rfl) T.n_int (by decide +kernel) (pa_cons (pk_var (pv 0)) pa_nil))) (pu_var (pv 1)))))
      (pss_consU (ps_setU (ps_set (i := 0) scCommonL.nd rfl (Or.inl rfl) (pu_var (pv 1))))
      (pss_oneU (ps_setU (ps_set (i := 1) scCommonL.nd rfl (Or.inl rfl) (pu_var (pv 3))))))))))
    (pss_oneU (ps_retvU (ps_ret (pv 0)))))))
abbrev sLowestL : Stmt := topS 41
theorem scLowestL : FnScope ["numbers", "common", "n"] ["numbers"] (defScope sLowestL) := ⟨rfl, rfl, rfl, by decide +kernel, rfl, by decide +kernel, by decide +kernel⟩
theorem okLowestL {f : Addr} {fd : FuncData} (F : Fun K "_law_lowest" "_law_lowest" sLowestL f fd) (T : Tx mg) (DCommonL : Dt.Dn P w K mg base (L2N.CX P w) "_law_common" 1 ["one", "other"] (spF ca 2 pCommonL)) : FnOk P w K mg base (L2N.CX P w) 2 f fd ["numbers"] (spF ca 1 pLowestL) :=
  ok_fn F scLowestL (by decide) fun cdv A outer s H E hr =>
    (pss_consU (ps_setU (ps_set (i := 1) scLowestL.nd rfl (Or.inr rfl) (pu_c pe_int fun _ _ => .int _)))
    (pss_consU (ps_forU tg_name (ps_for (passes_of rfl) rfl (pi_any (pu_var (pv 0))) (pg_name (i := 2) scLowestL.nd rfl (Or.inl rfl))
    (pss_oneU (ps_setU (ps_set (i := 1) scLowestL.nd rfl (Or.inr rfl) (pu_call (Dt.pe_dnX DCommonL (hr.mono (by omega)) (L2N.takes_of rfl rfl rfl rfl) (pus_cons (pu_var (pv 1)) (pus_cons (pu_var (pv 2)) pus_nil)))))))))
    (pss_oneU (ps_retU (ps_ret (pu_c1 sim_tuple (pe_callTy call_tuple_of (by rfl) T.n_tuple (by decide +kernel) (pa_cons (pk_of (pu_lc (own := [2]) tg_name (by decide) (pe_lc (own := [("n", 2)]) (by rfl) scLowestL.nd (pi_any (pu_var (pv 0))) (blkOk_by (own := [("n", 2)]) (N := ["numbers", "common", "n"]) (sc := defScope sLowestL) (by decide +kernel)) (fun _ _ _ _ _ => (pg_name (i := 2) scLowestL.nd rfl (Or.inl rfl))) (fun _ _ _ _ _ => pts_nilU) (fun _ _ _ _ _ => (pu_op op_fdivD sim_fdiv (pu_var (pv 2)) (pu_var (pv 1))))))) pa_nil))))))))
abbrev sTurnedL : Stmt := topS 42
theorem scTurnedL : FnScope ["a", "b", "c", "more"] ["a", "b", "c"] (defScope sTurnedL) := ⟨rfl, rfl, rfl, by decide +kernel, rfl, by decide +kernel, by decide +kernel⟩
theorem okTurnedL {f : Addr} {fd : FuncData} (F : Fun K "_law_turned" "_law_turned" sTurnedL f fd) (T : Tx mg)  : FnOk P w K mg base (L2N.CX P w) 1 f fd ["a", "b", "c"] (spF ca 3 pTurnedL) :=
  ok_fn F scTurnedL (by decide) fun cdv A outer s H E hr =>
    (pss_consU (ps_setU (ps_set (i := 3) scTurnedL.nd rfl (Or.inl rfl) (pu_op op_addD sim_add (pu_op op_addD sim_add (pu_op op_mulD sim_mul (pu_op op_mulD sim_mul (pu_ixv (pv 0) (pu_c pe_int fun _ _ => .int _) (fun _ _ => rfl)) (pu_ixv (pv 1) (pu_c pe_int fun _ _ => .int _) (fun _ _ => rfl))) (pu_ixv (pv 2) (pu_c pe_int fun _ _ => .int _) (fun _ _ => rfl))) (pu_op op_mulD sim_mul (pu_op op_mulD sim_mul (pu_ixv (pv 0) (pu_c pe_int fun _ _ => .int _) (fun _ _ => rfl)) (pu_ixv (pv 1) (pu_c pe_int fun _ _ => .int _) (fun _ _ => rfl))) (pu_ixv (pv 2) (pu_c pe_int fun _ _ => .int _) (fun _ _ => rfl)))) (pu_op op_mulD sim_mul (pu_op op_mulD sim_mul (pu_ixv (pv 0) (pu_c pe_int fun _ _ => .int _) (fun _ _ => rfl)) (pu_ixv (pv 1) (pu_c pe_int fun _ _ => .int _) (fun _ _ => rfl))) (pu_ixv (pv 2) (pu_c pe_int fun _ _ => .int _) (fun _ _ => rfl))))))
    (pss_oneU (ps_retU (ps_ret (pu_op op_sub sim_sub (pu_op op_sub sim_sub (pu_op op_sub sim_sub (pu_var (pv 3)) (pu_op op_mulD sim_mul (pu_op op_mulD sim_mul (pu_ixv (pv 0) (pu_c pe_int fun _ _ => .int _) (fun _ _ => rfl)) (pu_ixv (pv 1) (pu_c pe_int fun _ _ => .int _) (fun _ _ => rfl))) (pu_ixv (pv 2) (pu_c pe_int fun _ _ => .int _) (fun _ _ => rfl)))) (pu_op op_mulD sim_mul (pu_op op_mulD sim_mul (pu_ixv (pv 0) (pu_c pe_int fun _ _ => .int _) (fun _ _ => rfl)) (pu_ixv (pv 1) (pu_c pe_int fun _ _ => .int _) (fun _ _ => rfl))) (pu_ixv (pv 2) (pu_c pe_int fun _ _ => .int _) (fun _ _ => rfl)))) (pu_op op_mulD sim_mul (pu_op op_mulD sim_mul (pu_ixv (pv 0) (pu_c pe_int fun _ _ => .int _) (fun _ _ => rfl)) (pu_ixv (pv 1) (pu_c pe_int fun _ _ => .int _) (fun _ _ => rfl))) (pu_ixv (pv 2) (pu_c pe_int fun _ _ => .int _) (fun _ _ => rfl))))))))
abbrev sMeasureL : Stmt := topS 43
theorem scMeasureL : FnScope ["body", "size", "k"] ["body"] (defScope sMeasureL) := ⟨rfl, rfl, rfl, by decide +kernel, rfl, by decide +kernel, by decide +kernel⟩
theorem okMeasureL {f : Addr} {fd : FuncData} (F : Fun K "_law_measure" "_law_measure" sMeasureL f fd) (T : Tx mg) (DTurnedL : Dt.Dn P w K mg base (L2N.CX P w) "_law_turned" 1 ["a", "b", "c"] (spF ca 3 pTurnedL)) : FnOk P w K mg base (L2N.CX P w) 2 f fd ["body"] (spF ca 1 pMeasureL) :=
  ok_fn F scMeasureL (by decide) fun cdv A outer s H E hr =>
    (pss_consU (ps_ifU (pt_cmpU (op_eqD (hr.units)) sim_eq (pu_c1 sim_len (pe_callB call_len (by rfl) T.n_len (by decide +kernel) (pa_cons (pk_var (pv 0)) pa_nil))) (pu_c pe_int fun _ _ => .int _) (nomark _))
    (pss_consU (ps_setU (ps_set (i := 1) scMeasureL.nd rfl (Or.inl rfl) (pu_c pe_int fun _ _ => .int _)))
      (pss_consU (ps_forU tg_name (ps_for (passes_of rfl) rfl (pi_rng1 (pi_range1 rfl T.n_range (pus_cons (pu_c pe_int fun _ _ => .int _) pus_nil))) (pg_name (i := 2) scMeasureL.nd rfl (Or.inl rfl))
      (pss_oneU (ps_setU (ps_set (i := 1) scMeasureL.nd rfl (Or.inl rfl) (pu_op op_sub sim_sub (pu_op op_addD sim_add (pu_var (pv 1)) (pu_op op_mulD sim_mul (pu_ix ix_seq sim_ix (pu_ixv (pv 0) (pu_op op_sub sim_sub (pu_var (pv 2)) (pu_c pe_int fun _ _ => .int _)) (fun _ _ => rfl)) (pu_c pe_int fun _ _ => .int _) (fun _ _ => rfl)) (pu_ix ix_seq sim_ix (pu_ixv (pv 0) (pu_var (pv 2)) (fun _ _ => rfl)) (pu_c pe_int fun _ _ => .int _) (fun _ _ => rfl)))) (pu_op op_mulD sim_mul (pu_ix ix_seq sim_ix (pu_ixv (pv 0) (pu_op op_sub sim_sub (pu_var (pv 2)) (pu_c pe_int fun _ _ => .int _)) (fun _ _ => rfl)) (pu_c pe_int fun _ _ => .int _) (fun _ _ => rfl)) (pu_ix ix_seq sim_ix (pu_ixv (pv 0) (pu_var (pv 2)) (fun _ _ => rfl)) (pu_c pe_int fun _ _ => .int _) (fun _ _ => rfl)))))))))
      (pss_oneU (ps_retU (ps_ret (pu_c1 sim_abs (pe_callB call_abs (by rfl) T.n_abs (by decide +kernel) (pa_cons (pk_var (pv 1)) pa_nil))))))))
    pss_nilU)
    (pss_consU (ps_setU (ps_set (i := 1) scMeasureL.nd rfl (Or.inl rfl) (pu_op op_sub sim_sub (pu_call (Dt.pe_dnX DTurnedL (hr.mono (by omega)) (L2N.takes_of rfl rfl rfl rfl) (pus_cons (pu_ixv (pv 0) (pu_c pe_int fun _ _ => .int _) (fun _ _ => rfl)) (pus_cons (pu_ixv (pv 0) (pu_c pe_int fun _ _ => .int _) (fun _ _ => rfl)) (pus_cons (pu_ixv (pv 0) (pu_c pe_int fun _ _ => .int _) (fun _ _ => rfl)) pus_nil))))) (pu_call (Dt.pe_dnX DTurnedL (hr.mono (by omega)) (L2N.takes_of rfl rfl rfl rfl) (pus_cons (pu_ixv (pv 0) (pu_c pe_int fun _ _ => .int _) (fun _ _ => rfl)) (pus_cons (pu_ixv (pv 0) (pu_c pe_int fun _ _ => .int _) (fun _ _ => rfl)) (pus_cons (pu_ixv (pv 0) (pu_c pe_int fun _ _ => .int _) (fun _ _ => rfl)) pus_nil))))))))
    (pss_oneU (ps_retU (ps_ret (pu_c1 sim_abs (pe_callB call_abs (by rfl) T.n_abs (by decide +kernel) (pa_cons (pk_of (pu_op op_sub sim_sub (pu_op op_addD sim_add (pu_var (pv 1)) (pu_call (Dt.pe_dnX DTurnedL (hr.mono (by omega)) (L2N.takes_of rfl rfl rfl rfl) (pus_cons (pu_ixv (pv 0) (pu_c pe_int fun _ _ => .int _) (fun _ _ => rfl)) (pus_cons (pu_ixv (pv 0) (pu_c pe_int fun _ _ => .int _) (fun _ _ => rfl)) (pus_cons (pu_ixv (pv 0) (pu_c pe_int fun _ _ => .int _) (fun _ _ => rfl)) pus_nil)))))) (pu_call (Dt.pe_dnX DTurnedL (hr.mono (by omega)) (L2N.takes_of rfl rfl rfl rfl) (pus_cons (pu_ixv (pv 0) (pu_c pe_int fun _ _ => .int _) (fun _ _ => rfl)) (pus_cons (pu_ixv (pv 0) (pu_c pe_int fun _ _ => .int _) (fun _ _ => rfl)) (pus_cons (pu_ixv (pv 0) (pu_c pe_int fun _ _ => .int _) (fun _ _ => rfl)) pus_nil))))))) pa_nil))))))))
abbrev sBodyL : Stmt := topS 44
theorem scBodyL : FnScope ["tape", "dims", "kind", "size", "rows", "k", "i", "steps", "far", "body", "row", "low"] ["tape", "dims"] (defScope sBodyL) := ⟨rfl, rfl, rfl, by decide +kernel, rfl, by decide +kernel, by decide +kernel⟩
theorem okBodyL {f : Addr} {fd : FuncData} (F : Fun K "_law_body" "_law_body" sBodyL f fd) (T : Tx mg) (DDrawL : Dt.Dn P w K mg base (L2N.CX P w) "_law_draw" 1 ["tape", "many"] (spF ca 2 pDrawL)) (DMeasureL : Dt.Dn P w K mg base (L2N.CX P w) "_law_measure" 2 ["body"] (spF ca 1 pMeasureL)) : FnOk P w K mg base (L2N.CX P w) 3 f fd ["tape", "dims"] (spF ca 2 pBodyL) :=
  ok_fn F scBodyL (by decide) fun cdv A outer s H E hr =>
    (pss_consU (ps_setU (ps_set (i := 2) scBodyL.nd rfl (Or.inl rfl) (pu_call (Dt.pe_dnX DDrawL (hr.mono (by omega)) (L2N.takes_of rfl rfl rfl rfl) (pus_cons (pu_var (pv 0)) (pus_cons (pu_c pe_int fun _ _ => .int _) pus_nil))))))
    (pss_consU (ps_setU (ps_set (i := 3) scBodyL.nd rfl (Or.inr rfl) (pu_ix ix_seq sim_ix (pu_lst (pus_cons (pu_c pe_int fun _ _ => .int _) (pus_cons (pu_c pe_int fun _ _ => .int _) (pus_cons (pu_c pe_int fun _ _ => .int _) (pus_cons (pu_op op_pow sim_pow (pu_c pe_int fun _ _ => .int _) (pu_c pe_int fun _ _ => .int _)) (pus_cons (pu_c pe_int fun _ _ => .int _) (pus_cons (pu_c pe_int fun _ _ => .int _) pus_nil))))))) (pu_var (pv 2)) (fun _ _ => rfl))))
    (pss_consU (ps_setU (ps_set (i := 4) scBodyL.nd rfl (Or.inr rfl) (pu_lc (own := [5]) tg_name (by decide) (pe_lc (own := [("k", 5)]) (by rfl) scBodyL.nd (pi_rng1 (pi_range1 rfl T.n_range (pus_cons (pu_op op_addD sim_add (pu_var (pv 1)) (pu_c pe_int fun _ _ => .int _)) pus_nil))) (blkOk_by (own := [("k", 5)]) (N := ["tape", "dims", "kind", "size", "rows", "k", "i", "steps", "far", "body", "row", "low"]) (sc := defScope sBodyL) (by decide +kernel)) (fun _ _ _ _ _ => (pg_name (i := 5) scBodyL.nd rfl (Or.inl rfl))) (fun _ _ _ _ _ => pts_nilU) (fun _ _ _ _ _ => (pu_lc (own := [6]) tg_name (by decide) (pe_lc (own := [("i", 6)]) (by rfl) scBodyL.nd (pi_rng1 (pi_range1 rfl T.n_range (pus_cons (pu_var (pv 1)) pus_nil))) (blkOk_by (own := [("i", 6)]) (N := ["tape", "dims", "kind", "size", "rows", "k", "i", "steps", "far", "body", "row", "low"]) (by first | rfl | kernel_rfl)) (fun _ _ _ _ _ => (pg_name (i := 6) scBodyL.nd rfl (Or.inl rfl))) (fun _ _ _ _ _ => pts_nilU) (fun _ _ _ _ _ => (pu_op op_sub sim_sub (pu_call (Dt.pe_dn0 DDrawL (hr.mono (by omega)) (pus_cons (pu_var (pv 0)) (pus_cons (pu_op op_addD sim_add (pu_op op_mulD sim_mul (pu_c pe_int fun _ _ => .int _) (pu_var (pv 3))) (pu_c pe_int fun _ _ => .int _)) pus_nil)))) (pu_var (pv 3)))))))))))
    (pss_consU (ps_ifU (pt_cmpU (op_eqD (hr.units)) sim_eq (pu_var (pv 2)) (pu_c pe_int fun _ _ => .int _) (nomark _))
    (pss_consU (ps_setU (ps_set (i := 4) scBodyL.nd rfl (Or.inr rfl) (pu_lst (pus_cons (pu_lc (own := [6]) tg_name (by decide) (pe_lc (own := [("i", 6)]) (by rfl) scBodyL.nd (pi_rng1 (pi_range1 rfl T.n_range (pus_cons (pu_var (pv 1)) pus_nil))) (blkOk_by (own := [("i", 6)]) (N := ["tape", "dims", "kind", "size", "rows", "k", "i", "steps", "far", "body", "row", "low"]) (sc := defScope sBodyL) (by decide +kernel)) (fun _ _ _ _ _ => (pg_name (i := 6) scBodyL.nd rfl (Or.inl rfl))) (fun _ _ _ _ _ => pts_nilU) (fun _ _ _ _ _ => (pu_op op_sub sim_sub (pu_call (Dt.pe_dn0 DDrawL (hr.mono (by omega)) (pus_cons (pu_var (pv 0)) (pus_cons (pu_c pe_int fun _ _ => .int _) pus_nil)))) (pu_c pe_int fun _ _ => .int _))))) pus_nil))))
      (pss_consU (ps_setU (ps_set (i := 7) scBodyL.nd rfl (Or.inr rfl) (pu_lc (own := [6]) tg_name (by decide) (pe_lc (own := [("i", 6)]) (by rfl) scBodyL.nd (pi_rng1 (pi_range1 rfl T.n_range (pus_cons (pu_var (pv 1)) pus_nil))) (blkOk_by (own := [("i", 6)]) (N := ["tape", "dims", "kind", "size", "rows", "k", "i", "steps", "far", "body", "row", "low"]) (sc := defScope sBodyL) (by decide +kernel)) (fun _ _ _ _ _ => (pg_name (i := 6) scBodyL.nd rfl (Or.inl rfl))) (fun _ _ _ _ _ => pts_nilU) (fun _ _ _ _ _ => (pu_op op_addD sim_add (pu_c pe_int fun _ _ => .int _) (pu_call (Dt.pe_dn0 DDrawL (hr.mono (by omega)) (pus_cons (pu_var (pv 0)) (pus_cons (pu_c pe_int fun _ _ => .int _) pus_nil))))))))))
      (pss_oneU (ps_forU tg_name (ps_for (passes_of rfl) rfl (pi_rng1 (pi_range1 rfl T.n_range (pus_cons (pu_var (pv 1)) pus_nil))) (pg_name (i := 5) scBodyL.nd rfl (Or.inr rfl))
      (pss_oneU (ps_appU (ps_expr (pe_bm PySem.F.plainAttrs_list PySem.F.slot_list_append PySem.F.type_list_append mt_append (pv 4) (pa_cons (pu_lc (own := [6]) tg_name (by decide) (pe_lc (own := [("i", 6)]) (by rfl) scBodyL.nd (pi_rng1 (pi_range1 rfl T.n_range (pus_cons (pu_var (pv 1)) pus_nil))) (blkOk_by (own := [("i", 6)]) (N := ["tape", "dims", "kind", "size", "rows", "k", "i", "steps", "far", "body", "row", "low"]) (sc := defScope sBodyL) (by decide +kernel)) (fun _ _ _ _ _ => (pg_name (i := 6) scBodyL.nd rfl (Or.inl rfl))) (fun _ _ _ _ _ => pts_nilU) (fun _ _ _ _ _ => (pu_op op_addD sim_add (pu_ix ix_seq sim_ix (pu_ixv (pv 4) (pu_var (pv 5)) (fun _ _ => rfl)) (pu_var (pv 6)) (fun _ _ => rfl)) (pu_op op_mulD sim_mul (pu_ixv (pv 7) (pu_var (pv 5)) (fun _ _ => rfl)) (pu_c1 sim_int (pe_callTy call_int1 (by rfl) T.n_int (by decide +kernel) (pa_cons (pk_of (pu_cmp (op_eqD (hr.units)) sim_eq (pu_var (pv 6)) (pu_var (pv 5)) (nomark _))) pa_nil)))))))) pa_nil))))))))))
    (pss_oneU (ps_ifU (pt_cmpU (op_eqD (hr.units)) sim_eq (pu_var (pv 2)) (pu_c pe_int fun _ _ => .int _) (nomark _))
      (pss_consU (ps_setU (ps_set (i := 8) scBodyL.nd rfl (Or.inl rfl) (pu_op op_addD sim_add (pu_c pe_int fun _ _ => .int _) (pu_call (Dt.pe_dnX DDrawL (hr.mono (by omega)) (L2N.takes_of rfl rfl rfl rfl) (pus_cons (pu_var (pv 0)) (pus_cons (pu_op op_sub sim_sub (pu_op op_pow sim_pow (pu_c pe_int fun _ _ => .int _) (pu_c pe_int fun _ _ => .int _)) (pu_c pe_int fun _ _ => .int _)) pus_nil)))))))
        (pss_consU (ps_setU (ps_set (i := 4) scBodyL.nd rfl (Or.inr rfl) (pu_lst (pus_cons (pu_op op_mulD sim_mul (pu_lst (pus_cons (pu_c pe_int fun _ _ => .int _) pus_nil)) (pu_var (pv 1))) (pus_cons (pu_op op_addD sim_add (pu_lst (pus_cons (pu_c pe_int fun _ _ => .int _) pus_nil)) (pu_op op_mulD sim_mul (pu_lst (pus_cons (pu_c pe_int fun _ _ => .int _) pus_nil)) (pu_op op_sub sim_sub (pu_var (pv 1)) (pu_c pe_int fun _ _ => .int _)))) (pus_cons (pu_op op_addD sim_add (pu_lst (pus_cons (pu_var (pv 8)) pus_nil)) (pu_op op_mulD sim_mul (pu_lst (pus_cons (pu_c pe_int fun _ _ => .int _) pus_nil)) (pu_op op_sub sim_sub (pu_var (pv 1)) (pu_c pe_int fun _ _ => .int _)))) pus_nil))))))
        (pss_oneU (ps_ifU (pt_cmpU (op_eqD (hr.units)) sim_eq (pu_var (pv 1)) (pu_c pe_int fun _ _ => .int _) (nomark _))
        (pss_oneU (ps_appU (ps_expr (pe_bm PySem.F.plainAttrs_list PySem.F.slot_list_append PySem.F.type_list_append mt_append (pv 4) (pa_cons (pu_lst (pus_cons (pu_c pe_int fun _ _ => .int _) (pus_cons (pu_var (pv 8)) (pus_cons (pu_op op_sub sim_sub (pu_var (pv 8)) (pu_c pe_int fun _ _ => .int _)) pus_nil)))) pa_nil)))))
        pss_nilU))))
      pss_nilU)))
    (pss_consU (ps_setU (ps_set (i := 9) scBodyL.nd rfl (Or.inl rfl) (pu_c1 sim_tuple (pe_callTy call_tuple_of (by rfl) T.n_tuple (by decide +kernel) (pa_cons (pk_of (pu_lc (own := [10]) tg_name (by decide) (pe_lc (own := [("row", 10)]) (by rfl) scBodyL.nd (pi_any (pu_var (pv 4))) (blkOk_by (own := [("row", 10)]) (N := ["tape", "dims", "kind", "size", "rows", "k", "i", "steps", "far", "body", "row", "low"]) (sc := defScope sBodyL) (by decide +kernel)) (fun _ _ _ _ _ => (pg_name (i := 10) scBodyL.nd rfl (Or.inl rfl))) (fun _ _ _ _ _ => pts_nilU) (fun _ _ _ _ _ => (pu_c1 sim_tuple (pe_callTy call_tuple_of (by rfl) T.n_tuple (by decide +kernel) (pa_cons (pk_var (pv 10)) pa_nil))))))) pa_nil)))))
    (pss_consU (ps_ifU (pt_cmpU op_gt sim_gt (pu_call (Dt.pe_dnX DMeasureL (hr.mono (by omega)) (L2N.takes_of rfl rfl rfl rfl) (pus_cons (pu_var (pv 9)) pus_nil))) (pu_c pe_int fun _ _ => .int _) (nomark _))
    (pss_oneU (ps_retvU (ps_ret (pv 9))))
    pss_nilU)
    (pss_consU (ps_setU (ps_set (i := 11) scBodyL.nd rfl (Or.inr rfl) (pu_op op_sub sim_sub (pu_call (Dt.pe_dnX DDrawL (hr.mono (by omega)) (L2N.takes_of rfl rfl rfl rfl) (pus_cons (pu_var (pv 0)) (pus_cons (pu_c pe_int fun _ _ => .int _) pus_nil)))) (pu_c pe_int fun _ _ => .int _))))
    (pss_consU (ps_setU (ps_set (i := 4) scBodyL.nd rfl (Or.inr rfl) (pu_lc (own := [5]) tg_name (by decide) (pe_lc (own := [("k", 5)]) (by rfl) scBodyL.nd (pi_rng1 (pi_range1 rfl T.n_range (pus_cons (pu_op op_addD sim_add (pu_var (pv 1)) (pu_c pe_int fun _ _ => .int _)) pus_nil))) (blkOk_by (own := [("k", 5)]) (N := ["tape", "dims", "kind", "size", "rows", "k", "i", "steps", "far", "body", "row", "low"]) (sc := defScope sBodyL) (by decide +kernel)) (fun _ _ _ _ _ => (pg_name (i := 5) scBodyL.nd rfl (Or.inr rfl))) (fun _ _ _ _ _ => pts_nilU) (fun _ _ _ _ _ => (pu_lc (own := [6]) tg_name (by decide) (pe_lc (own := [("i", 6)]) (by rfl) scBodyL.nd (pi_rng1 (pi_range1 rfl T.n_range (pus_cons (pu_var (pv 1)) pus_nil))) (blkOk_by (own := [("i", 6)]) (N := ["tape", "dims", "kind", "size", "rows", "k", "i", "steps", "far", "body", "row", "low"]) (by first | rfl | kernel_rfl)) (fun _ _ _ _ _ => (pg_name (i := 6) scBodyL.nd rfl (Or.inl rfl))) (fun _ _ _ _ _ => pts_nilU) (fun _ _ _ _ _ => (pu_op op_addD sim_add (pu_var (pv 11)) (pu_c1 sim_int (pe_callTy call_int1 (by rfl) T.n_int (by decide +kernel) (pa_cons (pk_of (pu_cmp op_lt sim_lt (pu_var (pv 6)) (pu_var (pv 5)) (nomark _))) pa_nil))))))))))))
    (pss_oneU (ps_retU (ps_ret (pu_c1 sim_tuple (pe_callTy call_tuple_of (by rfl) T.n_tuple (by decide +kernel) (pa_cons (pk_of (pu_lc (own := [10]) tg_name (by decide) (pe_lc (own := [("row", 10)]) (by rfl) scBodyL.nd (pi_any (pu_var (pv 4))) (blkOk_by (own := [("row", 10)]) (N := ["tape", "dims", "kind", "size", "rows", "k", "i", "steps", "far", "body", "row", "low"]) (sc := defScope sBodyL) (by decide +kernel)) (fun _ _ _ _ _ => (pg_name (i := 10) scBodyL.nd rfl (Or.inl rfl))) (fun _ _ _ _ _ => pts_nilU) (fun _ _ _ _ _ => (pu_c1 sim_tuple (pe_callTy call_tuple_of (by rfl) T.n_tuple (by decide +kernel) (pa_cons (pk_var (pv 10)) pa_nil))))))) pa_nil))))))))))))))
abbrev sWeightsL : Stmt := topS 45
theorem scWeightsL : FnScope ["tape", "dims", "kind", "rows", "k", "one", "at"] ["tape", "dims"] (defScope sWeightsL) := ⟨rfl, rfl, rfl, by decide +kernel, rfl, by decide +kernel, by decide +kernel⟩
theorem okWeightsL {f : Addr} {fd : FuncData} (F : Fun K "_law_weights" "_law_weights" sWeightsL f fd) (T : Tx mg) (DDrawL : Dt.Dn P w K mg base (L2N.CX P w) "_law_draw" 1 ["tape", "many"] (spF ca 2 pDrawL)) (DLowestL : Dt.Dn P w K mg base (L2N.CX P w) "_law_lowest" 2 ["numbers"] (spF ca 1 pLowestL)) : FnOk P w K mg base (L2N.CX P w) 3 f fd ["tape", "dims"] (spF ca 2 pWeightsL) :=
  ok_fn F scWeightsL (by decide) fun cdv A outer s H E hr =>
    (pss_consU (ps_setU (ps_set (i := 2) scWeightsL.nd rfl (Or.inl rfl) (pu_call (Dt.pe_dnX DDrawL (hr.mono (by omega)) (L2N.takes_of rfl rfl rfl rfl) (pus_cons (pu_var (pv 0)) (pus_cons (pu_c pe_int fun _ _ => .int _) pus_nil))))))
    (pss_consU (ps_ifU (pt_cmpU op_lt sim_lt (pu_var (pv 2)) (pu_c pe_int fun _ _ => .int _) (nomark _))
    (pss_oneU (ps_setLcU (own := [4]) tg_name (by decide) (ps_setLc (i := 3) (own := [("k", 4)]) (by rfl) scWeightsL.nd rfl rfl (sw_true rfl rfl rfl (by decide +kernel)) (pi_rng1 (pi_range1 rfl T.n_range (pus_cons (pu_op op_addD sim_add (pu_var (pv 1)) (pu_c pe_int fun _ _ => .int _)) pus_nil))) (blkOk_by (own := [("k", 4)]) (N := ["tape", "dims", "kind", "rows", "k", "one", "at"]) (sc := defScope sWeightsL) (by decide +kernel)) (fun _ _ _ _ _ => (pg_name (i := 4) scWeightsL.nd rfl (Or.inl rfl))) (fun _ _ _ _ _ => pts_nilU) (fun _ _ _ _ _ => (pu_call (Dt.pe_dn0 DDrawL (hr.mono (by omega)) (pus_cons (pu_var (pv 0)) (pus_cons (pu_c pe_int fun _ _ => .int _) pus_nil))))))))
    (pss_oneU (ps_ifU (pt_cmpU (op_eqD (hr.units)) sim_eq (pu_var (pv 2)) (pu_c pe_int fun _ _ => .int _) (nomark _))
      (pss_oneU (ps_setLcU (own := [4]) tg_name (by decide) (ps_setLc (i := 3) (own := [("k", 4)]) (by rfl) scWeightsL.nd rfl rfl (sw_true rfl rfl rfl (by decide +kernel)) (pi_rng1 (pi_range1 rfl T.n_range (pus_cons (pu_op op_addD sim_add (pu_var (pv 1)) (pu_c pe_int fun _ _ => .int _)) pus_nil))) (blkOk_by (own := [("k", 4)]) (N := ["tape", "dims", "kind", "rows", "k", "one", "at"]) (sc := defScope sWeightsL) (by decide +kernel)) (fun _ _ _ _ _ => (pg_name (i := 4) scWeightsL.nd rfl (Or.inl rfl))) (fun _ _ _ _ _ => pts_nilU) (fun _ _ _ _ _ => (pu_op op_sub sim_sub (pu_call (Dt.pe_dn0 DDrawL (hr.mono (by omega)) (pus_cons (pu_var (pv 0)) (pus_cons (pu_c pe_int fun _ _ => .int _) pus_nil)))) (pu_c pe_int fun _ _ => .int _))))))
      (pss_oneU (ps_ifU (pt_cmpU (op_eqD (hr.units)) sim_eq (pu_var (pv 2)) (pu_c pe_int fun _ _ => .int _) (nomark _))
        (pss_consU (ps_setU (ps_set (i := 5) scWeightsL.nd rfl (Or.inr rfl) (pu_call (Dt.pe_dnX DDrawL (hr.mono (by omega)) (L2N.takes_of rfl rfl rfl rfl) (pus_cons (pu_var (pv 0)) (pus_cons (pu_op op_addD sim_add (pu_var (pv 1)) (pu_c pe_int fun _ _ => .int _)) pus_nil))))))
          (pss_oneU (ps_setLcU (own := [4]) tg_name (by decide) (ps_setLc (i := 3) (own := [("k", 4)]) (by rfl) scWeightsL.nd rfl rfl (sw_true rfl rfl rfl (by decide +kernel)) (pi_rng1 (pi_range1 rfl T.n_range (pus_cons (pu_op op_addD sim_add (pu_var (pv 1)) (pu_c pe_int fun _ _ => .int _)) pus_nil))) (blkOk_by (own := [("k", 4)]) (N := ["tape", "dims", "kind", "rows", "k", "one", "at"]) (sc := defScope sWeightsL) (by decide +kernel)) (fun _ _ _ _ _ => (pg_name (i := 4) scWeightsL.nd rfl (Or.inl rfl))) (fun _ _ _ _ _ => pts_nilU) (fun _ _ _ _ _ => (pu_c1 sim_int (pe_callTy call_int1 (by rfl) T.n_int (by decide +kernel) (pa_cons (pk_of (pu_cmp (op_eqD (hr.units)) sim_eq (pu_var (pv 4)) (pu_var (pv 5)) (nomark _))) pa_nil))))))))
        (pss_oneU (ps_setLcU (own := [4]) tg_name (by decide) (ps_setLc (i := 3) (own := [("k", 4)]) (by rfl) scWeightsL.nd rfl rfl (sw_true rfl rfl rfl (by decide +kernel)) (pi_rng1 (pi_range1 rfl T.n_range (pus_cons (pu_op op_addD sim_add (pu_var (pv 1)) (pu_c pe_int fun _ _ => .int _)) pus_nil))) (blkOk_by (own := [("k", 4)]) (N := ["tape", "dims", "kind", "rows", "k", "one", "at"]) (sc := defScope sWeightsL) (by decide +kernel)) (fun _ _ _ _ _ => (pg_name (i := 4) scWeightsL.nd rfl (Or.inl rfl))) (fun _ _ _ _ _ => pts_nilU) (fun _ _ _ _ _ => (pu_op op_sub sim_sub (pu_call (Dt.pe_dn0 DDrawL (hr.mono (by omega)) (pus_cons (pu_var (pv 0)) (pus_cons (pu_op op_mulD sim_mul (pu_c pe_int fun _ _ => .int _) (pu_op op_pow sim_pow (pu_c pe_int fun _ _ => .int _) (pu_c pe_int fun _ _ => .int _))) pus_nil)))) (pu_op op_pow sim_pow (pu_c pe_int fun _ _ => .int _) (pu_c pe_int fun _ _ => .int _))))))))))))
    (pss_consU (ps_setU (ps_set (i := 6) scWeightsL.nd rfl (Or.inl rfl) (pu_call (Dt.pe_dnX DDrawL (hr.mono (by omega)) (L2N.takes_of rfl rfl rfl rfl) (pus_cons (pu_var (pv 0)) (pus_cons (pu_op op_addD sim_add (pu_var (pv 1)) (pu_c pe_int fun _ _ => .int _)) pus_nil))))))
    (pss_consU (ps_ifU (pt_cmpU op_lt sim_lt (pu_c1 sim_sumA (pe_callB (Tsu.cr_or (cr_sum rfl) (Tsu.cr_sumT rfl)) (by rfl) T.n_sum (by decide +kernel) (pa_cons (pk_var (pv 3)) pa_nil))) (pu_c pe_int fun _ _ => .int _) (nomark _))
    (pss_oneU (ps_setAtU (ps_asg (pu_op op_sub sim_sub (pu_op op_addD sim_add (pu_ixv (pv 3) (pu_var (pv 6)) (fun _ _ => rfl)) (pu_c pe_int fun _ _ => .int _)) (pu_c1 sim_sumA (pe_callB (Tsu.cr_or (cr_sum rfl) (Tsu.cr_sumT rfl)) (by rfl) T.n_sum (by decide +kernel) (pa_cons (pk_var (pv 3)) pa_nil)))) (pg_sub (pv 3) (pu_var (pv 6)) set_list))))
    pss_nilU)
    (pss_oneU (ps_retU (ps_ret (pu_call (Dt.pe_dnX DLowestL (hr.mono (by omega)) (L2N.takes_of rfl rfl rfl rfl) (pus_cons (pu_op op_addD sim_add (pu_var (pv 3)) (pu_lst (pus_cons (pu_c1 sim_sumA (pe_callB (Tsu.cr_or (cr_sum rfl) (Tsu.cr_sumT rfl)) (by rfl) T.n_sum (by decide +kernel) (pa_cons (pk_var (pv 3)) pa_nil))) pus_nil))) pus_nil))))))))))
abbrev sGivenL : Stmt := topS 46
theorem scGivenL : FnScope ["body", "weights", "dims", "numbers", "i", "k"] ["body", "weights"] (defScope sGivenL) := ⟨rfl, rfl, rfl, by decide +kernel, rfl, by decide +kernel, by decide +kernel⟩
theorem okGivenL {f : Addr} {fd : FuncData} (F : Fun K "_law_given" "_law_given" sGivenL f fd) (T : Tx mg) (DLowestL : Dt.Dn P w K mg base (L2N.CX P w) "_law_lowest" 2 ["numbers"] (spF ca 1 pLowestL)) : FnOk P w K mg base (L2N.CX P w) 3 f fd ["body", "weights"] (spF ca 2 pGivenL) :=
  ok_fn F scGivenL (by decide) fun cdv A outer s H E hr =>
    (pss_consU (ps_setU (ps_set (i := 2) scGivenL.nd rfl (Or.inr rfl) (pu_op op_sub sim_sub (pu_c1 sim_len (pe_callB call_len (by rfl) T.n_len (by decide +kernel) (pa_cons (pk_var (pv 0)) pa_nil))) (pu_c pe_int fun _ _ => .int _))))
    (pss_consU (ps_setLcU (own := [4]) tg_name (by decide) (ps_setLc (i := 3) (own := [("i", 4)]) (by rfl) scGivenL.nd rfl rfl (sw_true rfl rfl rfl (by decide +kernel)) (pi_rng1 (pi_range1 rfl T.n_range (pus_cons (pu_var (pv 2)) pus_nil))) (blkOk_by (own := [("i", 4)]) (N := ["body", "weights", "dims", "numbers", "i", "k"]) (sc := defScope sGivenL) (by decide +kernel)) (fun _ _ _ _ _ => (pg_name (i := 4) scGivenL.nd rfl (Or.inr rfl))) (fun _ _ _ _ _ => pts_nilU) (fun _ _ _ _ _ => (pu_c1 sim_sumA (pe_callB (Tsu.cr_or (cr_sum rfl) (Tsu.cr_sumT rfl)) (by rfl) T.n_sum (by decide +kernel) (pa_cons (pk_of (pu_lc (own := [5]) tg_name (by decide) (pe_lc (own := [("k", 5)]) (by rfl) scGivenL.nd (pi_rng1 (pi_range1 rfl T.n_range (pus_cons (pu_op op_addD sim_add (pu_var (pv 2)) (pu_c pe_int fun _ _ => .int _)) pus_nil))) (blkOk_by (own := [("k", 5)]) (N := ["body", "weights", "dims", "numbers", "i", "k"]) (by first | rfl | kernel_rfl)) (fun _ _ _ _ _ => (pg_name (i := 5) scGivenL.nd rfl (Or.inl rfl))) (fun _ _ _ _ _ => pts_nilU) (fun _ _ _ _ _ => (pu_op op_mulD sim_mul (pu_ixv (pv 1) (pu_var (pv 5)) (fun _ _ => rfl)) (pu_ix ix_seq sim_ix (pu_ixv (pv 0) (pu_var (pv 5)) (fun _ _ => rfl)) (pu_var (pv 4)) (fun _ _ => rfl))))))) pa_nil))))))
    (pss_oneU (ps_retU (ps_ret (pu_call (Dt.pe_dnX DLowestL (hr.mono (by omega)) (L2N.takes_of rfl rfl rfl rfl) (pus_cons (pu_op op_addD sim_add (pu_var (pv 3)) (pu_lst (pus_cons (pu_ixv (pv 1) (pu_un un_neg sim_neg (pk_of (pu_c pe_int fun _ _ => .int _))) (fun _ _ => rfl)) pus_nil))) pus_nil))))))))
abbrev sPlaceL : Stmt := topS 47
theorem scPlaceL : FnScope ["tape", "body", "dims", "kind", "numbers", "i", "point", "place", "n", "size"] ["tape", "body"] (defScope sPlaceL) := ⟨rfl, rfl, rfl, by decide +kernel, rfl, by decide +kernel, by decide +kernel⟩
theorem okPlaceL {f : Addr} {fd : FuncData} (F : Fun K "_law_place" "_law_place" sPlaceL f fd) (T : Tx mg) (DDrawL : Dt.Dn P w K mg base (L2N.CX P w) "_law_draw" 1 ["tape", "many"] (spF ca 2 pDrawL)) (DLowestL : Dt.Dn P w K mg base (L2N.CX P w) "_law_lowest" 2 ["numbers"] (spF ca 1 pLowestL)) : FnOk P w K mg base (L2N.CX P w) 3 f fd ["tape", "body"] (spF ca 2 pPlaceL) :=
  ok_fn F scPlaceL (by decide) fun cdv A outer s H E hr =>
    (pss_consU (ps_setU (ps_set (i := 2) scPlaceL.nd rfl (Or.inl rfl) (pu_op op_sub sim_sub (pu_c1 sim_len (pe_callB call_len (by rfl) T.n_len (by decide +kernel) (pa_cons (pk_var (pv 1)) pa_nil))) (pu_c pe_int fun _ _ => .int _))))
    (pss_consU (ps_setU (ps_set (i := 3) scPlaceL.nd rfl (Or.inl rfl) (pu_call (Dt.pe_dnX DDrawL (hr.mono (by omega)) (L2N.takes_of rfl rfl rfl rfl) (pus_cons (pu_var (pv 0)) (pus_cons (pu_c pe_int fun _ _ => .int _) pus_nil))))))
    (pss_consU (ps_ifU (pt_cmpU (op_eqD (hr.units)) sim_eq (pu_var (pv 3)) (pu_c pe_int fun _ _ => .int _) (nomark _))
    (pss_oneU (ps_retU (ps_ret (pu_op op_addD sim_add (pu_ixv (pv 1) (pu_call (Dt.pe_dnX DDrawL (hr.mono (by omega)) (L2N.takes_of rfl rfl rfl rfl) (pus_cons (pu_var (pv 0)) (pus_cons (pu_op op_addD sim_add (pu_var (pv 2)) (pu_c pe_int fun _ _ => .int _)) pus_nil)))) (fun _ _ => rfl)) (pu_tup (pus_cons (pu_c pe_int fun _ _ => .int _) pus_nil))))))
    pss_nilU)
    (pss_consU (ps_ifU (pt_cmpU (op_eqD (hr.units)) sim_eq (pu_var (pv 3)) (pu_c pe_int fun _ _ => .int _) (nomark _))
    (pss_consU (ps_setLcU (own := [5]) tg_name (by decide) (ps_setLc (i := 4) (own := [("i", 5)]) (by rfl) scPlaceL.nd rfl rfl (sw_true rfl rfl rfl (by decide +kernel)) (pi_rng1 (pi_range1 rfl T.n_range (pus_cons (pu_var (pv 2)) pus_nil))) (blkOk_by (own := [("i", 5)]) (N := ["tape", "body", "dims", "kind", "numbers", "i", "point", "place", "n", "size"]) (sc := defScope sPlaceL) (by decide +kernel)) (fun _ _ _ _ _ => (pg_name (i := 5) scPlaceL.nd rfl (Or.inr rfl))) (fun _ _ _ _ _ => pts_nilU) (fun _ _ _ _ _ => (pu_c1 sim_sumA (pe_callB (Tsu.cr_or (cr_sum rfl) (Tsu.cr_sumT rfl)) (by rfl) T.n_sum (by decide +kernel) (pa_cons (pk_of (pu_lc (own := [6]) tg_name (by decide) (pe_lc (own := [("point", 6)]) (by rfl) scPlaceL.nd (pi_any (pu_var (pv 1))) (blkOk_by (own := [("point", 6)]) (N := ["tape", "body", "dims", "kind", "numbers", "i", "point", "place", "n", "size"]) (by first | rfl | kernel_rfl)) (fun _ _ _ _ _ => (pg_name (i := 6) scPlaceL.nd rfl (Or.inl rfl))) (fun _ _ _ _ _ => pts_nilU) (fun _ _ _ _ _ => (pu_ixv (pv 6) (pu_var (pv 5)) (fun _ _ => rfl)))))) pa_nil))))))
      (pss_consU (ps_setU (ps_set (i := 7) scPlaceL.nd rfl (Or.inl rfl) (pu_call (Dt.pe_dnX DLowestL (hr.mono (by omega)) (L2N.takes_of rfl rfl rfl rfl) (pus_cons (pu_op op_addD sim_add (pu_var (pv 4)) (pu_lst (pus_cons (pu_op op_addD sim_add (pu_var (pv 2)) (pu_c pe_int fun _ _ => .int _)) pus_nil))) pus_nil)))))
      (pss_oneU (ps_ifU (pt_cmpU op_le sim_le (pu_c1 sim_maxA (pe_callB (Tsu.cr_or (cr_max rfl) (Tsu.cr_maxT rfl)) (by rfl) T.n_max (by decide +kernel) (pa_cons (pk_of (pu_lc (own := [8]) tg_name (by decide) (pe_lc (own := [("n", 8)]) (by rfl) scPlaceL.nd (pi_any (pu_var (pv 7))) (blkOk_by (own := [("n", 8)]) (N := ["tape", "body", "dims", "kind", "numbers", "i", "point", "place", "n", "size"]) (sc := defScope sPlaceL) (by decide +kernel)) (fun _ _ _ _ _ => (pg_name (i := 8) scPlaceL.nd rfl (Or.inl rfl))) (fun _ _ _ _ _ => pts_nilU) (fun _ _ _ _ _ => (pu_c1 sim_abs (pe_callB call_abs (by rfl) T.n_abs (by decide +kernel) (pa_cons (pk_var (pv 8)) pa_nil))))))) pa_nil))) (pu_op op_pow sim_pow (pu_c pe_int fun _ _ => .int _) (pu_c pe_int fun _ _ => .int _)) (nomark _))
      (pss_oneU (ps_retvU (ps_ret (pv 7))))
      pss_nilU))))
    pss_nilU)
    (pss_consU (ps_setU (ps_set (i := 9) scPlaceL.nd rfl (Or.inr rfl) (pu_ix ix_seq sim_ix (pu_lst (pus_cons (pu_c pe_int fun _ _ => .int _) (pus_cons (pu_c pe_int fun _ _ => .int _) (pus_cons (pu_op op_pow sim_pow (pu_c pe_int fun _ _ => .int _) (pu_c pe_int fun _ _ => .int _)) pus_nil)))) (pu_call (Dt.pe_dnX DDrawL (hr.mono (by omega)) (L2N.takes_of rfl rfl rfl rfl) (pus_cons (pu_var (pv 0)) (pus_cons (pu_c pe_int fun _ _ => .int _) pus_nil)))) (fun _ _ => rfl))))
    (pss_consU (ps_setLcU (own := [5]) tg_name (by decide) (ps_setLc (i := 4) (own := [("i", 5)]) (by rfl) scPlaceL.nd rfl rfl (sw_true rfl rfl rfl (by decide +kernel)) (pi_rng1 (pi_range1 rfl T.n_range (pus_cons (pu_var (pv 2)) pus_nil))) (blkOk_by (own := [("i", 5)]) (N := ["tape", "body", "dims", "kind", "numbers", "i", "point", "place", "n", "size"]) (sc := defScope sPlaceL) (by decide +kernel)) (fun _ _ _ _ _ => (pg_name (i := 5) scPlaceL.nd rfl (Or.inl rfl))) (fun _ _ _ _ _ => pts_nilU) (fun _ _ _ _ _ => (pu_op op_sub sim_sub (pu_call (Dt.pe_dn0 DDrawL (hr.mono (by omega)) (pus_cons (pu_var (pv 0)) (pus_cons (pu_op op_addD sim_add (pu_op op_mulD sim_mul (pu_c pe_int fun _ _ => .int _) (pu_var (pv 9))) (pu_c pe_int fun _ _ => .int _)) pus_nil)))) (pu_var (pv 9))))))
    (pss_oneU (ps_retU (ps_ret (pu_call (Dt.pe_dnX DLowestL (hr.mono (by omega)) (L2N.takes_of rfl rfl rfl rfl) (pus_cons (pu_op op_addD sim_add (pu_var (pv 4)) (pu_lst (pus_cons (pu_op op_addD sim_add (pu_c pe_int fun _ _ => .int _) (pu_call (Dt.pe_dnX DDrawL (hr.mono (by omega)) (L2N.takes_of rfl rfl rfl rfl) (pus_cons (pu_var (pv 0)) (pus_cons (pu_ix ix_seq sim_ix (pu_lst (pus_cons (pu_c pe_int fun _ _ => .int _) (pus_cons (pu_c pe_int fun _ _ => .int _) (pus_cons (pu_op op_pow sim_pow (pu_c pe_int fun _ _ => .int _) (pu_c pe_int fun _ _ => .int _)) pus_nil)))) (pu_call (Dt.pe_dnX DDrawL (hr.mono (by omega)) (L2N.takes_of rfl rfl rfl rfl) (pus_cons (pu_var (pv 0)) (pus_cons (pu_c pe_int fun _ _ => .int _) pus_nil)))) (fun _ _ => rfl)) pus_nil))))) pus_nil))) pus_nil))))))))))))
abbrev sCarrierL : Stmt := topS 48
theorem scCarrierL : FnScope ["body", "weights", "rows", "k"] ["body", "weights"] (defScope sCarrierL) := ⟨rfl, rfl, rfl, by decide +kernel, rfl, by decide +kernel, by decide +kernel⟩
theorem okCarrierL {f : Addr} {fd : FuncData} (F : Fun K "_law_carrier" "_law_carrier" sCarrierL f fd) (T : Tx mg) (DLowestL : Dt.Dn P w K mg base (L2N.CX P w) "_law_lowest" 2 ["numbers"] (spF ca 1 pLowestL)) : FnOk P w K mg base (L2N.CX P w) 3 f fd ["body", "weights"] (spF ca 2 pCarrierL) :=
  ok_fn F scCarrierL (by decide) fun cdv A outer s H E hr =>
    (pss_consU (ps_setU (ps_set (i := 2) scCarrierL.nd rfl (Or.inl rfl) (pu_lst pus_nil)))
    (pss_consU (ps_forU tg_name (ps_for (passes_of rfl) rfl (pi_rng1 (pi_range1 rfl T.n_range (pus_cons (pu_c1 sim_len (pe_callB call_len (by rfl) T.n_len (by decide +kernel) (pa_cons (pk_var (pv 0)) pa_nil))) pus_nil))) (pg_name (i := 3) scCarrierL.nd rfl (Or.inl rfl))
    (pss_consU (ps_ifU (pt_cmpU op_lt sim_lt (pu_ixv (pv 1) (pu_var (pv 3)) (fun _ _ => rfl)) (pu_c pe_int fun _ _ => .int _) (nomark _))
      (pss_oneU (ps_retU (ps_ret (pu_c pe_non fun _ _ => .non))))
      pss_nilU)
      (pss_oneU (ps_ifU (pt_cmpU op_gt sim_gt (pu_ixv (pv 1) (pu_var (pv 3)) (fun _ _ => rfl)) (pu_c pe_int fun _ _ => .int _) (nomark _))
      (pss_oneU (ps_appU (ps_expr (pe_bm PySem.F.plainAttrs_list PySem.F.slot_list_append PySem.F.type_list_append mt_append (pv 2) (pa_cons (pu_tup (pus_cons (pu_ixv (pv 0) (pu_var (pv 3)) (fun _ _ => rfl)) (pus_cons (pu_call (Dt.pe_dnX DLowestL (hr.mono (by omega)) (L2N.takes_of rfl rfl rfl rfl) (pus_cons (pu_lst (pus_cons (pu_ixv (pv 1) (pu_var (pv 3)) (fun _ _ => rfl)) (pus_cons (pu_ixv (pv 1) (pu_un un_neg sim_neg (pk_of (pu_c pe_int fun _ _ => .int _))) (fun _ _ => rfl)) pus_nil))) pus_nil))) pus_nil))) pa_nil)))))
      pss_nilU)))))
    (pss_oneU (ps_retU (ps_ret (pu_c1 sim_tuple (pe_callTy call_tuple_of (by rfl) T.n_tuple (by decide +kernel) (pa_cons (pk_of (pu_c1 sim_sorted (pe_callB (cr_sortD (u70 hr)) (by rfl) T.n_sorted (by decide +kernel) (pa_cons (pk_var (pv 2)) pa_nil)))) pa_nil))))))))
abbrev sFormL : Stmt := topS 49
theorem scFormL : FnScope ["body", "weights", "common", "n"] ["body", "weights"] (defScope sFormL) := ⟨rfl, rfl, rfl, by decide +kernel, rfl, by decide +kernel, by decide +kernel⟩
theorem okFormL {f : Addr} {fd : FuncData} (F : Fun K "_law_form" "_law_form" sFormL f fd) (T : Tx mg) (DCommonL : Dt.Dn P w K mg base (L2N.CX P w) "_law_common" 1 ["one", "other"] (spF ca 2 pCommonL)) : FnOk P w K mg base (L2N.CX P w) 2 f fd ["body", "weights"] (spF ca 2 pFormL) :=
  ok_fn F scFormL (by decide) fun cdv A outer s H E hr =>
    (pss_consU (ps_ifU (PW.pt (pw_orU (pt_notU (pt_tru (pk_of (pu_isi sim_isi_tuple (pe_callB call_isi (by rfl) T.n_isinstance (by decide +kernel) (pa_cons (pk_var (pv 1)) (pa_cons (pe_bltn (v := .ty "tuple") (u := .type "tuple") rfl T.n_tuple (by decide +kernel) rfl) pa_nil))))))) (pw_or1 (pt_cmpU (op_neD (hr.units)) sim_ne (pu_c1 sim_len (pe_callB call_len (by rfl) T.n_len (by decide +kernel) (pa_cons (pk_var (pv 1)) pa_nil))) (pu_op op_addD sim_add (pu_c1 sim_len (pe_callB call_len (by rfl) T.n_len (by decide +kernel) (pa_cons (pk_var (pv 0)) pa_nil))) (pu_c pe_int fun _ _ => .int _)) (nomark _)))))
    (pss_oneU (ps_retU (ps_ret (pu_c pe_bl fun _ _ => .bl _))))
    pss_nilU)
    (pss_consU (ps_setU (ps_set (i := 2) scFormL.nd rfl (Or.inl rfl) (pu_c pe_int fun _ _ => .int _)))
    (pss_consU (ps_forU tg_name (ps_for (passes_of rfl) rfl (pi_any (pu_var (pv 1))) (pg_name (i := 3) scFormL.nd rfl (Or.inl rfl))
    (pss_consU (ps_ifU (PW.pt (pw_orU (pt_notU (pt_tru (pk_of (pu_isi sim_isi_int (pe_callB call_isi (by rfl) T.n_isinstance (by decide +kernel) (pa_cons (pk_var (pv 3)) (pa_cons (pe_bltn (v := .ty "int") (u := .type "int") rfl T.n_int (by decide +kernel) rfl) pa_nil))))))) (pw_or1 (pt_tru (pk_of (pu_isi sim_isi_bool (pe_callB call_isi (by rfl) T.n_isinstance (by decide +kernel) (pa_cons (pk_var (pv 3)) (pa_cons (pe_bltn (v := .ty "bool") (u := .type "bool") rfl T.n_bool (by decide +kernel) rfl) pa_nil)))))))))
      (pss_oneU (ps_retU (ps_ret (pu_c pe_bl fun _ _ => .bl _))))
      pss_nilU)
      (pss_oneU (ps_setU (ps_set (i := 2) scFormL.nd rfl (Or.inl rfl) (pu_call (Dt.pe_dnX DCommonL (hr.mono (by omega)) (L2N.takes_of rfl rfl rfl rfl) (pus_cons (pu_var (pv 2)) (pus_cons (pu_var (pv 3)) pus_nil))))))))))
    (pss_oneU (ps_retU (ps_ret (pu_andV (pu_cmp (op_eqD (hr.units)) sim_eq (pu_var (pv 2)) (pu_c pe_int fun _ _ => .int _) (nomark _)) (pu_andV (pu_cmp op_ge sim_ge (pu_ixv (pv 1) (pu_un un_neg sim_neg (pk_of (pu_c pe_int fun _ _ => .int _))) (fun _ _ => rfl)) (pu_c pe_int fun _ _ => .int _) (nomark _)) (pe_one (pu_cmp (op_eqD (hr.units)) sim_eq (pu_c1 sim_sumA (pe_callB (Tsu.cr_or (cr_sum rfl) (Tsu.cr_sumT rfl)) (by rfl) T.n_sum (by decide +kernel) (pa_cons (pk_of (pu_slicev (pv 1) po_noneU (po_someU (pu_un un_neg sim_neg (pk_of (pu_c pe_int fun _ _ => .int _)))))) pa_nil))) (pu_ixv (pv 1) (pu_un un_neg sim_neg (pk_of (pu_c pe_int fun _ _ => .int _))) (fun _ _ => rfl)) (nomark _)))))))))))
abbrev sHeldHoldsL : Stmt := topS 50
theorem scHeldHoldsL : FnScope ["body", "place", "weights", "carrier", "turned", "whole", "k", "moved"] ["body", "place", "weights"] (defScope sHeldHoldsL) := ⟨rfl, rfl, rfl, by decide +kernel, rfl, by decide +kernel, by decide +kernel⟩
theorem okHeldHoldsL {f : Addr} {fd : FuncData} (F : Fun K "_law_held_holds" "_law_held_holds" sHeldHoldsL f fd) (T : Tx mg) (DCarrierL : Dt.Dn P w K mg base (L2N.CX P w) "_law_carrier" 3 ["body", "weights"] (spF ca 2 pCarrierL)) (DMeasureL : Dt.Dn P w K mg base (L2N.CX P w) "_law_measure" 2 ["body"] (spF ca 1 pMeasureL)) (DSameL : Dt.Dn P w K mg base (L2N.CX P w) "_law_same" 7 ["told", "due"] (spF ca 2 pSameL)) (DCarrierIn : Dt.Dn P w K mg base (L2N.CX P w) "carrier_in" 5 ["body", "place"] (spF ca 2 pCarrierIn)) (DMeasureOf : Dt.Dn P w K mg base (L2N.CX P w) "measure_of" 4 ["body"] (spF ca 1 pMeasureOf)) (DWeightsIn : Dt.Dn P w K mg base (L2N.CX P w) "weights_in" 5 ["body", "place"] (spF ca 2 pWeightsIn)) (KDCarrierIn : Dt.Dk P w K mg base (L2N.CX P w) "carrier_in" 5 ["body", "place"] (spF ca 2 pCarrierIn)) (KDHolds : Dt.Dk P w K mg base (L2N.CX P w) "holds" 6 ["body", "place"] (spF ca 2 pHolds)) : FnOk P w K mg base (L2N.CX P w) 8 f fd ["body", "place", "weights"] (spF ca 3 pHeldHoldsL) :=
  ok_fn F scHeldHoldsL (by decide) fun cdv A outer s H E hr =>
    (pss_consU (ps_setU (ps_set (i := 3) scHeldHoldsL.nd rfl (Or.inl rfl) (pu_call (Dt.pe_dnX DCarrierL (hr.mono (by omega)) (L2N.takes_of rfl rfl rfl rfl) (pus_cons (pu_var (pv 0)) (pus_cons (pu_var (pv 2)) pus_nil))))))
    (pss_consU (ps_ifU (pt_notU (pt_tru (pk_of (pu_call (Dt.pe_dnX DSameL (hr.mono (by omega)) (L2N.takes_of rfl rfl rfl rfl) (pus_cons (pu_quiet (pu_callR (n := 2) (p := pHolds) (Dt.pe_dnKx (ps := ["body", "place"]) KDHolds (hr.mono (by omega)) Dt.passN0' (pks_cons (pu_var (pv 1)) (pks_cons (pu_var (pv 0)) pks_nil))))) (pus_cons (pu_cmp op_notN sim_isNot (pu_var (pv 3)) (pu_c pe_non fun _ _ => .non) (nomark _)) pus_nil)))))))
    (pss_oneU (ps_retU (ps_ret (pu_c pe_bl fun _ _ => .bl _))))
    pss_nilU)
    (pss_consU (ps_ifU (pt_notU (pt_tru (pk_of (pu_call (Dt.pe_dnX DSameL (hr.mono (by omega)) (L2N.takes_of rfl rfl rfl rfl) (pus_cons (pu_call (Dt.pe_dnX DCarrierIn (hr.mono (by omega)) (L2N.takes_of rfl rfl rfl rfl) (pus_cons (pu_var (pv 0)) (pus_cons (pu_var (pv 1)) pus_nil)))) (pus_cons (pu_var (pv 3)) pus_nil)))))))
    (pss_oneU (ps_retU (ps_ret (pu_c pe_bl fun _ _ => .bl _))))
    pss_nilU)
    (pss_consU (ps_setU (ps_set (i := 4) scHeldHoldsL.nd rfl (Or.inl rfl) (pu_op op_addD sim_add (pu_slicev (pv 0) (po_someU (pu_c pe_int fun _ _ => .int _)) po_noneU) (pu_slicev (pv 0) po_noneU (po_someU (pu_c pe_int fun _ _ => .int _))))))
    (pss_consU (ps_ifU (pt_notU (pt_tru (pk_of (pu_call (Dt.pe_dnX DSameL (hr.mono (by omega)) (L2N.takes_of rfl rfl rfl rfl) (pus_cons (pu_call (Dt.pe_dnX DWeightsIn (hr.mono (by omega)) (L2N.takes_of rfl rfl rfl rfl) (pus_cons (pu_var (pv 4)) (pus_cons (pu_var (pv 1)) pus_nil)))) (pus_cons (pu_op op_addD sim_add (pu_op op_addD sim_add (pu_slicev (pv 2) (po_someU (pu_c pe_int fun _ _ => .int _)) (po_someU (pu_un un_neg sim_neg (pk_of (pu_c pe_int fun _ _ => .int _))))) (pu_slicev (pv 2) po_noneU (po_someU (pu_c pe_int fun _ _ => .int _)))) (pu_slicev (pv 2) (po_someU (pu_un un_neg sim_neg (pk_of (pu_c pe_int fun _ _ => .int _)))) po_noneU)) pus_nil)))))))
    (pss_oneU (ps_retU (ps_ret (pu_c pe_bl fun _ _ => .bl _))))
    pss_nilU)
    (pss_consU (ps_ifU (pt_notU (pt_tru (pk_of (pu_call (Dt.pe_dnX DSameL (hr.mono (by omega)) (L2N.takes_of rfl rfl rfl rfl) (pus_cons (pu_quiet (pu_callR (n := 2) (p := pCarrierIn) (Dt.pe_dnKx (ps := ["body", "place"]) KDCarrierIn (hr.mono (by omega)) Dt.passN0' (pks_cons (pu_var (pv 1)) (pks_cons (pu_var (pv 4)) pks_nil))))) (pus_cons (pu_var (pv 3)) pus_nil)))))))
    (pss_oneU (ps_retU (ps_ret (pu_c pe_bl fun _ _ => .bl _))))
    pss_nilU)
    (pss_consU (ps_ifU (pt_cmpU op_gt sim_gt (pu_ixv (pv 1) (pu_un un_neg sim_neg (pk_of (pu_c pe_int fun _ _ => .int _))) (fun _ _ => rfl)) (pu_c pe_int fun _ _ => .int _) (nomark _))
    (pss_oneU (ps_retU (ps_ret (pu_c pe_bl fun _ _ => .bl _))))
    pss_nilU)
    (pss_consU (ps_setU (ps_set (i := 5) scHeldHoldsL.nd rfl (Or.inl rfl) (pu_call (Dt.pe_dnX DMeasureL (hr.mono (by omega)) (L2N.takes_of rfl rfl rfl rfl) (pus_cons (pu_var (pv 0)) pus_nil)))))
    (pss_consU (ps_forU tg_name (ps_for (passes_of rfl) rfl (pi_rng1 (pi_range1 rfl T.n_range (pus_cons (pu_c1 sim_len (pe_callB call_len (by rfl) T.n_len (by decide +kernel) (pa_cons (pk_var (pv 0)) pa_nil))) pus_nil))) (pg_name (i := 6) scHeldHoldsL.nd rfl (Or.inl rfl))
    (pss_consU (ps_setU (ps_set (i := 7) scHeldHoldsL.nd rfl (Or.inl rfl) (pu_call (Dt.pe_dnX DMeasureOf (hr.mono (by omega)) (L2N.takes_of rfl rfl rfl rfl) (pus_cons (pu_op op_addD sim_add (pu_op op_addD sim_add (pu_slicev (pv 0) po_noneU (po_someU (pu_var (pv 6)))) (pu_tup (pus_cons (pu_slicev (pv 1) po_noneU (po_someU (pu_un un_neg sim_neg (pk_of (pu_c pe_int fun _ _ => .int _))))) pus_nil))) (pu_slicev (pv 0) (po_someU (pu_op op_addD sim_add (pu_var (pv 6)) (pu_c pe_int fun _ _ => .int _))) po_noneU)) pus_nil)))))
      (pss_consU (ps_ifU (PW.pt (pw_orU (pt_notU (pt_tru (pk_of (pu_isi sim_isi_int (pe_callB call_isi (by rfl) T.n_isinstance (by decide +kernel) (pa_cons (pk_var (pv 7)) (pa_cons (pe_bltn (v := .ty "int") (u := .type "int") rfl T.n_int (by decide +kernel) rfl) pa_nil))))))) (pw_or1 (pt_tru (pk_of (pu_isi sim_isi_bool (pe_callB call_isi (by rfl) T.n_isinstance (by decide +kernel) (pa_cons (pk_var (pv 7)) (pa_cons (pe_bltn (v := .ty "bool") (u := .type "bool") rfl T.n_bool (by decide +kernel) rfl) pa_nil)))))))))
      (pss_oneU (ps_retU (ps_ret (pu_c pe_bl fun _ _ => .bl _))))
      pss_nilU)
      (pss_oneU (ps_ifU (pt_cmpU (op_neD (hr.units)) sim_ne (pu_op op_mulD sim_mul (pu_var (pv 7)) (pu_ixv (pv 2) (pu_un un_neg sim_neg (pk_of (pu_c pe_int fun _ _ => .int _))) (fun _ _ => rfl))) (pu_op op_mulD sim_mul (pu_c1 sim_abs (pe_callB call_abs (by rfl) T.n_abs (by decide +kernel) (pa_cons (pk_of (pu_ixv (pv 2) (pu_var (pv 6)) (fun _ _ => rfl))) pa_nil))) (pu_var (pv 5))) (nomark _))
      (pss_oneU (ps_retU (ps_ret (pu_c pe_bl fun _ _ => .bl _))))
      pss_nilU))))))
    (pss_oneU (ps_retU (ps_ret (pu_c pe_bl fun _ _ => .bl _)))))))))))))
abbrev sPlaceHoldsL : Stmt := topS 51
theorem scPlaceHoldsL : FnScope ["body", "place", "weights", "i", "given", "k"] ["body", "place"] (defScope sPlaceHoldsL) := ⟨rfl, rfl, rfl, by decide +kernel, rfl, by decide +kernel, by decide +kernel⟩
theorem okPlaceHoldsL {f : Addr} {fd : FuncData} (F : Fun K "_law_place_holds" "_law_place_holds" sPlaceHoldsL f fd) (T : Tx mg) (DFormL : Dt.Dn P w K mg base (L2N.CX P w) "_law_form" 2 ["body", "weights"] (spF ca 2 pFormL)) (DHeldHoldsL : Dt.Dn P w K mg base (L2N.CX P w) "_law_held_holds" 8 ["body", "place", "weights"] (spF ca 3 pHeldHoldsL)) (DSameL : Dt.Dn P w K mg base (L2N.CX P w) "_law_same" 7 ["told", "due"] (spF ca 2 pSameL)) (DWeightsIn : Dt.Dn P w K mg base (L2N.CX P w) "weights_in" 5 ["body", "place"] (spF ca 2 pWeightsIn)) (KDBlend : Dt.Dk P w K mg base (L2N.CX P w) "blend" 4 ["body", "weights"] (spF ca 2 pBlend)) : FnOk P w K mg base (L2N.CX P w) 9 f fd ["body", "place"] (spF ca 2 pPlaceHoldsL) :=
  ok_fn F scPlaceHoldsL (by decide) fun cdv A outer s H E hr =>
    (pss_consU (ps_setU (ps_set (i := 2) scPlaceHoldsL.nd rfl (Or.inr rfl) (pu_call (Dt.pe_dnX DWeightsIn (hr.mono (by omega)) (L2N.takes_of rfl rfl rfl rfl) (pus_cons (pu_var (pv 0)) (pus_cons (pu_var (pv 1)) pus_nil))))))
    (pss_consU (ps_ifU (pt_notU (pt_tru (pk_of (pu_call (Dt.pe_dnX DFormL (hr.mono (by omega)) (L2N.takes_of rfl rfl rfl rfl) (pus_cons (pu_var (pv 0)) (pus_cons (pu_var (pv 2)) pus_nil)))))))
    (pss_oneU (ps_retU (ps_ret (pu_c pe_bl fun _ _ => .bl _))))
    pss_nilU)
    (pss_consU (ps_forU tg_name (ps_for (passes_of rfl) rfl (pi_rng1 (pi_range1 rfl T.n_range (pus_cons (pu_op op_sub sim_sub (pu_c1 sim_len (pe_callB call_len (by rfl) T.n_len (by decide +kernel) (pa_cons (pk_var (pv 0)) pa_nil))) (pu_c pe_int fun _ _ => .int _)) pus_nil))) (pg_name (i := 3) scPlaceHoldsL.nd rfl (Or.inr rfl))
    (pss_consU (ps_setU (ps_set (i := 4) scPlaceHoldsL.nd rfl (Or.inl rfl) (pu_c1 sim_sumA (pe_callB (Tsu.cr_or (cr_sum rfl) (Tsu.cr_sumT rfl)) (by rfl) T.n_sum (by decide +kernel) (pa_cons (pk_of (pu_lc (own := [5]) tg_name (by decide) (pe_lc (own := [("k", 5)]) (by rfl) scPlaceHoldsL.nd (pi_rng1 (pi_range1 rfl T.n_range (pus_cons (pu_c1 sim_len (pe_callB call_len (by rfl) T.n_len (by decide +kernel) (pa_cons (pk_var (pv 0)) pa_nil))) pus_nil))) (blkOk_by (own := [("k", 5)]) (N := ["body", "place", "weights", "i", "given", "k"]) (sc := defScope sPlaceHoldsL) (by decide +kernel)) (fun _ _ _ _ _ => (pg_name (i := 5) scPlaceHoldsL.nd rfl (Or.inl rfl))) (fun _ _ _ _ _ => pts_nilU) (fun _ _ _ _ _ => (pu_op op_mulD sim_mul (pu_ixv (pv 2) (pu_var (pv 5)) (fun _ _ => rfl)) (pu_ix ix_seq sim_ix (pu_ixv (pv 0) (pu_var (pv 5)) (fun _ _ => rfl)) (pu_var (pv 3)) (fun _ _ => rfl))))))) pa_nil)))))
      (pss_oneU (ps_ifU (pt_cmpU (op_neD (hr.units)) sim_ne (pu_op op_mulD sim_mul (pu_var (pv 4)) (pu_ixv (pv 1) (pu_un un_neg sim_neg (pk_of (pu_c pe_int fun _ _ => .int _))) (fun _ _ => rfl))) (pu_op op_mulD sim_mul (pu_ixv (pv 1) (pu_var (pv 3)) (fun _ _ => rfl)) (pu_ixv (pv 2) (pu_un un_neg sim_neg (pk_of (pu_c pe_int fun _ _ => .int _))) (fun _ _ => rfl))) (nomark _))
      (pss_oneU (ps_retU (ps_ret (pu_c pe_bl fun _ _ => .bl _))))
      pss_nilU)))))
    (pss_oneU (ps_retU (ps_ret (pu_andV (pu_call (Dt.pe_dnX DSameL (hr.mono (by omega)) (L2N.takes_of rfl rfl rfl rfl) (pus_cons (pu_quiet (pu_callR (n := 2) (p := pBlend) (Dt.pe_dnKx (ps := ["body", "weights"]) KDBlend (hr.mono (by omega)) Dt.passN0' (pks_cons (pu_var (pv 2)) (pks_cons (pu_var (pv 0)) pks_nil))))) (pus_cons (pu_var (pv 1)) pus_nil)))) (pe_one (pu_call (Dt.pe_dnX DHeldHoldsL (hr.mono (by omega)) (L2N.takes_of rfl rfl rfl rfl) (pus_cons (pu_var (pv 0)) (pus_cons (pu_var (pv 1)) (pus_cons (pu_var (pv 2)) pus_nil)))))))))))))
abbrev sWeightsHoldL : Stmt := topS 52
theorem scWeightsHoldL : FnScope ["body", "weights", "place", "n"] ["body", "weights"] (defScope sWeightsHoldL) := ⟨rfl, rfl, rfl, by decide +kernel, rfl, by decide +kernel, by decide +kernel⟩
theorem okWeightsHoldL {f : Addr} {fd : FuncData} (F : Fun K "_law_weights_hold" "_law_weights_hold" sWeightsHoldL f fd) (T : Tx mg) (DGivenL : Dt.Dn P w K mg base (L2N.CX P w) "_law_given" 3 ["body", "weights"] (spF ca 2 pGivenL)) (DHeldHoldsL : Dt.Dn P w K mg base (L2N.CX P w) "_law_held_holds" 8 ["body", "place", "weights"] (spF ca 3 pHeldHoldsL)) (DSameL : Dt.Dn P w K mg base (L2N.CX P w) "_law_same" 7 ["told", "due"] (spF ca 2 pSameL)) (DBlend : Dt.Dn P w K mg base (L2N.CX P w) "blend" 4 ["body", "weights"] (spF ca 2 pBlend)) (KDWeightsIn : Dt.Dk P w K mg base (L2N.CX P w) "weights_in" 5 ["body", "place"] (spF ca 2 pWeightsIn)) : FnOk P w K mg base (L2N.CX P w) 9 f fd ["body", "weights"] (spF ca 2 pWeightsHoldL) :=
  ok_fn F scWeightsHoldL (by decide) fun cdv A outer s H E hr =>
    (pss_consU (ps_setU (ps_set (i := 2) scWeightsHoldL.nd rfl (Or.inl rfl) (pu_call (Dt.pe_dnX DGivenL (hr.mono (by omega)) (L2N.takes_of rfl rfl rfl rfl) (pus_cons (pu_var (pv 0)) (pus_cons (pu_var (pv 1)) pus_nil))))))
    (pss_consU (ps_ifU (pt_notU (pt_tru (pk_of (pu_call (Dt.pe_dnX DSameL (hr.mono (by omega)) (L2N.takes_of rfl rfl rfl rfl) (pus_cons (pu_call (Dt.pe_dnX DBlend (hr.mono (by omega)) (L2N.takes_of rfl rfl rfl rfl) (pus_cons (pu_var (pv 0)) (pus_cons (pu_var (pv 1)) pus_nil)))) (pus_cons (pu_var (pv 2)) pus_nil)))))))
    (pss_oneU (ps_retU (ps_ret (pu_c pe_bl fun _ _ => .bl _))))
    pss_nilU)
    (pss_consU (ps_ifU (pt_cmpU op_gt sim_gt (pu_c1 sim_maxA (pe_callB (Tsu.cr_or (cr_max rfl) (Tsu.cr_maxT rfl)) (by rfl) T.n_max (by decide +kernel) (pa_cons (pk_of (pu_lc (own := [3]) tg_name (by decide) (pe_lc (own := [("n", 3)]) (by rfl) scWeightsHoldL.nd (pi_any (pu_var (pv 2))) (blkOk_by (own := [("n", 3)]) (N := ["body", "weights", "place", "n"]) (sc := defScope sWeightsHoldL) (by decide +kernel)) (fun _ _ _ _ _ => (pg_name (i := 3) scWeightsHoldL.nd rfl (Or.inl rfl))) (fun _ _ _ _ _ => pts_nilU) (fun _ _ _ _ _ => (pu_c1 sim_abs (pe_callB call_abs (by rfl) T.n_abs (by decide +kernel) (pa_cons (pk_var (pv 3)) pa_nil))))))) pa_nil))) (pu_op op_pow sim_pow (pu_c pe_int fun _ _ => .int _) (pu_c pe_int fun _ _ => .int _)) (nomark _))
    (pss_oneU (ps_retU (ps_ret (pu_c pe_bl fun _ _ => .bl _))))
    pss_nilU)
    (pss_oneU (ps_retU (ps_ret (pu_andV (pu_call (Dt.pe_dnX DSameL (hr.mono (by omega)) (L2N.takes_of rfl rfl rfl rfl) (pus_cons (pu_quiet (pu_callR (n := 2) (p := pWeightsIn) (Dt.pe_dnKx (ps := ["body", "place"]) KDWeightsIn (hr.mono (by omega)) Dt.passN0' (pks_cons (pu_var (pv 2)) (pks_cons (pu_var (pv 0)) pks_nil))))) (pus_cons (pu_var (pv 1)) pus_nil)))) (pe_one (pu_call (Dt.pe_dnX DHeldHoldsL (hr.mono (by omega)) (L2N.takes_of rfl rfl rfl rfl) (pus_cons (pu_var (pv 0)) (pus_cons (pu_var (pv 2)) (pus_cons (pu_var (pv 1)) pus_nil)))))))))))))
abbrev sFlatHoldsL : Stmt := topS 53
theorem scFlatHoldsL : FnScope ["tape", "body", "dims", "one", "other", "step", "n", "moved", "kind", "low", "rows", "k", "i", "flat"] ["tape", "body"] (defScope sFlatHoldsL) := ⟨rfl, rfl, rfl, by decide +kernel, rfl, by decide +kernel, by decide +kernel⟩
theorem okFlatHoldsL {f : Addr} {fd : FuncData} (F : Fun K "_law_flat_holds" "_law_flat_holds" sFlatHoldsL f fd) (T : Tx mg) (DDrawL : Dt.Dn P w K mg base (L2N.CX P w) "_law_draw" 1 ["tape", "many"] (spF ca 2 pDrawL)) (DMeasureL : Dt.Dn P w K mg base (L2N.CX P w) "_law_measure" 2 ["body"] (spF ca 1 pMeasureL)) (DSameL : Dt.Dn P w K mg base (L2N.CX P w) "_law_same" 7 ["told", "due"] (spF ca 2 pSameL)) (DIsFlat : Dt.Dn P w K mg base (L2N.CX P w) "is_flat" 5 ["body"] (spF ca 1 pIsFlat)) (DMeasureOf : Dt.Dn P w K mg base (L2N.CX P w) "measure_of" 4 ["body"] (spF ca 1 pMeasureOf)) (KDIsFlat : Dt.Dk P w K mg base (L2N.CX P w) "is_flat" 5 ["body"] (spF ca 1 pIsFlat)) (KDMeasureOf : Dt.Dk P w K mg base (L2N.CX P w) "measure_of" 4 ["body"] (spF ca 1 pMeasureOf)) : FnOk P w K mg base (L2N.CX P w) 8 f fd ["tape", "body"] (spF ca 2 pFlatHoldsL) :=
  ok_fn F scFlatHoldsL (by decide) fun cdv A outer s H E hr =>
    (pss_consU (ps_setU (ps_set (i := 2) scFlatHoldsL.nd rfl (Or.inr rfl) (pu_op op_sub sim_sub (pu_c1 sim_len (pe_callB call_len (by rfl) T.n_len (by decide +kernel) (pa_cons (pk_var (pv 1)) pa_nil))) (pu_c pe_int fun _ _ => .int _))))
    (pss_consU (ps_ifU (PW.pt (pw_orU (pt_notU (pt_tru (pk_of (pu_call (Dt.pe_dnX DSameL (hr.mono (by omega)) (L2N.takes_of rfl rfl rfl rfl) (pus_cons (pu_call (Dt.pe_dnX DMeasureOf (hr.mono (by omega)) (L2N.takes_of rfl rfl rfl rfl) (pus_cons (pu_var (pv 1)) pus_nil))) (pus_cons (pu_call (Dt.pe_dnX DMeasureL (hr.mono (by omega)) (L2N.takes_of rfl rfl rfl rfl) (pus_cons (pu_var (pv 1)) pus_nil))) pus_nil))))))) (pw_or1 (pt_notU (pt_tru (pk_of (pu_call (Dt.pe_dnX DSameL (hr.mono (by omega)) (L2N.takes_of rfl rfl rfl rfl) (pus_cons (pu_call (Dt.pe_dnX DIsFlat (hr.mono (by omega)) (L2N.takes_of rfl rfl rfl rfl) (pus_cons (pu_var (pv 1)) pus_nil))) (pus_cons (pu_c pe_bl fun _ _ => .bl _) pus_nil))))))))))
    (pss_oneU (ps_retU (ps_ret (pu_c pe_bl fun _ _ => .bl _))))
    pss_nilU)
    (pss_consU (ps_setU (ps_set (i := 3) scFlatHoldsL.nd rfl (Or.inl rfl) (pu_call (Dt.pe_dnX DDrawL (hr.mono (by omega)) (L2N.takes_of rfl rfl rfl rfl) (pus_cons (pu_var (pv 0)) (pus_cons (pu_op op_addD sim_add (pu_var (pv 2)) (pu_c pe_int fun _ _ => .int _)) pus_nil))))))
    (pss_consU (ps_setU (ps_set (i := 4) scFlatHoldsL.nd rfl (Or.inl rfl) (pu_call (Dt.pe_dnX DDrawL (hr.mono (by omega)) (L2N.takes_of rfl rfl rfl rfl) (pus_cons (pu_var (pv 0)) (pus_cons (pu_op op_addD sim_add (pu_var (pv 2)) (pu_c pe_int fun _ _ => .int _)) pus_nil))))))
    (pss_consU (ps_setU (ps_set (i := 5) scFlatHoldsL.nd rfl (Or.inl rfl) (pu_ix ix_seq sim_ix (pu_lst (pus_cons (pu_c1 sim_tuple (pe_callTy call_tuple_of (by rfl) T.n_tuple (by decide +kernel) (pa_cons (pk_of (pu_lc (own := [6]) tg_name (by decide) (pe_lc (own := [("n", 6)]) (by rfl) scFlatHoldsL.nd (pi_any (pu_ixv (pv 1) (pu_var (pv 3)) (fun _ _ => rfl))) (blkOk_by (own := [("n", 6)]) (N := ["tape", "body", "dims", "one", "other", "step", "n", "moved", "kind", "low", "rows", "k", "i", "flat"]) (sc := defScope sFlatHoldsL) (by decide +kernel)) (fun _ _ _ _ _ => (pg_name (i := 6) scFlatHoldsL.nd rfl (Or.inl rfl))) (fun _ _ _ _ _ => pts_nilU) (fun _ _ _ _ _ => (pu_op op_sub sim_sub (pu_c pe_int fun _ _ => .int _) (pu_var (pv 6))))))) pa_nil))) (pus_cons (pu_ixv (pv 1) (pu_var (pv 4)) (fun _ _ => rfl)) (pus_cons (pu_op op_mulD sim_mul (pu_tup (pus_cons (pu_c pe_int fun _ _ => .int _) pus_nil)) (pu_var (pv 2))) pus_nil)))) (pu_call (Dt.pe_dnX DDrawL (hr.mono (by omega)) (L2N.takes_of rfl rfl rfl rfl) (pus_cons (pu_var (pv 0)) (pus_cons (pu_c pe_int fun _ _ => .int _) pus_nil)))) (fun _ _ => rfl))))
    (pss_consU (ps_setU (ps_set (i := 7) scFlatHoldsL.nd rfl (Or.inl rfl) (pu_op op_addD sim_add (pu_op op_addD sim_add (pu_slicev (pv 1) po_noneU (po_someU (pu_var (pv 4)))) (pu_tup (pus_cons (pu_var (pv 5)) pus_nil))) (pu_slicev (pv 1) (po_someU (pu_op op_addD sim_add (pu_var (pv 4)) (pu_c pe_int fun _ _ => .int _))) po_noneU))))
    (pss_consU (ps_ifU (pt_notU (pt_tru (pk_of (pu_call (Dt.pe_dnX DSameL (hr.mono (by omega)) (L2N.takes_of rfl rfl rfl rfl) (pus_cons (pu_quiet (pu_callR (n := 1) (p := pMeasureOf) (Dt.pe_dnKx (ps := ["body"]) KDMeasureOf (hr.mono (by omega)) Dt.passN0' (pks_cons (pu_var (pv 7)) pks_nil)))) (pus_cons (pu_call (Dt.pe_dnX DMeasureL (hr.mono (by omega)) (L2N.takes_of rfl rfl rfl rfl) (pus_cons (pu_var (pv 7)) pus_nil))) pus_nil)))))))
    (pss_oneU (ps_retU (ps_ret (pu_c pe_bl fun _ _ => .bl _))))
    pss_nilU)
    (pss_consU (ps_ifU (pt_notU (pt_tru (pk_of (pu_call (Dt.pe_dnX DSameL (hr.mono (by omega)) (L2N.takes_of rfl rfl rfl rfl) (pus_cons (pu_quiet (pu_callR (n := 1) (p := pIsFlat) (Dt.pe_dnKx (ps := ["body"]) KDIsFlat (hr.mono (by omega)) Dt.passN0' (pks_cons (pu_var (pv 7)) pks_nil)))) (pus_cons (pu_cmp (op_eqD (hr.units)) sim_eq (pu_call (Dt.pe_dnX DMeasureL (hr.mono (by omega)) (L2N.takes_of rfl rfl rfl rfl) (pus_cons (pu_var (pv 7)) pus_nil))) (pu_c pe_int fun _ _ => .int _) (nomark _)) pus_nil)))))))
    (pss_oneU (ps_retU (ps_ret (pu_c pe_bl fun _ _ => .bl _))))
    pss_nilU)
    (pss_consU (ps_setU (ps_set (i := 8) scFlatHoldsL.nd rfl (Or.inl rfl) (pu_call (Dt.pe_dnX DDrawL (hr.mono (by omega)) (L2N.takes_of rfl rfl rfl rfl) (pus_cons (pu_var (pv 0)) (pus_cons (pu_c pe_int fun _ _ => .int _) pus_nil))))))
    (pss_consU (ps_setU (ps_set (i := 9) scFlatHoldsL.nd rfl (Or.inr rfl) (pu_ixv (pv 1) (pu_var (pv 3)) (fun _ _ => rfl))))
    (pss_consU (ps_setU (ps_set (i := 10) scFlatHoldsL.nd rfl (Or.inl rfl) (pu_op op_addD sim_add (pu_lst (pus_cons (pu_var (pv 9)) (pus_cons (pu_var (pv 9)) (pus_cons (pu_ixv (pv 1) (pu_var (pv 4)) (fun _ _ => rfl)) pus_nil)))) (pu_lc (own := [11]) tg_name (by decide) (pe_lc (own := [("k", 11)]) (by rfl) scFlatHoldsL.nd (pi_rng1 (pi_range1 rfl T.n_range (pus_cons (pu_op op_sub sim_sub (pu_var (pv 2)) (pu_c pe_int fun _ _ => .int _)) pus_nil))) (blkOk_by (own := [("k", 11)]) (N := ["tape", "body", "dims", "one", "other", "step", "n", "moved", "kind", "low", "rows", "k", "i", "flat"]) (sc := defScope sFlatHoldsL) (by decide +kernel)) (fun _ _ _ _ _ => (pg_name (i := 11) scFlatHoldsL.nd rfl (Or.inl rfl))) (fun _ _ _ _ _ => pts_nilU) (fun _ _ _ _ _ => (pu_ixv (pv 1) (pu_var (pv 11)) (fun _ _ => rfl))))))))
    (pss_consU (ps_ifU (pt_cmpU (op_eqD (hr.units)) sim_eq (pu_var (pv 8)) (pu_c pe_int fun _ _ => .int _) (nomark _))
    (pss_oneU (ps_setLcU (own := [11]) tg_name (by decide) (ps_setLc (i := 10) (own := [("k", 11)]) (by rfl) scFlatHoldsL.nd rfl rfl (sw_true rfl rfl rfl (by decide +kernel)) (pi_rng1 (pi_range1 rfl T.n_range (pus_cons (pu_op op_addD sim_add (pu_var (pv 2)) (pu_c pe_int fun _ _ => .int _)) pus_nil))) (blkOk_by (own := [("k", 11)]) (N := ["tape", "body", "dims", "one", "other", "step", "n", "moved", "kind", "low", "rows", "k", "i", "flat"]) (sc := defScope sFlatHoldsL) (by decide +kernel)) (fun _ _ _ _ _ => (pg_name (i := 11) scFlatHoldsL.nd rfl (Or.inr rfl))) (fun _ _ _ _ _ => pts_nilU) (fun _ _ _ _ _ => (pu_c1 sim_tuple (pe_callTy call_tuple_of (by rfl) T.n_tuple (by decide +kernel) (pa_cons (pk_of (pu_lc (own := [12]) tg_name (by decide) (pe_lc (own := [("i", 12)]) (by rfl) scFlatHoldsL.nd (pi_rng1 (pi_range1 rfl T.n_range (pus_cons (pu_var (pv 2)) pus_nil))) (blkOk_by (own := [("i", 12)]) (N := ["tape", "body", "dims", "one", "other", "step", "n", "moved", "kind", "low", "rows", "k", "i", "flat"]) (by first | rfl | kernel_rfl)) (fun _ _ _ _ _ => (pg_name (i := 12) scFlatHoldsL.nd rfl (Or.inl rfl))) (fun _ _ _ _ _ => pts_nilU) (fun _ _ _ _ _ => (pu_op op_sub sim_sub (pu_op op_mulD sim_mul (pu_var (pv 11)) (pu_op op_addD sim_add (pu_var (pv 12)) (pu_c pe_int fun _ _ => .int _))) (pu_c pe_int fun _ _ => .int _)))))) pa_nil)))))))
    (pss_oneU (ps_ifU (pt_cmpU (op_eqD (hr.units)) sim_eq (pu_var (pv 8)) (pu_c pe_int fun _ _ => .int _) (nomark _))
      (pss_oneU (ps_setLcU (own := [11]) tg_name (by decide) (ps_setLc (i := 10) (own := [("k", 11)]) (by rfl) scFlatHoldsL.nd rfl rfl (sw_true rfl rfl rfl (by decide +kernel)) (pi_rng1 (pi_range1 rfl T.n_range (pus_cons (pu_op op_addD sim_add (pu_var (pv 2)) (pu_c pe_int fun _ _ => .int _)) pus_nil))) (blkOk_by (own := [("k", 11)]) (N := ["tape", "body", "dims", "one", "other", "step", "n", "moved", "kind", "low", "rows", "k", "i", "flat"]) (sc := defScope sFlatHoldsL) (by decide +kernel)) (fun _ _ _ _ _ => (pg_name (i := 11) scFlatHoldsL.nd rfl (Or.inl rfl))) (fun _ _ _ _ _ => pts_nilU) (fun _ _ _ _ _ => (pu_slice (pu_tup (pus_cons (pu_ixv (pv 9) (pu_c pe_int fun _ _ => .int _) (fun _ _ => rfl)) (pus_cons (pu_op op_mulD sim_mul (pu_var (pv 11)) (pu_var (pv 11))) (pus_cons (pu_var (pv 11)) pus_nil)))) po_noneU (po_someU (pu_var (pv 2))))))))
      (pss_oneU (ps_ifU (pt_cmpU (op_eqD (hr.units)) sim_eq (pu_var (pv 8)) (pu_c pe_int fun _ _ => .int _) (nomark _))
        (pss_oneU (ps_setU (ps_set (i := 10) scFlatHoldsL.nd rfl (Or.inl rfl) (pu_op op_mulD sim_mul (pu_lst (pus_cons (pu_var (pv 9)) pus_nil)) (pu_op op_addD sim_add (pu_var (pv 2)) (pu_c pe_int fun _ _ => .int _))))))
        pss_nilU)))))
    (pss_consU (ps_setU (ps_set (i := 13) scFlatHoldsL.nd rfl (Or.inl rfl) (pu_c1 sim_tuple (pe_callTy call_tuple_of (by rfl) T.n_tuple (by decide +kernel) (pa_cons (pk_var (pv 10)) pa_nil)))))
    (pss_oneU (ps_retU (ps_ret (pu_andV (pu_call (Dt.pe_dnX DSameL (hr.mono (by omega)) (L2N.takes_of rfl rfl rfl rfl) (pus_cons (pu_call (Dt.pe_dnX DMeasureOf (hr.mono (by omega)) (L2N.takes_of rfl rfl rfl rfl) (pus_cons (pu_var (pv 13)) pus_nil))) (pus_cons (pu_c pe_int fun _ _ => .int _) pus_nil)))) (pe_one (pu_call (Dt.pe_dnX DSameL (hr.mono (by omega)) (L2N.takes_of rfl rfl rfl rfl) (pus_cons (pu_call (Dt.pe_dnX DIsFlat (hr.mono (by omega)) (L2N.takes_of rfl rfl rfl rfl) (pus_cons (pu_var (pv 13)) pus_nil))) (pus_cons (pu_c pe_bl fun _ _ => .bl _) pus_nil))))))))))))))))))))))
abbrev sRefusedL : Stmt := topS 54
theorem scRefusedL : FnScope ["which", "body", "thing", "e", "due"] ["which", "body", "thing"] (defScope sRefusedL) := ⟨rfl, rfl, rfl, by decide +kernel, rfl, by decide +kernel, by decide +kernel⟩
theorem okRefusedL {f : Addr} {fd : FuncData} (F : Fun K "_law_refused" "_law_refused" sRefusedL f fd) (T : Tx mg) (DBlend : Dt.Dn P w K mg base (L2N.CX P w) "blend" 4 ["body", "weights"] (spF ca 2 pBlend)) (DCarrierIn : Dt.Dn P w K mg base (L2N.CX P w) "carrier_in" 5 ["body", "place"] (spF ca 2 pCarrierIn)) (DHolds : Dt.Dn P w K mg base (L2N.CX P w) "holds" 6 ["body", "place"] (spF ca 2 pHolds)) (DWeightsIn : Dt.Dn P w K mg base (L2N.CX P w) "weights_in" 5 ["body", "place"] (spF ca 2 pWeightsIn)) (DSameLM : Dt.Dm P w K mg base "_law_same" 7 ["told", "due"] (fun _ => spF ca 2 pSameL)) {AShapeError_NotUsable : Addr} (gShapeError : mg "ShapeError" = some (.ref AShapeError_NotUsable)) {ANotUsable : Addr} (CNotUsable : ca "NotUsable" = ANotUsable) (LNotUsable : Dt.Kl P w K mg base "NotUsable" ANotUsable ["word", "at"]) (XNotUsable : PySem.W.exmOne K (.ref ANotUsable) (.ref ANotUsable) = some true) (kNotUsable_ShapeError : PySem.W.kitOne K (.ref ANotUsable) (.ref AShapeError_NotUsable) = some true) : FnOk P w K mg base (L2N.CX P w) 8 f fd ["which", "body", "thing"] (spF ca 3 pRefusedL) :=
  ok_fn F scRefusedL (by decide) fun cdv A outer s H E hr =>
    (pss_consU (ps_tryU1 (i := 3) CNotUsable XNotUsable rfl rfl scRefusedL.nd (tst_name ⟨rfl, by decide, .inl LNotUsable.g⟩) rfl rfl
    (fun W pn xe tk => (psx_one (psx_if (pt_cmpU (op_eqD (hr.units)) sim_eq (pu_var (pv 0)) (pu_c pe_int fun _ _ => .int _) (nomark _))
      (psx_one (psx_expr (ps_expr (Dt.pe_dnS DWeightsIn (hr.mono (by omega)) tk (pus_cons (pu_var (pv 1)) (pus_cons (pu_var (pv 2)) pus_nil))))))
      (psx_one (psx_if (pt_cmpU (op_eqD (hr.units)) sim_eq (pu_var (pv 0)) (pu_c pe_int fun _ _ => .int _) (nomark _))
        (psx_one (psx_expr (ps_expr (Dt.pe_dnS DHolds (hr.mono (by omega)) tk (pus_cons (pu_var (pv 1)) (pus_cons (pu_var (pv 2)) pus_nil))))))
        (psx_one (psx_if (pt_cmpU (op_eqD (hr.units)) sim_eq (pu_var (pv 0)) (pu_c pe_int fun _ _ => .int _) (nomark _))
          (psx_one (psx_expr (ps_expr (Dt.pe_dnS DCarrierIn (hr.mono (by omega)) tk (pus_cons (pu_var (pv 1)) (pus_cons (pu_var (pv 2)) pus_nil))))))
          (psx_one (psx_expr (ps_expr (Dt.pe_dnS DBlend (hr.mono (by omega)) tk (pus_cons (pu_var (pv 1)) (pus_cons (pu_var (pv 2)) pus_nil)))))))))))))
    (fun a oe d pn hsn mc => (pss_consU (ps_setU (ps_set (i := 4) scRefusedL.nd rfl (Or.inl rfl) (pu_ix ix_seq sim_ix (pu_lst (pus_cons (pu_tup (pus_cons (pu_c pe_str fun _ _ => .str _) (pus_cons (pu_un un_neg sim_neg (pk_of (pu_c pe_int fun _ _ => .int _))) pus_nil))) (pus_cons (pu_tup (pus_cons (pu_c pe_str fun _ _ => .str _) (pus_cons (pu_un un_neg sim_neg (pk_of (pu_c pe_int fun _ _ => .int _))) pus_nil))) pus_nil))) (pu_c1 sim_int (pe_callTy call_int1 (by rfl) T.n_int (by decide +kernel) (pa_cons (pk_of (pu_cmp (op_eqD (hr.units)) sim_eq (pu_var (pv 0)) (pu_c pe_int fun _ _ => .int _) (nomark _))) pa_nil))) (fun _ _ => rfl))))
      (pss_oneU (ps_retU (ps_ret (pu_andV (pu_exIs (i := 3) (a := a) (d := d) (b := true) hsn LNotUsable.ec (.own _) kNotUsable_ShapeError (pe_callB call_isA (by rfl) T.n_isinstance (by decide +kernel) (pa_cons (pv 3) (pa_cons (Dt.pe_cls gShapeError) pa_nil)))) (pe_one (pu_quiet (pu_callB (Dt.pe_dm DSameLM (Dt.roomH_mk (hr.mono (by omega)) _) mc (pus_cons (pu_tup (pus_cons (pu_exAt (i := 3) (a := a) (d := d) (n := "word") hsn LNotUsable.ec (LNotUsable.no _ (by simp)) (pe_at (pv 3))) (pus_cons (pu_exAt (i := 3) (a := a) (d := d) (n := "at") hsn LNotUsable.ec (LNotUsable.no _ (by simp)) (pe_at (pv 3))) pus_nil))) (pus_cons (pu_var (pv 4)) pus_nil)))))))))))))
    (pss_oneU (ps_retU (ps_ret (pu_c pe_bl fun _ _ => .bl _)))))
abbrev sBadHoldsL : Stmt := topS 55
theorem scBadHoldsL : FnScope ["body", "place", "weights", "turn", "dims", "zero", "odd", "n", "which"] ["body", "place", "weights", "turn"] (defScope sBadHoldsL) := ⟨rfl, rfl, rfl, by decide +kernel, rfl, by decide +kernel, by decide +kernel⟩
theorem okBadHoldsL {f : Addr} {fd : FuncData} (F : Fun K "_law_bad_holds" "_law_bad_holds" sBadHoldsL f fd) (T : Tx mg) (DRefusedL : Dt.Dn P w K mg base (L2N.CX P w) "_law_refused" 8 ["which", "body", "thing"] (spF ca 3 pRefusedL)) (DSameL : Dt.Dn P w K mg base (L2N.CX P w) "_law_same" 7 ["told", "due"] (spF ca 2 pSameL)) (DHolds : Dt.Dn P w K mg base (L2N.CX P w) "holds" 6 ["body", "place"] (spF ca 2 pHolds)) : FnOk P w K mg base (L2N.CX P w) 9 f fd ["body", "place", "weights", "turn"] (spF ca 4 pBadHoldsL) :=
  ok_fn F scBadHoldsL (by decide) fun cdv A outer s H E hr =>
    (pss_consU (ps_setU (ps_set (i := 4) scBadHoldsL.nd rfl (Or.inl rfl) (pu_op op_sub sim_sub (pu_c1 sim_len (pe_callB call_len (by rfl) T.n_len (by decide +kernel) (pa_cons (pk_var (pv 0)) pa_nil))) (pu_c pe_int fun _ _ => .int _))))
    (pss_consU (ps_setU (ps_set (i := 5) scBadHoldsL.nd rfl (Or.inl rfl) (pu_op op_mulD sim_mul (pu_tup (pus_cons (pu_c pe_int fun _ _ => .int _) pus_nil)) (pu_var (pv 4)))))
    (pss_consU (ps_setU (ps_set (i := 6) scBadHoldsL.nd rfl (Or.inl rfl) (pu_lst (pus_cons (pu_c pe_non fun _ _ => .non) (pus_cons (pu_c1 sim_list (pe_callTy call_list_of (by rfl) T.n_list (by decide +kernel) (pa_cons (pk_var (pv 1)) pa_nil))) (pus_cons (pu_slicev (pv 1) po_noneU (po_someU (pu_un un_neg sim_neg (pk_of (pu_c pe_int fun _ _ => .int _))))) (pus_cons (pu_op op_addD sim_add (pu_var (pv 1)) (pu_tup (pus_cons (pu_c pe_int fun _ _ => .int _) pus_nil))) (pus_cons (pu_op op_addD sim_add (pu_op op_addD sim_add (pu_tup (pus_cons (pu_c pe_int fun _ _ => .int _) pus_nil)) (pu_slicev (pv 5) (po_someU (pu_c pe_int fun _ _ => .int _)) po_noneU)) (pu_tup (pus_cons (pu_c pe_int fun _ _ => .int _) pus_nil))) (pus_cons (pu_op op_addD sim_add (pu_slicev (pv 1) po_noneU (po_someU (pu_un un_neg sim_neg (pk_of (pu_c pe_int fun _ _ => .int _))))) (pu_tup (pus_cons (pu_c pe_int fun _ _ => .int _) pus_nil))) (pus_cons (pu_c pe_str fun _ _ => .str _) pus_nil))))))))))
    (pss_consU (ps_appU (ps_expr (pe_bm PySem.F.plainAttrs_list PySem.F.slot_list_append PySem.F.type_list_append mt_append (pv 6) (pa_cons (pu_op op_addD sim_add (pu_var (pv 5)) (pu_tup (pus_cons (pu_c pe_bl fun _ _ => .bl _) pus_nil))) pa_nil))))
    (pss_consU (ps_setU (ps_set (i := 6) scBadHoldsL.nd rfl (Or.inl rfl) (pu_op op_addD sim_add (pu_var (pv 6)) (pu_lst (pus_cons (pu_c1 sim_tuple (pe_callTy call_tuple_of (by rfl) T.n_tuple (by decide +kernel) (pa_cons (pk_of (pu_lc (own := [7]) tg_name (by decide) (pe_lc (own := [("n", 7)]) (by rfl) scBadHoldsL.nd (pi_any (pu_var (pv 1))) (blkOk_by (own := [("n", 7)]) (N := ["body", "place", "weights", "turn", "dims", "zero", "odd", "n", "which"]) (sc := defScope sBadHoldsL) (by decide +kernel)) (fun _ _ _ _ _ => (pg_name (i := 7) scBadHoldsL.nd rfl (Or.inl rfl))) (fun _ _ _ _ _ => pts_nilU) (fun _ _ _ _ _ => (pu_op op_sub sim_sub (pu_c pe_int fun _ _ => .int _) (pu_var (pv 7))))))) pa_nil))) (pus_cons (pu_op op_addD sim_add (pu_op op_addD sim_add (pu_tup (pus_cons (pu_c pe_bl fun _ _ => .bl _) pus_nil)) (pu_slicev (pv 5) (po_someU (pu_c pe_int fun _ _ => .int _)) po_noneU)) (pu_tup (pus_cons (pu_c pe_int fun _ _ => .int _) pus_nil))) (pus_cons (pu_tup pus_nil) (pus_cons (pu_op op_addD sim_add (pu_var (pv 5)) (pu_tup (pus_cons (pu_c pe_int fun _ _ => .int _) pus_nil))) (pus_cons (pu_op op_addD sim_add (pu_var (pv 5)) (pu_tup (pus_cons (pu_c pe_non fun _ _ => .non) pus_nil))) (pus_cons (pu_var (pv 0)) pus_nil))))))))))
    (pss_consU (ps_forU tg_name (ps_for (passes_of rfl) rfl (pi_rng1 (pi_range1 rfl T.n_range (pus_cons (pu_c pe_int fun _ _ => .int _) pus_nil))) (pg_name (i := 8) scBadHoldsL.nd rfl (Or.inl rfl))
    (pss_oneU (ps_ifU (pt_notU (pt_tru (pk_of (pu_call (Dt.pe_dnX DRefusedL (hr.mono (by omega)) (L2N.takes_of rfl rfl rfl rfl) (pus_cons (pu_var (pv 8)) (pus_cons (pu_var (pv 0)) (pus_cons (pu_ixv (pv 6) (pu_op op_modD sim_mod (pu_c1 sim_int (pe_callTy call_int1 (by rfl) T.n_int (by decide +kernel) (pa_cons (pk_of (pu_op op_addD sim_add (pu_var (pv 3)) (pu_var (pv 8)))) pa_nil))) (pu_c1 sim_len (pe_callB call_len (by rfl) T.n_len (by decide +kernel) (pa_cons (pk_var (pv 6)) pa_nil)))) (fun _ _ => rfl)) pus_nil))))))))
      (pss_oneU (ps_retU (ps_ret (pu_c pe_bl fun _ _ => .bl _))))
      pss_nilU))))
    (pss_consU (ps_setU (ps_set (i := 6) scBadHoldsL.nd rfl (Or.inl rfl) (pu_lst (pus_cons (pu_c pe_non fun _ _ => .non) (pus_cons (pu_c1 sim_list (pe_callTy call_list_of (by rfl) T.n_list (by decide +kernel) (pa_cons (pk_var (pv 2)) pa_nil))) (pus_cons (pu_slicev (pv 2) po_noneU (po_someU (pu_un un_neg sim_neg (pk_of (pu_c pe_int fun _ _ => .int _))))) (pus_cons (pu_op op_addD sim_add (pu_var (pv 2)) (pu_tup (pus_cons (pu_c pe_int fun _ _ => .int _) pus_nil))) (pus_cons (pu_c1 sim_tuple (pe_callTy call_tuple_of (by rfl) T.n_tuple (by decide +kernel) (pa_cons (pk_of (pu_lc (own := [7]) tg_name (by decide) (pe_lc (own := [("n", 7)]) (by rfl) scBadHoldsL.nd (pi_any (pu_var (pv 2))) (blkOk_by (own := [("n", 7)]) (N := ["body", "place", "weights", "turn", "dims", "zero", "odd", "n", "which"]) (sc := defScope sBadHoldsL) (by decide +kernel)) (fun _ _ _ _ _ => (pg_name (i := 7) scBadHoldsL.nd rfl (Or.inl rfl))) (fun _ _ _ _ _ => pts_nilU) (fun _ _ _ _ _ => (pu_op op_mulD sim_mul (pu_c pe_int fun _ _ => .int _) (pu_var (pv 7))))))) pa_nil))) (pus_cons (pu_c pe_str fun _ _ => .str _) (pus_cons (pu_var (pv 1)) pus_nil))))))))))
    (pss_consU (ps_setU (ps_set (i := 6) scBadHoldsL.nd rfl (Or.inl rfl) (pu_op op_addD sim_add (pu_var (pv 6)) (pu_lst (pus_cons (pu_c1 sim_tuple (pe_callTy call_tuple_of (by rfl) T.n_tuple (by decide +kernel) (pa_cons (pk_of (pu_lc (own := [7]) tg_name (by decide) (pe_lc (own := [("n", 7)]) (by rfl) scBadHoldsL.nd (pi_any (pu_var (pv 2))) (blkOk_by (own := [("n", 7)]) (N := ["body", "place", "weights", "turn", "dims", "zero", "odd", "n", "which"]) (sc := defScope sBadHoldsL) (by decide +kernel)) (fun _ _ _ _ _ => (pg_name (i := 7) scBadHoldsL.nd rfl (Or.inl rfl))) (fun _ _ _ _ _ => pts_nilU) (fun _ _ _ _ _ => (pu_op op_sub sim_sub (pu_c pe_int fun _ _ => .int _) (pu_var (pv 7))))))) pa_nil))) (pus_cons (pu_op op_addD sim_add (pu_op op_addD sim_add (pu_tup (pus_cons (pu_c pe_bl fun _ _ => .bl _) pus_nil)) (pu_var (pv 5))) (pu_tup (pus_cons (pu_c pe_int fun _ _ => .int _) pus_nil))) (pus_cons (pu_op op_addD sim_add (pu_op op_addD sim_add (pu_tup (pus_cons (pu_c pe_int fun _ _ => .int _) pus_nil)) (pu_var (pv 5))) (pu_tup (pus_cons (pu_c pe_bl fun _ _ => .bl _) pus_nil))) (pus_cons (pu_op op_addD sim_add (pu_var (pv 5)) (pu_tup (pus_cons (pu_c pe_int fun _ _ => .int _) (pus_cons (pu_c pe_int fun _ _ => .int _) pus_nil)))) pus_nil))))))))
    (pss_consU (ps_appU (ps_expr (pe_bm PySem.F.plainAttrs_list PySem.F.slot_list_append PySem.F.type_list_append mt_append (pv 6) (pa_cons (pu_op op_addD sim_add (pu_op op_addD sim_add (pu_tup (pus_cons (pu_c pe_int fun _ _ => .int _) pus_nil)) (pu_slicev (pv 5) (po_someU (pu_c pe_int fun _ _ => .int _)) po_noneU)) (pu_tup (pus_cons (pu_un un_neg sim_neg (pk_of (pu_c pe_int fun _ _ => .int _))) (pus_cons (pu_c pe_int fun _ _ => .int _) pus_nil)))) pa_nil))))
    (pss_consU (ps_appU (ps_expr (pe_bm PySem.F.plainAttrs_list PySem.F.slot_list_append PySem.F.type_list_append mt_append (pv 6) (pa_cons (pu_op op_addD sim_add (pu_slicev (pv 2) po_noneU (po_someU (pu_un un_neg sim_neg (pk_of (pu_c pe_int fun _ _ => .int _))))) (pu_tup (pus_cons (pu_op op_addD sim_add (pu_ixv (pv 2) (pu_un un_neg sim_neg (pk_of (pu_c pe_int fun _ _ => .int _))) (fun _ _ => rfl)) (pu_c pe_int fun _ _ => .int _)) pus_nil))) pa_nil))))
    (pss_oneU (ps_retU (ps_ret (pu_andV (pu_call (Dt.pe_dnX DRefusedL (hr.mono (by omega)) (L2N.takes_of rfl rfl rfl rfl) (pus_cons (pu_c pe_int fun _ _ => .int _) (pus_cons (pu_var (pv 0)) (pus_cons (pu_ixv (pv 6) (pu_op op_modD sim_mod (pu_c1 sim_int (pe_callTy call_int1 (by rfl) T.n_int (by decide +kernel) (pa_cons (pk_var (pv 3)) pa_nil))) (pu_c1 sim_len (pe_callB call_len (by rfl) T.n_len (by decide +kernel) (pa_cons (pk_var (pv 6)) pa_nil)))) (fun _ _ => rfl)) pus_nil))))) (pe_one (pu_call (Dt.pe_dnX DSameL (hr.mono (by omega)) (L2N.takes_of rfl rfl rfl rfl) (pus_cons (pu_call (Dt.pe_dnX DHolds (hr.mono (by omega)) (L2N.takes_of rfl rfl rfl rfl) (pus_cons (pu_var (pv 0)) (pus_cons (pu_var (pv 1)) pus_nil)))) (pus_cons (pu_call (Dt.pe_dnX DHolds (hr.mono (by omega)) (L2N.takes_of rfl rfl rfl rfl) (pus_cons (pu_var (pv 0)) (pus_cons (pu_var (pv 1)) pus_nil)))) pus_nil)))))))))))))))))))
abbrev slaw : Stmt := topS 56
theorem sclaw : FnScope ["script", "tape", "dims", "lap", "body", "weights", "place"] ["script"] (defScope slaw) := ⟨rfl, rfl, rfl, by decide +kernel, rfl, by decide +kernel, by decide +kernel⟩
theorem oklaw {f : Addr} {fd : FuncData} (F : Fun K "law" "law" slaw f fd) (T : Tx mg) (DBadHoldsL : Dt.Dn P w K mg base (L2N.CX P w) "_law_bad_holds" 9 ["body", "place", "weights", "turn"] (spF ca 4 pBadHoldsL)) (DBodyL : Dt.Dn P w K mg base (L2N.CX P w) "_law_body" 3 ["tape", "dims"] (spF ca 2 pBodyL)) (DDrawL : Dt.Dn P w K mg base (L2N.CX P w) "_law_draw" 1 ["tape", "many"] (spF ca 2 pDrawL)) (DFlatHoldsL : Dt.Dn P w K mg base (L2N.CX P w) "_law_flat_holds" 8 ["tape", "body"] (spF ca 2 pFlatHoldsL)) (DPlaceL : Dt.Dn P w K mg base (L2N.CX P w) "_law_place" 3 ["tape", "body"] (spF ca 2 pPlaceL)) (DPlaceHoldsL : Dt.Dn P w K mg base (L2N.CX P w) "_law_place_holds" 9 ["body", "place"] (spF ca 2 pPlaceHoldsL)) (DTapeL : Dt.Dn P w K mg base (L2N.CX P w) "_law_tape" 1 ["script", "start"] (spF ca 2 pTapeL)) (DWeightsL : Dt.Dn P w K mg base (L2N.CX P w) "_law_weights" 3 ["tape", "dims"] (spF ca 2 pWeightsL)) (DWeightsHoldL : Dt.Dn P w K mg base (L2N.CX P w) "_law_weights_hold" 9 ["body", "weights"] (spF ca 2 pWeightsHoldL))
    (ok : ∀ ns : List Int, ns.length ≤ 63 → (∀ z ∈ ns, Builtin.Int.intBits z ≤ 1048576) → lawF 1 2 law1 law2 (begin 7 [scrD ns] ⟨0, [], []⟩)) : FnOk P w K mg base (L2N.CX P w) 10 f fd ["script"] spLaw :=
  ok_law F sclaw (by decide) rfl (fun cdv A outer s H E hr => pss_law (i := 1) (k := 2)
    (ps_setU (ps_set (i := 1) sclaw.nd rfl (Or.inl rfl) (pu_call (Dt.pe_dnX DTapeL (hr.mono (by omega)) (L2N.takes_of rfl rfl rfl rfl) (pus_cons (pu_var (pv 0)) (pus_cons (pu_c pe_int fun _ _ => .int _) pus_nil))))))
    (pss_consU (ps_setU (ps_set (i := 2) sclaw.nd rfl (Or.inl rfl) (pu_op op_addD sim_add (pu_c pe_int fun _ _ => .int _) (pu_call (Dt.pe_dnX DDrawL (hr.mono (by omega)) (L2N.takes_of rfl rfl rfl rfl) (pus_cons (pu_var (pv 1)) (pus_cons (pu_c pe_int fun _ _ => .int _) pus_nil)))))))
    (pss_consU (ps_forU tg_name (ps_for (passes_of rfl) rfl (pi_rng1 (pi_range1 rfl T.n_range (pus_cons (pu_c pe_int fun _ _ => .int _) pus_nil))) (pg_name (i := 3) sclaw.nd rfl (Or.inl rfl))
    (pss_consU (ps_setU (ps_set (i := 4) sclaw.nd rfl (Or.inl rfl) (pu_call (Dt.pe_dnX DBodyL (hr.mono (by omega)) (L2N.takes_of rfl rfl rfl rfl) (pus_cons (pu_var (pv 1)) (pus_cons (pu_var (pv 2)) pus_nil))))))
      (pss_consU (ps_setU (ps_set (i := 5) sclaw.nd rfl (Or.inl rfl) (pu_call (Dt.pe_dnX DWeightsL (hr.mono (by omega)) (L2N.takes_of rfl rfl rfl rfl) (pus_cons (pu_var (pv 1)) (pus_cons (pu_var (pv 2)) pus_nil))))))
      (pss_consU (ps_setU (ps_set (i := 6) sclaw.nd rfl (Or.inl rfl) (pu_call (Dt.pe_dnX DPlaceL (hr.mono (by omega)) (L2N.takes_of rfl rfl rfl rfl) (pus_cons (pu_var (pv 1)) (pus_cons (pu_var (pv 4)) pus_nil))))))
      (pss_consU (ps_ifU (PW.pt (pw_orU (pt_notU (pt_tru (pk_of (pu_call (Dt.pe_dnX DWeightsHoldL (hr.mono (by omega)) (L2N.takes_of rfl rfl rfl rfl) (pus_cons (pu_var (pv 4)) (pus_cons (pu_var (pv 5)) pus_nil))))))) (pw_or1 (pt_notU (pt_tru (pk_of (pu_call (Dt.pe_dnX DPlaceHoldsL (hr.mono (by omega)) (L2N.takes_of rfl rfl rfl rfl) (pus_cons (pu_var (pv 4)) (pus_cons (pu_var (pv 6)) pus_nil))))))))))
      (pss_oneU (ps_retU (ps_ret (pu_c pe_bl fun _ _ => .bl _))))
      pss_nilU)
      (pss_consU (ps_ifU (pt_notU (pt_tru (pk_of (pu_call (Dt.pe_dnX DFlatHoldsL (hr.mono (by omega)) (L2N.takes_of rfl rfl rfl rfl) (pus_cons (pu_var (pv 1)) (pus_cons (pu_var (pv 4)) pus_nil)))))))
      (pss_oneU (ps_retU (ps_ret (pu_c pe_bl fun _ _ => .bl _))))
      pss_nilU)
      (pss_consU (ps_ifU (pt_notU (pt_tru (pk_of (pu_call (Dt.pe_dnX DBadHoldsL (hr.mono (by omega)) (L2N.takes_of rfl rfl rfl rfl) (pus_cons (pu_var (pv 4)) (pus_cons (pu_var (pv 6)) (pus_cons (pu_var (pv 5)) (pus_cons (pu_call (Dt.pe_dnX DDrawL (hr.mono (by omega)) (L2N.takes_of rfl rfl rfl rfl) (pus_cons (pu_var (pv 1)) (pus_cons (pu_c pe_int fun _ _ => .int _) pus_nil)))) pus_nil)))))))))
      (pss_oneU (ps_retU (ps_ret (pu_c pe_bl fun _ _ => .bl _))))
      pss_nilU)
      (pss_oneU (ps_setU (ps_set (i := 2) sclaw.nd rfl (Or.inl rfl) (pu_op op_sub sim_sub (pu_c pe_int fun _ _ => .int _) (pu_var (pv 2))))))))))))))
    (pss_oneU (ps_retU (ps_ret (pu_c pe_bl fun _ _ => .bl _))))))) ok
end
end K23
end SecD23b
section SecE23
set_option Elab.async false
set_option linter.all false
set_option maxRecDepth 100000
set_option maxHeartbeats 4000000
set_option pp.deepTerms false
namespace K23
open PySem PySem.Spec PyProof.Rows L2 L2H Err Pu Dt
section
variable {P : Program} {w : World} {K : PySem.W.Frag} {mg : Str → Option Value} {base : Heap}
abbrev siNotUsable : Stmt := inClass (topS 4) 0
theorem sciNotUsable : FnScope ["self", "word", "at"] ["self", "word", "at"] (defScope siNotUsable) := ⟨rfl, rfl, rfl, by decide +kernel, rfl, by decide +kernel, by decide +kernel⟩
theorem iniNotUsable {f C : Addr} {fd : FuncData} (F : Fun K "__init__" "NotUsable.__init__" siNotUsable f fd) (T : OexC K C) (h1 : PySem.W.findIn K (.ref C) "word" = some none) (h2 : PySem.W.findIn K (.ref C) "at" = some none) : FnOk P w K mg base CX0 1 f fd ["self", "word", "at"] (spI C ["word", "at"]) := by
  refine F.ok sciNotUsable (fun vs H Q E h => ?_) (fun cdv A outer s H vs Q E hr h => ?_)
  · obtain ⟨a, vals, rfl, hl, _⟩ := h
    show vals.length + 1 = _
    rw [hl]
    rfl
  · obtain ⟨a, vals, rfl, hl, ha, _, kk⟩ := h
    obtain ⟨v1, v2, rfl⟩ : ∃ v1 v2, vals = [v1, v2] := by
      match vals, hl with
      | [x, y], _ => exact ⟨x, y, rfl⟩
    refine ⟨_, pss_cons (ps_ost (pv 0) (pv 1)) (pss_one (ps_ost (pv 0) (pv 2))), ?_⟩
    refine ⟨_, rfl, _, rfl, a, C, rfl, T, h1, .inl ⟨ha, fun d nd ne => ?_⟩⟩
    refine ⟨_, rfl, _, rfl, a, C, rfl, T, h2, .inr ⟨d, _, upd_same, by rw [upd_ne ne, upd_same], by show 1 ≤ 900; decide, ?_⟩⟩
    refine kk (by decide) d _ nd ne (by rw [upd_ne ne.symm, upd_same]) upd_same fun b o nb e => ?_
    rw [upd_ne (ne_of_none e nd), upd_ne nb, upd_ne (ne_of_none e nd)]
    exact e
end
theorem all_mk {l : PySem.W.OpenLaw} {w : World} {K : PySem.W.Frag} {h : Heap} {mg : Str → Option Value} {fa : Addr} (X : K.In h) (G : h.Ns mainGlobals mg) (hfa : mg "law" = some (.ref fa))
    {CN IN : Addr} {nm0 q0 : Str} {N0 : Addr} {bs0 bm0 : List Value} {sn0 : List Str} {sub0 : List Value} {ab0 : Bool} {col0 : Option Bool} {dd0 : Option Addr} {u0 v0 x0 y0 z0 : Option Value} {oo0 oa0 : Option Addr} {os0 : Array (Option Value)} {ok0 kV0 dc0 pm0 cd0 ct0 : Value}
    {AShapeError : Addr}
    {d0 : Addr} {eo0 ea0 : Option Addr} {es0 : Array (Option Value)} {ek0 eV0 ed0 ep0 ec0 et0 : Value}
    {d1 : Addr} {eo1 ea1 : Option Addr} {es1 : Array (Option Value)} {ek1 eV1 ed1 ep1 ec1 et1 : Value}
    {d2 : Addr} {eo2 ea2 : Option Addr} {es2 : Array (Option Value)} {ek2 eV2 ed2 ep2 ec2 et2 : Value}
    {d3 : Addr} {eo3 ea3 : Option Addr} {es3 : Array (Option Value)} {ek3 eV3 ed3 ep3 ec3 et3 : Value}
    {d4 : Addr} {eo4 ea4 : Option Addr} {es4 : Array (Option Value)} {ek4 eV4 ed4 ep4 ec4 et4 : Value}
    {d5 : Addr} {eo5 ea5 : Option Addr} {es5 : Array (Option Value)} {ek5 eV5 ed5 ep5 ec5 et5 : Value}
    {d6 : Addr} {eo6 ea6 : Option Addr} {es6 : Array (Option Value)} {ek6 eV6 ed6 ep6 ec6 et6 : Value}
    {d7 : Addr} {eo7 ea7 : Option Addr} {es7 : Array (Option Value)} {ek7 eV7 ed7 ep7 ec7 et7 : Value}
    {d8 : Addr} {eo8 ea8 : Option Addr} {es8 : Array (Option Value)} {ek8 eV8 ed8 ep8 ec8 et8 : Value}
    {d9 : Addr} {eo9 ea9 : Option Addr} {es9 : Array (Option Value)} {ek9 eV9 ed9 ep9 ec9 et9 : Value}
    {d10 : Addr} {eo10 ea10 : Option Addr} {es10 : Array (Option Value)} {ek10 eV10 ed10 ep10 ec10 et10 : Value}
    {d11 : Addr} {eo11 ea11 : Option Addr} {es11 : Array (Option Value)} {ek11 eV11 ed11 ep11 ec11 et11 : Value}
    {d12 : Addr} {eo12 ea12 : Option Addr} {es12 : Array (Option Value)} {ek12 eV12 ed12 ep12 ec12 et12 : Value}
    {d13 : Addr} {eo13 ea13 : Option Addr} {es13 : Array (Option Value)} {ek13 eV13 ed13 ep13 ec13 et13 : Value}
    {d14 : Addr} {eo14 ea14 : Option Addr} {es14 : Array (Option Value)} {ek14 eV14 ed14 ep14 ec14 et14 : Value}
    {d15 : Addr} {eo15 ea15 : Option Addr} {es15 : Array (Option Value)} {ek15 eV15 ed15 ep15 ec15 et15 : Value}
    {d16 : Addr} {eo16 ea16 : Option Addr} {es16 : Array (Option Value)} {ek16 eV16 ed16 ep16 ec16 et16 : Value}
    {d17 : Addr} {eo17 ea17 : Option Addr} {es17 : Array (Option Value)} {ek17 eV17 ed17 ep17 ec17 et17 : Value}
    {d18 : Addr} {eo18 ea18 : Option Addr} {es18 : Array (Option Value)} {ek18 eV18 ed18 ep18 ec18 et18 : Value}
    {d19 : Addr} {eo19 ea19 : Option Addr} {es19 : Array (Option Value)} {ek19 eV19 ed19 ep19 ec19 et19 : Value}
    {d20 : Addr} {eo20 ea20 : Option Addr} {es20 : Array (Option Value)} {ek20 eV20 ed20 ep20 ec20 et20 : Value}
    {d21 : Addr} {eo21 ea21 : Option Addr} {es21 : Array (Option Value)} {ek21 eV21 ed21 ep21 ec21 et21 : Value}
    {d22 : Addr} {eo22 ea22 : Option Addr} {es22 : Array (Option Value)} {ek22 eV22 ed22 ep22 ec22 et22 : Value}
    {d23 : Addr} {eo23 ea23 : Option Addr} {es23 : Array (Option Value)} {ek23 eV23 ed23 ep23 ec23 et23 : Value}
    {d24 : Addr} {eo24 ea24 : Option Addr} {es24 : Array (Option Value)} {ek24 eV24 ed24 ep24 ec24 et24 : Value}
    {d25 : Addr} {eo25 ea25 : Option Addr} {es25 : Array (Option Value)} {ek25 eV25 ed25 ep25 ec25 et25 : Value}
    {d26 : Addr} {eo26 ea26 : Option Addr} {es26 : Array (Option Value)} {ek26 eV26 ed26 ep26 ec26 et26 : Value}
    {d27 : Addr} {eo27 ea27 : Option Addr} {es27 : Array (Option Value)} {ek27 eV27 ed27 ep27 ec27 et27 : Value}
    {d28 : Addr} {eo28 ea28 : Option Addr} {es28 : Array (Option Value)} {ek28 eV28 ed28 ep28 ec28 et28 : Value}
    {d29 : Addr} {eo29 ea29 : Option Addr} {es29 : Array (Option Value)} {ek29 eV29 ed29 ep29 ec29 et29 : Value}
    {d30 : Addr} {eo30 ea30 : Option Addr} {es30 : Array (Option Value)} {ek30 eV30 ed30 ep30 ec30 et30 : Value}
    {d31 : Addr} {eo31 ea31 : Option Addr} {es31 : Array (Option Value)} {ek31 eV31 ed31 ep31 ec31 et31 : Value}
    {d32 : Addr} {eo32 ea32 : Option Addr} {es32 : Array (Option Value)} {ek32 eV32 ed32 ep32 ec32 et32 : Value}
    {d33 : Addr} {eo33 ea33 : Option Addr} {es33 : Array (Option Value)} {ek33 eV33 ed33 ep33 ec33 et33 : Value}
    {d34 : Addr} {eo34 ea34 : Option Addr} {es34 : Array (Option Value)} {ek34 eV34 ed34 ep34 ec34 et34 : Value}
    {d35 : Addr} {eo35 ea35 : Option Addr} {es35 : Array (Option Value)} {ek35 eV35 ed35 ep35 ec35 et35 : Value}
    {d36 : Addr} {eo36 ea36 : Option Addr} {es36 : Array (Option Value)} {ek36 eV36 ed36 ep36 ec36 et36 : Value}
    {d37 : Addr} {eo37 ea37 : Option Addr} {es37 : Array (Option Value)} {ek37 eV37 ed37 ep37 ec37 et37 : Value}
    {d38 : Addr} {eo38 ea38 : Option Addr} {es38 : Array (Option Value)} {ek38 eV38 ed38 ep38 ec38 et38 : Value}
    {d39 : Addr} {eo39 ea39 : Option Addr} {es39 : Array (Option Value)} {ek39 eV39 ed39 ep39 ec39 et39 : Value}
    {d40 : Addr} {eo40 ea40 : Option Addr} {es40 : Array (Option Value)} {ek40 eV40 ed40 ep40 ec40 et40 : Value}
    {d41 : Addr} {eo41 ea41 : Option Addr} {es41 : Array (Option Value)} {ek41 eV41 ed41 ep41 ec41 et41 : Value}
    {d42 : Addr} {eo42 ea42 : Option Addr} {es42 : Array (Option Value)} {ek42 eV42 ed42 ep42 ec42 et42 : Value}
    {d43 : Addr} {eo43 ea43 : Option Addr} {es43 : Array (Option Value)} {ek43 eV43 ed43 ep43 ec43 et43 : Value}
    (aC0 : PySem.W.nsIn K mainGlobals "NotUsable" = some (some (.ref CN)))
    (xL0 : K.lookup CN = some (excClassObj nm0 q0 CN N0 bs0 bm0 true sn0 sub0 ab0 col0 dd0 u0 v0 x0 y0 z0 "ValueError.__new__"))
    (bm0_ : PySem.HandSPX.refsVE bm0 = true)
    (iI0 : PySem.W.findIn K (.ref CN) "__init__" = some (some (.ref IN)))
    (lI0 : K.lookup IN = some ⟨ok0, oo0, .func (PySem.W.fnOf "__init__" "NotUsable.__init__" (defArgs siNotUsable) (defBody siNotUsable) (defScope siNotUsable) .none kV0 dc0 pm0 oa0 cd0 ct0), os0⟩)
    (cI0 : PySem.W.codeIn K cd0 "NotUsable.__init__" = true)
    (kI0 : PySem.W.keepIn K (.ref IN) = true)
    (aShapeError : PySem.W.nsIn K mainGlobals "ShapeError" = some (some (.ref AShapeError)))
    (aD0 : PySem.W.nsIn K mainGlobals "demand" = some (some (.ref d0)))
    (lD0 : K.lookup d0 = some ⟨ek0, eo0, .func (PySem.W.fnOf "demand" "demand" (defArgs sDemand) (defBody sDemand) (defScope sDemand) .none eV0 ed0 ep0 ea0 ec0 et0), es0⟩)
    (cD0 : PySem.W.codeIn K ec0 "demand" = true)
    (kD0 : PySem.W.keepIn K (.ref d0) = true)
    (aD1 : PySem.W.nsIn K mainGlobals "common_divisor" = some (some (.ref d1)))
    (lD1 : K.lookup d1 = some ⟨ek1, eo1, .func (PySem.W.fnOf "common_divisor" "common_divisor" (defArgs sCommonDivisor) (defBody sCommonDivisor) (defScope sCommonDivisor) .none eV1 ed1 ep1 ea1 ec1 et1), es1⟩)
    (cD1 : PySem.W.codeIn K ec1 "common_divisor" = true)
    (kD1 : PySem.W.keepIn K (.ref d1) = true)
    (aD2 : PySem.W.nsIn K mainGlobals "lowest_terms" = some (some (.ref d2)))
    (lD2 : K.lookup d2 = some ⟨ek2, eo2, .func (PySem.W.fnOf "lowest_terms" "lowest_terms" (defArgs sLowestTerms) (defBody sLowestTerms) (defScope sLowestTerms) .none eV2 ed2 ep2 ea2 ec2 et2), es2⟩)
    (cD2 : PySem.W.codeIn K ec2 "lowest_terms" = true)
    (kD2 : PySem.W.keepIn K (.ref d2) = true)
    (aD3 : PySem.W.nsIn K mainGlobals "is_integer" = some (some (.ref d3)))
    (lD3 : K.lookup d3 = some ⟨ek3, eo3, .func (PySem.W.fnOf "is_integer" "is_integer" (defArgs sIsInteger) (defBody sIsInteger) (defScope sIsInteger) .none eV3 ed3 ep3 ea3 ec3 et3), es3⟩)
    (cD3 : PySem.W.codeIn K ec3 "is_integer" = true)
    (kD3 : PySem.W.keepIn K (.ref d3) = true)
    (aD4 : PySem.W.nsIn K mainGlobals "is_row" = some (some (.ref d4)))
    (lD4 : K.lookup d4 = some ⟨ek4, eo4, .func (PySem.W.fnOf "is_row" "is_row" (defArgs sIsRow) (defBody sIsRow) (defScope sIsRow) .none eV4 ed4 ep4 ea4 ec4 et4), es4⟩)
    (cD4 : PySem.W.codeIn K ec4 "is_row" = true)
    (kD4 : PySem.W.keepIn K (.ref d4) = true)
    (aD5 : PySem.W.nsIn K mainGlobals "is_lowest" = some (some (.ref d5)))
    (lD5 : K.lookup d5 = some ⟨ek5, eo5, .func (PySem.W.fnOf "is_lowest" "is_lowest" (defArgs sIsLowest) (defBody sIsLowest) (defScope sIsLowest) .none eV5 ed5 ep5 ea5 ec5 et5), es5⟩)
    (cD5 : PySem.W.codeIn K ec5 "is_lowest" = true)
    (kD5 : PySem.W.keepIn K (.ref d5) = true)
    (aD6 : PySem.W.nsIn K mainGlobals "is_place" = some (some (.ref d6)))
    (lD6 : K.lookup d6 = some ⟨ek6, eo6, .func (PySem.W.fnOf "is_place" "is_place" (defArgs sIsPlace) (defBody sIsPlace) (defScope sIsPlace) .none eV6 ed6 ep6 ea6 ec6 et6), es6⟩)
    (cD6 : PySem.W.codeIn K ec6 "is_place" = true)
    (kD6 : PySem.W.keepIn K (.ref d6) = true)
    (aD7 : PySem.W.nsIn K mainGlobals "quotient_of" = some (some (.ref d7)))
    (lD7 : K.lookup d7 = some ⟨ek7, eo7, .func (PySem.W.fnOf "quotient_of" "quotient_of" (defArgs sQuotientOf) (defBody sQuotientOf) (defScope sQuotientOf) .none eV7 ed7 ep7 ea7 ec7 et7), es7⟩)
    (cD7 : PySem.W.codeIn K ec7 "quotient_of" = true)
    (kD7 : PySem.W.keepIn K (.ref d7) = true)
    (aD8 : PySem.W.nsIn K mainGlobals "minus_rows" = some (some (.ref d8)))
    (lD8 : K.lookup d8 = some ⟨ek8, eo8, .func (PySem.W.fnOf "minus_rows" "minus_rows" (defArgs sMinusRows) (defBody sMinusRows) (defScope sMinusRows) .none eV8 ed8 ep8 ea8 ec8 et8), es8⟩)
    (cD8 : PySem.W.codeIn K ec8 "minus_rows" = true)
    (kD8 : PySem.W.keepIn K (.ref d8) = true)
    (aD9 : PySem.W.nsIn K mainGlobals "dot" = some (some (.ref d9)))
    (lD9 : K.lookup d9 = some ⟨ek9, eo9, .func (PySem.W.fnOf "dot" "dot" (defArgs sDot) (defBody sDot) (defScope sDot) .none eV9 ed9 ep9 ea9 ec9 et9), es9⟩)
    (cD9 : PySem.W.codeIn K ec9 "dot" = true)
    (kD9 : PySem.W.keepIn K (.ref d9) = true)
    (aD10 : PySem.W.nsIn K mainGlobals "cross" = some (some (.ref d10)))
    (lD10 : K.lookup d10 = some ⟨ek10, eo10, .func (PySem.W.fnOf "cross" "cross" (defArgs sCross) (defBody sCross) (defScope sCross) .none eV10 ed10 ep10 ea10 ec10 et10), es10⟩)
    (cD10 : PySem.W.codeIn K ec10 "cross" = true)
    (kD10 : PySem.W.keepIn K (.ref d10) = true)
    (aD11 : PySem.W.nsIn K mainGlobals "rises_of" = some (some (.ref d11)))
    (lD11 : K.lookup d11 = some ⟨ek11, eo11, .func (PySem.W.fnOf "rises_of" "rises_of" (defArgs sRisesOf) (defBody sRisesOf) (defScope sRisesOf) .none eV11 ed11 ep11 ea11 ec11 et11), es11⟩)
    (cD11 : PySem.W.codeIn K ec11 "rises_of" = true)
    (kD11 : PySem.W.keepIn K (.ref d11) = true)
    (aD12 : PySem.W.nsIn K mainGlobals "slopes_of" = some (some (.ref d12)))
    (lD12 : K.lookup d12 = some ⟨ek12, eo12, .func (PySem.W.fnOf "slopes_of" "slopes_of" (defArgs sSlopesOf) (defBody sSlopesOf) (defScope sSlopesOf) .none eV12 ed12 ep12 ea12 ec12 et12), es12⟩)
    (cD12 : PySem.W.codeIn K ec12 "slopes_of" = true)
    (kD12 : PySem.W.keepIn K (.ref d12) = true)
    (aD13 : PySem.W.nsIn K mainGlobals "fits_body" = some (some (.ref d13)))
    (lD13 : K.lookup d13 = some ⟨ek13, eo13, .func (PySem.W.fnOf "fits_body" "fits_body" (defArgs sFitsBody) (defBody sFitsBody) (defScope sFitsBody) .none eV13 ed13 ep13 ea13 ec13 et13), es13⟩)
    (cD13 : PySem.W.codeIn K ec13 "fits_body" = true)
    (kD13 : PySem.W.keepIn K (.ref d13) = true)
    (aD14 : PySem.W.nsIn K mainGlobals "weights_made" = some (some (.ref d14)))
    (lD14 : K.lookup d14 = some ⟨ek14, eo14, .func (PySem.W.fnOf "weights_made" "weights_made" (defArgs sWeightsMade) (defBody sWeightsMade) (defScope sWeightsMade) .none eV14 ed14 ep14 ea14 ec14 et14), es14⟩)
    (cD14 : PySem.W.codeIn K ec14 "weights_made" = true)
    (kD14 : PySem.W.keepIn K (.ref d14) = true)
    (aD15 : PySem.W.nsIn K mainGlobals "blend_made" = some (some (.ref d15)))
    (lD15 : K.lookup d15 = some ⟨ek15, eo15, .func (PySem.W.fnOf "blend_made" "blend_made" (defArgs sBlendMade) (defBody sBlendMade) (defScope sBlendMade) .none eV15 ed15 ep15 ea15 ec15 et15), es15⟩)
    (cD15 : PySem.W.codeIn K ec15 "blend_made" = true)
    (kD15 : PySem.W.keepIn K (.ref d15) = true)
    (aD16 : PySem.W.nsIn K mainGlobals "holds_made" = some (some (.ref d16)))
    (lD16 : K.lookup d16 = some ⟨ek16, eo16, .func (PySem.W.fnOf "holds_made" "holds_made" (defArgs sHoldsMade) (defBody sHoldsMade) (defScope sHoldsMade) .none eV16 ed16 ep16 ea16 ec16 et16), es16⟩)
    (cD16 : PySem.W.codeIn K ec16 "holds_made" = true)
    (kD16 : PySem.W.keepIn K (.ref d16) = true)
    (aD17 : PySem.W.nsIn K mainGlobals "weights_in" = some (some (.ref d17)))
    (lD17 : K.lookup d17 = some ⟨ek17, eo17, .func (PySem.W.fnOf "weights_in" "weights_in" (defArgs sWeightsIn) (defBody sWeightsIn) (defScope sWeightsIn) .none eV17 ed17 ep17 ea17 ec17 et17), es17⟩)
    (cD17 : PySem.W.codeIn K ec17 "weights_in" = true)
    (kD17 : PySem.W.keepIn K (.ref d17) = true)
    (aD18 : PySem.W.nsIn K mainGlobals "are_weights" = some (some (.ref d18)))
    (lD18 : K.lookup d18 = some ⟨ek18, eo18, .func (PySem.W.fnOf "are_weights" "are_weights" (defArgs sAreWeights) (defBody sAreWeights) (defScope sAreWeights) .none eV18 ed18 ep18 ea18 ec18 et18), es18⟩)
    (cD18 : PySem.W.codeIn K ec18 "are_weights" = true)
    (kD18 : PySem.W.keepIn K (.ref d18) = true)
    (aD19 : PySem.W.nsIn K mainGlobals "blend" = some (some (.ref d19)))
    (lD19 : K.lookup d19 = some ⟨ek19, eo19, .func (PySem.W.fnOf "blend" "blend" (defArgs sBlend) (defBody sBlend) (defScope sBlend) .none eV19 ed19 ep19 ea19 ec19 et19), es19⟩)
    (cD19 : PySem.W.codeIn K ec19 "blend" = true)
    (kD19 : PySem.W.keepIn K (.ref d19) = true)
    (aD20 : PySem.W.nsIn K mainGlobals "holds" = some (some (.ref d20)))
    (lD20 : K.lookup d20 = some ⟨ek20, eo20, .func (PySem.W.fnOf "holds" "holds" (defArgs sHolds) (defBody sHolds) (defScope sHolds) .none eV20 ed20 ep20 ea20 ec20 et20), es20⟩)
    (cD20 : PySem.W.codeIn K ec20 "holds" = true)
    (kD20 : PySem.W.keepIn K (.ref d20) = true)
    (aD21 : PySem.W.nsIn K mainGlobals "carrier_in" = some (some (.ref d21)))
    (lD21 : K.lookup d21 = some ⟨ek21, eo21, .func (PySem.W.fnOf "carrier_in" "carrier_in" (defArgs sCarrierIn) (defBody sCarrierIn) (defScope sCarrierIn) .none eV21 ed21 ep21 ea21 ec21 et21), es21⟩)
    (cD21 : PySem.W.codeIn K ec21 "carrier_in" = true)
    (kD21 : PySem.W.keepIn K (.ref d21) = true)
    (aD22 : PySem.W.nsIn K mainGlobals "measure_of" = some (some (.ref d22)))
    (lD22 : K.lookup d22 = some ⟨ek22, eo22, .func (PySem.W.fnOf "measure_of" "measure_of" (defArgs sMeasureOf) (defBody sMeasureOf) (defScope sMeasureOf) .none eV22 ed22 ep22 ea22 ec22 et22), es22⟩)
    (cD22 : PySem.W.codeIn K ec22 "measure_of" = true)
    (kD22 : PySem.W.keepIn K (.ref d22) = true)
    (aD23 : PySem.W.nsIn K mainGlobals "is_flat" = some (some (.ref d23)))
    (lD23 : K.lookup d23 = some ⟨ek23, eo23, .func (PySem.W.fnOf "is_flat" "is_flat" (defArgs sIsFlat) (defBody sIsFlat) (defScope sIsFlat) .none eV23 ed23 ep23 ea23 ec23 et23), es23⟩)
    (cD23 : PySem.W.codeIn K ec23 "is_flat" = true)
    (kD23 : PySem.W.keepIn K (.ref d23) = true)
    (aD24 : PySem.W.nsIn K mainGlobals "_law_tape" = some (some (.ref d24)))
    (lD24 : K.lookup d24 = some ⟨ek24, eo24, .func (PySem.W.fnOf "_law_tape" "_law_tape" (defArgs sTapeL) (defBody sTapeL) (defScope sTapeL) .none eV24 ed24 ep24 ea24 ec24 et24), es24⟩)
    (cD24 : PySem.W.codeIn K ec24 "_law_tape" = true)
    (kD24 : PySem.W.keepIn K (.ref d24) = true)
    (aD25 : PySem.W.nsIn K mainGlobals "_law_draw" = some (some (.ref d25)))
    (lD25 : K.lookup d25 = some ⟨ek25, eo25, .func (PySem.W.fnOf "_law_draw" "_law_draw" (defArgs sDrawL) (defBody sDrawL) (defScope sDrawL) .none eV25 ed25 ep25 ea25 ec25 et25), es25⟩)
    (cD25 : PySem.W.codeIn K ec25 "_law_draw" = true)
    (kD25 : PySem.W.keepIn K (.ref d25) = true)
    (aD26 : PySem.W.nsIn K mainGlobals "_law_same" = some (some (.ref d26)))
    (lD26 : K.lookup d26 = some ⟨ek26, eo26, .func (PySem.W.fnOf "_law_same" "_law_same" (defArgs sSameL) (defBody sSameL) (defScope sSameL) .none eV26 ed26 ep26 ea26 ec26 et26), es26⟩)
    (cD26 : PySem.W.codeIn K ec26 "_law_same" = true)
    (kD26 : PySem.W.keepIn K (.ref d26) = true)
    (aD27 : PySem.W.nsIn K mainGlobals "_law_common" = some (some (.ref d27)))
    (lD27 : K.lookup d27 = some ⟨ek27, eo27, .func (PySem.W.fnOf "_law_common" "_law_common" (defArgs sCommonL) (defBody sCommonL) (defScope sCommonL) .none eV27 ed27 ep27 ea27 ec27 et27), es27⟩)
    (cD27 : PySem.W.codeIn K ec27 "_law_common" = true)
    (kD27 : PySem.W.keepIn K (.ref d27) = true)
    (aD28 : PySem.W.nsIn K mainGlobals "_law_lowest" = some (some (.ref d28)))
    (lD28 : K.lookup d28 = some ⟨ek28, eo28, .func (PySem.W.fnOf "_law_lowest" "_law_lowest" (defArgs sLowestL) (defBody sLowestL) (defScope sLowestL) .none eV28 ed28 ep28 ea28 ec28 et28), es28⟩)
    (cD28 : PySem.W.codeIn K ec28 "_law_lowest" = true)
    (kD28 : PySem.W.keepIn K (.ref d28) = true)
    (aD29 : PySem.W.nsIn K mainGlobals "_law_turned" = some (some (.ref d29)))
    (lD29 : K.lookup d29 = some ⟨ek29, eo29, .func (PySem.W.fnOf "_law_turned" "_law_turned" (defArgs sTurnedL) (defBody sTurnedL) (defScope sTurnedL) .none eV29 ed29 ep29 ea29 ec29 et29), es29⟩)
    (cD29 : PySem.W.codeIn K ec29 "_law_turned" = true)
    (kD29 : PySem.W.keepIn K (.ref d29) = true)
    (aD30 : PySem.W.nsIn K mainGlobals "_law_measure" = some (some (.ref d30)))
    (lD30 : K.lookup d30 = some ⟨ek30, eo30, .func (PySem.W.fnOf "_law_measure" "_law_measure" (defArgs sMeasureL) (defBody sMeasureL) (defScope sMeasureL) .none eV30 ed30 ep30 ea30 ec30 et30), es30⟩)
    (cD30 : PySem.W.codeIn K ec30 "_law_measure" = true)
    (kD30 : PySem.W.keepIn K (.ref d30) = true)
    (aD31 : PySem.W.nsIn K mainGlobals "_law_body" = some (some (.ref d31)))
    (lD31 : K.lookup d31 = some ⟨ek31, eo31, .func (PySem.W.fnOf "_law_body" "_law_body" (defArgs sBodyL) (defBody sBodyL) (defScope sBodyL) .none eV31 ed31 ep31 ea31 ec31 et31), es31⟩)
    (cD31 : PySem.W.codeIn K ec31 "_law_body" = true)
    (kD31 : PySem.W.keepIn K (.ref d31) = true)
    (aD32 : PySem.W.nsIn K mainGlobals "_law_weights" = some (some (.ref d32)))
    (lD32 : K.lookup d32 = some ⟨ek32, eo32, .func (PySem.W.fnOf "_law_weights" "_law_weights" (defArgs sWeightsL) (defBody sWeightsL) (defScope sWeightsL) .none eV32 ed32 ep32 ea32 ec32 et32), es32⟩)
    (cD32 : PySem.W.codeIn K ec32 "_law_weights" = true)
    (kD32 : PySem.W.keepIn K (.ref d32) = true)
    (aD33 : PySem.W.nsIn K mainGlobals "_law_given" = some (some (.ref d33)))
    (lD33 : K.lookup d33 = some ⟨ek33, eo33, .func (PySem.W.fnOf "_law_given" "_law_given" (defArgs sGivenL) (defBody sGivenL) (defScope sGivenL) .none eV33 ed33 ep33 ea33 ec33 et33), es33⟩)
    (cD33 : PySem.W.codeIn K ec33 "_law_given" = true)
    (kD33 : PySem.W.keepIn K (.ref d33) = true)
    (aD34 : PySem.W.nsIn K mainGlobals "_law_place" = some (some (.ref d34)))
    (lD34 : K.lookup d34 = some ⟨ek34, eo34, .func (PySem.W.fnOf "_law_place" "_law_place" (defArgs sPlaceL) (defBody sPlaceL) (defScope sPlaceL) .none eV34 ed34 ep34 ea34 ec34 et34), es34⟩)
    (cD34 : PySem.W.codeIn K ec34 "_law_place" = true)
    (kD34 : PySem.W.keepIn K (.ref d34) = true)
    (aD35 : PySem.W.nsIn K mainGlobals "_law_carrier" = some (some (.ref d35)))
    (lD35 : K.lookup d35 = some ⟨ek35, eo35, .func (PySem.W.fnOf "_law_carrier" "_law_carrier" (defArgs sCarrierL) (defBody sCarrierL) (defScope sCarrierL) .none eV35 ed35 ep35 ea35 ec35 et35), es35⟩)
    (cD35 : PySem.W.codeIn K ec35 "_law_carrier" = true)
    (kD35 : PySem.W.keepIn K (.ref d35) = true)
    (aD36 : PySem.W.nsIn K mainGlobals "_law_form" = some (some (.ref d36)))
    (lD36 : K.lookup d36 = some ⟨ek36, eo36, .func (PySem.W.fnOf "_law_form" "_law_form" (defArgs sFormL) (defBody sFormL) (defScope sFormL) .none eV36 ed36 ep36 ea36 ec36 et36), es36⟩)
    (cD36 : PySem.W.codeIn K ec36 "_law_form" = true)
    (kD36 : PySem.W.keepIn K (.ref d36) = true)
    (aD37 : PySem.W.nsIn K mainGlobals "_law_held_holds" = some (some (.ref d37)))
    (lD37 : K.lookup d37 = some ⟨ek37, eo37, .func (PySem.W.fnOf "_law_held_holds" "_law_held_holds" (defArgs sHeldHoldsL) (defBody sHeldHoldsL) (defScope sHeldHoldsL) .none eV37 ed37 ep37 ea37 ec37 et37), es37⟩)
    (cD37 : PySem.W.codeIn K ec37 "_law_held_holds" = true)
    (kD37 : PySem.W.keepIn K (.ref d37) = true)
    (aD38 : PySem.W.nsIn K mainGlobals "_law_place_holds" = some (some (.ref d38)))
    (lD38 : K.lookup d38 = some ⟨ek38, eo38, .func (PySem.W.fnOf "_law_place_holds" "_law_place_holds" (defArgs sPlaceHoldsL) (defBody sPlaceHoldsL) (defScope sPlaceHoldsL) .none eV38 ed38 ep38 ea38 ec38 et38), es38⟩)
    (cD38 : PySem.W.codeIn K ec38 "_law_place_holds" = true)
    (kD38 : PySem.W.keepIn K (.ref d38) = true)
    (aD39 : PySem.W.nsIn K mainGlobals "_law_weights_hold" = some (some (.ref d39)))
    (lD39 : K.lookup d39 = some ⟨ek39, eo39, .func (PySem.W.fnOf "_law_weights_hold" "_law_weights_hold" (defArgs sWeightsHoldL) (defBody sWeightsHoldL) (defScope sWeightsHoldL) .none eV39 ed39 ep39 ea39 ec39 et39), es39⟩)
    (cD39 : PySem.W.codeIn K ec39 "_law_weights_hold" = true)
    (kD39 : PySem.W.keepIn K (.ref d39) = true)
    (aD40 : PySem.W.nsIn K mainGlobals "_law_flat_holds" = some (some (.ref d40)))
    (lD40 : K.lookup d40 = some ⟨ek40, eo40, .func (PySem.W.fnOf "_law_flat_holds" "_law_flat_holds" (defArgs sFlatHoldsL) (defBody sFlatHoldsL) (defScope sFlatHoldsL) .none eV40 ed40 ep40 ea40 ec40 et40), es40⟩)
    (cD40 : PySem.W.codeIn K ec40 "_law_flat_holds" = true)
    (kD40 : PySem.W.keepIn K (.ref d40) = true)
    (aD41 : PySem.W.nsIn K mainGlobals "_law_refused" = some (some (.ref d41)))
    (lD41 : K.lookup d41 = some ⟨ek41, eo41, .func (PySem.W.fnOf "_law_refused" "_law_refused" (defArgs sRefusedL) (defBody sRefusedL) (defScope sRefusedL) .none eV41 ed41 ep41 ea41 ec41 et41), es41⟩)
    (cD41 : PySem.W.codeIn K ec41 "_law_refused" = true)
    (kD41 : PySem.W.keepIn K (.ref d41) = true)
    (aD42 : PySem.W.nsIn K mainGlobals "_law_bad_holds" = some (some (.ref d42)))
    (lD42 : K.lookup d42 = some ⟨ek42, eo42, .func (PySem.W.fnOf "_law_bad_holds" "_law_bad_holds" (defArgs sBadHoldsL) (defBody sBadHoldsL) (defScope sBadHoldsL) .none eV42 ed42 ep42 ea42 ec42 et42), es42⟩)
    (cD42 : PySem.W.codeIn K ec42 "_law_bad_holds" = true)
    (kD42 : PySem.W.keepIn K (.ref d42) = true)
    (aD43 : PySem.W.nsIn K mainGlobals "law" = some (some (.ref d43)))
    (lD43 : K.lookup d43 = some ⟨ek43, eo43, .func (PySem.W.fnOf "law" "law" (defArgs slaw) (defBody slaw) (defScope slaw) .none eV43 ed43 ep43 ea43 ec43 et43), es43⟩)
    (cD43 : PySem.W.codeIn K ec43 "law" = true)
    (kD43 : PySem.W.keepIn K (.ref d43) = true)
    (n_int : PySem.W.nsIn K mainGlobals "int" = some none)
    (n_abs : PySem.W.nsIn K mainGlobals "abs" = some none)
    (n_len : PySem.W.nsIn K mainGlobals "len" = some none)
    (n_range : PySem.W.nsIn K mainGlobals "range" = some none)
    (n_tuple : PySem.W.nsIn K mainGlobals "tuple" = some none)
    (n_list : PySem.W.nsIn K mainGlobals "list" = some none)
    (n_bool : PySem.W.nsIn K mainGlobals "bool" = some none)
    (n_str : PySem.W.nsIn K mainGlobals "str" = some none)
    (n_all : PySem.W.nsIn K mainGlobals "all" = some none)
    (n_any : PySem.W.nsIn K mainGlobals "any" = some none)
    (n_isinstance : PySem.W.nsIn K mainGlobals "isinstance" = some none)
    (n_ValueError : PySem.W.nsIn K mainGlobals "ValueError" = some none)
    (n_zip : PySem.W.nsIn K mainGlobals "zip" = some none)
    (n_min : PySem.W.nsIn K mainGlobals "min" = some none)
    (n_max : PySem.W.nsIn K mainGlobals "max" = some none)
    (n_sum : PySem.W.nsIn K mainGlobals "sum" = some none)
    (n_sorted : PySem.W.nsIn K mainGlobals "sorted" = some none)
    (n_gcd : PySem.W.nsIn K mainGlobals "gcd" = some (some (.builtin "math.gcd")))
    (cB : clsB K CN IN ["word", "at"] = true)
    (kB : (decide (PySem.W.exmOne K (.ref CN) (.ref CN) = some true) && decide (PySem.W.kitOne K (.ref CN) (.ref AShapeError) = some true)) = true) :
    ∃ fd : FuncData, (∀ (s : Shared) (v : Value), BindsTo s fd ⟨[v], []⟩ [("script", v)]) ∧ ∀ base : Heap, K.In base → base.Ns mainGlobals mg → FnOk l.prog w K mg base (L2N.CX l.prog w) 10 fa fd ["script"] spLaw := by
  have e := hfa.symm.trans (PySem.W.mg_of X G aD43)
  cases e
  refine ⟨PySem.W.fnOf "law" "law" (defArgs slaw) (defBody slaw) (defScope slaw) .none eV43 ed43 ep43 ea43 ec43 et43, fun s v => .of_eq rfl, fun base _ _ => ?_⟩
  have T : Tx mg := ⟨PySem.W.mg_none_of X G n_int, PySem.W.mg_none_of X G n_abs, PySem.W.mg_none_of X G n_len, PySem.W.mg_none_of X G n_range, PySem.W.mg_none_of X G n_tuple, PySem.W.mg_none_of X G n_list, PySem.W.mg_none_of X G n_bool, PySem.W.mg_none_of X G n_str, PySem.W.mg_none_of X G n_all, PySem.W.mg_none_of X G n_any, PySem.W.mg_none_of X G n_isinstance, PySem.W.mg_none_of X G n_ValueError, PySem.W.mg_none_of X G n_zip, PySem.W.mg_none_of X G n_min, PySem.W.mg_none_of X G n_max, PySem.W.mg_none_of X G n_sum, PySem.W.mg_none_of X G n_sorted, PySem.W.mg_of X G n_gcd⟩
  have FI0 := fun_mk (st := siNotUsable) lI0 cI0 kI0
  have bI0 := FI0.binds (ps := ("self" : Str) :: ["word", "at"]) fun _ _ _ _ _ _ us hl => match us, hl with | [_, _, _], _ => rfl
  have LNotUsable : Kl l.prog w K mg base "NotUsable" CN ["word", "at"] := mk_kl (PySem.W.mg_of X G aC0) ⟨_, _, _, _, _, _, _, _, _, _, _, _, _, _, _, xL0, bm0_⟩ (clsB_ok cB) (fun o => iniNotUsable FI0 o ((clsB_ok cB).no _ (by exact List.mem_cons_self)) ((clsB_ok cB).no _ (by exact List.mem_cons_of_mem _ List.mem_cons_self))) bI0 (fun s u0 ws _ hl => match ws, hl with | [_, _], _ => .of_eq rfl)
  have CNotUsable : (fun _ : Str => CN) "NotUsable" = CN := rfl
  have XNotUsable := of_decide_eq_true (ba kB).1
  have kNotUsable_ShapeError := of_decide_eq_true (ba kB).2
  have gShapeError := PySem.W.mg_of X G aShapeError
  have FD24 := fun_mk (st := sTapeL) lD24 cD24 kD24
  have r24 : mg "_law_tape" = some (.ref d24) ∧ PySem.W.keepIn K (.ref d24) = true ∧ Binds K _ ["script", "start"] [] := ⟨PySem.W.mg_of X G aD24, kD24, FD24.binds (ps := ["script", "start"]) fun _ _ _ _ _ _ us hl => match us, hl with | [_, _], _ => rfl⟩
  have DTapeL : Dt.Dn l.prog w K mg base (L2N.CX l.prog w) "_law_tape" 1 ["script", "start"] (spF (fun _ => CN) 2 pTapeL) := ⟨_, _, okTapeL FD24 T , r24⟩
  have FD25 := fun_mk (st := sDrawL) lD25 cD25 kD25
  have r25 : mg "_law_draw" = some (.ref d25) ∧ PySem.W.keepIn K (.ref d25) = true ∧ Binds K _ ["tape", "many"] [] := ⟨PySem.W.mg_of X G aD25, kD25, FD25.binds (ps := ["tape", "many"]) fun _ _ _ _ _ _ us hl => match us, hl with | [_, _], _ => rfl⟩
  have DDrawL : Dt.Dn l.prog w K mg base (L2N.CX l.prog w) "_law_draw" 1 ["tape", "many"] (spF (fun _ => CN) 2 pDrawL) := ⟨_, _, okDrawL FD25 T , r25⟩
  have FD29 := fun_mk (st := sTurnedL) lD29 cD29 kD29
  have r29 : mg "_law_turned" = some (.ref d29) ∧ PySem.W.keepIn K (.ref d29) = true ∧ Binds K _ ["a", "b", "c"] [] := ⟨PySem.W.mg_of X G aD29, kD29, FD29.binds (ps := ["a", "b", "c"]) fun _ _ _ _ _ _ us hl => match us, hl with | [_, _, _], _ => rfl⟩
  have DTurnedL : Dt.Dn l.prog w K mg base (L2N.CX l.prog w) "_law_turned" 1 ["a", "b", "c"] (spF (fun _ => CN) 3 pTurnedL) := ⟨_, _, okTurnedL FD29 T , r29⟩
  have FD30 := fun_mk (st := sMeasureL) lD30 cD30 kD30
  have r30 : mg "_law_measure" = some (.ref d30) ∧ PySem.W.keepIn K (.ref d30) = true ∧ Binds K _ ["body"] [] := ⟨PySem.W.mg_of X G aD30, kD30, FD30.binds (ps := ["body"]) fun _ _ _ _ _ _ us hl => match us, hl with | [_], _ => rfl⟩
  have DMeasureL : Dt.Dn l.prog w K mg base (L2N.CX l.prog w) "_law_measure" 2 ["body"] (spF (fun _ => CN) 1 pMeasureL) := ⟨_, _, okMeasureL FD30 T DTurnedL, r30⟩
  have FD31 := fun_mk (st := sBodyL) lD31 cD31 kD31
  have r31 : mg "_law_body" = some (.ref d31) ∧ PySem.W.keepIn K (.ref d31) = true ∧ Binds K _ ["tape", "dims"] [] := ⟨PySem.W.mg_of X G aD31, kD31, FD31.binds (ps := ["tape", "dims"]) fun _ _ _ _ _ _ us hl => match us, hl with | [_, _], _ => rfl⟩
  have DBodyL : Dt.Dn l.prog w K mg base (L2N.CX l.prog w) "_law_body" 3 ["tape", "dims"] (spF (fun _ => CN) 2 pBodyL) := ⟨_, _, okBodyL FD31 T DDrawL DMeasureL, r31⟩
  have FD27 := fun_mk (st := sCommonL) lD27 cD27 kD27
  have r27 : mg "_law_common" = some (.ref d27) ∧ PySem.W.keepIn K (.ref d27) = true ∧ Binds K _ ["one", "other"] [] := ⟨PySem.W.mg_of X G aD27, kD27, FD27.binds (ps := ["one", "other"]) fun _ _ _ _ _ _ us hl => match us, hl with | [_, _], _ => rfl⟩
  have DCommonL : Dt.Dn l.prog w K mg base (L2N.CX l.prog w) "_law_common" 1 ["one", "other"] (spF (fun _ => CN) 2 pCommonL) := ⟨_, _, okCommonL FD27 T , r27⟩
  have FD28 := fun_mk (st := sLowestL) lD28 cD28 kD28
  have r28 : mg "_law_lowest" = some (.ref d28) ∧ PySem.W.keepIn K (.ref d28) = true ∧ Binds K _ ["numbers"] [] := ⟨PySem.W.mg_of X G aD28, kD28, FD28.binds (ps := ["numbers"]) fun _ _ _ _ _ _ us hl => match us, hl with | [_], _ => rfl⟩
  have DLowestL : Dt.Dn l.prog w K mg base (L2N.CX l.prog w) "_law_lowest" 2 ["numbers"] (spF (fun _ => CN) 1 pLowestL) := ⟨_, _, okLowestL FD28 T DCommonL, r28⟩
  have FD32 := fun_mk (st := sWeightsL) lD32 cD32 kD32
  have r32 : mg "_law_weights" = some (.ref d32) ∧ PySem.W.keepIn K (.ref d32) = true ∧ Binds K _ ["tape", "dims"] [] := ⟨PySem.W.mg_of X G aD32, kD32, FD32.binds (ps := ["tape", "dims"]) fun _ _ _ _ _ _ us hl => match us, hl with | [_, _], _ => rfl⟩
  have DWeightsL : Dt.Dn l.prog w K mg base (L2N.CX l.prog w) "_law_weights" 3 ["tape", "dims"] (spF (fun _ => CN) 2 pWeightsL) := ⟨_, _, okWeightsL FD32 T DDrawL DLowestL, r32⟩
  have FD34 := fun_mk (st := sPlaceL) lD34 cD34 kD34
  have r34 : mg "_law_place" = some (.ref d34) ∧ PySem.W.keepIn K (.ref d34) = true ∧ Binds K _ ["tape", "body"] [] := ⟨PySem.W.mg_of X G aD34, kD34, FD34.binds (ps := ["tape", "body"]) fun _ _ _ _ _ _ us hl => match us, hl with | [_, _], _ => rfl⟩
  have DPlaceL : Dt.Dn l.prog w K mg base (L2N.CX l.prog w) "_law_place" 3 ["tape", "body"] (spF (fun _ => CN) 2 pPlaceL) := ⟨_, _, okPlaceL FD34 T DDrawL DLowestL, r34⟩
  have FD26 := fun_mk (st := sSameL) lD26 cD26 kD26
  have r26 : mg "_law_same" = some (.ref d26) ∧ PySem.W.keepIn K (.ref d26) = true ∧ Binds K _ ["told", "due"] [] := ⟨PySem.W.mg_of X G aD26, kD26, FD26.binds (ps := ["told", "due"]) fun _ _ _ _ _ _ us hl => match us, hl with | [_, _], _ => rfl⟩
  have DSameL : Dt.Dn l.prog w K mg base (L2N.CX l.prog w) "_law_same" 7 ["told", "due"] (spF (fun _ => CN) 2 pSameL) := dn_rec r26 (fun k pr hk D => okSameL FD26 T  hk D) 6
  have DSameLM : Dt.Dm l.prog w K mg base "_law_same" 7 ["told", "due"] (fun _ => spF (fun _ => CN) 2 pSameL) := dm_rec r26 (fun k pr hk D => okSameLM FD26 T  hk D) 6
  have FD10 := fun_mk (st := sCross) lD10 cD10 kD10
  have r10 : mg "cross" = some (.ref d10) ∧ PySem.W.keepIn K (.ref d10) = true ∧ Binds K _ ["one", "other"] [] := ⟨PySem.W.mg_of X G aD10, kD10, FD10.binds (ps := ["one", "other"]) fun _ _ _ _ _ _ us hl => match us, hl with | [_, _], _ => rfl⟩
  have DCross : Dt.Dn l.prog w K mg base (L2N.CX l.prog w) "cross" 1 ["one", "other"] (spF (fun _ => CN) 2 pCross) := ⟨_, _, okCross FD10 T , r10⟩
  have FD11 := fun_mk (st := sRisesOf) lD11 cD11 kD11
  have r11 : mg "rises_of" = some (.ref d11) ∧ PySem.W.keepIn K (.ref d11) = true ∧ Binds K _ ["edges"] [] := ⟨PySem.W.mg_of X G aD11, kD11, FD11.binds (ps := ["edges"]) fun _ _ _ _ _ _ us hl => match us, hl with | [_], _ => rfl⟩
  have DRisesOf : Dt.Dn l.prog w K mg base (L2N.CX l.prog w) "rises_of" 2 ["edges"] (spF (fun _ => CN) 1 pRisesOf) := ⟨_, _, okRisesOf FD11 T DCross, r11⟩
  have FD8 := fun_mk (st := sMinusRows) lD8 cD8 kD8
  have r8 : mg "minus_rows" = some (.ref d8) ∧ PySem.W.keepIn K (.ref d8) = true ∧ Binds K _ ["one", "other"] [] := ⟨PySem.W.mg_of X G aD8, kD8, FD8.binds (ps := ["one", "other"]) fun _ _ _ _ _ _ us hl => match us, hl with | [_, _], _ => rfl⟩
  have DMinusRows : Dt.Dn l.prog w K mg base (L2N.CX l.prog w) "minus_rows" 1 ["one", "other"] (spF (fun _ => CN) 2 pMinusRows) := ⟨_, _, okMinusRows FD8 T , r8⟩
  have FD9 := fun_mk (st := sDot) lD9 cD9 kD9
  have r9 : mg "dot" = some (.ref d9) ∧ PySem.W.keepIn K (.ref d9) = true ∧ Binds K _ ["one", "other"] [] := ⟨PySem.W.mg_of X G aD9, kD9, FD9.binds (ps := ["one", "other"]) fun _ _ _ _ _ _ us hl => match us, hl with | [_, _], _ => rfl⟩
  have DDot : Dt.Dn l.prog w K mg base (L2N.CX l.prog w) "dot" 1 ["one", "other"] (spF (fun _ => CN) 2 pDot) := ⟨_, _, okDot FD9 T , r9⟩
  have FD12 := fun_mk (st := sSlopesOf) lD12 cD12 kD12
  have r12 : mg "slopes_of" = some (.ref d12) ∧ PySem.W.keepIn K (.ref d12) = true ∧ Binds K _ ["body"] [] := ⟨PySem.W.mg_of X G aD12, kD12, FD12.binds (ps := ["body"]) fun _ _ _ _ _ _ us hl => match us, hl with | [_], _ => rfl⟩
  have DSlopesOf : Dt.Dn l.prog w K mg base (L2N.CX l.prog w) "slopes_of" 3 ["body"] (spF (fun _ => CN) 1 pSlopesOf) := ⟨_, _, okSlopesOf FD12 T DDot DMinusRows DRisesOf, r12⟩
  have FD22 := fun_mk (st := sMeasureOf) lD22 cD22 kD22
  have r22 : mg "measure_of" = some (.ref d22) ∧ PySem.W.keepIn K (.ref d22) = true ∧ Binds K _ ["body"] [] := ⟨PySem.W.mg_of X G aD22, kD22, FD22.binds (ps := ["body"]) fun _ _ _ _ _ _ us hl => match us, hl with | [_], _ => rfl⟩
  have DMeasureOf : Dt.Dn l.prog w K mg base (L2N.CX l.prog w) "measure_of" 4 ["body"] (spF (fun _ => CN) 1 pMeasureOf) := ⟨_, _, okMeasureOf FD22 T DSlopesOf, r22⟩
  have KDMeasureOf : Dt.Dk l.prog w K mg base (L2N.CX l.prog w) "measure_of" 4 ["body"] (spF (fun _ => CN) 1 pMeasureOf) := ⟨_, _, okMeasureOf FD22 T DSlopesOf, PySem.W.mg_of X G aD22, kD22, fun s ws _ hl => match ws, hl with | [_], _ => .of_eq rfl⟩
  have FD23 := fun_mk (st := sIsFlat) lD23 cD23 kD23
  have r23 : mg "is_flat" = some (.ref d23) ∧ PySem.W.keepIn K (.ref d23) = true ∧ Binds K _ ["body"] [] := ⟨PySem.W.mg_of X G aD23, kD23, FD23.binds (ps := ["body"]) fun _ _ _ _ _ _ us hl => match us, hl with | [_], _ => rfl⟩
  have DIsFlat : Dt.Dn l.prog w K mg base (L2N.CX l.prog w) "is_flat" 5 ["body"] (spF (fun _ => CN) 1 pIsFlat) := ⟨_, _, okIsFlat FD23 T DMeasureOf, r23⟩
  have KDIsFlat : Dt.Dk l.prog w K mg base (L2N.CX l.prog w) "is_flat" 5 ["body"] (spF (fun _ => CN) 1 pIsFlat) := ⟨_, _, okIsFlat FD23 T DMeasureOf, PySem.W.mg_of X G aD23, kD23, fun s ws _ hl => match ws, hl with | [_], _ => .of_eq rfl⟩
  have FD40 := fun_mk (st := sFlatHoldsL) lD40 cD40 kD40
  have r40 : mg "_law_flat_holds" = some (.ref d40) ∧ PySem.W.keepIn K (.ref d40) = true ∧ Binds K _ ["tape", "body"] [] := ⟨PySem.W.mg_of X G aD40, kD40, FD40.binds (ps := ["tape", "body"]) fun _ _ _ _ _ _ us hl => match us, hl with | [_, _], _ => rfl⟩
  have DFlatHoldsL : Dt.Dn l.prog w K mg base (L2N.CX l.prog w) "_law_flat_holds" 8 ["tape", "body"] (spF (fun _ => CN) 2 pFlatHoldsL) := ⟨_, _, okFlatHoldsL FD40 T DDrawL DMeasureL DSameL DIsFlat DMeasureOf KDIsFlat KDMeasureOf, r40⟩
  have FD0 := fun_mk (st := sDemand) lD0 cD0 kD0
  have r0 : mg "demand" = some (.ref d0) ∧ PySem.W.keepIn K (.ref d0) = true ∧ Binds K _ ["fits", "word"] [] := ⟨PySem.W.mg_of X G aD0, kD0, FD0.binds (ps := ["fits", "word"]) fun _ _ _ _ _ _ us hl => match us, hl with | [_, _], _ => rfl⟩
  have DDemand : Dt.Dn l.prog w K mg base (L2N.CX l.prog w) "demand" 3 ["fits", "word"] (spF (fun _ => CN) 2 pDemand) := ⟨_, _, okDemand FD0 T CNotUsable LNotUsable, r0⟩
  have FD1 := fun_mk (st := sCommonDivisor) lD1 cD1 kD1
  have r1 : mg "common_divisor" = some (.ref d1) ∧ PySem.W.keepIn K (.ref d1) = true ∧ Binds K _ ["numbers"] [] := ⟨PySem.W.mg_of X G aD1, kD1, FD1.binds (ps := ["numbers"]) fun _ _ _ _ _ _ us hl => match us, hl with | [_], _ => rfl⟩
  have DCommonDivisor : Dt.Dn l.prog w K mg base (L2N.CX l.prog w) "common_divisor" 1 ["numbers"] (spF (fun _ => CN) 1 pCommonDivisor) := ⟨_, _, okCommonDivisor FD1 T , r1⟩
  have FD2 := fun_mk (st := sLowestTerms) lD2 cD2 kD2
  have r2 : mg "lowest_terms" = some (.ref d2) ∧ PySem.W.keepIn K (.ref d2) = true ∧ Binds K _ ["numbers"] [] := ⟨PySem.W.mg_of X G aD2, kD2, FD2.binds (ps := ["numbers"]) fun _ _ _ _ _ _ us hl => match us, hl with | [_], _ => rfl⟩
  have DLowestTerms : Dt.Dn l.prog w K mg base (L2N.CX l.prog w) "lowest_terms" 2 ["numbers"] (spF (fun _ => CN) 1 pLowestTerms) := ⟨_, _, okLowestTerms FD2 T DCommonDivisor, r2⟩
  have FD14 := fun_mk (st := sWeightsMade) lD14 cD14 kD14
  have r14 : mg "weights_made" = some (.ref d14) ∧ PySem.W.keepIn K (.ref d14) = true ∧ Binds K _ ["body", "place"] [] := ⟨PySem.W.mg_of X G aD14, kD14, FD14.binds (ps := ["body", "place"]) fun _ _ _ _ _ _ us hl => match us, hl with | [_, _], _ => rfl⟩
  have DWeightsMade : Dt.Dn l.prog w K mg base (L2N.CX l.prog w) "weights_made" 4 ["body", "place"] (spF (fun _ => CN) 2 pWeightsMade) := ⟨_, _, okWeightsMade FD14 T DDot DLowestTerms DMinusRows DSlopesOf, r14⟩
  have FD3 := fun_mk (st := sIsInteger) lD3 cD3 kD3
  have r3 : mg "is_integer" = some (.ref d3) ∧ PySem.W.keepIn K (.ref d3) = true ∧ Binds K _ ["thing"] [] := ⟨PySem.W.mg_of X G aD3, kD3, FD3.binds (ps := ["thing"]) fun _ _ _ _ _ _ us hl => match us, hl with | [_], _ => rfl⟩
  have DIsInteger : Dt.Dn l.prog w K mg base (L2N.CX l.prog w) "is_integer" 1 ["thing"] (spF (fun _ => CN) 1 pIsInteger) := ⟨_, _, okIsInteger FD3 T , r3⟩
  have FD4 := fun_mk (st := sIsRow) lD4 cD4 kD4
  have r4 : mg "is_row" = some (.ref d4) ∧ PySem.W.keepIn K (.ref d4) = true ∧ Binds K _ ["many", "thing"] [] := ⟨PySem.W.mg_of X G aD4, kD4, FD4.binds (ps := ["many", "thing"]) fun _ _ _ _ _ _ us hl => match us, hl with | [_, _], _ => rfl⟩
  have DIsRow : Dt.Dn l.prog w K mg base (L2N.CX l.prog w) "is_row" 2 ["many", "thing"] (spF (fun _ => CN) 2 pIsRow) := ⟨_, _, okIsRow FD4 T DIsInteger, r4⟩
  have FD5 := fun_mk (st := sIsLowest) lD5 cD5 kD5
  have r5 : mg "is_lowest" = some (.ref d5) ∧ PySem.W.keepIn K (.ref d5) = true ∧ Binds K _ ["thing"] [] := ⟨PySem.W.mg_of X G aD5, kD5, FD5.binds (ps := ["thing"]) fun _ _ _ _ _ _ us hl => match us, hl with | [_], _ => rfl⟩
  have DIsLowest : Dt.Dn l.prog w K mg base (L2N.CX l.prog w) "is_lowest" 2 ["thing"] (spF (fun _ => CN) 1 pIsLowest) := ⟨_, _, okIsLowest FD5 T DCommonDivisor, r5⟩
  have FD6 := fun_mk (st := sIsPlace) lD6 cD6 kD6
  have r6 : mg "is_place" = some (.ref d6) ∧ PySem.W.keepIn K (.ref d6) = true ∧ Binds K _ ["space", "thing"] [] := ⟨PySem.W.mg_of X G aD6, kD6, FD6.binds (ps := ["space", "thing"]) fun _ _ _ _ _ _ us hl => match us, hl with | [_, _], _ => rfl⟩
  have DIsPlace : Dt.Dn l.prog w K mg base (L2N.CX l.prog w) "is_place" 3 ["space", "thing"] (spF (fun _ => CN) 2 pIsPlace) := ⟨_, _, okIsPlace FD6 T DIsLowest DIsRow, r6⟩
  have FD13 := fun_mk (st := sFitsBody) lD13 cD13 kD13
  have r13 : mg "fits_body" = some (.ref d13) ∧ PySem.W.keepIn K (.ref d13) = true ∧ Binds K _ ["body", "place"] [] := ⟨PySem.W.mg_of X G aD13, kD13, FD13.binds (ps := ["body", "place"]) fun _ _ _ _ _ _ us hl => match us, hl with | [_, _], _ => rfl⟩
  have DFitsBody : Dt.Dn l.prog w K mg base (L2N.CX l.prog w) "fits_body" 4 ["body", "place"] (spF (fun _ => CN) 2 pFitsBody) := ⟨_, _, okFitsBody FD13 T DIsPlace, r13⟩
  have FD17 := fun_mk (st := sWeightsIn) lD17 cD17 kD17
  have r17 : mg "weights_in" = some (.ref d17) ∧ PySem.W.keepIn K (.ref d17) = true ∧ Binds K _ ["body", "place"] [] := ⟨PySem.W.mg_of X G aD17, kD17, FD17.binds (ps := ["body", "place"]) fun _ _ _ _ _ _ us hl => match us, hl with | [_, _], _ => rfl⟩
  have DWeightsIn : Dt.Dn l.prog w K mg base (L2N.CX l.prog w) "weights_in" 5 ["body", "place"] (spF (fun _ => CN) 2 pWeightsIn) := ⟨_, _, okWeightsIn FD17 T DDemand DFitsBody DWeightsMade, r17⟩
  have KDWeightsIn : Dt.Dk l.prog w K mg base (L2N.CX l.prog w) "weights_in" 5 ["body", "place"] (spF (fun _ => CN) 2 pWeightsIn) := ⟨_, _, okWeightsIn FD17 T DDemand DFitsBody DWeightsMade, PySem.W.mg_of X G aD17, kD17, fun s ws _ hl => match ws, hl with | [_, _], _ => .of_eq rfl⟩
  have FD16 := fun_mk (st := sHoldsMade) lD16 cD16 kD16
  have r16 : mg "holds_made" = some (.ref d16) ∧ PySem.W.keepIn K (.ref d16) = true ∧ Binds K _ ["body", "place"] [] := ⟨PySem.W.mg_of X G aD16, kD16, FD16.binds (ps := ["body", "place"]) fun _ _ _ _ _ _ us hl => match us, hl with | [_, _], _ => rfl⟩
  have DHoldsMade : Dt.Dn l.prog w K mg base (L2N.CX l.prog w) "holds_made" 5 ["body", "place"] (spF (fun _ => CN) 2 pHoldsMade) := ⟨_, _, okHoldsMade FD16 T DWeightsMade, r16⟩
  have FD20 := fun_mk (st := sHolds) lD20 cD20 kD20
  have r20 : mg "holds" = some (.ref d20) ∧ PySem.W.keepIn K (.ref d20) = true ∧ Binds K _ ["body", "place"] [] := ⟨PySem.W.mg_of X G aD20, kD20, FD20.binds (ps := ["body", "place"]) fun _ _ _ _ _ _ us hl => match us, hl with | [_, _], _ => rfl⟩
  have DHolds : Dt.Dn l.prog w K mg base (L2N.CX l.prog w) "holds" 6 ["body", "place"] (spF (fun _ => CN) 2 pHolds) := ⟨_, _, okHolds FD20 T DDemand DFitsBody DHoldsMade, r20⟩
  have KDHolds : Dt.Dk l.prog w K mg base (L2N.CX l.prog w) "holds" 6 ["body", "place"] (spF (fun _ => CN) 2 pHolds) := ⟨_, _, okHolds FD20 T DDemand DFitsBody DHoldsMade, PySem.W.mg_of X G aD20, kD20, fun s ws _ hl => match ws, hl with | [_, _], _ => .of_eq rfl⟩
  have FD7 := fun_mk (st := sQuotientOf) lD7 cD7 kD7
  have r7 : mg "quotient_of" = some (.ref d7) ∧ PySem.W.keepIn K (.ref d7) = true ∧ Binds K _ ["top", "bottom"] [] := ⟨PySem.W.mg_of X G aD7, kD7, FD7.binds (ps := ["top", "bottom"]) fun _ _ _ _ _ _ us hl => match us, hl with | [_, _], _ => rfl⟩
  have DQuotientOf : Dt.Dn l.prog w K mg base (L2N.CX l.prog w) "quotient_of" 4 ["top", "bottom"] (spF (fun _ => CN) 2 pQuotientOf) := ⟨_, _, okQuotientOf FD7 T DDemand DIsInteger DLowestTerms, r7⟩
  have FD21 := fun_mk (st := sCarrierIn) lD21 cD21 kD21
  have r21 : mg "carrier_in" = some (.ref d21) ∧ PySem.W.keepIn K (.ref d21) = true ∧ Binds K _ ["body", "place"] [] := ⟨PySem.W.mg_of X G aD21, kD21, FD21.binds (ps := ["body", "place"]) fun _ _ _ _ _ _ us hl => match us, hl with | [_, _], _ => rfl⟩
  have DCarrierIn : Dt.Dn l.prog w K mg base (L2N.CX l.prog w) "carrier_in" 5 ["body", "place"] (spF (fun _ => CN) 2 pCarrierIn) := ⟨_, _, okCarrierIn FD21 T DDemand DFitsBody DQuotientOf DWeightsMade, r21⟩
  have KDCarrierIn : Dt.Dk l.prog w K mg base (L2N.CX l.prog w) "carrier_in" 5 ["body", "place"] (spF (fun _ => CN) 2 pCarrierIn) := ⟨_, _, okCarrierIn FD21 T DDemand DFitsBody DQuotientOf DWeightsMade, PySem.W.mg_of X G aD21, kD21, fun s ws _ hl => match ws, hl with | [_, _], _ => .of_eq rfl⟩
  have FD15 := fun_mk (st := sBlendMade) lD15 cD15 kD15
  have r15 : mg "blend_made" = some (.ref d15) ∧ PySem.W.keepIn K (.ref d15) = true ∧ Binds K _ ["body", "weights"] [] := ⟨PySem.W.mg_of X G aD15, kD15, FD15.binds (ps := ["body", "weights"]) fun _ _ _ _ _ _ us hl => match us, hl with | [_, _], _ => rfl⟩
  have DBlendMade : Dt.Dn l.prog w K mg base (L2N.CX l.prog w) "blend_made" 3 ["body", "weights"] (spF (fun _ => CN) 2 pBlendMade) := ⟨_, _, okBlendMade FD15 T DLowestTerms, r15⟩
  have FD18 := fun_mk (st := sAreWeights) lD18 cD18 kD18
  have r18 : mg "are_weights" = some (.ref d18) ∧ PySem.W.keepIn K (.ref d18) = true ∧ Binds K _ ["body", "thing"] [] := ⟨PySem.W.mg_of X G aD18, kD18, FD18.binds (ps := ["body", "thing"]) fun _ _ _ _ _ _ us hl => match us, hl with | [_, _], _ => rfl⟩
  have DAreWeights : Dt.Dn l.prog w K mg base (L2N.CX l.prog w) "are_weights" 3 ["body", "thing"] (spF (fun _ => CN) 2 pAreWeights) := ⟨_, _, okAreWeights FD18 T DIsLowest DIsRow, r18⟩
  have FD19 := fun_mk (st := sBlend) lD19 cD19 kD19
  have r19 : mg "blend" = some (.ref d19) ∧ PySem.W.keepIn K (.ref d19) = true ∧ Binds K _ ["body", "weights"] [] := ⟨PySem.W.mg_of X G aD19, kD19, FD19.binds (ps := ["body", "weights"]) fun _ _ _ _ _ _ us hl => match us, hl with | [_, _], _ => rfl⟩
  have DBlend : Dt.Dn l.prog w K mg base (L2N.CX l.prog w) "blend" 4 ["body", "weights"] (spF (fun _ => CN) 2 pBlend) := ⟨_, _, okBlend FD19 T DAreWeights DBlendMade DDemand, r19⟩
  have KDBlend : Dt.Dk l.prog w K mg base (L2N.CX l.prog w) "blend" 4 ["body", "weights"] (spF (fun _ => CN) 2 pBlend) := ⟨_, _, okBlend FD19 T DAreWeights DBlendMade DDemand, PySem.W.mg_of X G aD19, kD19, fun s ws _ hl => match ws, hl with | [_, _], _ => .of_eq rfl⟩
  have FD41 := fun_mk (st := sRefusedL) lD41 cD41 kD41
  have r41 : mg "_law_refused" = some (.ref d41) ∧ PySem.W.keepIn K (.ref d41) = true ∧ Binds K _ ["which", "body", "thing"] [] := ⟨PySem.W.mg_of X G aD41, kD41, FD41.binds (ps := ["which", "body", "thing"]) fun _ _ _ _ _ _ us hl => match us, hl with | [_, _, _], _ => rfl⟩
  have DRefusedL : Dt.Dn l.prog w K mg base (L2N.CX l.prog w) "_law_refused" 8 ["which", "body", "thing"] (spF (fun _ => CN) 3 pRefusedL) := ⟨_, _, okRefusedL FD41 T DBlend DCarrierIn DHolds DWeightsIn DSameLM gShapeError CNotUsable LNotUsable XNotUsable kNotUsable_ShapeError, r41⟩
  have FD42 := fun_mk (st := sBadHoldsL) lD42 cD42 kD42
  have r42 : mg "_law_bad_holds" = some (.ref d42) ∧ PySem.W.keepIn K (.ref d42) = true ∧ Binds K _ ["body", "place", "weights", "turn"] [] := ⟨PySem.W.mg_of X G aD42, kD42, FD42.binds (ps := ["body", "place", "weights", "turn"]) fun _ _ _ _ _ _ us hl => match us, hl with | [_, _, _, _], _ => rfl⟩
  have DBadHoldsL : Dt.Dn l.prog w K mg base (L2N.CX l.prog w) "_law_bad_holds" 9 ["body", "place", "weights", "turn"] (spF (fun _ => CN) 4 pBadHoldsL) := ⟨_, _, okBadHoldsL FD42 T DRefusedL DSameL DHolds, r42⟩
  have FD33 := fun_mk (st := sGivenL) lD33 cD33 kD33
  have r33 : mg "_law_given" = some (.ref d33) ∧ PySem.W.keepIn K (.ref d33) = true ∧ Binds K _ ["body", "weights"] [] := ⟨PySem.W.mg_of X G aD33, kD33, FD33.binds (ps := ["body", "weights"]) fun _ _ _ _ _ _ us hl => match us, hl with | [_, _], _ => rfl⟩
  have DGivenL : Dt.Dn l.prog w K mg base (L2N.CX l.prog w) "_law_given" 3 ["body", "weights"] (spF (fun _ => CN) 2 pGivenL) := ⟨_, _, okGivenL FD33 T DLowestL, r33⟩
  have FD35 := fun_mk (st := sCarrierL) lD35 cD35 kD35
  have r35 : mg "_law_carrier" = some (.ref d35) ∧ PySem.W.keepIn K (.ref d35) = true ∧ Binds K _ ["body", "weights"] [] := ⟨PySem.W.mg_of X G aD35, kD35, FD35.binds (ps := ["body", "weights"]) fun _ _ _ _ _ _ us hl => match us, hl with | [_, _], _ => rfl⟩
  have DCarrierL : Dt.Dn l.prog w K mg base (L2N.CX l.prog w) "_law_carrier" 3 ["body", "weights"] (spF (fun _ => CN) 2 pCarrierL) := ⟨_, _, okCarrierL FD35 T DLowestL, r35⟩
  have FD37 := fun_mk (st := sHeldHoldsL) lD37 cD37 kD37
  have r37 : mg "_law_held_holds" = some (.ref d37) ∧ PySem.W.keepIn K (.ref d37) = true ∧ Binds K _ ["body", "place", "weights"] [] := ⟨PySem.W.mg_of X G aD37, kD37, FD37.binds (ps := ["body", "place", "weights"]) fun _ _ _ _ _ _ us hl => match us, hl with | [_, _, _], _ => rfl⟩
  have DHeldHoldsL : Dt.Dn l.prog w K mg base (L2N.CX l.prog w) "_law_held_holds" 8 ["body", "place", "weights"] (spF (fun _ => CN) 3 pHeldHoldsL) := ⟨_, _, okHeldHoldsL FD37 T DCarrierL DMeasureL DSameL DCarrierIn DMeasureOf DWeightsIn KDCarrierIn KDHolds, r37⟩
  have FD39 := fun_mk (st := sWeightsHoldL) lD39 cD39 kD39
  have r39 : mg "_law_weights_hold" = some (.ref d39) ∧ PySem.W.keepIn K (.ref d39) = true ∧ Binds K _ ["body", "weights"] [] := ⟨PySem.W.mg_of X G aD39, kD39, FD39.binds (ps := ["body", "weights"]) fun _ _ _ _ _ _ us hl => match us, hl with | [_, _], _ => rfl⟩
  have DWeightsHoldL : Dt.Dn l.prog w K mg base (L2N.CX l.prog w) "_law_weights_hold" 9 ["body", "weights"] (spF (fun _ => CN) 2 pWeightsHoldL) := ⟨_, _, okWeightsHoldL FD39 T DGivenL DHeldHoldsL DSameL DBlend KDWeightsIn, r39⟩
  have FD36 := fun_mk (st := sFormL) lD36 cD36 kD36
  have r36 : mg "_law_form" = some (.ref d36) ∧ PySem.W.keepIn K (.ref d36) = true ∧ Binds K _ ["body", "weights"] [] := ⟨PySem.W.mg_of X G aD36, kD36, FD36.binds (ps := ["body", "weights"]) fun _ _ _ _ _ _ us hl => match us, hl with | [_, _], _ => rfl⟩
  have DFormL : Dt.Dn l.prog w K mg base (L2N.CX l.prog w) "_law_form" 2 ["body", "weights"] (spF (fun _ => CN) 2 pFormL) := ⟨_, _, okFormL FD36 T DCommonL, r36⟩
  have FD38 := fun_mk (st := sPlaceHoldsL) lD38 cD38 kD38
  have r38 : mg "_law_place_holds" = some (.ref d38) ∧ PySem.W.keepIn K (.ref d38) = true ∧ Binds K _ ["body", "place"] [] := ⟨PySem.W.mg_of X G aD38, kD38, FD38.binds (ps := ["body", "place"]) fun _ _ _ _ _ _ us hl => match us, hl with | [_, _], _ => rfl⟩
  have DPlaceHoldsL : Dt.Dn l.prog w K mg base (L2N.CX l.prog w) "_law_place_holds" 9 ["body", "place"] (spF (fun _ => CN) 2 pPlaceHoldsL) := ⟨_, _, okPlaceHoldsL FD38 T DFormL DHeldHoldsL DSameL DWeightsIn KDBlend, r38⟩
  have FD43 := fun_mk (st := slaw) lD43 cD43 kD43
  exact oklaw FD43 T DBadHoldsL DBodyL DDrawL DFlatHoldsL DPlaceL DPlaceHoldsL DTapeL DWeightsL DWeightsHoldL law_ok
end K23
end SecE23
set_option Elab.async false
set_option linter.all false
open PySem PySem.W PyProof.Rows
set_option maxRecDepth 100000 in
set_option maxHeartbeats 0 in
theorem PySem.Challenge.cw_wholefaces_k23_weights_and_places_holds : PySem.Challenge.rw_wholefaces_k23_weights_and_places.Holds := by
  w_on; o_law; k_head; (case hw => w_witness2)
  k_fill
  refine Pu.walkP (l := PySem.Challenge.rw_wholefaces_k23_weights_and_places) (k := 10) rfl rfl ⟨rfl, by decide, by decide⟩ (fun w h Y => PySem.W.kIn_of Y) ?hk ?F
  case hk => intro w; kernel_rfl
  case F =>
    intro w mg fa h KX G hmg
    refine' K23.all_mk KX G hmg ?aC0 ?xL0 ?bm0_ ?iI0 ?lI0 ?cI0 ?kI0 ?aShapeError ?aD0 ?lD0 ?cD0 ?kD0 ?aD1 ?lD1 ?cD1 ?kD1 ?aD2 ?lD2 ?cD2 ?kD2 ?aD3 ?lD3 ?cD3 ?kD3 ?aD4 ?lD4 ?cD4 ?kD4 ?aD5 ?lD5 ?cD5 ?kD5 ?aD6 ?lD6 ?cD6 ?kD6 ?aD7 ?lD7 ?cD7 ?kD7 ?aD8 ?lD8 ?cD8 ?kD8 ?aD9 ?lD9 ?cD9 ?kD9 ?aD10 ?lD10 ?cD10 ?kD10 ?aD11 ?lD11 ?cD11 ?kD11 ?aD12 ?lD12 ?cD12 ?kD12 ?aD13 ?lD13 ?cD13 ?kD13 ?aD14 ?lD14 ?cD14 ?kD14 ?aD15 ?lD15 ?cD15 ?kD15 ?aD16 ?lD16 ?cD16 ?kD16 ?aD17 ?lD17 ?cD17 ?kD17 ?aD18 ?lD18 ?cD18 ?kD18 ?aD19 ?lD19 ?cD19 ?kD19 ?aD20 ?lD20 ?cD20 ?kD20 ?aD21 ?lD21 ?cD21 ?kD21 ?aD22 ?lD22 ?cD22 ?kD22 ?aD23 ?lD23 ?cD23 ?kD23 ?aD24 ?lD24 ?cD24 ?kD24 ?aD25 ?lD25 ?cD25 ?kD25 ?aD26 ?lD26 ?cD26 ?kD26 ?aD27 ?lD27 ?cD27 ?kD27 ?aD28 ?lD28 ?cD28 ?kD28 ?aD29 ?lD29 ?cD29 ?kD29 ?aD30 ?lD30 ?cD30 ?kD30 ?aD31 ?lD31 ?cD31 ?kD31 ?aD32 ?lD32 ?cD32 ?kD32 ?aD33 ?lD33 ?cD33 ?kD33 ?aD34 ?lD34 ?cD34 ?kD34 ?aD35 ?lD35 ?cD35 ?kD35 ?aD36 ?lD36 ?cD36 ?kD36 ?aD37 ?lD37 ?cD37 ?kD37 ?aD38 ?lD38 ?cD38 ?kD38 ?aD39 ?lD39 ?cD39 ?kD39 ?aD40 ?lD40 ?cD40 ?kD40 ?aD41 ?lD41 ?cD41 ?kD41 ?aD42 ?lD42 ?cD42 ?kD42 ?aD43 ?lD43 ?cD43 ?kD43 ?n_int ?n_abs ?n_len ?n_range ?n_tuple ?n_list ?n_bool ?n_str ?n_all ?n_any ?n_isinstance ?n_ValueError ?n_zip ?n_min ?n_max ?n_sum ?n_sorted ?n_gcd ?cB ?kB
    (case aC0 => k_is)
    (case xL0 => k_is)
    (case bm0_ => decide +kernel)
    (case iI0 => k_is)
    (case lI0 => k_is)
    (case cI0 => k_is)
    (case kI0 => k_is)
    (case aShapeError => k_is)
    (case aD0 => k_is)
    (case lD0 => k_is)
    (case cD0 => k_is)
    (case kD0 => k_is)
    (case aD1 => k_is)
    (case lD1 => k_is)
    (case cD1 => k_is)
    (case kD1 => k_is)
    (case aD2 => k_is)
    (case lD2 => k_is)
    (case cD2 => k_is)
    (case kD2 => k_is)
    (case aD3 => k_is)
    (case lD3 => k_is)
    (case cD3 => k_is)
    (case kD3 => k_is)
    (case aD4 => k_is)
    (case lD4 => k_is)
    (case cD4 => k_is)
    (case kD4 => k_is)
    (case aD5 => k_is)
    (case lD5 => k_is)
    (case cD5 => k_is)
    (case kD5 => k_is)
    (case aD6 => k_is)
    (case lD6 => k_is)
    (case cD6 => k_is)
    (case kD6 => k_is)
    (case aD7 => k_is)
    (case lD7 => k_is)
    (case cD7 => k_is)
    (case kD7 => k_is)
    (case aD8 => k_is)
    (case lD8 => k_is)
    (case cD8 => k_is)
    (case kD8 => k_is)
    (case aD9 => k_is)
    (case lD9 => k_is)
    (case cD9 => k_is)
    (case kD9 => k_is)
    (case aD10 => k_is)
    (case lD10 => k_is)
    (case cD10 => k_is)
    (case kD10 => k_is)
    (case aD11 => k_is)
    (case lD11 => k_is)
    (case cD11 => k_is)
    (case kD11 => k_is)
    (case aD12 => k_is)
    (case lD12 => k_is)
    (case cD12 => k_is)
    (case kD12 => k_is)
    (case aD13 => k_is)
    (case lD13 => k_is)
    (case cD13 => k_is)
    (case kD13 => k_is)
    (case aD14 => k_is)
    (case lD14 => k_is)
    (case cD14 => k_is)
    (case kD14 => k_is)
    (case aD15 => k_is)
    (case lD15 => k_is)
    (case cD15 => k_is)
    (case kD15 => k_is)
    (case aD16 => k_is)
    (case lD16 => k_is)
    (case cD16 => k_is)
    (case kD16 => k_is)
    (case aD17 => k_is)
    (case lD17 => k_is)
    (case cD17 => k_is)
    (case kD17 => k_is)
    (case aD18 => k_is)
    (case lD18 => k_is)
    (case cD18 => k_is)
    (case kD18 => k_is)
    (case aD19 => k_is)
    (case lD19 => k_is)
    (case cD19 => k_is)
    (case kD19 => k_is)
    (case aD20 => k_is)
    (case lD20 => k_is)
    (case cD20 => k_is)
    (case kD20 => k_is)
    (case aD21 => k_is)
    (case lD21 => k_is)
    (case cD21 => k_is)
    (case kD21 => k_is)
    (case aD22 => k_is)
    (case lD22 => k_is)
    (case cD22 => k_is)
    (case kD22 => k_is)
    (case aD23 => k_is)
    (case lD23 => k_is)
    (case cD23 => k_is)
    (case kD23 => k_is)
    (case aD24 => k_is)
    (case lD24 => k_is)
    (case cD24 => k_is)
    (case kD24 => k_is)
    (case aD25 => k_is)
    (case lD25 => k_is)
    (case cD25 => k_is)
    (case kD25 => k_is)
    (case aD26 => k_is)
    (case lD26 => k_is)
    (case cD26 => k_is)
    (case kD26 => k_is)
    (case aD27 => k_is)
    (case lD27 => k_is)
    (case cD27 => k_is)
    (case kD27 => k_is)
    (case aD28 => k_is)
    (case lD28 => k_is)
    (case cD28 => k_is)
    (case kD28 => k_is)
    (case aD29 => k_is)
    (case lD29 => k_is)
    (case cD29 => k_is)
    (case kD29 => k_is)
    (case aD30 => k_is)
    (case lD30 => k_is)
    (case cD30 => k_is)
    (case kD30 => k_is)
    (case aD31 => k_is)
    (case lD31 => k_is)
    (case cD31 => k_is)
    (case kD31 => k_is)
    (case aD32 => k_is)
    (case lD32 => k_is)
    (case cD32 => k_is)
    (case kD32 => k_is)
    (case aD33 => k_is)
    (case lD33 => k_is)
    (case cD33 => k_is)
    (case kD33 => k_is)
    (case aD34 => k_is)
    (case lD34 => k_is)
    (case cD34 => k_is)
    (case kD34 => k_is)
    (case aD35 => k_is)
    (case lD35 => k_is)
    (case cD35 => k_is)
    (case kD35 => k_is)
    (case aD36 => k_is)
    (case lD36 => k_is)
    (case cD36 => k_is)
    (case kD36 => k_is)
    (case aD37 => k_is)
    (case lD37 => k_is)
    (case cD37 => k_is)
    (case kD37 => k_is)
    (case aD38 => k_is)
    (case lD38 => k_is)
    (case cD38 => k_is)
    (case kD38 => k_is)
    (case aD39 => k_is)
    (case lD39 => k_is)
    (case cD39 => k_is)
    (case kD39 => k_is)
    (case aD40 => k_is)
    (case lD40 => k_is)
    (case cD40 => k_is)
    (case kD40 => k_is)
    (case aD41 => k_is)
    (case lD41 => k_is)
    (case cD41 => k_is)
    (case kD41 => k_is)
    (case aD42 => k_is)
    (case lD42 => k_is)
    (case cD42 => k_is)
    (case kD42 => k_is)
    (case aD43 => k_is)
    (case lD43 => k_is)
    (case cD43 => k_is)
    (case kD43 => k_is)
    (case n_int => k_is)
    (case n_abs => k_is)
    (case n_len => k_is)
    (case n_range => k_is)
    (case n_tuple => k_is)
    (case n_list => k_is)
    (case n_bool => k_is)
    (case n_str => k_is)
    (case n_all => k_is)
    (case n_any => k_is)
    (case n_isinstance => k_is)
    (case n_ValueError => k_is)
    (case n_zip => k_is)
    (case n_min => k_is)
    (case n_max => k_is)
    (case n_sum => k_is)
    (case n_sorted => k_is)
    (case n_gcd => k_is)
    (case cB => kernel_rfl)
    (case kB => kernel_rfl)
