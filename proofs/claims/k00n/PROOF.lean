import PyProof.Rows.All
import Wide.All
import OpenK.AllK
import Wide.FinOn
import HandS.ForMost
import HandS.ForExc
import PyProof.ReprRoads
import HandS.Exc
import HandS.ExcOwn
import HandS.ExcValue
import HandS.ExcInit
import KE.KExcIs
import KE.KExcInit
import KE.KExcStr
import HandS.IsInst
import HandS.Dict
import HandS.List
import HandS.ExcBuiltin
import PySem.Challenge.RW_chosentrees_k00_errors_and_what_they_kee
set_option Elab.async false
set_option linter.all false
set_option maxRecDepth 100000
set_option maxHeartbeats 2000000
namespace CG
open PySem PySem.Spec PyProof.Rows L2
/-! a def's promise where no repr is under way around the call -/
structure FnG (P : Program) (w : World) (K : PySem.W.Frag) (mg : Str → Option Value) (base : Heap) (CX : CXT)
    (k : Nat) (f : Addr) (fd : FuncData) (ps : List Str) (sp : Sp) : Prop where
  len : ∀ vs H Q E, sp vs H Q E → vs.length = ps.length
  run : ∀ (A : Around) (outer : List Env) (s : Shared) (H : Hp) (args : Args) (us : List Value) (vs : List V) (Q : VK) (E : XK),
    Room k A → A.guards = some [] → Env0 P w K mg base A outer s H → BindsTo s fd args (ps.zip us) → Vals vs us →
    sp vs H Q E → codeAny (model P w) A (.call (.ref f) args) (CR CX outer P w H s Q E) s
section
variable {P : Program} {w : World} {K : PySem.W.Frag} {mg : Str → Option Value} {base : Heap} {CX : CXT} {k : Nat}
  {f : Addr} {fd : FuncData} {ps N : List Str} {sp : Sp}
theorem FnG.of (F : FnOk P w K mg base CX k f fd ps sp) : FnG P w K mg base CX k f fd ps sp :=
  ⟨F.len, fun A o s H a us vs Q E r _ => F.run A o s H a us vs Q E r⟩
theorem FnG.imp {sp' : Sp} (F : FnG P w K mg base CX k f fd ps sp) (h : ∀ vs H Q E, sp' vs H Q E → sp vs H Q E) :
    FnG P w K mg base CX k f fd ps sp' :=
  ⟨fun vs H Q E q => F.len vs H Q E (h _ _ _ _ q), fun A o s H a us vs Q E r g e b v q => F.run A o s H a us vs Q E r g e b v (h _ _ _ _ q)⟩
/-- the body is walked for each entry at which no repr is under way -/
theorem fnG_of {x qual : Str} {st : Stmt} (F : Fun K x qual st f fd) (S : FnScope N ps (defScope st))
    (len : ∀ vs H Q E, sp vs H Q E → vs.length = ps.length)
    (body : ∀ (cdv : Value) (A : Around) (outer : List Env) (s : Shared) (H : Hp) (vs : List V) (Q : VK) (E : XK),
      Room k (A.deeper (envOfC qual (defScope st) s.heap.objs.size f cdv)) → A.guards = some [] → sp vs H Q E →
      ∃ t, PSs (cxOf CX P w K mg base N qual (defScope st) f cdv A outer s H E) (defBody st) t ∧
        t { nx := fun _ H' => Q .non H', rt := Q } (start N vs) H) :
    FnG P w K mg base CX (k + 1) f fd ps sp := by
  obtain ⟨oc, od, kV, doc, pm, an, cdv, ct, osl, rfl, lk, hcd⟩ := F.ex
  constructor
  · exact len
  intro A outer s H args us vs Q E room gd env bnd rel want
  have old := fun b o e => (env.bs b o e).1
  have kin : K.In s.heap := env.mod.kin.keeps old
  have free : s.heap.NoLimit := env.mod.nolimit.keeps old
  refine codeAny_call_function room.depth (kin _ _ lk) rfl S.co S.gen rfl (PySem.W.codeRec_of kin hcd) (bnd _ _ _ _ ?_)
  refine wpAny_newFunctionEnv_cells S.kind ?_ ?_
  · rintro ⟨n, v⟩ hm
    cases S.par n (List.of_mem_zip hm).1 with
    | inl z => exact .inl z
    | inr z => exact .inr ⟨z, PySem.W.cellsFrom_some _ _ _ (.inl z)⟩
  · intro en hen s1 C
    subst hen
    refine ⟨free.keeps C.toInCall.keep, codeAny_func ?_⟩
    obtain ⟨t, walk, start0⟩ := body cdv A outer s H vs Q E (room.deeper _) gd want
    have I0 := inv_start (CX := CX) (E := E) S room.hd env (len _ _ _ _ want) rel C
    refine wpAny_mono (walk.run [] s1 _ H _ I0 start0) ?_ (fun _ _ z => z)
    intro fl s' z
    cases fl with
    | next =>
      obtain ⟨σ2, H2, J, q⟩ := z
      exact ⟨.non, H2, J.os, J.bare, J.base, J.hok, rfl, q⟩
    | ret u =>
      obtain ⟨v, σ2, H2, J, rv, q⟩ := z
      exact ⟨v, H2, J.os, J.bare, J.base, J.hok, rv, q⟩
    | brk => exact z.elim fun _ z => z.elim fun _ z => z.2.elim
    | cont => exact z.elim fun _ z => z.elim fun _ z => z.2.elim
end
section
variable {X : Cx} {CX : CXT} {k : Nat} {f : Addr} {fd : FuncData} {ps : List Str} {sp : Sp} {E : XK} {x : Str} {p pos : Pos} {e : Expr}
  {es : List Expr} {t : TA}
theorem runG {pins : List (Addr × Obj)} {σ : L2.St} {H : Hp} {s : Shared} {Q : VK} {us : List Value} {vs : List V}
    (F : FnG X.prog X.w X.K X.mg X.base CX k f fd ps sp) (hr : Room k X.A) (hg : X.A.guards = some []) (hb : Binds X.K fd ps [])
    (hx : Passes CX X E) (I : Inv X pins σ H s) (r : Vals vs us) (h : sp vs H Q E) :
    wpAny (model X.prog X.w) X.A (call (.ref f) us) (EP X pins σ Q) X.xe s := by
  have hl : (us ++ []).length = ps.length := by rw [List.append_nil, ← r.length]; exact F.len _ _ _ _ h
  have hb' := hb s us I.kIn hl
  rw [List.append_nil] at hb'
  refine wpAny_call (codeAny_mono (F.run X.A X.stack s H _ us vs Q E hr hg I.env0 hb' r h) ?_)
  intro r s' hq
  match r, hq with
  | .error er, hq => exact hx pins σ H s er s' I hq
  | .ok (.ret u), hq => exact I.after hq
/-- f(e, ..) of such a def -/
theorem pe_callG (F : FnG X.prog X.w X.K X.mg X.base CX k f fd ps sp) (hr : Room k X.A) (hgd : X.A.guards = some []) (hg : Gl X x)
    (hm : X.mg x = some (.ref f)) (hk : PySem.W.keepIn X.K (.ref f) = true) (hb : Binds X.K fd ps []) (hx : Passes CX X E)
    (ha : PA X (e :: es) t) (hdb : (x == ("__debug__" : Str)) = false := by decide)
    (he : starEach (e :: es) X.env = (false, eval e X.env) :: starEach es X.env := by rfl)
    (hpl : (backTo pos (starEach es X.env)).any (·.1) = false := by rfl) :
    PE X (.Call (.Name x p) (e :: es) [] pos) (fun σ H Q => t σ H fun vs H1 => sp vs H1 Q E) := by
  constructor
  intro pins s σ H Q I h
  refine wpAny_Call_Name_kw (ld_glob I hg hm ?_ hdb)
  refine PySem.W.callWith_K (h₀ := X.base) I.ok.mod.kin hk (thn (ha.run pos pins s σ H _ I h) ?_) he hpl
  rintro us s1 ⟨vs, H1, I1, r1, q1⟩
  exact ⟨I1.kIn, runG F hr hgd hb hx I1 r1 q1⟩
end
end CG
set_option Elab.async false
set_option linter.all false
set_option maxRecDepth 100000
set_option maxHeartbeats 2000000
namespace CG
open PySem PySem.Spec PyProof.Rows L2
/-! ### the law's call from the head, for a promise of the G kind -/
/-- the heap at the law's call: the script alone, if the top does not hold it -/
def scriptHp (K : PySem.W.Frag) (a : Addr) (vs : List Value) (ns : List Int) : Hp := fun b =>
  if b = a ∧ K.lookup a = none then some (.frz { cls := .type "list", data := .seq vs.toArray } (.lst (ns.map V.int))) else none
theorem scriptHp_some {K : PySem.W.Frag} {a b : Addr} {vs : List Value} {ns : List Int} {u : HO} (h : scriptHp K a vs ns b = some u) :
    b = a ∧ K.lookup a = none ∧ u = .frz { cls := .type "list", data := .seq vs.toArray } (.lst (ns.map V.int)) := by
  unfold scriptHp at h
  split at h
  · rename_i z; cases h; exact ⟨z.1, z.2, rfl⟩
  · cases h
theorem lawG {P : Program} {w : World} {K : PySem.W.Frag} {mg mb : Str → Option Value} {k : Nat} {fa a : Addr} {fd : FuncData} {x : Str} {sp : Sp}
    {s₁ : Shared} {vs : List Value} {ns : List Int} (inK : K.In s₁.heap) (g : s₁.heap.Ns mainGlobals mg) (bl : s₁.heap.Ns builtinsNs mb)
    (bt : ∀ x : Str, x ≠ "__name__" → mb x = bootBuiltins x) (nl : s₁.heap.NoLimit) (gens : s₁.gens = #[])
    (obj : s₁.heap.get? a = some { cls := .type "list", data := .seq vs.toArray }) (hInts : IntsAre vs ns) (short : ns.length ≤ sizeLine) (room : Room k callerA)
    (F : ∀ base : Heap, K.In base → base.Ns mainGlobals mg → FnG P w K mg base CX0 k fa fd [x] sp)
    (bnd : ∀ (s : Shared) (u : Value), BindsTo s fd ⟨[u], []⟩ [(x, u)])
    (want : ∀ H : Hp, SqL K H a (ns.map V.int) → sp [.ref a] H (fun v _ => v = .bl true) E0) :
    codeAny (model P w) callerA (.call (.ref fa) ⟨[.ref a], []⟩)
      (fun r s' => r = .ok (.ret (.bool true)) ∧ OldK s₁.heap s'.heap ∧ s'.os = s₁.os ∧ AllBare s'.gens) s₁ := by
  have many := hInts.length
  generalize hH : scriptHp K a vs ns = H
  have sees : SqL K H a (ns.map V.int) := by
    cases e : K.lookup a with
    | none => exact .inl (.inr ⟨_, by rw [← hH]; exact if_pos ⟨rfl, e⟩⟩)
    | some o =>
      have z := inK a o e
      rw [obj] at z
      cases z
      exact .inr ⟨_, vs.toArray, _, e, rfl, rfl, rfl, by rw [List.size_toArray, many]; exact short, by simpa using vals_ints hInts⟩
  have ok : HOk P w H s₁.heap := by
    intro b u e
    rw [← hH] at e
    obtain ⟨rfl, _, rfl⟩ := scriptHp_some e
    exact ⟨obj, by rw [List.length_map]; exact short, vs, _, vals_ints hInts, obj⟩
  have hid : ∀ {b : Addr} {o : Obj}, s₁.heap.get? b = some o → (∀ u, H b = some u → False) → (hidT s₁.heap H).get? b = some o := by
    intro b o e n
    refine hidT_get e ?_
    cases q : H b with
    | none => rfl
    | some u => exact (n u q).elim
  have hidNs : ∀ {b : Addr} {m : Str → Option Value}, s₁.heap.Ns b m → (hidT s₁.heap H).Ns b m := by
    rintro b m ⟨o, es, ep, e, d, r⟩
    refine ⟨o, es, ep, hid e fun u q => ?_, d, r⟩
    rw [← hH] at q
    obtain ⟨rfl, _, _⟩ := scriptHp_some q
    rw [obj] at e
    cases e
    cases d
  have hidK : K.In (hidT s₁.heap H) := by
    intro b o e
    refine hid (inK b o e) fun u q => ?_
    rw [← hH] at q
    obtain ⟨rfl, z, _⟩ := scriptHp_some q
    rw [z] at e
    cases e
  have env : Env0 P w K mg (hidT s₁.heap H) callerA [] s₁ H := {
    frames := rfl
    mod := ⟨hidK, hidNs g, ⟨mb, hidNs bl, bt⟩, by obtain ⟨mc, h1, h2⟩ := nl; exact ⟨mc, hidNs h1, h2⟩⟩
    bs := fun b o e => of_hidT e
    bsz := Nat.le_of_eq (hidT_size _ _)
    funs := trivial
    frf := fun b z => by cases z
    hok := ok
    bare := .of_eq gens }
  refine codeAny_mono ((F _ hidK (hidNs g)).run callerA [] s₁ H _ [.ref a] [.ref a] _ _ room rfl env (bnd s₁ (.ref a)) (.cons rfl .nil) (want H sees)) ?_
  intro r s' h
  match r, h with
  | .ok (.ret u), ⟨v, H', os, bare, un, ok', rel, q⟩ =>
    have q' : v = .bl true := q
    subst q'
    have rel' : u = Value.bool true := rel
    subst rel'
    refine ⟨rfl, OldK.of_keep fun b o e => ?_, os, bare⟩
    cases q : H b with
    | none => exact un.keep b o e q (by intro z; cases z) (by intro z; cases z)
    | some u =>
      have q0 := q
      rw [← hH] at q
      obtain ⟨rfl, _, rfl⟩ := scriptHp_some q
      obtain ⟨e2, _⟩ := ok' b _ (un.frzs b _ _ q0)
      rw [obj] at e
      cases e
      exact e2
theorem walkG {l : PySem.W.OpenLaw} {n k : Nat} {q : Program} {loose : List Str} {XP : (Str → Option Value) → Heap → Prop} {YP : World → Heap → Prop}
    {d : DefRec} {K : Params → PySem.W.Frag} {sp : PySem.W.Frag → Sp} {x : Str}
    (hn : l.most = some n) (hn2 : n ≤ sizeLine) (hdf : d.params.defaults = []) (room : Room k callerA)
    (hY : ∀ (w : World) (h : Heap), YP w h → (K w.params).In h)
    (F : ∀ (w : World) (mg : Str → Option Value) (fa : Addr) (h : Heap), (K w.params).In h → h.Ns mainGlobals mg → mg d.name = some (.ref fa) →
      ∃ fd : FuncData, (∀ (s : Shared) (u : Value), BindsTo s fd ⟨[u], []⟩ [(x, u)]) ∧
        ∀ base : Heap, (K w.params).In base → base.Ns mainGlobals mg → FnG l.prog w (K w.params) mg base CX0 k fa fd [x] (sp (K w.params)))
    (want : ∀ (K : PySem.W.Frag) (H : Hp) (a : Addr) (ns : List Int), ns.length ≤ n → SqL K H a (ns.map V.int) → sp K [.ref a] H (fun v _ => v = .bl true) E0) :
    PySem.W.WalkO q loose XP YP l.row.toRowW d [] (fun f vs => PySem.call f vs) := by
  refine Att.attach_call hn hdf ?_
  intro w s₀ s₁ mg mb fa o pm cd doc a vs ns G Y ho hd hcd hmg hobj hints hlen hg
  obtain ⟨fd, hb, hF⟩ := F w mg fa _ (hY w _ Y) G.T.g hmg
  exact lawG (hY w _ Y) G.T.g G.T.b G.T.builtins G.T.nolimit hg hobj hints (Nat.le_trans hlen hn2) room hF hb fun H z => want _ H a ns hlen z
/-! ### operators -/
section
variable {X : Cx}
/-- ** where the result is below some million bits -/
theorem op_powB : OpR X (binaryOp .Pow) (rI (fun i j => 0 ≤ j ∧ (Builtin.Int.intBits i : Int) * j ≤ 2 ^ 27) fun i j => .int (i ^ j.toNat)) :=
  opI fun _ _ _ _ _ _ _ hc q => pow_int hc.1 hc.2 q
/-- a text by a number -/
theorem op_mul_str : OpR X (binaryOp .Mult) (fun x y H Q => ∃ z n, x = .str z ∧ y = .int n ∧ MulOk z n ∧ Q (.str (Txt.mul z n)) H) := by
  intro pins s σ H x y v u Q I rx ry h
  obtain ⟨z, n, rfl, rfl, ok, q⟩ := h
  obtain ⟨t, rfl⟩ := rx
  obtain ⟨t', rfl⟩ := ry
  exact SB.mul ok fun t1 k => ⟨.str _, H, I.tok k, ⟨_, rfl⟩, q⟩
/-- repr of what reads as data -/
def ReadsAs (X : Cx) (H : Hp) (v : V) (d : PyData) : Prop :=
  ∀ (pins : List (Addr × Obj)) (σ : L2.St) (s : Shared) (u : Value), Inv X pins σ H s → RelV v u → ∃ as, Reads s.heap u d as ∧ (d.hasDict = true → sysModules ∉ as)
theorem call_repr_data (hg : X.A.guards = some []) : CallR X (.builtin "repr") (fun xs H Q => ∃ a d, xs = [.ref a] ∧ ReadsAs X H (.ref a) d ∧ d.showable = true ∧
    X.A.units + (d.depth + 1) < cLine ∧ d.shown.length ≤ sizeLine ∧ Q (.str d.shown) H) := by
  intro pins s σ H xs us Q I r h
  obtain ⟨a, d, rfl, rd, sh, room, short, q⟩ := h
  obtain ⟨u, rfl, ru⟩ := vals1 r
  have ru' : u = Value.ref a := ru
  subst ru'
  obtain ⟨as, r1, nd⟩ := rd pins σ s _ I rfl
  exact repr_of_reads' r1 sh nd hg room (fun _ _ e => e) (fun h' t tk kp => ⟨.str _, H, I.kept kp, ⟨_, rfl⟩, q⟩) short
end
end CG
set_option Elab.async false
set_option linter.all false
set_option maxRecDepth 100000
set_option maxHeartbeats 2000000
/-! exceptions of the program's own classes, held as values: made, asked for their class, their text, their field -/
namespace CGX
open PySem PySem.HandSPX
section
variable {M : Model} {prog : Program} {w : World} {A : Around} {E : Value → Shared → Prop} {R : Result → Shared → Prop}
  {h : Heap} {g : Array GenState} {d : Drawn} {t : Nat} {os : OsState}
variable {nm q : Str} {C N : Addr} {bs bm bmB : List Value} {hdct : Bool} {sn : List Str} {sub : List Value} {ab : Bool}
  {col : Option Bool} {dd : Option Addr} {k0 k1 k2 k3 k5 : Option Value} {B newId initId : String}
/-- the classes above one of the program's own, as far as a new exception asks for them -/
structure Above (C : Addr) (bm : List Value) (B : String) : Prop where
  base : (Value.ref C :: bm).contains (.type B) = true
  attr : (Value.ref C :: bm).contains (.type "AttributeError") = false
  name : (Value.ref C :: bm).contains (.type "NameError") = false
theorem new_checked (F : ExcBaseFacts B newId initId bmB) (U : Above C bm B) {rest : List Value} {Q : Unit → Shared → Prop}
    (hC : h.get? C = some (excClassObj nm q C N bs bm hdct sn sub ab col dd k0 k1 k2 k3 k5 newId)) (hq : Q () ⟨h, g, d, t, os⟩) :
    wpAny M A (checkBuiltinCall newId ⟨.ref C :: rest, []⟩) Q E ⟨h, g, d, t, os⟩ := by
  have b := U.base
  have z := F.noStar
  simp only [checkBuiltinCall, F.newKind, F.newSplit, F.newRow]
  repeat (first
    | refine wpAny_loadPart_at hC ?_
    | (refine wpAny_isSubtype_exc hC ?_; rw [b])
    | refine wpAny_staticBase_exc hC ?_
    | refine wpAny_madeBy_exc hC ?_
    | simp only [bne_self_eq_false, Bool.false_eq_true, if_false]
    | wp_step)
  exact hq
theorem new_made (F : ExcBaseFacts B newId initId bmB) (U : Above C bm B) {rest : List Value}
    (hC : h.get? C = some (excClassObj nm q C N bs bm hdct sn sub ab col dd k0 k1 k2 k3 k5 newId))
    (hq : R (.ok (.ret (.ref (h.objs.size + 1)))) ⟨(h.push (W.kdv_tup rest)).push (excO C h.objs.size), g, d, t, os⟩) (few : rest.length ≤ sizeLine) :
    codeAny (model prog w) A (.builtin newId ⟨.ref C :: rest, []⟩) R ⟨h, g, d, t, os⟩ := by
  have b := U.base
  have a := U.attr
  have n := U.name
  have e := F.ends
  refine codeAny_builtinAt F.entry ?_
  unfold Builtin.«BaseException.__new__»
  refine wpAt_bind ?_
  show wpAt _ _ _ (stack >>= _) _ _ _
  refine wpAt_bind (wpAt_stack fun _ _ => wpAt_of_wpAny ?_)
  wp_walk
  refine wpAt_of_wpAny ?_
  rw [F.owner]
  repeat (first
    | with_reducible refine wpAny_madeHere_exc F.canon hC ?_
    | with_reducible refine wpAny_loadPart_at hC ?_
    | (with_reducible refine wpAny_isSubtype_exc hC ?_; first | rw [b] | rw [a] | rw [n])
    | wp_step)
  show R _ _
  rw [Heap.size_push]
  exact hq
/-- the inner part of an own class's call: the new exception, then its own __init__ -/
theorem made_inner (F : ExcBaseFacts B newId initId bmB) (U : Above C bm B) {rest : List Value} {fI : Addr} {Q : Fin → Shared → Prop}
    (hC : h.get? C = some (excClassObj nm q C N bs bm hdct sn sub ab col dd k0 k1 k2 k3 k5 newId))
    (hi : W.Looks (model prog w) h (typeLookup (.ref C) "__init__") (some (.ref fI)))
    (hb : ∀ self, W.Looks (model prog w) h (bindSpecial (.ref fI) self) (.ref fI, [self])) (few : rest.length ≤ sizeLine)
    (run : codeAny (model prog w) A (.call (.ref fI) ⟨.ref (h.objs.size + 1) :: rest, []⟩)
      (fun r s' => match r with | .ok (.ret v) => v = .none ∧ Q (.done (.ret (.ref (h.objs.size + 1)))) s' | .ok _ => False | .error e => E e s')
      ⟨(h.push (W.kdv_tup rest)).push (excO C h.objs.size), g, d, t, os⟩) :
    wpAny (model prog w) A (Builtin.«type.__call__» ⟨.ref C :: rest, []⟩) Q E ⟨h, g, d, t, os⟩ := by
  repeat (first | with_reducible refine wpAny_loadPart_at hC ?_ | with_reducible refine wpAny_madeBy_exc hC ?_ | wp_step)
  refine codeAny_call_builtin_code (Code.quiet_builtin _ F.quiet) (new_checked F U hC (new_made F U hC ?_ few))
  show wpAny _ _ _ _ _ _
  have kp : ∀ b o, h.get? b = some o → ((h.push (W.kdv_tup rest)).push (excO C h.objs.size)).get? b = some o :=
    fun b o e => Heap.get?_push_of_some _ (Heap.get?_push_of_some _ e)
  have hC1 := kp _ _ hC
  have new1 : ((h.push (W.kdv_tup rest)).push (excO C h.objs.size)).get? (h.objs.size + 1) = some (excO C h.objs.size) := by heap_get
  have own : (Value.ref C :: bm).contains (.ref C) = true := by simp
  unfold isInstance
  repeat (first | with_reducible refine wpAny_loadPart_at new1 ?_ | (with_reducible refine wpAny_isSubtype_exc hC1 ?_; rw [own]) | wp_step)
  show wpAny _ _ (typeLookup (.ref C) _) _ _ _
  refine (hi.keeps kp).at (wpAny_holding (wpAny_bind (((hb (.ref (h.objs.size + 1))).keeps kp).at ?_)))
  refine wpAny_bind (wpAny_call (codeAny_mono run ?_))
  intro r s' z
  match r, z with
  | .error e, z => exact z
  | .ok (.ret v), z =>
    obtain ⟨rfl, z⟩ := z
    first
      | exact wpAny_pure (wpAny_pure z)
      | (wp_walk; exact z)
/-- an own class is called, its own __init__ runs on the new exception -/
theorem made_by_init (F : ExcBaseFacts B newId initId bmB) (U : Above C bm B) {rest : List Value} {fI : Addr}
    (hC : h.get? C = some (excClassObj nm q C N bs bm hdct sn sub ab col dd k0 k1 k2 k3 k5 newId))
    (hi : W.Looks (model prog w) h (typeLookup (.ref C) "__init__") (some (.ref fI)))
    (hb : ∀ self, W.Looks (model prog w) h (bindSpecial (.ref fI) self) (.ref fI, [self])) (few : rest.length ≤ sizeLine)
    (run : codeAny (model prog w) (A.under (.builtin "type.__call__" ⟨.ref C :: rest, []⟩)) (.call (.ref fI) ⟨.ref (h.objs.size + 1) :: rest, []⟩)
      (W.InitBack (h.objs.size + 1) R) ⟨(h.push (W.kdv_tup rest)).push (excO C h.objs.size), g, d, t, os⟩) :
    codeAny (model prog w) A (.call (.ref C) ⟨rest, []⟩) R ⟨h, g, d, t, os⟩ := by
  have f1 := tc_lookup
  have f2 := tc_bind (.ref C)
  have ty : (⟨h, g, d, t, os⟩ : Shared).TypeIs (.ref C) "type" := ⟨_, hC, rfl⟩
  refine codeAny_of_tree ?_
  show wpAny _ _ (callAny (.ref C) _) _ _ _
  repeat (any_goals (first | assumption | with_reducible refine wpAny_loadPart_at hC ?_ | wp_step))
  refine ⟨rfl, codeAny_call_builtin_at (Code.quiet_builtin _ (by decide +kernel)) entry_typeCall ?_⟩
  refine wpAny_check_type_call_sub hC (made_inner F U hC hi hb few (codeAny_mono run fun r s' z => ?_))
  rcases r with e | (v | _ | _ | _) <;> exact z
end
end CGX
set_option Elab.async false
set_option linter.all false
set_option maxRecDepth 100000
set_option maxHeartbeats 2000000
namespace CGX
open PySem PySem.HandSPX Builtin Builtin.ObjectAttr
section
variable {prog : Program} {w : World} {A : Around} {E : Value → Shared → Prop} {hp : Heap} {g : Array GenState} {d : Drawn} {t : Nat} {os : OsState}
  {K : W.Frag} {x C t0 : Addr} {B : String} {bmB : List Value}
/-- the first field of a new exception is stored: its dict is laid -/
theorem first_field {nm : Str} {tk : Tok} {v : Value} {R : Result → Shared → Prop} (SF : StoreFacts B bmB "object.__setattr__" "object") (X : K.In hp)
    (hx : hp.get? x = some (excO C t0)) (ov : W.excOver K C bmB = true) (no : W.takerIn K C nm = some none) (hd : W.hasDictIn K C = true)
    (hq : ∀ h' tk' dx, (∀ b o, b ≠ x → hp.get? b = some o → h'.get? b = some o) → hp.objs.size ≤ dx → dx ≠ x →
      h'.get? x = some { excO C t0 with dict := some dx } → h'.Ns1 dx (fun y => if y = nm then some v else none) → R (.ok (.ret .none)) ⟨h', g, d, tk', os⟩) :
    codeAny (model prog w) A (.call (.builtin "object.__setattr__") ⟨[.ref x, .str nm tk, v], []⟩) R ⟨hp, g, d, t, os⟩ := by
  have I : W.InstAt hp x (excO C t0) C none := ⟨hx, rfl, rfl, trivial⟩
  have xs : x ≠ hp.objs.size := Nat.ne_of_lt (Heap.lt_size hx)
  obtain ⟨cd, hcd, hh⟩ := W.any_some hd
  have cls : W.Looks (model prog w) hp (classData C) cd := W.looks_clsIn X hcd
  refine W.osa_openX (s := ⟨hp, g, d, t, os⟩) SF X I ov no fun b => ?_
  show wpAny _ _ (storeInOwnDict (.ref x) (.ref C) (.str nm tk) nm v b) _ _ _
  obtain ⟨n1, n2, n3, n4, n5, n6, n7, n8, n9, n10, n11⟩ := cd
  dsimp only at hh
  subst hh
  unfold storeInOwnDict ownDictForStores
  repeat (first | with_reducible refine store_in_new ?_ ?_ | with_reducible refine wpAny_loadPart_at hx ?_ | with_reducible refine cls.at ?_ | wp_step)
  · refine ⟨_, #[], _, (Heap.get?_update_ne _ _ _ _ xs.symm).trans (Heap.get?_push_at rfl rfl), rfl, fun e he => absurd he (by simp), fun _ => rfl⟩
  · intro h' tk' ns sb
    have hx1 : (hp.push { cls := .type "dict", data := .dict #[] }).get? x = some (excO C t0) := Heap.get?_push_of_some _ hx
    refine hq h' tk' hp.objs.size ?_ (Nat.le_refl _) xs.symm ?_ ns
    · intro b o hb ho
      have hs : b ≠ hp.objs.size := Nat.ne_of_lt (Heap.lt_size ho)
      exact (sb.2 b hs).trans ((Heap.get?_update_ne _ _ _ _ hb).trans (Heap.get?_push_of_some _ ho))
    · exact (sb.2 x xs).trans (Heap.get?_update_self _ hx1 rfl)
end
end CGX
set_option Elab.async false
set_option linter.all false
set_option maxRecDepth 100000
set_option maxHeartbeats 2000000
namespace CGX
open PySem PySem.W PySem.Calls PyProof.Rows PySem.HandSPX
/-! the text: def __init__(self, NM): self.NM = NM -/
def iA (nm : Str) (p1 p2 : Pos) : Arguments :=
  { posonlyargs := [], args := [{ arg := "self", annotation := none, pos := p1 }, { arg := nm, annotation := none, pos := p2 }],
    vararg := none, kwonlyargs := [], kw_defaults := [], kwarg := none, defaults := [] }
def iB (nm : Str) (q1 q2 q3 q4 : Pos) : List Stmt := [.Assign [.Attribute (.Name "self" q1) nm q2] (.Name nm q3) q4]
def iS (nm : Str) : Scope :=
  { kind := .function, names := [(PySem.Str.ofString "self", .local), (nm, .local)], isGenerator := false, isCoroutine := false, more := [] }
/-- what the written part says of such a class, at C, and of its __init__, at fI -/
structure InitTxt (K : Frag) (mg : Str → Option Value) (cn nm : Str) (newId : String) (bmB : List Value) (C fI : Addr) : Prop where
  g : mg cn = some (.ref C)
  q : excInitIn K C bmB newId = true
  ov : excOver K C bmB = true
  hi : findIn K (.ref C) "__init__" = some (some (.ref fI))
  ty : typeIn K (.ref fI) = some (.type "function")
  sa : findIn K (.ref C) "__setattr__" = some (some (.builtin "object.__setattr__"))
  no : takerIn K C nm = some none
  hd : hasDictIn K C = true
  kp : keepIn K (.ref C) = true
  fn : ∃ (oc : Value) (od : Option Addr) (qual : Str) (doc pm : Value) (an : Option Addr) (cdv ct : Value) (osl : Array (Option Value)) (p1 p2 q1 q2 q3 q4 : Pos),
    K.lookup fI = some ⟨oc, od, .func (fnOf "__init__" qual (iA nm p1 p2) (iB nm q1 q2 q3 q4) (iS nm) .none .none doc pm an cdv ct), osl⟩ ∧ codeIn K cdv qual = true
/-- the name's own facts -/
structure NmOk (nm : Str) : Prop where
  ne : ("self" : Str) ≠ nm
  nd : (nm == ("__debug__" : Str)) = false
  bd : ∀ (qual : Str) (p1 p2 q1 q2 q3 q4 : Pos) (doc pm : Value) (an : Option Addr) (cdv ct a b : Value),
    bindArgs (fnOf "__init__" qual (iA nm p1 p2) (iB nm q1 q2 q3 q4) (iS nm) .none .none doc pm an cdv ct) ⟨[a, b], []⟩ = pure ((["self", nm] : List Str).zip [a, b])
  l1 : List.lookup ("self" : Str) (iS nm).names = some NameKind.local
  l2 : List.lookup nm (iS nm).names = some NameKind.local
theorem nm_line : NmOk "line" := ⟨by decide +kernel, by decide +kernel, fun _ _ _ _ _ _ _ _ _ _ _ _ _ _ => rfl, rfl, rfl⟩
theorem nm_wanted : NmOk "wanted" := ⟨by decide +kernel, by decide +kernel, fun _ _ _ _ _ _ _ _ _ _ _ _ _ _ => rfl, rfl, rfl⟩
theorem nm_many : NmOk "many" := ⟨by decide +kernel, by decide +kernel, fun _ _ _ _ _ _ _ _ _ _ _ _ _ _ => rfl, rfl, rfl⟩
theorem nm_limit : NmOk "limit" := ⟨by decide +kernel, by decide +kernel, fun _ _ _ _ _ _ _ _ _ _ _ _ _ _ => rfl, rfl, rfl⟩
theorem nm_given : NmOk "given" := ⟨by decide +kernel, by decide +kernel, fun _ _ _ _ _ _ _ _ _ _ _ _ _ _ => rfl, rfl, rfl⟩
theorem nm_reason : NmOk "reason" := ⟨by decide +kernel, by decide +kernel, fun _ _ _ _ _ _ _ _ _ _ _ _ _ _ => rfl, rfl, rfl⟩
/-- what a made one is -/
structure MadeI (h h' : Heap) (e C d : Addr) (nm : Str) (v : Value) : Prop where
  keep : ∀ b o, h.get? b = some o → h'.get? b = some o
  new : h.objs.size ≤ e
  dbig : h.objs.size ≤ d
  dne : d ≠ e
  obj : ∃ t, h'.get? e = some { excO C t with dict := some d }
  ns : h'.Ns1 d (fun y => if y = nm then some v else none)
theorem one_fits (v : Value) : [v].length ≤ sizeLine := by
  rw [sizeLine_eq]; exact (by decide : 1 ≤ 16777216)
section
variable {prog : Program} {w : World} {A : Around} {R : Result → Shared → Prop} {s : Shared} {K : Frag} {mg : Str → Option Value}
  {cn nm : Str} {C fI : Addr} {B newId : String} {bmB : List Value}
theorem init_runs (T : InitTxt K mg cn nm newId bmB C fI) (O : NmOk nm) (SF : StoreFacts B bmB "object.__setattr__" "object") {x t0 : Addr} {v : Value}
    (X : K.In s.heap) (lim : s.heap.NoLimit) (hx : s.heap.get? x = some (excO C t0)) (room : A.depth < recursionLimit)
    (hq : ∀ h' tk dx, (∀ b o, b ≠ x → s.heap.get? b = some o → h'.get? b = some o) → s.heap.objs.size ≤ dx → dx ≠ x →
      h'.get? x = some { excO C t0 with dict := some dx } → h'.Ns1 dx (fun y => if y = nm then some v else none) →
      R (.ok (.ret .none)) { s with heap := h', toks := tk }) :
    codeAny (model prog w) A (.call (.ref fI) ⟨[.ref x, v], []⟩) R s := by
  obtain ⟨oc, od, qual, doc, pm, an, cdv, ct, osl, p1, p2, q1, q2, q3, q4, ho, hcd⟩ := T.fn
  have nd : (["self", nm] : List Str).Nodup := by simp [O.ne]
  refine Att.call_fn (binds := (["self", nm] : List Str).zip [.ref x, v]) X lim ho hcd room (BindsTo.of_eq (O.bd _ _ _ _ _ _ _ _ _ _ _ _ _ _)) ?_ (fun s₁ IC => ?_) rfl rfl rfl
  · have l1 := O.l1
    have l2 := O.l2
    simp only [List.zip_cons_cons, List.zip_nil_right, List.all_cons, List.all_nil]
    rw [l1, l2]
    rfl
  · obtain ⟨h₁, tk₁, rfl⟩ := IC.toInCall.same
    have k : ∀ b o, s.heap.get? b = some o → h₁.get? b = some o := IC.toInCall.keep
    have X₁ : K.In h₁ := X.keeps k
    have hx₁ := k _ _ hx
    have ns := IC.toInCall.ns
    have old : s.heap.objs.size < h₁.objs.size := ns.lt
    have k1 : (envOfC qual (iS nm) s.heap.objs.size fI cdv).kindOf "self" = some .local := O.l1
    have k2 : (envOfC qual (iS nm) s.heap.objs.size fI cdv).kindOf nm = some .local := O.l2
    have a1 := L2.bindL_get (m := fun _ => none) (P := ["self", nm]) (vs := [.ref x, v]) (i := 0) nd rfl rfl k1
    have a2 := L2.bindL_get (m := fun _ => none) (P := ["self", nm]) (vs := [.ref x, v]) (i := 1) nd rfl rfl k2
    show wpAny _ _ (execs _ _) _ _ _
    refine wpAny_execs_cons (plainObj_wpAny_Assign_Attribute ?_ (by rfl))
    refine wpAny_Name (wpAny_loadName_local rfl k2 ns a2 ?_) O.nd
    refine wpAny_Name (wpAny_loadName_local rfl k1 ns a1 ?_) (by decide)
    refine set_plain X₁ (ox := excO C t0) (od := none) ⟨hx₁, rfl, rfl, trivial⟩ T.sa ?_
    refine first_field SF X₁ hx₁ T.ov T.no T.hd fun h₃ tk₃ dx k₃ dn dne hx₃ hn₃ => ?_
    show wpAny _ _ (execs _ _) _ _ _
    exact wpAny_execs_nil (hq h₃ tk₃ dx (fun b o hb e => k₃ b o hb (k b o e)) (Nat.le_trans (Nat.le_of_lt old) dn) dne hx₃ hn₃)
end
end CGX
set_option Elab.async false
set_option linter.all false
set_option maxRecDepth 100000
set_option maxHeartbeats 2000000
namespace CGX
open PySem PySem.Spec PyProof.Rows L2
/-! ### what is tracked -/
/-- at a: an exception of the class at C, without fields, its args at t -/
def evA (a C t : Addr) : HO := .ext fun h => h.get? a = some (HandSPX.excO C t)
/-- at a: an exception of the class at C whose fields lie at dx -/
def evF (a C dx : Addr) : HO := .ext fun h => ∃ t, h.get? a = some { HandSPX.excO C t with dict := some dx }
section
variable {P : Program} {w : World} {H : Hp} {h : Heap} {a C t dx : Addr}
theorem evA_ok (e : h.get? a = some (HandSPX.excO C t)) : ObjOk P w H h a (evA a C t) := ⟨e, ⟨_, e⟩, fun _ _ z k => k _ z⟩
theorem evF_ok (e : h.get? a = some { HandSPX.excO C t with dict := some dx }) : ObjOk P w H h a (evF a C dx) :=
  ⟨⟨t, e⟩, ⟨_, e⟩, fun _ _ ⟨t, z⟩ k => ⟨t, k _ z⟩⟩
theorem evA_at (ok : HOk P w H h) (e : H a = some (evA a C t)) : h.get? a = some (HandSPX.excO C t) := by
  have z : ObjOk P w H h a (.ext fun h => h.get? a = some (HandSPX.excO C t)) := ok a _ e
  exact z.1
theorem evF_at (ok : HOk P w H h) (e : H a = some (evF a C dx)) : ∃ t, h.get? a = some { HandSPX.excO C t with dict := some dx } := by
  have z : ObjOk P w H h a (.ext fun h => ∃ t, h.get? a = some { HandSPX.excO C t with dict := some dx }) := ok a _ e
  exact z.1
end
/-- two new objects laid and tracked at once -/
theorem laid2 {X : Cx} {pins : List (Addr × Obj)} {σ : L2.St} {H : Hp} {s : Shared} {h' : Heap} {a b : Addr} {o p : HO} {t' : Nat} (I : Inv X pins σ H s)
    (k : ∀ c u, s.heap.get? c = some u → h'.get? c = some u) (ha : s.heap.get? a = none) (hb : s.heap.get? b = none) (na : H a = none) (nb : H b = none)
    (ne : b ≠ a) (oa : ObjOk X.prog X.w (upd (upd H b p) a o) h' a o) (ob : ObjOk X.prog X.w (upd (upd H b p) a o) h' b p) :
    Inv X pins σ (upd (upd H b p) a o) { s with heap := h', toks := t' } := by
  have old : ∀ {c : Addr} {u : HO}, H c = some u → upd (upd H b p) a o c = some u := by
    intro c u e
    rw [upd_ne (ne_of_none e na), upd_ne (ne_of_none e nb)]
    exact e
  refine I.un (t' := t') ⟨fun c u q _ _ _ => k c u q, fun c u q _ _ _ => ⟨u.slots, k c u q⟩, fun c u q n _ => ?_, fun c u q _ => ⟨u, k c u q⟩,
    fun c xs q => old q, fun c u z q => old q, fun c ps q => ⟨#[], by rw [old q]; simp⟩⟩ ?_
  · rw [upd_ne (fun z => by rw [z, ha] at q; cases q), upd_ne (fun z => by rw [z, hb] at q; cases q)]
    exact n
  · intro c u e
    by_cases ca : c = a
    · subst ca
      rw [upd_same] at e
      cases e
      exact oa
    · rw [upd_ne ca] at e
      by_cases cb : c = b
      · subst cb
        rw [upd_same] at e
        cases e
        exact ob
      · rw [upd_ne cb] at e
        exact (I.hok c u e).stay (fun z v _ q => k z v q) (fun z q => old q) fun z xs q => old q
section
variable {X : Cx} {x nm : Str} {e : Expr} {te : TE} {p pos : Pos} {C fI : Addr}
/-- X(e), an own class without an __init__ of its own: the exception and its args are tracked -/
theorem pe_excA {bmB : List Value} {B newId initId : String} (F : ExcBaseFacts B newId initId bmB) (q : PySem.W.excIn X.K C bmB newId = true)
    (gC : X.mg x = some (.ref C)) (kC : PySem.W.keepIn X.K (.ref C) = true) (he : PE X e te) (hg : Gl X x := by rfl)
    (hs : starEach [e] X.env = (false, eval e X.env) :: starEach [] X.env := by rfl) (hdb : (x == ("__debug__" : Str)) = false := by decide) :
    PE X (.Call (.Name x p) [e] [] pos) (fun σ H Q => te σ H fun v H1 => ∀ a t, H1 a = none → H1 t = none → t ≠ a →
      Q (.ref a) (upd (upd H1 t (.tup [v])) a (evA a C t))) := by
  constructor
  intro pins s σ H Q I h
  refine wpAny_Call_Name_kw (ld_glob I hg gC (PySem.W.callWith_K (h₀ := X.base) I.ok.mod.kin kC ?_ hs (by rfl)) hdb)
  rw [hs]
  refine Calls.spliced_cons (thn (he.run pins s σ H _ I h) ?_)
  rintro u s1 ⟨v, H1, I1, r1, q1⟩
  refine Calls.spliced_nil ⟨I1.kIn, ?_⟩
  show wpAny _ _ (call (.ref C) [u]) _ _ _
  obtain ⟨bm, N, n1, n2, bs, n3, sn, sub, ab, col, dd, k0, k1, k2, k3, k5, mN, hC, hN, hni, T⟩ := exc_obj I1.kIn q
  refine wpAny_call_exc_subT F T hC hN hni (fun h' a hm => ?_) (by show 1 ≤ sizeLine; rw [sizeLine_eq]; omega)
  obtain ⟨t, ht, tn, tt⟩ := hm.there
  have na := I1.hok.gone hm.new
  have nt := I1.hok.gone tn
  have ne : t ≠ a := by
    rintro rfl
    rw [ht] at tt
    cases tt
  refine ⟨.ref a, _, laid2 I1 hm.keeps hm.new tn na nt ne (evA_ok ht) ?_, rfl, q1 a t na nt ne⟩
  exact ⟨by show 1 ≤ sizeLine; rw [sizeLine_eq]; omega, [u], .cons r1 .nil, _, tt, rfl, _, rfl⟩
/-- X(e), an own class whose __init__ keeps its one argument -/
theorem pe_excI {cn : Str} {bmB : List Value} {B B' newId initId : String} {bmA : List Value} {k : Nat} (F : ExcBaseFacts B' newId initId bmA)
    (SF : StoreFacts B bmB "object.__setattr__" "object") (T : InitTxt X.K X.mg cn nm newId bmB C fI) (O : NmOk nm) (hr : Room (k + 1) X.A)
    (b1 : bmB.contains (.type B') = true) (b2 : bmB.contains (.type "AttributeError") = false) (b3 : bmB.contains (.type "NameError") = false)
    (he : PE X e te) (hg : Gl X cn := by rfl)
    (hs : starEach [e] X.env = (false, eval e X.env) :: starEach [] X.env := by rfl) (hdb : (cn == ("__debug__" : Str)) = false := by decide) :
    PE X (.Call (.Name cn p) [e] [] pos) (fun σ H Q => te σ H fun v H1 => ∀ a d, H1 a = none → H1 d = none → d ≠ a →
      Q (.ref a) (upd (upd H1 d (.xd [(nm, v)])) a (evF a C d))) := by
  constructor
  intro pins s σ H Q I h
  refine wpAny_Call_Name_kw (ld_glob I hg T.g (PySem.W.callWith_K (h₀ := X.base) I.ok.mod.kin T.kp ?_ hs (by rfl)) hdb)
  rw [hs]
  refine Calls.spliced_cons (thn (he.run pins s σ H _ I h) ?_)
  rintro u s1 ⟨v, H1, I1, r1, q1⟩
  refine Calls.spliced_nil ⟨I1.kIn, ?_⟩
  show wpAny _ _ (call (.ref C) [u]) _ _ _
  obtain ⟨n1, N, n2, bs, bm, n3, sn, sub, ab, col, dd, k0, k1, k2, k3, k5, hC, hT⟩ := PySem.W.excInit_of I1.kIn T.q
  have U : Above C bm B' := ⟨by rw [List.contains_cons, hT, b1, Bool.or_true], by rw [List.contains_cons, hT, b2]; rfl, by rw [List.contains_cons, hT, b3]; rfl⟩
  have KI := I1.kIn
  have NL := I1.nolimit
  obtain ⟨hp, g, dr, tk, os⟩ := s1
  have kp : ∀ b o, hp.get? b = some o → ((hp.push (PySem.W.kdv_tup [u])).push (HandSPX.excO C hp.objs.size)).get? b = some o :=
    fun b o e => Heap.get?_push_of_some _ (Heap.get?_push_of_some _ e)
  have new1 : ((hp.push (PySem.W.kdv_tup [u])).push (HandSPX.excO C hp.objs.size)).get? (hp.objs.size + 1) = some (HandSPX.excO C hp.objs.size) := by heap_get
  refine wpAny_call (made_by_init F U hC (PySem.W.looks_findIn KI T.hi) (fun self => PySem.W.bind_fn KI self T.ty) (one_fits u)
    (init_runs (s := ⟨(hp.push (PySem.W.kdv_tup [u])).push (HandSPX.excO C hp.objs.size), g, dr, tk, os⟩) T O SF (KI.keeps kp) (NL.keeps kp) new1 ?_ ?_))
  · exact (hr.make C [u] []).depth
  · intro h' tk' dx k' big dne hx ns
    have size : hp.objs.size + 2 ≤ dx := by
      have z := big
      rw [Heap.size_push, Heap.size_push] at z
      omega
    have gone : ∀ {c : Addr}, hp.objs.size ≤ c → hp.get? c = none := fun z => Heap.get?_none_of_le z
    have ha := gone (c := hp.objs.size + 1) (by omega)
    have hd := gone (c := dx) (by omega)
    have na := I1.hok.gone ha
    have nd := I1.hok.gone hd
    refine ⟨rfl, .ref (hp.objs.size + 1), _, laid2 (s := ⟨hp, g, dr, tk, os⟩) (h' := h') (t' := tk') I1 (fun c o z => k' c o (Nat.ne_of_lt (Nat.lt_succ_of_lt (Heap.lt_size z))) (kp c o z)) ha hd na nd dne (evF_ok hx) ?_, rfl,
      q1 _ dx na nd dne⟩
    refine ⟨_, ns, fun f => ?_⟩
    by_cases hf : f = nm
    · subst hf
      have z : List.lookup f [(f, v)] = some v := by simp [List.lookup]
      rw [if_pos rfl, z]
      exact r1
    · rw [if_neg hf]
      have z : (f == nm) = false := by simpa using hf
      simp [List.lookup, z, RelO]
end
end CGX
set_option Elab.async false
set_option linter.all false
set_option maxRecDepth 100000
set_option maxHeartbeats 2000000
namespace CGX
open PySem PySem.Spec PyProof.Rows L2
open PySem.W (clsIn findIn subIn mroIn specialIn takesIn hasDictIn kitOne Frag)
/-- what the written part says of one of the program's exception classes -/
structure ExK (K : Frag) (C : Addr) : Prop where
  cl : (clsIn K C).isSome = true
  ga : findIn K (.ref C) "__getattribute__" = some (some (.builtin "BaseException.__getattribute__"))
  gt : findIn K (.ref C) "__getattr__" = some none
  sub : subIn K (.ref C) (.type "BaseException") = some true
  cls : findIn K (.ref C) "__class__" = some (some (.builtin "object.__class__"))
  ob : mroIn K C (.type "object") = some true
  st : findIn K (.ref C) "__str__" = some (some (.builtin "BaseException.__str__")) ∨ True
structure ExG (K : Frag) : Prop where
  gt : specialIn K (.builtin "object.__class__") "__get__" = some (some (.builtin "getset_descriptor.__get__"))
  tk : takesIn K (.builtin "object.__class__") = some true
/-- an exception of the class at C stands at a -/
def ExAt (H : Hp) (a C : Addr) : Prop := (∃ t, H a = some (evA a C t)) ∨ ∃ dx fs, H a = some (evF a C dx) ∧ H dx = some (.xd fs)
section
variable {X : Cx} {pins : List (Addr × Obj)} {σ : L2.St} {H : Hp} {s : Shared} {a C : Addr}
theorem ExAt.inst (I : Inv X pins σ H s) (e : ExAt H a C) : ∃ ox od, PySem.W.InstAt s.heap a ox C od := by
  rcases e with ⟨t, e⟩ | ⟨dx, fs, e, d⟩
  · exact ⟨_, none, evA_at I.hok e, rfl, rfl, trivial⟩
  · obtain ⟨t, z⟩ := evF_at I.hok e
    have od : ObjOk X.prog X.w H s.heap dx (.xd fs) := I.hok dx _ d
    obtain ⟨mA, ⟨o, es, ep, q, r⟩, _⟩ := od
    exact ⟨_, some o, z, rfl, rfl, q⟩
theorem call_isiE (G : ExG X.K) : CallR X (.builtin "isinstance") (fun xs H Q => ∃ a c C u b, xs = [.ref a, c] ∧ ExAt H a C ∧ ExK X.K C ∧ ClsV c u ∧
    kitOne X.K (.ref C) u = some b ∧ Q (.bl b) H) := by
  intro pins s σ H xs us Q I r h
  obtain ⟨a, c, C, u, b, rfl, e, T, k, kit, q⟩ := h
  obtain ⟨u1, u2, rfl, r1, r2⟩ := vals2 r
  have r1' : u1 = Value.ref a := r1
  subst r1'
  have k' := k.eq r2
  subst k'
  obtain ⟨ox, od, J⟩ := e.inst I
  exact PySem.W.kia_one (PySem.W.kitx_exc T.cl T.ga T.gt T.sub T.cls G.gt G.tk T.ob) I.kIn J kit (fun z => nomatch z) fun tk => ⟨.bl b, H, I.tok tk, rfl, q⟩
theorem call_strE (hu : X.A.units + 2 < cLine) : CallR X (.type "str") (fun xs H Q => ∃ a C t z, xs = [.ref a] ∧ H a = some (evA a C t) ∧ H t = some (.tup [.str z]) ∧
    ExK X.K C ∧ findIn X.K (.ref C) "__str__" = some (some (.builtin "BaseException.__str__")) ∧ Q (.str z) H) := by
  intro pins s σ H xs us Q I r h
  obtain ⟨a, C, t, z, rfl, e, et, T, hs, q⟩ := h
  obtain ⟨u1, rfl, r1⟩ := vals1 r
  have r1' : u1 = Value.ref a := r1
  subst r1'
  have ht : ObjOk X.prog X.w H s.heap t (.tup [.str z]) := I.hok t _ et
  obtain ⟨_, its, rv, o, h1, h2, n, h3⟩ := ht
  cases rv with
  | cons rz rn =>
    cases rn
    obtain ⟨tk, rfl⟩ := rz
    refine PySem.P.str_of_C_one hu ⟨I.kIn, _, _, evA_at I.hok e, rfl, rfl, rfl⟩ ⟨o, n, h1, h2, h3⟩ hs T.sub ?_
    exact ⟨.str z, H, I, ⟨tk, rfl⟩, q⟩
variable {f : Str} {e : Expr} {te : TE} {pos : Pos}
theorem pe_fldE (he : PE X e te) (hb : attributeBase e f X.env (eval e X.env) = eval e X.env := by rfl) :
    PE X (.Attribute e f pos) (fun σ H Q => te σ H fun x H1 => ∃ a C dx v, x = .ref a ∧ ExK X.K C ∧ findIn X.K (.ref C) f = some none ∧
      hasDictIn X.K C = true ∧ H1 a = some (evF a C dx) ∧ H1 dx = some (.xd [(f, v)]) ∧ Q v H1) := by
  constructor
  intro pins s σ H Q I h
  refine attr_of hb (thn (he.run pins s σ H _ I h) ?_)
  rintro u s1 ⟨x, H1, I1, rx, a, C, dx, v, rfl, T, no, hd, ea, ed, q⟩
  have rx' : u = Value.ref a := rx
  subst rx'
  obtain ⟨t, z⟩ := evF_at I1.hok ea
  have od : ObjOk X.prog X.w H1 s1.heap dx (.xd [(f, v)]) := I1.hok dx _ ed
  obtain ⟨mA, ns, rel⟩ := od
  obtain ⟨o, ho, hl⟩ := lookIn_ns ns
  have lk : List.lookup f [(f, v)] = some v := by simp [List.lookup]
  obtain ⟨w', hw, rw'⟩ := RelO.some_of (v := v) (o := mA f) (by rw [← lk]; exact rel f)
  have J : PySem.W.InstAt s1.heap a _ C (some o) := ⟨z, rfl, rfl, ho⟩
  exact HandSPX.exc_get I1.kIn J T.ga T.gt T.sub (PySem.W.findObj_own hd no rfl (by rw [hl, hw])) (handed_of rw') ⟨v, H1, I1.tok _, rw', q⟩
end
end CGX
set_option Elab.async false
set_option linter.all false
set_option maxRecDepth 100000
set_option maxHeartbeats 2000000
namespace CG
open PySem PySem.Spec PyProof.Rows L2
/-! new lists, told to be none of the interpreter's own dict of modules -/
section
variable {X : Cx} {es : List Expr} {t : TA} {pos : Pos}
theorem far {pins : List (Addr × Obj)} {σ : L2.St} {H : Hp} {s : Shared} (I : Inv X pins σ H s) : s.heap.objs.size ≠ sysModules := Nat.ne_of_gt I.big
theorem pe_lstN (h : PA X es t) : PE X (.List es pos) (fun σ H Q => t σ H fun xs H1 => xs.length ≤ sizeLine ∧ ∀ p, H1 p = none → p ≠ sysModules → Q (.ref p) (upd H1 p (.lst xs))) := by
  constructor
  intro pins s σ H Q I hq
  refine wpAny_List_spliced (thn (h.run pos pins s σ H _ I hq) ?_)
  rintro us s1 ⟨xs, H1, I1, r, z, q⟩
  refine ⟨by rw [← r.length]; exact z, .ref s1.heap.objs.size, _, ?_, rfl, q _ (I1.hok.fresh (Nat.le_refl _)) (far I1)⟩
  exact I1.laid (t' := s1.toks) (fun b u e => Heap.get?_push_of_some _ e) (Nat.le_refl _) ⟨z, us, 0, r, Heap.get?_push_size _ rfl⟩
theorem op_repN : OpR X (binaryOp .Mult) (fun x y H Q => ∃ l k v, x = .ref l ∧ y = .int k ∧ H l = some (.lst [v]) ∧ 0 ≤ k ∧ k ≤ 1000 ∧
    ∀ p, H p = none → p ≠ sysModules → Q (.ref p) (upd H p (.lst (List.replicate k.toNat v)))) := by
  intro pins s σ H x y v u Q I rx ry h
  obtain ⟨l, k, z, rfl, rfl, hl, k0, k1, q⟩ := h
  have rx' : v = Value.ref l := rx
  subst rx'
  obtain ⟨t, rfl⟩ := ry
  obtain ⟨_, its, n, r, _, e⟩ := I.lstM hl
  obtain ⟨i0, rfl, r0⟩ := vals1 r
  have few : ([i0] : List Value).toArray.size * k.toNat ≤ 1000 := by
    show 1 * k.toNat ≤ 1000
    omega
  have line : (1000 : Nat) ≤ sizeLine := by decide
  have cap : ¬ ([i0] : List Value).toArray.size * k.toNat > (2 ^ 63 - 1) / 8 := by
    have : (1000 : Nat) ≤ (2 ^ 63 - 1) / 8 := by decide
    omega
  have fit : ¬ (!Builtin.List.listFitsIndex k) = true := by
    rw [fitsIndex_both (by omega) (by omega)]
    decide
  have long : ¬ Builtin.List.listTooLong (([i0] : List Value).toArray.size * k.toNat) = true := by
    rw [notLongL (Nat.le_trans few line)]
    decide
  refine wpAny_binaryOp_repeat_ref (T := "list") (U := "int") (by decide) ⟨_, e, rfl⟩ (fun s' => typeIs_int s' k t) noFill_list_mul F.fills_int_mul
    F.slot_int_rmul repeat_list F.slot_int_index.lookup ?_
  refine call_meets F.slot_int_rmul (typeIs_int s k t) F.entry_int_rmul (F.args_int_rmul_2 _ _) (int___rmul___int_list k t l [i0].toArray n) ⟨e, rfl, ⟨_, e, rfl⟩, ?_⟩
  refine call_meets F.slot_list_mul ⟨_, e, rfl⟩ F.entry_list_mul (F.args_list_mul_2 _ _) (AutoListH.list___mul___list_int_3 l [i0].toArray n k t fit cap long) ⟨e, ?_⟩
  have flat : ∀ (m : Nat) (acc : List Value), List.foldl (fun x1 x2 => x1 ++ x2) acc.toArray (List.replicate m [i0].toArray) = (acc ++ List.replicate m i0).toArray := by
    intro m
    induction m with
    | zero => intro acc; simp
    | succ m ih =>
      intro acc
      rw [List.replicate_succ, List.foldl_cons]
      have step := ih (acc ++ [i0])
      simp only [List.append_toArray] at step ⊢
      rw [step, List.replicate_succ]
      simp
  have new := flat k.toNat []
  rw [List.nil_append] at new
  have same : (if ([i0] : List Value).toArray.isEmpty = true then 0 else k.toNat) = k.toNat := if_neg (by simp)
  rw [same, new]
  have rel : Vals (List.replicate k.toNat z) (List.replicate k.toNat i0) := by
    generalize k.toNat = m
    induction m with
    | zero => exact .nil
    | succ m ih => exact .cons r0 ih
  have short : (List.replicate k.toNat z).length ≤ sizeLine := by
    rw [List.length_replicate]
    have : k.toNat ≤ 1000 := by omega
    exact Nat.le_trans this line
  exact ⟨.ref _, _, I.lnew (t' := s.toks) rel short, rfl, q _ I.fresh (far I)⟩
end
end CG
set_option Elab.async false
set_option linter.all false
set_option maxRecDepth 100000
set_option maxHeartbeats 2000000
namespace LK
open PySem L2 CG CGX
/-! ### the text by places -/
def top (i : Nat) : Stmt := PySem.Challenge.pw_chosentrees_k00_errors_and_what_they_kee.main.body.getD i (.Pass ⟨0, 0, 0, 0⟩)
abbrev sDice : Stmt := top 17
abbrev sRoll : Stmt := top 18
abbrev sPick : Stmt := top 19
abbrev sKinds : Stmt := top 20
abbrev sOthers : Stmt := top 21
abbrev sRight : Stmt := top 22
abbrev sLaw : Stmt := top 23
/-! ### dice: a list of three numbers -/
def DiceAt (H : Hp) (d : Addr) : Prop := ∃ a b c : Int, H d = some (.lst [.int a, .int b, .int c])
/-- all but what stands at d is as it was -/
def But (d : Addr) (H H' : Hp) : Prop := ∀ b, b ≠ d → H' b = H b
theorem But.trans {d : Addr} {H H1 H2 : Hp} (a : But d H H1) (b : But d H1 H2) : But d H H2 := fun c n => (b c n).trans (a c n)
def spDice (K : PySem.W.Frag) : Sp := fun vs H Q _ => ∃ (s : Addr) (ns : List Int) (k : Nat), vs = [.ref s, .int k] ∧ SqL K H s (ns.map V.int) ∧
  ∀ p a b, H p = none → Q (.ref p) (upd H p (.lst [.int a, .int b, .int 0]))
def spRoll : Sp := fun vs H Q _ => ∃ (d : Addr) (n : Int), vs = [.ref d, .int n] ∧ DiceAt H d ∧ 0 < n ∧ n < 1073741824 ∧
  ∀ r H', 0 ≤ r → r < n → DiceAt H' d → But d H H' → Q (.int r) H'
def spPick : Sp := fun vs H Q _ => ∃ (d l : Addr) (xs : List V), vs = [.ref d, .ref l] ∧ DiceAt H d ∧ H l = some (.lst xs) ∧ l ≠ d ∧ 0 < xs.length ∧ xs.length < 1000 ∧
  ∀ v H', v ∈ xs → DiceAt H' d → But d H H' → Q v H'
/-- built-in names that the module does not hide -/
structure Blt (mg : Str → Option Value) : Prop where
  len : mg "len" = none
  int : mg "int" = none
  abs : mg "abs" = none
  max : mg "max" = none
section
variable {P : Program} {w : World} {K : PySem.W.Frag} {mg : Str → Option Value} {base : Heap}
theorem scD : FnScope ["_law_script", "_law_spot", "_law_cell", "_law_great", "_law_blend"] ["_law_script", "_law_spot"] (defScope sDice) :=
  ⟨rfl, rfl, rfl, by decide +kernel, rfl, by decide +kernel, by decide +kernel⟩
theorem big58 : (0 : Int) ≤ 10 ∧ (Builtin.Int.intBits ((10 : Int) ^ (58 : Int).toNat) : Int) * 10 ≤ 2 ^ 27 := ⟨by decide, by decide +kernel⟩
theorem pos580 : (0 : Int) < ((10 : Int) ^ (58 : Int).toNat) ^ (10 : Int).toNat := by decide +kernel
theorem below (g : Int) : -(2 ^ 64) < g % 2305843009213693907 ∧ g % 2305843009213693907 < 2 ^ 64 := by
  have a := Int.emod_nonneg g (b := 2305843009213693907) (by decide)
  have b := Int.emod_lt_of_pos g (b := 2305843009213693907) (by decide)
  omega
theorem ok_dice {f : Addr} {fd : FuncData} (F : Fun K "_law_dice" "_law_dice" sDice f fd) (T : Blt mg) :
    FnOk P w K mg base CX0 1 f fd ["_law_script", "_law_spot"] (spDice K) := by
  refine F.ok scD (fun vs H Q E h => ?_) (fun cdv A outer s H vs Q E hr h => ?_)
  · obtain ⟨s, ns, k, rfl, _⟩ := h
    rfl
  · obtain ⟨s, ns, k, rfl, hS, q⟩ := h
    refine ⟨_, pss_cons (ps_set (i := 2) scD.nd rfl (Or.inl rfl) (pe_ifExp
          (pt_cmpR op_lt (pv 1) (pe_callB call_len (by rfl) T.len PySem.boot_len (pa_cons (pv 0) pa_nil)) (nomark _))
          (pe_ix ix_list (pv 0) (pv 1) (fun _ _ => rfl)) (pe_op op_add (pe_op op_mul pe_int (pv 1)) pe_int)))
      (pss_cons (ps_set (i := 3) scD.nd rfl (Or.inl rfl) (pe_op op_mod
          (pe_callTy call_int1 (by rfl) T.int PyProof.Rows.boot_int (pa_cons (pe_callB call_abs (by rfl) T.abs PyProof.Rows.boot_abs (pa_cons (pv 2) pa_nil)) pa_nil))
          (pe_op op_powB (pe_op op_pow pe_int pe_int) pe_int)))
      (pss_cons (ps_set (i := 4) scD.nd rfl (Or.inl rfl) (pe_op op_add (pe_op op_add (pe_op op_add
          (pe_op op_mul (pe_op op_mod (pe_callTy call_int1 (by rfl) T.int PyProof.Rows.boot_int (pa_cons (pv 3) pa_nil)) pe_int) pe_int)
          (pe_op op_mul pe_int (pv 1)))
          (pe_op op_mul pe_int (pe_callTy call_int1 (by rfl) T.int PyProof.Rows.boot_int (pa_cons (pe_cmpR op_lt (pv 2) pe_int (nomark _)) pa_nil)))) pe_int))
      (pss_one (ps_ret (pe_lst (pa_cons (pe_callB (call_max2 rfl) (by rfl) T.max PyProof.Rows.boot_max
          (pa_cons pe_int (pa_cons (pe_op op_sub (pv 3) (pe_op op_pow pe_int pe_int)) pa_nil)))
        (pa_cons (pe_op op_mod (pe_callTy call_int1 (by rfl) T.int PyProof.Rows.boot_int (pa_cons (pv 4) pa_nil)) pe_int) (pa_cons pe_int pa_nil)))))))), ?_⟩
    refine ⟨_, rfl, _, rfl, .ref s, _, rfl, .inl ⟨_, hS, rfl⟩, _, _, rfl, rfl, _, rfl, ?_⟩
    refine ite2 (fun hlt => ?_) (fun _ => ?_)
    rotate_left
    · refine ⟨_, rfl, _, _, rfl, rfl, .inl (by decide), _, _, rfl, rfl, ?_⟩
      refine ⟨_, rfl, _, rfl, .inl ⟨_, rfl, _, _, rfl, rfl, ⟨by decide, by decide, by decide⟩, _, _, rfl, rfl, big58, _, _, rfl, rfl, pos580, ?_⟩⟩
      refine ⟨_, rfl, .inl ⟨_, rfl, _, _, rfl, rfl, (show (0 : Int) < 2305843009213693907 by decide), _, _, rfl, rfl, .inl (below _), _, rfl, _, _, rfl, rfl, .inl (by decide), _, _, rfl, rfl,
        _, rfl, _, _, rfl, rfl, .inr ⟨_, rfl, _, _, rfl, rfl, .inl (by decide), _, _, rfl, rfl, _, _, rfl, rfl, ?_⟩⟩⟩
      refine ⟨_, rfl, _, _, rfl, rfl, ⟨by decide, by decide, by decide⟩, _, _, rfl, rfl, _, _, rfl, _, rfl, .inl ⟨_, rfl, _, _, rfl, rfl, (show (0 : Int) < 2305843009213693921 by decide),
        (by show 3 ≤ sizeLine; decide), fun p hp => q p _ _ hp⟩⟩
    · rw [List.length_map] at hlt
      have hk : k < ns.length := by exact_mod_cast (of_decide_eq_true hlt)
      refine ⟨_, rfl, _, rfl, s, _, _, _, rfl, rfl, hS, atI_nat (v := .int ns[k]) (by simp [hk]), ?_⟩
      refine ⟨_, rfl, _, rfl, .inl ⟨_, rfl, _, _, rfl, rfl, ⟨by decide, by decide, by decide⟩, _, _, rfl, rfl, big58, _, _, rfl, rfl, pos580, ?_⟩⟩
      refine ⟨_, rfl, .inl ⟨_, rfl, _, _, rfl, rfl, (show (0 : Int) < 2305843009213693907 by decide), _, _, rfl, rfl, .inl (below _), _, rfl, _, _, rfl, rfl, .inl (by decide), _, _, rfl, rfl,
        _, rfl, _, _, rfl, rfl, .inr ⟨_, rfl, _, _, rfl, rfl, .inl (by decide), _, _, rfl, rfl, _, _, rfl, rfl, ?_⟩⟩⟩
      refine ⟨_, rfl, _, _, rfl, rfl, ⟨by decide, by decide, by decide⟩, _, _, rfl, rfl, _, _, rfl, _, rfl, .inl ⟨_, rfl, _, _, rfl, rfl, (show (0 : Int) < 2305843009213693921 by decide),
        (by show 3 ≤ sizeLine; decide), fun p hp => q p _ _ hp⟩⟩
end
end LK
set_option Elab.async false
set_option linter.all false
set_option maxRecDepth 100000
set_option maxHeartbeats 2000000
namespace LK
open PySem L2 CG CGX
section
variable {P : Program} {w : World} {K : PySem.W.Frag} {mg : Str → Option Value} {base : Heap}
theorem scR : FnScope ["_law_dice_here", "_law_total", "_law_found", "_law_one", "_law_two"] ["_law_dice_here", "_law_total"] (defScope sRoll) :=
  ⟨rfl, rfl, rfl, by decide +kernel, rfl, by decide +kernel, by decide +kernel⟩
theorem under {g j b : Int} (hj : 0 < j) (hb : j ≤ b) (hb2 : b ≤ 2 ^ 64) : -(2 ^ 64) < g % j ∧ g % j < 2 ^ 64 := by
  have a := Int.emod_nonneg g (b := j) (by omega)
  have b := Int.emod_lt_of_pos g (b := j) hj
  omega
theorem ok_roll {f : Addr} {fd : FuncData} (F : Fun K "_law_roll" "_law_roll" sRoll f fd) (T : Blt mg) :
    FnOk P w K mg base CX0 1 f fd ["_law_dice_here", "_law_total"] spRoll := by
  refine F.ok scR (fun vs H Q E h => ?_) (fun cdv A outer s H vs Q E hr h => ?_)
  · obtain ⟨d, n, rfl, _⟩ := h
    rfl
  · obtain ⟨d, n, rfl, ⟨a, b, c, hd⟩, n0, n1, q⟩ := h
    refine ⟨_, pss_cons (ps_if (pt_cmpR op_gt (pe_ix ix_list (pv 0) pe_int (fun _ _ => rfl)) pe_int (nomark _))
        (pss_cons (ps_set (i := 2) scR.nd rfl (Or.inl rfl) (pe_op op_mod (pe_callTy call_int1 (by rfl) T.int PyProof.Rows.boot_int (pa_cons (pe_ix ix_list (pv 0) pe_int (fun _ _ => rfl)) pa_nil)) (pv 1)))
        (pss_cons (ps_asg (pe_op op_fdiv (pe_ix ix_list (pv 0) pe_int (fun _ _ => rfl)) (pv 1)) (pg_sub (pv 0) pe_int set_list))
        (pss_one (ps_ret (pv 2))))) pss_nil)
      (pss_cons (ps_asg (pe_op op_add (pe_ix ix_list (pv 0) pe_int (fun _ _ => rfl)) pe_int) (pg_sub (pv 0) pe_int set_list))
      (pss_cons (ps_set (i := 3) scR.nd rfl (Or.inl rfl) (pe_op op_mod (pe_callTy call_int1 (by rfl) T.int PyProof.Rows.boot_int (pa_cons
        (pe_op op_add (pe_ix ix_list (pv 0) pe_int (fun _ _ => rfl)) (pe_op op_mul pe_int (pe_ix ix_list (pv 0) pe_int (fun _ _ => rfl)))) pa_nil)) pe_int))
      (pss_cons (ps_set (i := 4) scR.nd rfl (Or.inl rfl) (pe_op op_add (pe_op op_mul (pe_op op_mod (pe_callTy call_int1 (by rfl) T.int PyProof.Rows.boot_int (pa_cons
        (pe_op op_mul (pv 3) (pv 3)) pa_nil)) pe_int) (pv 3)) (pe_op op_mul pe_int (pe_ix ix_list (pv 0) pe_int (fun _ _ => rfl)))))
      (pss_one (ps_ret (pe_op op_mod (pe_callTy call_int1 (by rfl) T.int PyProof.Rows.boot_int (pa_cons
        (pe_op op_fdiv (pe_op op_mod (pe_callTy call_int1 (by rfl) T.int PyProof.Rows.boot_int (pa_cons
          (pe_op op_add (pv 4) (pe_ix ix_list (pv 0) pe_int (fun _ _ => rfl))) pa_nil)) pe_int) pe_int) pa_nil)) (pv 1))))))), ?_⟩
    refine ⟨_, rfl, d, _, _, _, rfl, rfl, SqL.of hd, (by rfl), _, _, rfl, rfl, _, rfl, ?_⟩
    refine ite2 (fun _ => ?_) (fun _ => ?_)
    · -- the digits of the great number
      refine ⟨_, rfl, d, _, _, _, rfl, rfl, SqL.of hd, (by rfl), .inl ⟨_, rfl, _, rfl, _, _, rfl, rfl, n0, ?_⟩⟩
      refine ⟨_, rfl, d, _, _, _, rfl, rfl, SqL.of hd, (by rfl), _, rfl, _, _, rfl, rfl, ⟨n0, n1⟩, ?_⟩
      refine ⟨_, rfl, d, _, _, 0, rfl, rfl, hd, (by rfl), ?_⟩
      refine ⟨_, rfl, ?_⟩
      exact q _ _ (Int.emod_nonneg _ (by omega)) (Int.emod_lt_of_pos _ n0) ⟨_, _, _, upd_same⟩ fun b hb => upd_ne hb
    · -- mixed numbers
      refine ⟨_, rfl, d, _, _, _, rfl, rfl, SqL.of hd, (by rfl), _, _, rfl, rfl, ?_⟩
      refine ⟨_, rfl, d, _, _, 2, rfl, rfl, hd, (by rfl), ?_⟩
      have hd2 : (upd H d (.lst [.int a, .int b, .int (c + 1)])) d = some (.lst [.int a, .int b, .int (c + 1)]) := upd_same
      refine ⟨_, rfl, d, _, _, _, rfl, rfl, SqL.of hd2, (by rfl), _, rfl, d, _, _, _, rfl, rfl, SqL.of hd2, (by rfl), _, _, rfl, rfl, .inl (by decide), _, _, rfl, rfl,
        .inl ⟨_, rfl, _, _, rfl, rfl, (show (0 : Int) < 2305843009213693951 by decide), ?_⟩⟩
      refine ⟨_, rfl, _, rfl, _, _, rfl, rfl, .inl (under (b := 2305843009213693951) (by decide) (by decide) (by decide)), .inl ⟨_, rfl, _, _, rfl, rfl, (show (0 : Int) < 1152921504606846883 by decide), _, rfl,
        _, _, rfl, rfl, .inl (under (b := 1152921504606846883) (by decide) (by decide) (by decide)), _, rfl, d, _, _, _, rfl, rfl, SqL.of hd2, (by rfl), _, _, rfl, rfl, .inl (by decide), _, _, rfl, rfl, ?_⟩⟩
      refine ⟨_, rfl, _, rfl, d, _, _, _, rfl, rfl, SqL.of hd2, (by rfl), _, _, rfl, rfl, .inl ⟨_, rfl, _, _, rfl, rfl, (show (0 : Int) < 4398046511093 by decide), _, _, rfl, rfl, ⟨by decide, by decide⟩,
        .inl ⟨_, rfl, _, rfl, _, _, rfl, rfl, n0, ?_⟩⟩⟩
      exact q _ _ (Int.emod_nonneg _ (by omega)) (Int.emod_lt_of_pos _ n0) ⟨_, _, _, upd_same⟩ fun b hb => upd_ne hb
theorem scP : FnScope ["_law_dice_here", "_law_items"] ["_law_dice_here", "_law_items"] (defScope sPick) := ⟨rfl, rfl, rfl, by decide +kernel, rfl, by decide +kernel, by decide +kernel⟩
theorem ok_pick {f fR : Addr} {fd fdR : FuncData} (F : Fun K "_law_pick" "_law_pick" sPick f fd) (T : Blt mg) (FR : Fun K "_law_roll" "_law_roll" sRoll fR fdR)
    (gR : mg "_law_roll" = some (.ref fR)) (bR : Binds K fdR ["_law_dice_here", "_law_total"] []) :
    FnOk P w K mg base CX0 2 f fd ["_law_dice_here", "_law_items"] spPick := by
  have GR : FnOk P w K mg base CX0 1 fR fdR ["_law_dice_here", "_law_total"] spRoll := ok_roll FR T
  refine F.ok scP (fun vs H Q E h => ?_) (fun cdv A outer s H vs Q E hr h => ?_)
  · obtain ⟨d, l, xs, rfl, _⟩ := h
    rfl
  · obtain ⟨d, l, xs, rfl, hd, hl, ne, x0, x1, q⟩ := h
    refine ⟨_, pss_one (ps_ret (pe_ix ix_list (pv 1) (pe_call GR hr rfl gR FR.kp bR .nil pass0
      (pa_cons (pv 0) (pa_cons (pe_callB call_len (by rfl) T.len PySem.boot_len (pa_cons (pv 1) pa_nil)) pa_nil))) (fun _ _ => rfl))), ?_⟩
    refine ⟨_, rfl, _, rfl, _, rfl, .ref l, _, rfl, .inl ⟨_, SqL.of hl, rfl⟩, d, _, rfl, hd, (by omega), (by omega), fun r H' r0 r1 hd' same => ?_⟩
    obtain ⟨j, rfl⟩ := Int.eq_ofNat_of_zero_le r0
    have hj : j < xs.length := by omega
    refine ⟨l, xs, _, xs[j], rfl, rfl, SqL.of ((same l ne).trans hl), atI_nat (by simp [hj]), ?_⟩
    exact q _ _ (List.getElem_mem hj) hd' same
end
end LK
set_option Elab.async false
set_option linter.all false
set_option maxRecDepth 100000
set_option maxHeartbeats 4000000
namespace LK
open PySem L2 CG CGX
open PySem.W (kitOne Frag)
/-! ### the classes of errors -/
structure Cs where
  (gE iG iT iX iR iL iF iW iO pE uN nU tM iN rF : Addr)
def rowK (c : Cs) : List Value := [.ref c.iG, .ref c.iT, .ref c.iX, .ref c.iR, .ref c.iL, .ref c.iF, .ref c.iW, .ref c.iO, .ref c.pE, .ref c.gE, .type "ValueError"]
def rowO (c : Cs) : List Value := [.ref c.uN, .ref c.nU, .ref c.tM, .ref c.iN, .ref c.rF, .type "KeyError", .type "IndexError", .type "LookupError", .type "OverflowError", .type "ArithmeticError", .type "RuntimeError"]
structure Nm (mg : Str → Option Value) (c : Cs) : Prop where
  gE : mg "GrammarError" = some (.ref c.gE)
  iG : mg "InvalidGrammar" = some (.ref c.iG)
  iT : mg "InvalidTree" = some (.ref c.iT)
  iX : mg "InvalidText" = some (.ref c.iX)
  iR : mg "InvalidResolution" = some (.ref c.iR)
  iL : mg "InvalidLevels" = some (.ref c.iL)
  iF : mg "InvalidFilter" = some (.ref c.iF)
  iW : mg "InvalidWishes" = some (.ref c.iW)
  iO : mg "InvalidOperation" = some (.ref c.iO)
  pE : mg "ParseError" = some (.ref c.pE)
  uN : mg "UnknownName" = some (.ref c.uN)
  nU : mg "NothingToUndo" = some (.ref c.nU)
  tM : mg "TooMany" = some (.ref c.tM)
  iN : mg "InvalidNumber" = some (.ref c.iN)
  rF : mg "Refused" = some (.ref c.rF)
  isi : mg "isinstance" = none
  ve : mg "ValueError" = none
  ke : mg "KeyError" = none
  ie : mg "IndexError" = none
  le : mg "LookupError" = none
  oe : mg "OverflowError" = none
  ae : mg "ArithmeticError" = none
  re : mg "RuntimeError" = none
  range : mg "range" = none
  repr : mg "repr" = none
  str : mg "str" = none
  min : mg "min" = none
/-- what isinstance says of an exception of the class at C, class by class -/
def KitRow (K : Frag) (C : Addr) : List Value → List Bool → Prop
  | [], [] => True
  | u :: us, b :: bs => kitOne K (.ref C) u = some b ∧ KitRow K C us bs
  | _, _ => False
def sx (b : Bool) : Str := if b = true then "x" else "."
def dots (bs : List Bool) : Str := Txt.join "" (bs.map sx)
theorem same_upd {H : Hp} {p : Addr} {o : HO} (hp : H p = none) : Same H (upd H p o) := fun b u e => by
  rw [upd_ne (ne_of_none e hp)]; exact e
theorem _root_.CGX.ExAt.mono {H H' : Hp} {a C : Addr} (e : ExAt H a C) (s : Same H H') : ExAt H' a C := by
  rcases e with ⟨t, z⟩ | ⟨dx, fs, z, d⟩
  · exact .inl ⟨t, s _ _ z⟩
  · exact .inr ⟨dx, fs, s _ _ z, s _ _ d⟩
def spRow (K : Frag) (us : List Value) : Sp := fun vs H Q _ => ∃ (e C : Addr) (bs : List Bool), vs = [.ref e] ∧ ExAt H e C ∧ ExK K C ∧ KitRow K C us bs ∧
  ∀ H', Same H H' → Q (.str (dots bs)) H'
theorem sx_len (b : Bool) : (sx b).length = 1 := by cases b <;> decide +kernel
section
variable {P : Program} {w : World} {K : Frag} {mg : Str → Option Value} {base : Heap}
/-- the end of kinds and others: the row of truth values as one text -/
theorem row_end {X : Cx} {D : Ends} {σ : L2.St} {H5 : Hp} {p : Addr} {bs : List Bool} (hrt : ∀ H', Same H5 H' → D.rt (.str (dots bs)) H') (h5 : H5 p = some (.lst (bs.map V.bl)))
    (hσ : σ[1]? = some (some (.ref p))) (hl : σ.length = 3) (hb : bs.length ≤ 1000) :
    tRet (tM1 (fun x xs H Q => ∃ a p, ∃ ys : List Str, x = .str a ∧ xs = [.ref p] ∧ (SqL X.K H p (ys.map V.str) ∨ SqT X.K H p (ys.map V.str)) ∧
      (ys.map (·.length)).sum + ys.length * a.length ≤ 16777216 ∧ Q (.str (Txt.join a ys)) H) (tC (.str ""))
      (tLc (iList X.K (tVar 1)) (gName 2) tYes (tIf (tB (tVar 2)) (tC (.str "x")) (tC (.str "."))) [2])) D σ H5 := by
  obtain ⟨a, c, rfl⟩ : ∃ a c, σ = [a, some (.ref p), c] := by
    match σ, hσ, hl with
    | [a, b, c], hσ, _ => exact ⟨a, c, by rw [show b = some (.ref p) from Option.some.inj hσ]⟩
  refine ⟨⟨_, rfl⟩, _, rfl, p, rfl, ⟨_, SqL.of h5⟩, fun Dl nD => ?_⟩
  refine lc_list (K := X.K) (a := p) (xs := bs.map V.bl) (fun i H' => Same H5 H' ∧ H' Dl = some (.lst ((bs.take i).map fun b => V.str (sx b)))) ⟨same_upd nD, upd_same⟩
    (fun i H' _ z => z.1.seq (SqL.of h5)) ?_ ?_
  · rintro i x H' hx ⟨same, at'⟩
    rw [List.getElem?_map] at hx
    cases e : bs[i]? with
    | none => rw [e] at hx; cases hx
    | some b =>
      rw [e] at hx
      obtain rfl : x = .bl b := (Option.some.inj hx).symm
      have hi : i < bs.length := (List.getElem?_eq_some_iff.mp e).1
      have fin : ∀ y, y = V.str (sx b) → ∃ acc, H' Dl = some (HO.lst acc) ∧ acc.length < sizeLine ∧ Same H5 (upd H' Dl (.lst (acc ++ [y]))) ∧
          upd H' Dl (.lst (acc ++ [y])) Dl = some (HO.lst ((bs.take (i + 1)).map fun b => V.str (sx b))) := by
        rintro y rfl
        refine ⟨_, at', small1000 (by rw [List.length_map, List.length_take]; omega), fun c o z => ?_, ?_⟩
        · rw [upd_ne (ne_of_none z nD)]
          exact same c o z
        · rw [upd_same, List.take_add_one, e]
          simp
      refine ⟨rfl, ⟨_, rfl, b, rfl, ?_⟩⟩
      cases b with
      | true => exact fin _ rfl
      | false => exact fin _ rfl
  · rintro H' ⟨same, at'⟩
    rw [List.length_map, List.take_length] at at'
    refine ⟨_, Dl, bs.map sx, rfl, rfl, .inl (SqL.of (by rw [List.map_map]; exact at')), ?_, hrt H' same⟩
    have sum : ∀ l : List Bool, ((l.map sx).map (·.length)).sum = l.length := by
      intro l
      induction l with
      | nil => rfl
      | cons b l ih => simp only [List.map_cons, List.sum_cons, ih, sx_len, List.length_cons]; omega
    have len0 : ("" : Str).length = 0 := by decide +kernel
    rw [sum, List.length_map, len0]
    omega
theorem scK : FnScope ["_law_error", "_law_told", "_law_one"] ["_law_error"] (defScope sKinds) := ⟨rfl, rfl, rfl, by decide +kernel, rfl, by decide +kernel, by decide +kernel⟩
theorem ok_kinds {c : Cs} {f : Addr} {fd : FuncData} (F : Fun K "_law_kinds" "_law_kinds" sKinds f fd) (N : Nm mg c) (G : ExG K) :
    FnOk P w K mg base CX0 1 f fd ["_law_error"] (spRow K (rowK c)) := by
  refine F.ok scK (fun vs H Q E h => ?_) (fun cdv A outer s H vs Q E hr h => ?_)
  · obtain ⟨e, C, bs, rfl, _⟩ := h
    rfl
  · obtain ⟨e, C, bs, rfl, he, hk, row, q⟩ := h
    obtain ⟨b0, b1, b2, b3, b4, b5, b6, b7, b8, b9, b10, rfl, k0, k1, k2, k3, k4, k5, k6, k7, k8, k9, k10⟩ : ∃ b0 b1 b2 b3 b4 b5 b6 b7 b8 b9 b10, bs = [b0, b1, b2, b3, b4, b5, b6, b7, b8, b9, b10] ∧
        kitOne K (.ref C) (.ref c.iG) = some b0 ∧ kitOne K (.ref C) (.ref c.iT) = some b1 ∧ kitOne K (.ref C) (.ref c.iX) = some b2 ∧ kitOne K (.ref C) (.ref c.iR) = some b3 ∧
        kitOne K (.ref C) (.ref c.iL) = some b4 ∧ kitOne K (.ref C) (.ref c.iF) = some b5 ∧ kitOne K (.ref C) (.ref c.iW) = some b6 ∧ kitOne K (.ref C) (.ref c.iO) = some b7 ∧
        kitOne K (.ref C) (.ref c.pE) = some b8 ∧ kitOne K (.ref C) (.ref c.gE) = some b9 ∧ kitOne K (.ref C) (.type "ValueError") = some b10 := by
      match bs, row with
      | [b0, b1, b2, b3, b4, b5, b6, b7, b8, b9, b10], ⟨k0, k1, k2, k3, k4, k5, k6, k7, k8, k9, k10, _⟩ => exact ⟨_, _, _, _, _, _, _, _, _, _, _, rfl, k0, k1, k2, k3, k4, k5, k6, k7, k8, k9, k10⟩
    refine ⟨_, pss_cons (ps_set (i := 1) scK.nd rfl (Or.inl rfl) (pe_lst
          (pa_cons (pe_callB (call_isiE G) (by rfl) N.isi PyProof.Rows.boot_isinstance (pa_cons (pv 0) (pa_cons (pe_glob rfl N.iG (v := .ref c.iG) rfl) pa_nil)))
          (pa_cons (pe_callB (call_isiE G) (by rfl) N.isi PyProof.Rows.boot_isinstance (pa_cons (pv 0) (pa_cons (pe_glob rfl N.iT (v := .ref c.iT) rfl) pa_nil)))
          (pa_cons (pe_callB (call_isiE G) (by rfl) N.isi PyProof.Rows.boot_isinstance (pa_cons (pv 0) (pa_cons (pe_glob rfl N.iX (v := .ref c.iX) rfl) pa_nil))) pa_nil)))))
      (pss_cons (ps_set (i := 1) scK.nd rfl (Or.inl rfl) (pe_op op_cat (pv 1) (pe_lst
          (pa_cons (pe_callB (call_isiE G) (by rfl) N.isi PyProof.Rows.boot_isinstance (pa_cons (pv 0) (pa_cons (pe_glob rfl N.iR (v := .ref c.iR) rfl) pa_nil)))
          (pa_cons (pe_callB (call_isiE G) (by rfl) N.isi PyProof.Rows.boot_isinstance (pa_cons (pv 0) (pa_cons (pe_glob rfl N.iL (v := .ref c.iL) rfl) pa_nil))) pa_nil)))))
      (pss_cons (ps_set (i := 1) scK.nd rfl (Or.inl rfl) (pe_op op_cat (pv 1) (pe_lst
          (pa_cons (pe_callB (call_isiE G) (by rfl) N.isi PyProof.Rows.boot_isinstance (pa_cons (pv 0) (pa_cons (pe_glob rfl N.iF (v := .ref c.iF) rfl) pa_nil)))
          (pa_cons (pe_callB (call_isiE G) (by rfl) N.isi PyProof.Rows.boot_isinstance (pa_cons (pv 0) (pa_cons (pe_glob rfl N.iW (v := .ref c.iW) rfl) pa_nil))) pa_nil)))))
      (pss_cons (ps_set (i := 1) scK.nd rfl (Or.inl rfl) (pe_op op_cat (pv 1) (pe_lst
          (pa_cons (pe_callB (call_isiE G) (by rfl) N.isi PyProof.Rows.boot_isinstance (pa_cons (pv 0) (pa_cons (pe_glob rfl N.iO (v := .ref c.iO) rfl) pa_nil)))
          (pa_cons (pe_callB (call_isiE G) (by rfl) N.isi PyProof.Rows.boot_isinstance (pa_cons (pv 0) (pa_cons (pe_glob rfl N.pE (v := .ref c.pE) rfl) pa_nil))) pa_nil)))))
      (pss_cons (ps_set (i := 1) scK.nd rfl (Or.inl rfl) (pe_op op_cat (pv 1) (pe_lst
          (pa_cons (pe_callB (call_isiE G) (by rfl) N.isi PyProof.Rows.boot_isinstance (pa_cons (pv 0) (pa_cons (pe_glob rfl N.gE (v := .ref c.gE) rfl) pa_nil)))
          (pa_cons (pe_callB (call_isiE G) (by rfl) N.isi PyProof.Rows.boot_isinstance (pa_cons (pv 0) (pa_cons (pe_bltn (v := .ty "ValueError") (by rfl) N.ve boot_ValueError rfl) pa_nil))) pa_nil)))))
      (pss_one (ps_ret (pe_join pe_str (pe_lc (own := [("_law_one", 2)]) (g := gName 2) (tt := tYes) rfl scK.nd (pi_list (pv 1))
          (blkOk_by (N := ["_law_error", "_law_told", "_law_one"]) (sc := defScope sKinds) (by decide +kernel))
          (fun _ _ _ _ _ => pg_name (i := 2) scK.nd rfl (Or.inl rfl)) (fun _ _ _ _ _ => pts_nil)
          (fun _ _ _ _ _ => pe_ifExp (pt_val (pv 2)) pe_str pe_str))))))))), ?_⟩
    refine ⟨_, rfl, e, _, C, _, _, rfl, he, hk, .own _, k0, _, rfl, e, _, C, _, _, rfl, he, hk, .own _, k1, _, rfl, e, _, C, _, _, rfl, he, hk, .own _, k2,
      (by show 3 ≤ sizeLine; decide), fun p1 n1 => ?_⟩
    have s1 := he.mono (same_upd (o := .lst [.bl b0, .bl b1, .bl b2]) n1)
    refine ⟨_, rfl, _, rfl, e, _, C, _, _, rfl, s1, hk, .own _, k3, _, rfl, e, _, C, _, _, rfl, s1, hk, .own _, k4,
      (by show 2 ≤ sizeLine; decide), fun q1 m1 => ⟨_, _, _, _, rfl, rfl, (same_upd m1) _ _ upd_same, upd_same, (by show 5 ≤ sizeLine; decide), fun p2 n2 => ?_⟩⟩
    have s2 := (s1.mono (same_upd (o := .lst [.bl b3, .bl b4]) m1)).mono (same_upd (o := .lst [.bl b0, .bl b1, .bl b2, .bl b3, .bl b4]) n2)
    refine ⟨_, rfl, _, rfl, e, _, C, _, _, rfl, s2, hk, .own _, k5, _, rfl, e, _, C, _, _, rfl, s2, hk, .own _, k6,
      (by show 2 ≤ sizeLine; decide), fun q2 m2 => ⟨_, _, _, _, rfl, rfl, (same_upd m2) _ _ upd_same, upd_same, (by show 7 ≤ sizeLine; decide), fun p3 n3 => ?_⟩⟩
    have s3 := (s2.mono (same_upd (o := .lst [.bl b5, .bl b6]) m2)).mono (same_upd (o := .lst [.bl b0, .bl b1, .bl b2, .bl b3, .bl b4, .bl b5, .bl b6]) n3)
    refine ⟨_, rfl, _, rfl, e, _, C, _, _, rfl, s3, hk, .own _, k7, _, rfl, e, _, C, _, _, rfl, s3, hk, .own _, k8,
      (by show 2 ≤ sizeLine; decide), fun q3 m3 => ⟨_, _, _, _, rfl, rfl, (same_upd m3) _ _ upd_same, upd_same, (by show 9 ≤ sizeLine; decide), fun p4 n4 => ?_⟩⟩
    have s4 := (s3.mono (same_upd (o := .lst [.bl b7, .bl b8]) m3)).mono (same_upd (o := .lst [.bl b0, .bl b1, .bl b2, .bl b3, .bl b4, .bl b5, .bl b6, .bl b7, .bl b8]) n4)
    refine ⟨_, rfl, _, rfl, e, _, C, _, _, rfl, s4, hk, .own _, k9, _, rfl, e, _, C, _, _, rfl, s4, hk, .ty _, k10,
      (by show 2 ≤ sizeLine; decide), fun q4 m4 => ⟨_, _, _, _, rfl, rfl, (same_upd m4) _ _ upd_same, upd_same, (by show 11 ≤ sizeLine; decide), fun p5 n5 => ?_⟩⟩
    -- all is as it was but for new lists
    obtain ⟨H5, eH, all5, at5⟩ : ∃ H5 : Hp, H5 = _ ∧ Same H H5 ∧ H5 p5 = some (.lst ([b0, b1, b2, b3, b4, b5, b6, b7, b8, b9, b10].map V.bl)) := ⟨_, rfl,
      (((((((((same_upd n1).trans (same_upd m1)).trans (same_upd n2)).trans (same_upd m2)).trans (same_upd n3)).trans (same_upd m3)).trans (same_upd n4)).trans (same_upd m4)).trans (same_upd n5)), upd_same⟩
    subst eH
    exact row_end (fun H' z => q H' (all5.trans z)) at5 rfl rfl (by show 11 ≤ 1000; decide)
theorem scO : FnScope ["_law_error", "_law_told", "_law_one"] ["_law_error"] (defScope sOthers) := ⟨rfl, rfl, rfl, by decide +kernel, rfl, by decide +kernel, by decide +kernel⟩
theorem ok_others {c : Cs} {f : Addr} {fd : FuncData} (F : Fun K "_law_others" "_law_others" sOthers f fd) (N : Nm mg c) (G : ExG K) :
    FnOk P w K mg base CX0 1 f fd ["_law_error"] (spRow K (rowO c)) := by
  refine F.ok scO (fun vs H Q E h => ?_) (fun cdv A outer s H vs Q E hr h => ?_)
  · obtain ⟨e, C, bs, rfl, _⟩ := h
    rfl
  · obtain ⟨e, C, bs, rfl, he, hk, row, q⟩ := h
    obtain ⟨b0, b1, b2, b3, b4, b5, b6, b7, b8, b9, b10, rfl, k0, k1, k2, k3, k4, k5, k6, k7, k8, k9, k10⟩ : ∃ b0 b1 b2 b3 b4 b5 b6 b7 b8 b9 b10, bs = [b0, b1, b2, b3, b4, b5, b6, b7, b8, b9, b10] ∧
        kitOne K (.ref C) (.ref c.uN) = some b0 ∧ kitOne K (.ref C) (.ref c.nU) = some b1 ∧ kitOne K (.ref C) (.ref c.tM) = some b2 ∧ kitOne K (.ref C) (.ref c.iN) = some b3 ∧
        kitOne K (.ref C) (.ref c.rF) = some b4 ∧ kitOne K (.ref C) (.type "KeyError") = some b5 ∧ kitOne K (.ref C) (.type "IndexError") = some b6 ∧ kitOne K (.ref C) (.type "LookupError") = some b7 ∧
        kitOne K (.ref C) (.type "OverflowError") = some b8 ∧ kitOne K (.ref C) (.type "ArithmeticError") = some b9 ∧ kitOne K (.ref C) (.type "RuntimeError") = some b10 := by
      match bs, row with
      | [b0, b1, b2, b3, b4, b5, b6, b7, b8, b9, b10], ⟨k0, k1, k2, k3, k4, k5, k6, k7, k8, k9, k10, _⟩ => exact ⟨_, _, _, _, _, _, _, _, _, _, _, rfl, k0, k1, k2, k3, k4, k5, k6, k7, k8, k9, k10⟩
    refine ⟨_, pss_cons (ps_set (i := 1) scO.nd rfl (Or.inl rfl) (pe_lst (pa_cons (pe_callB (call_isiE G) (by rfl) N.isi PyProof.Rows.boot_isinstance (pa_cons (pv 0) (pa_cons (pe_glob rfl N.uN (v := .ref c.uN) rfl) pa_nil)))
          (pa_cons (pe_callB (call_isiE G) (by rfl) N.isi PyProof.Rows.boot_isinstance (pa_cons (pv 0) (pa_cons (pe_glob rfl N.nU (v := .ref c.nU) rfl) pa_nil)))
          (pa_cons (pe_callB (call_isiE G) (by rfl) N.isi PyProof.Rows.boot_isinstance (pa_cons (pv 0) (pa_cons (pe_glob rfl N.tM (v := .ref c.tM) rfl) pa_nil))) pa_nil)))))
      (pss_cons (ps_set (i := 1) scO.nd rfl (Or.inl rfl) (pe_op op_cat (pv 1) (pe_lst (pa_cons (pe_callB (call_isiE G) (by rfl) N.isi PyProof.Rows.boot_isinstance (pa_cons (pv 0) (pa_cons (pe_glob rfl N.iN (v := .ref c.iN) rfl) pa_nil)))
          (pa_cons (pe_callB (call_isiE G) (by rfl) N.isi PyProof.Rows.boot_isinstance (pa_cons (pv 0) (pa_cons (pe_glob rfl N.rF (v := .ref c.rF) rfl) pa_nil)))
          (pa_cons (pe_callB (call_isiE G) (by rfl) N.isi PyProof.Rows.boot_isinstance (pa_cons (pv 0) (pa_cons (pe_bltn (v := .ty "KeyError") (by rfl) N.ke (by decide +kernel) rfl) pa_nil))) pa_nil))))))
      (pss_cons (ps_set (i := 1) scO.nd rfl (Or.inl rfl) (pe_op op_cat (pv 1) (pe_lst (pa_cons (pe_callB (call_isiE G) (by rfl) N.isi PyProof.Rows.boot_isinstance (pa_cons (pv 0) (pa_cons (pe_bltn (v := .ty "IndexError") (by rfl) N.ie (by decide +kernel) rfl) pa_nil)))
          (pa_cons (pe_callB (call_isiE G) (by rfl) N.isi PyProof.Rows.boot_isinstance (pa_cons (pv 0) (pa_cons (pe_bltn (v := .ty "LookupError") (by rfl) N.le (by decide +kernel) rfl) pa_nil)))
          (pa_cons (pe_callB (call_isiE G) (by rfl) N.isi PyProof.Rows.boot_isinstance (pa_cons (pv 0) (pa_cons (pe_bltn (v := .ty "OverflowError") (by rfl) N.oe (by decide +kernel) rfl) pa_nil))) pa_nil))))))
      (pss_cons (ps_set (i := 1) scO.nd rfl (Or.inl rfl) (pe_op op_cat (pv 1) (pe_lst (pa_cons (pe_callB (call_isiE G) (by rfl) N.isi PyProof.Rows.boot_isinstance (pa_cons (pv 0) (pa_cons (pe_bltn (v := .ty "ArithmeticError") (by rfl) N.ae (by decide +kernel) rfl) pa_nil)))
          (pa_cons (pe_callB (call_isiE G) (by rfl) N.isi PyProof.Rows.boot_isinstance (pa_cons (pv 0) (pa_cons (pe_bltn (v := .ty "RuntimeError") (by rfl) N.re (by decide +kernel) rfl) pa_nil))) pa_nil)))))
      (pss_one (ps_ret (pe_join pe_str (pe_lc (own := [("_law_one", 2)]) (g := gName 2) (tt := tYes) rfl scO.nd (pi_list (pv 1))
          (blkOk_by (N := ["_law_error", "_law_told", "_law_one"]) (sc := defScope sOthers) (by decide +kernel))
          (fun _ _ _ _ _ => pg_name (i := 2) scO.nd rfl (Or.inl rfl)) (fun _ _ _ _ _ => pts_nil)
          (fun _ _ _ _ _ => pe_ifExp (pt_val (pv 2)) pe_str pe_str)))))))), ?_⟩
    refine ⟨_, rfl, e, _, C, _, _, rfl, he, hk, .own _, k0, _, rfl, e, _, C, _, _, rfl, he, hk, .own _, k1, _, rfl, e, _, C, _, _, rfl, he, hk, .own _, k2,
      (by show 3 ≤ sizeLine; decide), fun p1 n1 => ?_⟩
    have s1 := he.mono (same_upd (o := .lst [.bl b0, .bl b1, .bl b2]) n1)
    refine ⟨_, rfl, _, rfl, e, _, C, _, _, rfl, s1, hk, .own _, k3, _, rfl, e, _, C, _, _, rfl, s1, hk, .own _, k4, _, rfl, e, _, C, _, _, rfl, s1, hk, .ty _, k5,
      (by show 3 ≤ sizeLine; decide), fun q1 m1 => ⟨_, _, _, _, rfl, rfl, (same_upd m1) _ _ upd_same, upd_same, (by show 6 ≤ sizeLine; decide), fun p2 n2 => ?_⟩⟩
    have s2 := (s1.mono (same_upd (o := .lst [.bl b3, .bl b4, .bl b5]) m1)).mono (same_upd (o := .lst [.bl b0, .bl b1, .bl b2, .bl b3, .bl b4, .bl b5]) n2)
    refine ⟨_, rfl, _, rfl, e, _, C, _, _, rfl, s2, hk, .ty _, k6, _, rfl, e, _, C, _, _, rfl, s2, hk, .ty _, k7, _, rfl, e, _, C, _, _, rfl, s2, hk, .ty _, k8,
      (by show 3 ≤ sizeLine; decide), fun q2 m2 => ⟨_, _, _, _, rfl, rfl, (same_upd m2) _ _ upd_same, upd_same, (by show 9 ≤ sizeLine; decide), fun p3 n3 => ?_⟩⟩
    have s3 := (s2.mono (same_upd (o := .lst [.bl b6, .bl b7, .bl b8]) m2)).mono (same_upd (o := .lst [.bl b0, .bl b1, .bl b2, .bl b3, .bl b4, .bl b5, .bl b6, .bl b7, .bl b8]) n3)
    refine ⟨_, rfl, _, rfl, e, _, C, _, _, rfl, s3, hk, .ty _, k9, _, rfl, e, _, C, _, _, rfl, s3, hk, .ty _, k10,
      (by show 2 ≤ sizeLine; decide), fun q3 m3 => ⟨_, _, _, _, rfl, rfl, (same_upd m3) _ _ upd_same, upd_same, (by show 11 ≤ sizeLine; decide), fun p4 n4 => ?_⟩⟩
    obtain ⟨H5, eH, all5, at5⟩ : ∃ H5 : Hp, H5 = _ ∧ Same H H5 ∧ H5 p4 = some (.lst ([b0, b1, b2, b3, b4, b5, b6, b7, b8, b9, b10].map V.bl)) := ⟨_, rfl,
      (((((((same_upd n1).trans (same_upd m1)).trans (same_upd n2)).trans (same_upd m2)).trans (same_upd n3)).trans (same_upd m3)).trans (same_upd n4)), upd_same⟩
    subst eH
    exact row_end (fun H' z => q H' (all5.trans z)) at5 rfl rfl (by show 11 ≤ 1000; decide)
end
end LK
set_option Elab.async false
set_option linter.all false
set_option maxRecDepth 100000
set_option maxHeartbeats 4000000
namespace LK
open PySem L2 CG CGX PyProof.Rows
open PySem.W (kitOne Frag)
/-! ### the odd arguments, as data -/
def dOdd : PyData := .dict [(.str "a", .tuple [])]
def things : List PyData := [.none, .int 0, .int (-1), .bool true, .int (10 ^ 59), .str "", .str "num", .str "no such", .tuple [], .tuple [.str "a", .int 1], .list [.int 1],
  .tuple [.str "clash", .tuple [.int 4, .str "else"], .tuple []]]
def five (d : PyData) : PyData := .list [d, d, d, d, d]
def fine (d : PyData) : Bool := (five d).showable && decide ((five d).depth ≤ 9) && decide ((five d).shown.length ≤ 10000)
theorem fine_things : things.all (fun d => fine d && !(five d).hasDict) = true := by decide +kernel
theorem fine_odd : fine dOdd = true := by decide +kernel
/-- what is drawn: data, or the dict with one key -/
def Thing (K : Frag) (H : Hp) (v : V) : Prop := (∃ d, d ∈ things ∧ Dp K H v d) ∨
  ∃ a t, v = .ref a ∧ H a = some (.dK [(.inr "a", .ref t)]) ∧ H t = some (.tup [])
theorem Same.tup {H H' : Hp} {a : Addr} {xs : List V} {K : Frag} (e : Same H H') (h : SqT K H a xs) : SqT K H' a xs := by
  rcases h with (h | ⟨o, h⟩) | h
  · exact .inl (.inl (e _ _ h))
  · exact .inl (.inr ⟨o, e _ _ h⟩)
  · exact .inr h
mutual
theorem dp_mono {K : Frag} {H H' : Hp} (e : Same H H') : ∀ (d : PyData) (v : V), Dp K H v d → Dp K H' v d
  | .none, _, h => by cases h; exact .non
  | .bool b, _, h => by cases h; exact .bl b
  | .int i, _, h => by cases h; exact .int i
  | .str x, _, h => by cases h; exact .str x
  | .list ds, _, h => by
    cases h with
    | lst hs ha => exact .lst (e.seq hs) (dpAll_mono e ds _ ha)
  | .tuple ds, _, h => by
    cases h with
    | tup hs ha => exact .tup (Same.tup e hs) (dpAll_mono e ds _ ha)
  | .dict _, _, h => by cases h
theorem dpAll_mono {K : Frag} {H H' : Hp} (e : Same H H') : ∀ (ds : List PyData) (vs : List V), DpAll K H vs ds → DpAll K H' vs ds
  | [], _, h => by cases h; exact .nil
  | d :: ds, _, h => by
    cases h with
    | cons h1 h2 => exact .cons (dp_mono e d _ h1) (dpAll_mono e ds _ h2)
end
theorem Thing.mono {K : Frag} {H H' : Hp} {v : V} (e : Same H H') (t : Thing K H v) : Thing K H' v := by
  rcases t with ⟨d, m, h⟩ | ⟨a, t, rfl, h1, h2⟩
  · exact .inl ⟨d, m, dp_mono e d v h⟩
  · exact .inr ⟨a, t, rfl, e _ _ h1, e _ _ h2⟩
/-- repr of five times the same: the same text, wherever the list stands -/
theorem reads_five {X : Cx} {H : Hp} {v : V} (th : Thing X.K H v) :
    ∃ d, fine d = true ∧ ∀ H' q, Same H H' → q ≠ sysModules → H' q = some (.lst [v, v, v, v, v]) → ReadsAs X H' (.ref q) (five d) := by
  rcases th with ⟨d, m, h⟩ | ⟨a, t, rfl, h1, h2⟩
  · have ok := List.all_eq_true.mp fine_things d m
    rw [Bool.and_eq_true] at ok
    refine ⟨d, ok.1, fun H' q same nq hq pins σ s u I ru => ?_⟩
    have dp := dp_mono same d v h
    obtain ⟨as, r⟩ := Dp.reads I (five d) (.ref q) u (.lst (SqL.of hq) (.cons dp (.cons dp (.cons dp (.cons dp (.cons dp .nil)))))) ru
    refine ⟨as, r, fun z => ?_⟩
    have no := ok.2
    rw [z] at no
    cases no
  · refine ⟨dOdd, fine_odd, fun H' q same nq hq pins σ s u I ru => ?_⟩
    have ru' : u = Value.ref q := ru
    subst ru'
    have lq : ObjOk X.prog X.w H' s.heap q (.lst [.ref a, .ref a, .ref a, .ref a, .ref a]) := I.hok q _ hq
    obtain ⟨_, its, n, rv, hl⟩ := lq
    have la := same _ _ h1
    have ld : ObjOk X.prog X.w H' s.heap a (.dK [(.inr "a", .ref t)]) := I.hok a _ la
    obtain ⟨_, na, vs, kv, o, es, ep, ho, hx, hd, _, pr, _⟩ := ld
    have lt : ObjOk X.prog X.w H' s.heap t (.tup []) := I.hok t _ (same _ _ h2)
    obtain ⟨_, tis, rt, ot, e1, e2, n2, e3⟩ := lt
    cases rt
    obtain ⟨u1, rfl, k1, r1⟩ : ∃ u1, vs = [u1] ∧ (Sum.inr "a" : Key) = u1.1 ∧ RelV (.ref t) u1.2 := by
      cases kv with
      | cons z zs => cases zs; exact ⟨_, rfl, z.1, z.2⟩
    have r1' : u1.2 = Value.ref t := r1
    obtain ⟨en, hes, hk, hv⟩ : ∃ en, es.toList = [en] ∧ (mixKind X.prog X.w).is u1.1 en.key = true ∧ en.val = u1.2 := by
      generalize es.toList = l at pr
      cases pr with
      | cons p1 p2 p3 => cases p3; exact ⟨_, rfl, p1, p2⟩
    have hk' : keyIs (.inr "a") en.key = true := by rw [k1]; exact hk
    obtain ⟨tk, key⟩ : ∃ tk, en.key = Value.str "a" tk := by
      rcases keyIs_shape hk' with ⟨i, t, z, _⟩ | ⟨x, t, z, e⟩
      · cases z
      · cases z; exact ⟨t, e⟩
    have rd : Reads s.heap (.ref a) dOdd (a :: ([] ++ []) ++ ([] ++ [])) := by
      refine Reads.dict ho hx.1 hd ?_ ?_
      · rw [hes]
        show ReadsAll s.heap [en.key] [PyData.str "a"] _
        rw [key]
        exact .cons (.str _ _) .nil
      · rw [hes]
        show ReadsAll s.heap [en.val] [PyData.tuple []] _
        rw [hv, r1']
        exact .cons (Reads.tuple e1 e2 e3 .nil) .nil
    have all : ∀ {vs us}, Vals vs us → (∀ x ∈ vs, x = V.ref a) → ∃ as, ReadsAll s.heap us (vs.map fun _ => dOdd) as ∧ ∀ b ∈ as, b = a := by
      intro vs us r
      induction r with
      | nil => intro _; exact ⟨[], .nil, fun _ z => nomatch z⟩
      | cons r0 rr ih =>
        intro hall
        obtain ⟨as, ra, hb⟩ := ih fun x hx => hall x (List.mem_cons_of_mem _ hx)
        have e0 := hall _ List.mem_cons_self
        rw [e0] at r0
        have r0' : _ = Value.ref a := r0
        subst r0'
        refine ⟨_, .cons rd ra, fun b hm => ?_⟩
        rcases List.mem_append.mp hm with z | z
        · simpa using z
        · exact hb b z
    obtain ⟨as, ra, hb⟩ := all rv (by simp)
    refine ⟨q :: as, Reads.list hl rfl rfl (by simpa using ra), fun _ z => ?_⟩
    rcases List.mem_cons.mp z with z | z
    · exact nq z.symm
    · rw [← hb _ z] at na
      exact absurd na (by simp)
end LK
set_option Elab.async false
set_option linter.all false
set_option maxRecDepth 100000
set_option maxHeartbeats 4000000
namespace LK
open PySem L2 CG CGX
open PySem.W (kitOne Frag findIn hasDictIn keepIn excIn)
/-! ### what is asked of the classes -/
abbrev veTail : List Value := [.type "ValueError", .type "Exception", .type "BaseException", .type "object"]
structure ClsA (K : Frag) (c : Cs) (C : Addr) (bk bo : List Bool) : Prop where
  q : excIn K C veTail "ValueError.__new__" = true
  kp : keepIn K (.ref C) = true
  ek : ExK K C
  st : findIn K (.ref C) "__str__" = some (some (.builtin "BaseException.__str__"))
  rk : KitRow K C (rowK c) bk
  ro : KitRow K C (rowO c) bo
structure ClsI (K : Frag) (mg : Str → Option Value) (c : Cs) (cn nm : Str) (newId : String) (bmB : List Value) (C fI : Addr) (bk bo : List Bool) : Prop where
  T : InitTxt K mg cn nm newId bmB C fI
  ek : ExK K C
  no : findIn K (.ref C) nm = some none
  rk : KitRow K C (rowK c) bk
  ro : KitRow K C (rowO c) bo
def kR (i : Nat) : List Bool := (List.range 9).map (fun j => j == i) ++ [true, true]
def none11 : List Bool := List.replicate 11 false
abbrev keMro : List Value := [.type "KeyError", .type "LookupError", .type "Exception", .type "BaseException", .type "object"]
abbrev ieMro : List Value := [.type "IndexError", .type "LookupError", .type "Exception", .type "BaseException", .type "object"]
abbrev oeMro : List Value := [.type "OverflowError", .type "ArithmeticError", .type "Exception", .type "BaseException", .type "object"]
abbrev reMro : List Value := [.type "RuntimeError", .type "Exception", .type "BaseException", .type "object"]
abbrev aeMro : List Value := [.type "ArithmeticError", .type "Exception", .type "BaseException", .type "object"]
def oU : List Bool := [true, false, false, false, false, true, false, true, false, false, false]
def oN : List Bool := [false, true, false, false, false, false, true, true, false, false, false]
def oT : List Bool := [false, false, true, false, false, false, false, false, true, true, false]
def oI : List Bool := [false, false, false, true, false, false, false, false, false, false, true]
def oR : List Bool := [false, false, false, false, true, false, false, false, false, true, false]
structure Fx (K : Frag) (mg : Str → Option Value) (c : Cs) (f1 f2 f3 f4 f5 f6 : Addr) : Prop where
  N : Nm mg c
  B : Blt mg
  G : ExG K
  gE : ClsA K c c.gE (kR 9) none11
  iG : ClsA K c c.iG (kR 0) none11
  iT : ClsA K c c.iT (kR 1) none11
  iX : ClsA K c c.iX (kR 2) none11
  iR : ClsA K c c.iR (kR 3) none11
  iL : ClsA K c c.iL (kR 4) none11
  iF : ClsA K c c.iF (kR 5) none11
  iW : ClsA K c c.iW (kR 6) none11
  iO : ClsA K c c.iO (kR 7) none11
  pE : ClsI K mg c "ParseError" "line" "ValueError.__new__" veTail c.pE f1 (kR 8) none11
  uN : ClsI K mg c "UnknownName" "wanted" "LookupError.__new__" keMro c.uN f2 none11 oU
  nU : ClsI K mg c "NothingToUndo" "many" "IndexError.__new__" ieMro c.nU f3 none11 oN
  tM : ClsI K mg c "TooMany" "limit" "OverflowError.__new__" oeMro c.tM f4 none11 oT
  iN : ClsI K mg c "InvalidNumber" "given" "RuntimeError.__new__" reMro c.iN f5 none11 oI
  rF : ClsI K mg c "Refused" "reason" "ArithmeticError.__new__" aeMro c.rF f6 none11 oR
abbrev NR : List Str := ["_law_dice_here", "_law_some", "_law_thing", "_law_words", "_law_base", "_law_due", "_law_others_here", "_law_kept", "_law_at", "_law_one"]
theorem scX : FnScope NR ["_law_dice_here"] (defScope sRight) := ⟨rfl, rfl, rfl, by decide +kernel, rfl, by decide +kernel, by decide +kernel⟩
abbrev XR (P : Program) (w : World) (K : Frag) (mg : Str → Option Value) (base : Heap) (f : Addr) (cdv : Value) (A : Around) (outer : List Env) (s : Shared) (H : Hp) (E : XK) : Cx :=
  cxOf CX0 P w K mg base NR "_law_right" (defScope sRight) f cdv A outer s H E
/-- an exception at a, of the class at C, whose field nm is v -/
def FAt (H : Hp) (a C : Addr) (nm : Str) (v : V) : Prop := ∃ dx, H a = some (evF a C dx) ∧ H dx = some (.xd [(nm, v)])
theorem FAt.mono {H H' : Hp} {a C : Addr} {nm : Str} {v : V} (s : Same H H') (h : FAt H a C nm v) : FAt H' a C nm v := by
  obtain ⟨dx, x, y⟩ := h
  exact ⟨dx, s _ _ x, s _ _ y⟩
theorem FAt.ex {H : Hp} {a C : Addr} {nm : Str} {v : V} (h : FAt H a C nm v) : ExAt H a C := by
  obtain ⟨dx, x, y⟩ := h
  exact .inr ⟨dx, _, x, y⟩
section
variable {P : Program} {w : World} {K : Frag} {mg : Str → Option Value} {base : Heap} {c : Cs} {f1 f2 f3 f4 f5 f6 : Addr} {f : Addr} {cdv : Value} {A : Around} {outer : List Env} {s : Shared} {H0 : Hp} {E : XK}
/-- kept = [..]; return repr(kept) == repr([thing] * 5) -/
theorem stage_E (T : Fx K mg c f1 f2 f3 f4 f5 f6) (hg : A.guards = some []) (hr : Room 0 (A.deeper (PyProof.Rows.envOfC "_law_right" (defScope sRight) s.heap.objs.size f cdv))) :
    ∃ t, PSs (XR P w K mg base f cdv A outer s H0 E) ((defBody sRight).drop 13) t ∧
      ∀ (D : Ends) (x0 x1 x3 x4 x5 x7 x8 x9 : Option V) (v : V) (po a1 a2 a3 a4 a5 : Addr) (H : Hp), H po = some (.lst [.ref a1, .ref a2, .ref a3, .ref a4, .ref a5]) →
        FAt H a1 c.uN "wanted" v → FAt H a2 c.nU "many" v → FAt H a3 c.tM "limit" v → FAt H a4 c.iN "given" v → FAt H a5 c.rF "reason" v → Thing K H v →
        (∀ H', Same H H' → D.rt (.bl true) H') → t D [x0, x1, some v, x3, x4, x5, some (.ref po), x7, x8, x9] H := by
  refine ⟨_, pss_cons (ps_set (i := 7) scX.nd rfl (Or.inl rfl) (pe_lstN
      (pa_cons (pe_fldE (pe_ix ix_list (pv 6) pe_int (fun _ _ => rfl))) (pa_cons (pe_fldE (pe_ix ix_list (pv 6) pe_int (fun _ _ => rfl)))
      (pa_cons (pe_fldE (pe_ix ix_list (pv 6) pe_int (fun _ _ => rfl))) (pa_cons (pe_fldE (pe_ix ix_list (pv 6) pe_int (fun _ _ => rfl)))
      (pa_cons (pe_fldE (pe_ix ix_list (pv 6) pe_int (fun _ _ => rfl))) pa_nil)))))))
    (pss_one (ps_ret (pe_cmpR op_eq (pe_callB (call_repr_data hg) (by rfl) T.N.repr PyProof.Rows.boot_repr (pa_cons (pv 7) pa_nil))
      (pe_callB (call_repr_data hg) (by rfl) T.N.repr PyProof.Rows.boot_repr (pa_cons (pe_op op_repN (pe_lst (pa_cons (pv 2) pa_nil)) pe_int) pa_nil)) (nomark _)))), ?_⟩
  intro D x0 x1 x3 x4 x5 x7 x8 x9 v po a1 a2 a3 a4 a5 H hpo ⟨d1, e1, g1⟩ ⟨d2, e2, g2⟩ ⟨d3, e3, g3⟩ ⟨d4, e4, g4⟩ ⟨d5, e5, g5⟩ th fin
  obtain ⟨d, ok, rd⟩ := reads_five (X := XR P w K mg base f cdv A outer s H0 E) th
  refine ⟨_, rfl, po, _, _, _, rfl, rfl, SqL.of hpo, (by rfl), a1, _, d1, v, rfl, T.uN.ek, T.uN.no, T.uN.T.hd, e1, g1,
    _, rfl, po, _, _, _, rfl, rfl, SqL.of hpo, (by rfl), a2, _, d2, v, rfl, T.nU.ek, T.nU.no, T.nU.T.hd, e2, g2,
    _, rfl, po, _, _, _, rfl, rfl, SqL.of hpo, (by rfl), a3, _, d3, v, rfl, T.tM.ek, T.tM.no, T.tM.T.hd, e3, g3,
    _, rfl, po, _, _, _, rfl, rfl, SqL.of hpo, (by rfl), a4, _, d4, v, rfl, T.iN.ek, T.iN.no, T.iN.T.hd, e4, g4,
    _, rfl, po, _, _, _, rfl, rfl, SqL.of hpo, (by rfl), a5, _, d5, v, rfl, T.rF.ek, T.rF.no, T.rF.T.hd, e5, g5, (by show 5 ≤ sizeLine; decide), fun pk nk fk => ?_⟩
  have ok' := ok
  unfold fine at ok'
  rw [Bool.and_eq_true, Bool.and_eq_true, decide_eq_true_eq, decide_eq_true_eq] at ok'
  have room : (XR P w K mg base f cdv A outer s H0 E).A.units + ((five d).depth + 1) < cLine := by
    have := hr.units
    have := ok'.1.2
    show (A.deeper _).units + _ < cLine
    omega
  have short : (five d).shown.length ≤ sizeLine := Nat.le_trans ok'.2 (by decide)
  have sk : Same H (upd H pk (.lst [v, v, v, v, v])) := same_upd nk
  refine ⟨_, rfl, pk, five d, rfl, rd _ _ sk fk upd_same, ok'.1.1, room, short, _, rfl, (by show 1 ≤ sizeLine; decide), fun p1 n1 => ?_⟩
  refine ⟨p1, 5, v, rfl, rfl, upd_same, by decide, by decide, fun p2 n2 f2' => ?_⟩
  have s2 := (sk.trans (same_upd (o := .lst [v]) n1)).trans (same_upd (o := .lst (List.replicate (5 : Int).toNat v)) n2)
  refine ⟨p2, five d, rfl, rd _ _ s2 f2' upd_same, ok'.1.1, room, short, rfl, ?_⟩
  rw [decide_eq_true rfl]
  exact fin _ s2
end
end LK
set_option Elab.async false
set_option linter.all false
set_option maxRecDepth 100000
set_option maxHeartbeats 4000000
namespace LK
open PySem L2 CG CGX
open PySem.W (kitOne Frag findIn hasDictIn keepIn excIn)
/-! ### comprehensions over exceptions -/
theorem wipe9 {σ : L2.St} {x : Option V} : wipe ((wipe σ [9]).set 9 x) [9] = wipe σ [9] := by
  show ((σ.set 9 none).set 9 x).set 9 none = σ.set 9 none
  rw [List.set_set, List.set_set]
/-- at each place an exception of a class of which the row is told -/
def Rows (K : Frag) (us : List Value) (H : Hp) (xs : List V) (rs : List (List Bool)) : Prop :=
  rs.length = xs.length ∧ ∀ (i : Nat) (x : V), xs[i]? = some x → ∃ e C bs, x = V.ref e ∧ ExAt H e C ∧ ExK K C ∧ KitRow K C us bs ∧ rs[i]? = some bs
theorem Rows.mono {K : Frag} {us : List Value} {H H' : Hp} {xs : List V} {rs : List (List Bool)} (s : Same H H') (h : Rows K us H xs rs) : Rows K us H' xs rs :=
  ⟨h.1, fun i x e => by
    obtain ⟨a, C, bs, r1, r2, r⟩ := h.2 i x e
    exact ⟨a, C, bs, r1, r2.mono s, r⟩⟩
theorem lc_rows {K : Frag} {us : List Value} {σ : L2.St} {H : Hp} {Q : VK} {p : Addr} {xs : List V} {rs : List (List Bool)} {j : Nat} (hj : σ[j]? = some (some (.ref p))) (hl : 9 < σ.length)
    (hp : H p = some (.lst xs)) (hx : Rows K us H xs rs) (few : xs.length ≤ 1000)
    (fin : ∀ H' D, Same H H' → H' D = some (.lst ((rs.map dots).map V.str)) → Q (.ref D) H') :
    tLc (iList K (tVar j)) (gName 9) tYes (tCall (spRow K us) [] E0 (tCons (tVar 9) tNil)) [9] σ H Q := by
  refine ⟨_, hj, p, rfl, ⟨_, SqL.of hp⟩, fun D nD => ?_⟩
  refine lc_list (K := K) (a := p) (xs := xs) (fun i H' => Same H H' ∧ H' D = some (.lst (((rs.take i).map dots).map V.str))) ⟨same_upd nD, upd_same⟩
    (fun i H' _ z => z.1.seq (SqL.of hp)) ?_ ?_
  · rintro i x H' hi ⟨same, at'⟩
    obtain ⟨e, C, bs, rfl, ex, ek, row, rb⟩ := hx.2 i x hi
    have il : i < xs.length := (List.getElem?_eq_some_iff.mp hi).1
    refine ⟨wipe9, _, List.getElem?_set_self (by show 9 < (σ.set 9 none).length; rw [List.length_set]; exact hl), e, C, bs, rfl, ex.mono same, ek, row, fun H2 s2 => ?_⟩
    have at2 := s2 _ _ at'
    refine ⟨_, at2, small1000 (by rw [List.length_map, List.length_map, List.length_take]; omega), fun b o z => ?_, ?_⟩
    · rw [upd_ne (ne_of_none z nD)]
      exact s2 _ _ (same _ _ z)
    · rw [upd_same, List.take_add_one, rb]
      simp
  · rintro H' ⟨same, at'⟩
    rw [← hx.1, List.take_length] at at'
    exact fin H' D same at'
/-- two lists of the same texts are not unlike -/
def txtOk (zs : List Str) : Bool := PyData.canLayAll0 (zs.map PyData.str)
theorem depth_strs : ∀ zs : List Str, PyData.depthAll (zs.map PyData.str) = 0 := by
  intro zs
  induction zs with
  | nil => rfl
  | cons z zs ih =>
    show max (PyData.depth (.str z)) (PyData.depthAll (zs.map PyData.str)) = 0
    rw [ih]
    rfl
theorem shaped_strs {zs : List Str} (h : txtOk zs = true) : SeqAt.shaped (.list (zs.map PyData.str)) = true := by
  unfold SeqAt.shaped
  rw [show PyData.canLay0 (.list (zs.map PyData.str)) = true from h, show PyData.depth (.list (zs.map PyData.str)) = 1 by
    show PyData.depthAll (zs.map PyData.str) + 1 = 1
    rw [depth_strs]]
  rfl
theorem dp_strs {K : Frag} {H : Hp} {D : Addr} {zs : List Str} (h : H D = some (.lst (zs.map V.str))) : Dp K H (.ref D) (.list (zs.map PyData.str)) := by
  refine .lst (SqL.of h) ?_
  clear h
  induction zs with
  | nil => exact .nil
  | cons z zs ih => exact .cons (.str z) ih
theorem ne_strs {K : Frag} {H : Hp} {D1 D2 : Addr} {zs : List Str} {Q : VK} (h1 : H D1 = some (.lst (zs.map V.str))) (h2 : H D2 = some (.lst (zs.map V.str))) (ok : txtOk zs = true) (q : Q (.bl false) H) :
    rNeD K (.ref D1) (.ref D2) H Q := by
  refine ⟨_, _, dp_strs h1, dp_strs h2, shaped_strs ok, shaped_strs ok, ?_⟩
  rw [SeqAt.eqv_refl (.list (zs.map PyData.str)) ok]
  exact q
section
variable {P : Program} {w : World} {K : Frag} {mg : Str → Option Value} {base : Heap} {c : Cs} {f1 f2 f3 f4 f5 f6 : Addr} {f : Addr} {cdv : Value} {A : Around} {outer : List Env} {s : Shared} {H0 : Hp} {E : XK}
/-- the defs that are called -/
structure Dx (P : Program) (w : World) (K : Frag) (mg : Str → Option Value) (base : Heap) (c : Cs) (fK fO fP : Addr) (dK dO dP : FuncData) : Prop where
  kinds : FnOk P w K mg base CX0 1 fK dK ["_law_error"] (spRow K (rowK c))
  gK : mg "_law_kinds" = some (.ref fK)
  kK : keepIn K (.ref fK) = true
  bK : Binds K dK ["_law_error"] []
  others : FnOk P w K mg base CX0 1 fO dO ["_law_error"] (spRow K (rowO c))
  gO : mg "_law_others" = some (.ref fO)
  kO : keepIn K (.ref fO) = true
  bO : Binds K dO ["_law_error"] []
  pick : FnOk P w K mg base CX0 2 fP dP ["_law_dice_here", "_law_items"] spPick
  gP : mg "_law_pick" = some (.ref fP)
  kP : keepIn K (.ref fP) = true
  bP : Binds K dP ["_law_dice_here", "_law_items"] []
variable {fK fO fP : Addr} {dK dO dP : FuncData}
def dueO : List Str := ["x....x.x...", ".x....xx...", "..x.....xx.", "...x......x", "....x....x."]
theorem dueO_is : [oU, oN, oT, oI, oR].map dots = dueO := by decide +kernel
theorem dot11 : MulOk "." 11 := by unfold MulOk; decide +kernel
theorem none11_is : dots none11 = Txt.mul "." 11 := by decide +kernel
theorem five_ok : txtOk dueO = true ∧ txtOk (List.replicate 5 (dots none11)) = true := by decide +kernel
/-- others_here = [..]; due = [..]; if ..: return False; the rest -/
theorem stage_D (T : Fx K mg c f1 f2 f3 f4 f5 f6) (S : Dx P w K mg base c fK fO fP dK dO dP) (hg : A.guards = some []) (hr : Room 3 (A.deeper (PyProof.Rows.envOfC "_law_right" (defScope sRight) s.heap.objs.size f cdv))) :
    ∃ t, PSs (XR P w K mg base f cdv A outer s H0 E) ((defBody sRight).drop 12) t ∧
      ∀ (D : Ends) (x0 x1 x3 x4 x7 x8 x9 : Option V) (v : V) (po pd a1 a2 a3 a4 a5 : Addr) (H : Hp), H po = some (.lst [.ref a1, .ref a2, .ref a3, .ref a4, .ref a5]) →
        H pd = some (.lst (dueO.map V.str)) →
        FAt H a1 c.uN "wanted" v → FAt H a2 c.nU "many" v → FAt H a3 c.tM "limit" v → FAt H a4 c.iN "given" v → FAt H a5 c.rF "reason" v → Thing K H v →
        (∀ H', Same H H' → D.rt (.bl true) H') → t D [x0, x1, some v, x3, x4, some (.ref pd), some (.ref po), x7, x8, x9] H := by
  obtain ⟨tE, hE, goE⟩ := stage_E (P := P) (w := w) (base := base) (f := f) (cdv := cdv) (outer := outer) (s := s) (H0 := H0) (E := E) T hg (hr.mono (by decide))
  have hr1 : Room 1 _ := hr.mono (by decide)
  refine ⟨_, pss_cons (ps_if (PW.pt (pw_or (pt_cmpR (op_neD hr.units)
        (pe_lc (own := [("_law_one", 9)]) (g := gName 9) (tt := tYes) rfl scX.nd (pi_list (pv 6)) (blkOk_by (N := NR) (sc := defScope sRight) (by decide +kernel))
          (fun _ _ _ _ _ => pg_name (i := 9) scX.nd rfl (Or.inl rfl)) (fun _ _ _ _ _ => pts_nil)
          (fun _ _ _ _ _ => pe_call S.others hr1 rfl S.gO S.kO S.bO .nil pass0 (pa_cons (pv 9) pa_nil))) (pv 5) (nomark _))
      (pw_or1 (pt_cmpR (op_neD hr.units)
        (pe_lc (own := [("_law_one", 9)]) (g := gName 9) (tt := tYes) rfl scX.nd (pi_list (pv 6)) (blkOk_by (N := NR) (sc := defScope sRight) (by decide +kernel))
          (fun _ _ _ _ _ => pg_name (i := 9) scX.nd rfl (Or.inl rfl)) (fun _ _ _ _ _ => pts_nil)
          (fun _ _ _ _ _ => pe_call S.kinds hr1 rfl S.gK S.kK S.bK .nil pass0 (pa_cons (pv 9) pa_nil)))
        (pe_op op_rep (pe_lst (pa_cons (pe_op op_mul_str pe_str pe_int) pa_nil)) pe_int) (nomark _)))))
      (pss_one (ps_ret pe_bl)) pss_nil) hE, ?_⟩
  intro D x0 x1 x3 x4 x7 x8 x9 v po pd a1 a2 a3 a4 a5 H hpo hpd e1 e2 e3 e4 e5 th fin
  have rows : ∀ (us : List Value) (r1 r2 r3 r4 r5 : List Bool), KitRow K c.uN us r1 → KitRow K c.nU us r2 → KitRow K c.tM us r3 → KitRow K c.iN us r4 → KitRow K c.rF us r5 →
      Rows K us H [.ref a1, .ref a2, .ref a3, .ref a4, .ref a5] [r1, r2, r3, r4, r5] := by
    intro us r1 r2 r3 r4 r5 k1 k2 k3 k4 k5
    refine ⟨rfl, fun i x hi => ?_⟩
    match i, hi with
    | 0, hi => cases hi; exact ⟨a1, _, r1, rfl, e1.ex, T.uN.ek, k1, rfl⟩
    | 1, hi => cases hi; exact ⟨a2, _, r2, rfl, e2.ex, T.nU.ek, k2, rfl⟩
    | 2, hi => cases hi; exact ⟨a3, _, r3, rfl, e3.ex, T.tM.ek, k3, rfl⟩
    | 3, hi => cases hi; exact ⟨a4, _, r4, rfl, e4.ex, T.iN.ek, k4, rfl⟩
    | 4, hi => cases hi; exact ⟨a5, _, r5, rfl, e5.ex, T.rF.ek, k5, rfl⟩
    | n + 5, hi => simp at hi
  have ro := rows (rowO c) oU oN oT oI oR T.uN.ro T.nU.ro T.tM.ro T.iN.ro T.rF.ro
  have rk := rows (rowK c) none11 none11 none11 none11 none11 T.uN.rk T.nU.rk T.tM.rk T.iN.rk T.rF.rk
  dsimp only [tSeq, tIfS, tOr, tTest, tOp]
  refine lc_rows (by rfl) (by show 9 < 10; decide) hpo ro (by show 5 ≤ 1000; decide) fun H1 D1 s1 d1 => ?_
  rw [dueO_is] at d1
  refine ⟨_, rfl, ne_strs d1 (s1 _ _ hpd) five_ok.1 ⟨_, rfl, ?_⟩⟩
  refine iteF ?_
  refine lc_rows (by rfl) (by show 9 < 10; decide) (s1 _ _ hpo) (rk.mono s1) (by show 5 ≤ 1000; decide) fun H2 D2 s2 d2 => ?_
  refine ⟨_, _, rfl, rfl, dot11, (by show 1 ≤ sizeLine; decide), fun p1 n1 => ⟨_, _, _, rfl, rfl, upd_same, by decide, by decide, (by show 1 * 5 ≤ sizeLine; decide), fun p2 n2 => ?_⟩⟩
  have s3 := (same_upd (o := .lst [.str (Txt.mul "." 11)]) n1).trans (same_upd (o := .lst ((List.replicate (5 : Int).toNat [V.str (Txt.mul "." 11)]).flatten)) n2)
  have z2 := s3 _ _ d2
  refine ne_strs (zs := List.replicate 5 (dots none11)) z2 (by rw [none11_is]; exact upd_same) five_ok.2 ⟨_, rfl, ?_⟩
  have s4 := (s1.trans s2).trans s3
  exact goE D x0 x1 x3 x4 _ x7 x8 x9 v po a1 a2 a3 a4 a5 _ (s4 _ _ hpo) (e1.mono s4) (e2.mono s4) (e3.mono s4) (e4.mono s4) (e5.mono s4) (th.mono s4) fun H' z => fin H' (s4.trans z)
end
end LK
set_option Elab.async false
set_option linter.all false
set_option maxRecDepth 100000
set_option maxHeartbeats 4000000
namespace LK
open PySem L2 CG CGX
open PySem.W (kitOne Frag findIn hasDictIn keepIn excIn)
theorem store_KeyError : StoreFacts "KeyError" keMro "object.__setattr__" "object" :=
  ⟨by kernel_rfl,
   .of (owner := "object") (n := "__setattr__") (by rw [typeLookup_type, builtinLookup_eq_fast]
                                                    kernel_rfl) (by decide +kernel) (by decide +kernel) (by decide +kernel)
     (by first
       | exact .inl (by decide +kernel)
       | exact .inr (by decide +kernel)) (by rw [isSubtype_type]
                                             kernel_rfl),
   F.entry_object_sa, by decide +kernel, by decide +kernel, by decide +kernel,
   fun a b c => by
     unfold argsOk
     kernel_rfl,
   fun self => by kernel_rfl⟩
theorem made_f {H : Hp} {a d C : Addr} {nm : Str} {v : V} (na : H a = none) (nd : H d = none) (ne : d ≠ a) :
    Same H (upd (upd H d (.xd [(nm, v)])) a (evF a C d)) ∧ FAt (upd (upd H d (.xd [(nm, v)])) a (evF a C d)) a C nm v :=
  ⟨fun b o z => by rw [upd_ne (ne_of_none z na), upd_ne (ne_of_none z nd)]; exact z, d, upd_same, by rw [upd_ne ne, upd_same]⟩
section
variable {P : Program} {w : World} {K : Frag} {mg : Str → Option Value} {base : Heap} {c : Cs} {f1 f2 f3 f4 f5 f6 : Addr} {f : Addr} {cdv : Value} {A : Around} {outer : List Env} {s : Shared} {H0 : Hp} {E : XK}
  {fK fO fP : Addr} {dK dO dP : FuncData}
theorem stage_C2 (T : Fx K mg c f1 f2 f3 f4 f5 f6) (S : Dx P w K mg base c fK fO fP dK dO dP) (hg : A.guards = some []) (hr : Room 3 (A.deeper (PyProof.Rows.envOfC "_law_right" (defScope sRight) s.heap.objs.size f cdv))) :
    ∃ t, PSs (XR P w K mg base f cdv A outer s H0 E) ((defBody sRight).drop 10) t ∧
      ∀ (D : Ends) (x0 x1 x3 x4 x5 x6 x7 x8 x9 : Option V) (v : V) (H : Hp), Thing K H v →
        (∀ H', Same H H' → D.rt (.bl true) H') → t D [x0, x1, some v, x3, x4, x5, x6, x7, x8, x9] H := by
  obtain ⟨tD, hD, goD⟩ := stage_D (outer := outer) (s := s) (H0 := H0) (E := E) T S hg hr
  have hr1 : Room 2 _ := hr.mono (by decide)
  refine ⟨_, pss_cons (ps_set (i := 6) scX.nd rfl (Or.inl rfl) (pe_lst
      (pa_cons (pe_excI F.excBase_LookupError store_KeyError T.uN.T nm_wanted hr1 (by decide +kernel) (by decide +kernel) (by decide +kernel) (pv 2))
      (pa_cons (pe_excI F.excBase_IndexError F.store_IndexError T.nU.T nm_many hr1 (by decide +kernel) (by decide +kernel) (by decide +kernel) (pv 2))
      (pa_cons (pe_excI F.excBase_OverflowError F.store_OverflowError T.tM.T nm_limit hr1 (by decide +kernel) (by decide +kernel) (by decide +kernel) (pv 2))
      (pa_cons (pe_excI F.excBase_RuntimeError F.store_RuntimeError T.iN.T nm_given hr1 (by decide +kernel) (by decide +kernel) (by decide +kernel) (pv 2))
      (pa_cons (pe_excI F.excBase_ArithmeticError F.store_ArithmeticError T.rF.T nm_reason hr1 (by decide +kernel) (by decide +kernel) (by decide +kernel) (pv 2)) pa_nil)))))))
    (pss_cons (ps_set (i := 5) scX.nd rfl (Or.inl rfl) (pe_lst (pa_cons pe_str (pa_cons pe_str (pa_cons pe_str (pa_cons pe_str (pa_cons pe_str pa_nil))))))) hD), ?_⟩
  intro D x0 x1 x3 x4 x5 x6 x7 x8 x9 v H th fin
  refine ⟨_, rfl, fun a1 d1 m1 n1 y1 => ?_⟩
  have ⟨s1, e1⟩ := made_f (C := c.uN) (nm := "wanted") (v := v) m1 n1 y1
  refine ⟨_, rfl, fun a2 d2 m2 n2 y2 => ?_⟩
  have ⟨s2, e2⟩ := made_f (C := c.nU) (nm := "many") (v := v) m2 n2 y2
  refine ⟨_, rfl, fun a3 d3 m3 n3 y3 => ?_⟩
  have ⟨s3, e3⟩ := made_f (C := c.tM) (nm := "limit") (v := v) m3 n3 y3
  refine ⟨_, rfl, fun a4 d4 m4 n4 y4 => ?_⟩
  have ⟨s4, e4⟩ := made_f (C := c.iN) (nm := "given") (v := v) m4 n4 y4
  refine ⟨_, rfl, fun a5 d5 m5 n5 y5 => ?_⟩
  have ⟨s5, e5⟩ := made_f (C := c.rF) (nm := "reason") (v := v) m5 n5 y5
  refine ⟨(by show 5 ≤ sizeLine; decide), fun po npo => ?_⟩
  have s6 := same_upd (o := .lst [.ref a1, .ref a2, .ref a3, .ref a4, .ref a5]) npo
  refine ⟨(by show 5 ≤ sizeLine; decide), fun pd npd => ?_⟩
  have s7 := same_upd (o := .lst (dueO.map V.str)) npd
  have z5 := s6.trans s7
  have z4 := s5.trans z5
  have z3 := s4.trans z4
  have z2 := s3.trans z3
  have z1 := s2.trans z2
  have z0 := s1.trans z1
  exact goD D x0 x1 x3 x4 x7 x8 x9 v po pd a1 a2 a3 a4 a5 _ (s7 _ _ upd_same) upd_same (e1.mono z1) (e2.mono z2) (e3.mono z3) (e4.mono z4) (e5.mono z5) (th.mono z0)
    fun H' z => fin H' (z0.trans z)
end
end LK
set_option Elab.async false
set_option linter.all false
set_option maxRecDepth 100000
set_option maxHeartbeats 4000000
namespace LK
open PySem L2 CG CGX
open PySem.W (kitOne Frag findIn hasDictIn keepIn excIn)
/-- an exception at e, of the class at C, made of the text z -/
def AAt (H : Hp) (e C : Addr) (z : Str) : Prop := ∃ t, H e = some (evA e C t) ∧ H t = some (.tup [.str z])
theorem AAt.mono {H H' : Hp} {e C : Addr} {z : Str} (s : Same H H') (h : AAt H e C z) : AAt H' e C z := by
  obtain ⟨t, x, y⟩ := h
  exact ⟨t, s _ _ x, s _ _ y⟩
theorem AAt.ex {H : Hp} {e C : Addr} {z : Str} (h : AAt H e C z) : ExAt H e C := by
  obtain ⟨t, x, y⟩ := h
  exact .inl ⟨t, x⟩
/-- base: ten exceptions -/
structure BaseAt (H : Hp) (c : Cs) (pb : Addr) (z : Str) (v : V) (e0 e1 e2 e3 e4 e5 e6 e7 e8 e9 : Addr) : Prop where
  l : H pb = some (.lst [.ref e0, .ref e1, .ref e2, .ref e3, .ref e4, .ref e5, .ref e6, .ref e7, .ref e8, .ref e9])
  a0 : AAt H e0 c.gE z
  a1 : AAt H e1 c.iG z
  a2 : AAt H e2 c.iT z
  a3 : AAt H e3 c.iX z
  a4 : AAt H e4 c.iR z
  a5 : AAt H e5 c.iL z
  a6 : AAt H e6 c.iF z
  a7 : AAt H e7 c.iW z
  a8 : AAt H e8 c.iO z
  a9 : FAt H e9 c.pE "line" v
theorem BaseAt.mono {H H' : Hp} {c : Cs} {pb : Addr} {z : Str} {v : V} {e0 e1 e2 e3 e4 e5 e6 e7 e8 e9 : Addr} (s : Same H H') (h : BaseAt H c pb z v e0 e1 e2 e3 e4 e5 e6 e7 e8 e9) :
    BaseAt H' c pb z v e0 e1 e2 e3 e4 e5 e6 e7 e8 e9 :=
  ⟨s _ _ h.l, h.a0.mono s, h.a1.mono s, h.a2.mono s, h.a3.mono s, h.a4.mono s, h.a5.mono s, h.a6.mono s, h.a7.mono s, h.a8.mono s, h.a9.mono s⟩
def strR (K : Frag) : List V → Hp → VK → Prop := fun xs H Q => ∃ a C t z, xs = [.ref a] ∧ H a = some (evA a C t) ∧ H t = some (.tup [.str z]) ∧
  ExK K C ∧ findIn K (.ref C) "__str__" = some (some (.builtin "BaseException.__str__")) ∧ Q (.str z) H
/-- each exception tells the text that it was made of -/
theorem lc_strs {K : Frag} {σ : L2.St} {H : Hp} {Q : VK} {xs : List V} {z : Str} {j : TE} (hj : ∀ Q' : VK, (∀ p, H p = none → Q' (.ref p) (upd H p (.lst xs))) → j σ H Q') (hl : 9 < σ.length)
    (hx : ∀ (i : Nat) (x : V), xs[i]? = some x → ∃ e C, x = V.ref e ∧ AAt H e C z ∧ ExK K C ∧ findIn K (.ref C) "__str__" = some (some (.builtin "BaseException.__str__")))
    (few : xs.length ≤ 1000) (fin : ∀ H' D, Same H H' → H' D = some (.lst ((List.replicate xs.length z).map V.str)) → Q (.ref D) H') :
    tLc (iList K j) (gName 9) tYes (tCB (strR K) (tCons (tVar 9) tNil)) [9] σ H Q := by
  refine hj _ fun p np => ?_
  have hp : (upd H p (.lst xs)) p = some (.lst xs) := upd_same
  have sp := same_upd (o := .lst xs) np
  refine ⟨p, rfl, ⟨_, SqL.of hp⟩, fun D nD => ?_⟩
  refine lc_list (K := K) (a := p) (xs := xs) (fun i H' => Same (upd H p (.lst xs)) H' ∧ H' D = some (.lst ((List.replicate i z).map V.str))) ⟨same_upd nD, upd_same⟩
    (fun i H' _ z => z.1.seq (SqL.of hp)) ?_ ?_
  · rintro i x H' hi ⟨same, at'⟩
    obtain ⟨e, C, rfl, ⟨t, x1, x2⟩, ek, st⟩ := hx i x hi
    have il : i < xs.length := (List.getElem?_eq_some_iff.mp hi).1
    refine ⟨wipe9, _, List.getElem?_set_self (by show 9 < (σ.set 9 none).length; rw [List.length_set]; exact hl), e, C, t, z, rfl, same _ _ (sp _ _ x1), same _ _ (sp _ _ x2), ek, st, ?_⟩
    refine ⟨_, at', small1000 (by rw [List.length_map, List.length_replicate]; omega), fun b o q => ?_, ?_⟩
    · rw [upd_ne (ne_of_none q nD)]
      exact same _ _ q
    · rw [upd_same, List.replicate_succ', List.map_append]
      rfl
  · rintro H' ⟨same, at'⟩
    exact fin H' D (sp.trans same) at'
def dueK (j : Nat) : Str := Txt.mul "." (0 + (j : Int)) ++ "x" ++ Txt.mul "." (8 - (0 + (j : Int))) ++ "xx"
theorem dueK_ok : ∀ j : Nat, j < 9 → MulOk "." (0 + (j : Int)) ∧ (Txt.mul "." (0 + (j : Int))).length + ("x" : Str).length ≤ sizeLine ∧ MulOk "." (8 - (0 + (j : Int))) ∧
    (Txt.mul "." (0 + (j : Int)) ++ "x").length + (Txt.mul "." (8 - (0 + (j : Int)))).length ≤ sizeLine ∧
    (Txt.mul "." (0 + (j : Int)) ++ "x" ++ Txt.mul "." (8 - (0 + (j : Int)))).length + ("xx" : Str).length ≤ sizeLine := by
  intro j hj
  have : j = 0 ∨ j = 1 ∨ j = 2 ∨ j = 3 ∨ j = 4 ∨ j = 5 ∨ j = 6 ∨ j = 7 ∨ j = 8 := by omega
  rcases this with rfl | rfl | rfl | rfl | rfl | rfl | rfl | rfl | rfl <;> refine ⟨?_, ?_, ?_, ?_, ?_⟩ <;> (try unfold MulOk) <;> decide +kernel
theorem dot9 : MulOk "." 9 ∧ (Txt.mul "." 9).length + ("xx" : Str).length ≤ sizeLine := by unfold MulOk; decide +kernel
theorem ten_is : [kR 9, kR 0, kR 1, kR 2, kR 3, kR 4, kR 5, kR 6, kR 7, kR 8].map dots = (Txt.mul "." 9 ++ "xx") :: (List.range 9).map dueK := by decide +kernel
theorem ten_ok : txtOk ((Txt.mul "." 9 ++ "xx") :: (List.range 9).map dueK) = true ∧ txtOk (List.replicate 10 (dots none11)) = true := by decide +kernel
section
variable {P : Program} {w : World} {K : Frag} {mg : Str → Option Value} {base : Heap} {c : Cs} {f1 f2 f3 f4 f5 f6 : Addr} {f : Addr} {cdv : Value} {A : Around} {outer : List Env} {s : Shared} {H0 : Hp} {E : XK}
  {fK fO fP : Addr} {dK dO dP : FuncData}
/-- due = [..]; if ..: return False; if ..: return False; the rest -/
theorem stage_C1 (T : Fx K mg c f1 f2 f3 f4 f5 f6) (S : Dx P w K mg base c fK fO fP dK dO dP) (hg : A.guards = some []) (hr : Room 3 (A.deeper (PyProof.Rows.envOfC "_law_right" (defScope sRight) s.heap.objs.size f cdv))) :
    ∃ t, PSs (XR P w K mg base f cdv A outer s H0 E) ((defBody sRight).drop 7) t ∧
      ∀ (D : Ends) (x0 x1 x5 x6 x7 x8 x9 : Option V) (v vl : V) (z : Str) (pb e0 e1 e2 e3 e4 e5 e6 e7 e8 e9 : Addr) (H : Hp), BaseAt H c pb z vl e0 e1 e2 e3 e4 e5 e6 e7 e8 e9 → PyData.strOk z = true → Thing K H v →
        (∀ H', Same H H' → D.rt (.bl true) H') → t D [x0, x1, some v, some (.str z), some (.ref pb), x5, x6, x7, x8, x9] H := by
  obtain ⟨tC, hC, goC⟩ := stage_C2 (outer := outer) (s := s) (H0 := H0) (E := E) T S hg hr
  have hr1 : Room 1 _ := hr.mono (by decide)
  have hu2 : (XR P w K mg base f cdv A outer s H0 E).A.units + 2 < cLine := by
    have := hr.units
    show (A.deeper _).units + 2 < cLine
    omega
  refine ⟨_, pss_cons (ps_setLc (i := 5) (own := [("_law_at", 8)]) (g := gName 8) (tt := tYes) rfl scX.nd rfl rfl (sw_true rfl rfl rfl (by decide +kernel))
        (pi_range1 rfl T.N.range (pa_cons pe_int pa_nil)) (blkOk_by (N := NR) (sc := defScope sRight) (by decide +kernel))
        (fun _ _ _ _ _ => pg_name (i := 8) scX.nd rfl (Or.inl rfl)) (fun _ _ _ _ _ => pts_nil)
        (fun _ _ _ _ _ => pe_op op_add_str (pe_op op_add_str (pe_op op_add_str (pe_op op_mul_str pe_str (pv 8)) pe_str) (pe_op op_mul_str pe_str (pe_op op_sub pe_int (pv 8)))) pe_str))
    (pss_cons (ps_if (pt_cmpR (op_neD hr.units)
        (pe_lc (own := [("_law_one", 9)]) (g := gName 9) (tt := tYes) rfl scX.nd (pi_list (pv 4)) (blkOk_by (N := NR) (sc := defScope sRight) (by decide +kernel))
          (fun _ _ _ _ _ => pg_name (i := 9) scX.nd rfl (Or.inl rfl)) (fun _ _ _ _ _ => pts_nil)
          (fun _ _ _ _ _ => pe_call S.kinds hr1 rfl S.gK S.kK S.bK .nil pass0 (pa_cons (pv 9) pa_nil)))
        (pe_op op_cat (pe_lst (pa_cons (pe_op op_add_str (pe_op op_mul_str pe_str pe_int) pe_str) pa_nil)) (pv 5)) (nomark _))
      (pss_one (ps_ret pe_bl)) pss_nil)
    (pss_cons (ps_if (PW.pt (pw_or (pt_cmpR (op_neD hr.units)
        (pe_lc (own := [("_law_one", 9)]) (g := gName 9) (tt := tYes) rfl scX.nd (pi_list (pv 4)) (blkOk_by (N := NR) (sc := defScope sRight) (by decide +kernel))
          (fun _ _ _ _ _ => pg_name (i := 9) scX.nd rfl (Or.inl rfl)) (fun _ _ _ _ _ => pts_nil)
          (fun _ _ _ _ _ => pe_call S.others hr1 rfl S.gO S.kO S.bO .nil pass0 (pa_cons (pv 9) pa_nil)))
        (pe_op op_rep (pe_lst (pa_cons (pe_op op_mul_str pe_str pe_int) pa_nil)) pe_int) (nomark _))
      (pw_or1 (pt_cmpR (op_neD hr.units)
        (pe_lc (own := [("_law_one", 9)]) (g := gName 9) (tt := tYes) rfl scX.nd (pi_list (pe_slice sl_list (pv 4) po_none (po_some pe_int))) (blkOk_by (N := NR) (sc := defScope sRight) (by decide +kernel))
          (fun _ _ _ _ _ => pg_name (i := 9) scX.nd rfl (Or.inl rfl)) (fun _ _ _ _ _ => pts_nil)
          (fun _ _ _ _ _ => pe_callTy (r := strR K) (call_strE (by exact hu2)) rfl T.N.str PyProof.Rows.boot_str (pa_cons (pv 9) pa_nil)))
        (pe_op op_rep (pe_lst (pa_cons (pv 3) pa_nil)) pe_int) (nomark _)))))
      (pss_one (ps_ret pe_bl)) pss_nil) hC)), ?_⟩
  intro D x0 x1 x5 x6 x7 x8 x9 v vl z pb e0 e1 e2 e3 e4 e5 e6 e7 e8 e9 H B ok th fin
  have rows : ∀ (us : List Value) (r0 r1 r2 r3 r4 r5 r6 r7 r8 r9 : List Bool), KitRow K c.gE us r0 → KitRow K c.iG us r1 → KitRow K c.iT us r2 → KitRow K c.iX us r3 → KitRow K c.iR us r4 →
      KitRow K c.iL us r5 → KitRow K c.iF us r6 → KitRow K c.iW us r7 → KitRow K c.iO us r8 → KitRow K c.pE us r9 →
      Rows K us H [.ref e0, .ref e1, .ref e2, .ref e3, .ref e4, .ref e5, .ref e6, .ref e7, .ref e8, .ref e9] [r0, r1, r2, r3, r4, r5, r6, r7, r8, r9] := by
    intro us r0 r1 r2 r3 r4 r5 r6 r7 r8 r9 k0 k1 k2 k3 k4 k5 k6 k7 k8 k9
    refine ⟨rfl, fun i x hi => ?_⟩
    match i, hi with
    | 0, hi => cases hi; exact ⟨e0, _, r0, rfl, B.a0.ex, T.gE.ek, k0, rfl⟩
    | 1, hi => cases hi; exact ⟨e1, _, r1, rfl, B.a1.ex, T.iG.ek, k1, rfl⟩
    | 2, hi => cases hi; exact ⟨e2, _, r2, rfl, B.a2.ex, T.iT.ek, k2, rfl⟩
    | 3, hi => cases hi; exact ⟨e3, _, r3, rfl, B.a3.ex, T.iX.ek, k3, rfl⟩
    | 4, hi => cases hi; exact ⟨e4, _, r4, rfl, B.a4.ex, T.iR.ek, k4, rfl⟩
    | 5, hi => cases hi; exact ⟨e5, _, r5, rfl, B.a5.ex, T.iL.ek, k5, rfl⟩
    | 6, hi => cases hi; exact ⟨e6, _, r6, rfl, B.a6.ex, T.iF.ek, k6, rfl⟩
    | 7, hi => cases hi; exact ⟨e7, _, r7, rfl, B.a7.ex, T.iW.ek, k7, rfl⟩
    | 8, hi => cases hi; exact ⟨e8, _, r8, rfl, B.a8.ex, T.iO.ek, k8, rfl⟩
    | 9, hi => cases hi; exact ⟨e9, _, r9, rfl, B.a9.ex, T.pE.ek, k9, rfl⟩
    | n + 10, hi => simp at hi
  have rk := rows (rowK c) (kR 9) (kR 0) (kR 1) (kR 2) (kR 3) (kR 4) (kR 5) (kR 6) (kR 7) (kR 8) T.gE.rk T.iG.rk T.iT.rk T.iX.rk T.iR.rk T.iL.rk T.iF.rk T.iW.rk T.iO.rk T.pE.rk
  have ro := rows (rowO c) none11 none11 none11 none11 none11 none11 none11 none11 none11 none11 T.gE.ro T.iG.ro T.iT.ro T.iX.ro T.iR.ro T.iL.ro T.iF.ro T.iW.ro T.iO.ro T.pE.ro
  -- due
  refine ⟨9, rfl, by decide, by decide, fun pd nd => ?_⟩
  refine lc_range (lo := 0) (n := 9) (fun i H' => Same H H' ∧ H' pd = some (.lst (((List.range i).map dueK).map V.str))) ⟨same_upd nd, upd_same⟩ ?_ ?_
  · rintro i H' hi ⟨same, at'⟩
    obtain ⟨m1, l1, m2, l2, l3⟩ := dueK_ok i hi
    refine ⟨rfl, _, rfl, _, _, rfl, rfl, m1, _, _, rfl, rfl, l1, _, rfl, _, _, rfl, rfl, _, _, rfl, rfl, m2, _, _, rfl, rfl, l2, _, _, rfl, rfl, l3, ?_⟩
    refine ⟨_, at', small1000 (by rw [List.length_map, List.length_map, List.length_range]; omega), fun b o q => ?_, ?_⟩
    · rw [upd_ne (ne_of_none q nd)]
      exact same _ _ q
    · rw [upd_same, List.range_succ, List.map_append, List.map_append]
      rfl
  rintro H1 ⟨s1, d1⟩
  dsimp only [gName, tSeq, tIfS, tOr, tTest, tOp]
  -- the kinds
  refine lc_rows (by rfl) (by show 9 < 10; decide) (s1 _ _ B.l) (rk.mono s1) (by show 10 ≤ 1000; decide) fun H2 D2 s2 d2 => ?_
  rw [ten_is] at d2
  refine ⟨_, _, rfl, rfl, dot9.1, _, _, rfl, rfl, dot9.2, (by show 1 ≤ sizeLine; decide), fun p1 n1 => ⟨_, rfl, _, _, _, _, rfl, rfl, upd_same, (same_upd n1) _ _ (s2 _ _ d1), (by show 1 + 9 ≤ sizeLine; decide), fun p2 n2 => ?_⟩⟩
  have s3 := s2.trans (same_upd (o := .lst [.str (Txt.mul "." 9 ++ "xx")]) n1)
  have s4 := s3.trans (same_upd (o := .lst ([V.str (Txt.mul "." 9 ++ "xx")] ++ ((List.range 9).map dueK).map V.str)) n2)
  refine ne_strs (zs := (Txt.mul "." 9 ++ "xx") :: (List.range 9).map dueK) ((same_upd n2) _ _ ((same_upd n1) _ _ d2)) upd_same ten_ok.1 ⟨_, rfl, ?_⟩
  refine iteF ?_
  have s5 := s1.trans s4
  generalize upd (upd H2 p1 _) p2 _ = H3 at s4 s5 ⊢
  -- the others
  dsimp only [tNext, tSeq, tIfS, tOr, tTest, tOp]
  refine lc_rows (by rfl) (by show 9 < 10; decide) (s5 _ _ B.l) (ro.mono s5) (by show 10 ≤ 1000; decide) fun H4 D4 s6 d4 => ?_
  refine ⟨_, _, rfl, rfl, dot11, (by show 1 ≤ sizeLine; decide), fun p3 n3 => ⟨_, _, _, rfl, rfl, upd_same, by decide, by decide, (by show 1 * 10 ≤ sizeLine; decide), fun p4 n4 => ?_⟩⟩
  have s7 := (same_upd (o := .lst [.str (Txt.mul "." 11)]) n3).trans (same_upd (o := .lst ((List.replicate (10 : Int).toNat [V.str (Txt.mul "." 11)]).flatten)) n4)
  refine ne_strs (zs := List.replicate 10 (dots none11)) (s7 _ _ d4) (by rw [none11_is]; exact upd_same) ten_ok.2 ⟨_, rfl, ?_⟩
  refine iteF ?_
  have s8 := (s5.trans s6).trans s7
  generalize upd (upd H4 p3 _) p4 _ = H5 at s7 s8 ⊢
  -- the texts
  have B5 := B.mono s8
  refine lc_strs (xs := [.ref e0, .ref e1, .ref e2, .ref e3, .ref e4, .ref e5, .ref e6, .ref e7, .ref e8]) (z := z) (fun Q' q => ⟨_, rfl, _, rfl, pb, _, rfl, SqL.of B5.l, fun p np => q p np⟩) (by show 9 < 10; decide) ?_
    (by show 9 ≤ 1000; decide) fun H6 D6 s9 d6 => ?_
  · intro i x hi
    match i, hi with
    | 0, hi => cases hi; exact ⟨e0, _, rfl, B5.a0, T.gE.ek, T.gE.st⟩
    | 1, hi => cases hi; exact ⟨e1, _, rfl, B5.a1, T.iG.ek, T.iG.st⟩
    | 2, hi => cases hi; exact ⟨e2, _, rfl, B5.a2, T.iT.ek, T.iT.st⟩
    | 3, hi => cases hi; exact ⟨e3, _, rfl, B5.a3, T.iX.ek, T.iX.st⟩
    | 4, hi => cases hi; exact ⟨e4, _, rfl, B5.a4, T.iR.ek, T.iR.st⟩
    | 5, hi => cases hi; exact ⟨e5, _, rfl, B5.a5, T.iL.ek, T.iL.st⟩
    | 6, hi => cases hi; exact ⟨e6, _, rfl, B5.a6, T.iF.ek, T.iF.st⟩
    | 7, hi => cases hi; exact ⟨e7, _, rfl, B5.a7, T.iW.ek, T.iW.st⟩
    | 8, hi => cases hi; exact ⟨e8, _, rfl, B5.a8, T.iO.ek, T.iO.st⟩
    | n + 9, hi => simp at hi
  refine ⟨_, rfl, (by show 1 ≤ sizeLine; decide), fun p5 n5 => ⟨_, _, _, rfl, rfl, upd_same, by decide, by decide, (by show 1 * 9 ≤ sizeLine; decide), fun p6 n6 => ?_⟩⟩
  have s10 := (same_upd (o := .lst [.str z]) n5).trans (same_upd (o := .lst ((List.replicate (9 : Int).toNat [V.str z]).flatten)) n6)
  have okz : txtOk (List.replicate 9 z) = true := by
    show (PyData.canLay0 (.str z) && (PyData.canLay0 (.str z) && (PyData.canLay0 (.str z) && (PyData.canLay0 (.str z) && (PyData.canLay0 (.str z) && (PyData.canLay0 (.str z) && (PyData.canLay0 (.str z) &&
      (PyData.canLay0 (.str z) && (PyData.canLay0 (.str z) && true))))))))) = true
    rw [show PyData.canLay0 (.str z) = true from ok]
    rfl
  refine ne_strs (zs := List.replicate 9 z) (s10 _ _ d6) upd_same okz ⟨_, rfl, ?_⟩
  refine iteF ?_
  have s11 := (s8.trans s9).trans s10
  exact goC D x0 x1 _ _ _ x6 x7 x8 x9 v _ (th.mono s11) fun H' q => fin H' (s11.trans q)
end
end LK
set_option Elab.async false
set_option linter.all false
set_option maxRecDepth 100000
set_option maxHeartbeats 4000000
namespace LK
open PySem L2 CG CGX
open PySem.W (kitOne Frag findIn hasDictIn keepIn excIn)
theorem made_a {H : Hp} {a t C : Addr} {z : Str} (na : H a = none) (nt : H t = none) (ne : t ≠ a) :
    Same H (upd (upd H t (.tup [.str z])) a (evA a C t)) ∧ AAt (upd (upd H t (.tup [.str z])) a (evA a C t)) a C z :=
  ⟨fun b o q => by rw [upd_ne (ne_of_none q na), upd_ne (ne_of_none q nt)]; exact q, t, upd_same, by rw [upd_ne ne, upd_same]⟩
theorem evA_lst {a C t : Addr} {xs : List V} : evA a C t ≠ .lst xs := fun z => by
  have z' : HO.ext _ = HO.lst xs := z
  cases z'
theorem del_of {H : Hp} {b p : Addr} {o : HO} (h : delH H p b = some o) : b ≠ p ∧ H b = some o := by
  unfold delH at h
  split at h
  · cases h
  · rename_i z; exact ⟨z, h⟩
theorem AAt.off {H : Hp} {e C p : Addr} {z : Str} {xs : List V} (h : AAt H e C z) (hp : H p = some (.lst xs)) : AAt (delH H p) e C z := by
  obtain ⟨t, x, y⟩ := h
  exact ⟨t, by rw [delH_ne (ne_of x hp evA_lst)]; exact x, by rw [delH_ne (ne_of y hp (by intro z; cases z))]; exact y⟩
section
variable {P : Program} {w : World} {K : Frag} {mg : Str → Option Value} {base : Heap} {c : Cs} {f1 f2 f3 f4 f5 f6 : Addr} {f : Addr} {cdv : Value} {A : Around} {outer : List Env} {s : Shared} {H0 : Hp} {E : XK}
  {fK fO fP : Addr} {dK dO dP : FuncData}
/-- base = ..; base.append(ParseError(..)); the rest -/
theorem stage_B (T : Fx K mg c f1 f2 f3 f4 f5 f6) (S : Dx P w K mg base c fK fO fP dK dO dP) (hg : A.guards = some []) (hr : Room 3 (A.deeper (PyProof.Rows.envOfC "_law_right" (defScope sRight) s.heap.objs.size f cdv))) :
    ∃ t, PSs (XR P w K mg base f cdv A outer s H0 E) ((defBody sRight).drop 3) t ∧
      ∀ (D : Ends) (x1 x4 x5 x6 x7 x8 x9 : Option V) (v : V) (z : Str) (d : Addr) (H : Hp), DiceAt H d → PyData.strOk z = true → Thing K (delH H d) v →
        (∀ H', (∀ b o, H b = some o → b ≠ d → H' b = some o) → D.rt (.bl true) H') → t D [some (.ref d), x1, some v, some (.str z), x4, x5, x6, x7, x8, x9] H := by
  obtain ⟨tC, hC, goC⟩ := stage_C1 (outer := outer) (s := s) (H0 := H0) (E := E) T S hg hr
  have hr2 : Room 2 _ := hr.mono (by decide)
  have ve : ExcBaseFacts "ValueError" "ValueError.__new__" "ValueError.__init__" _ := F.excBase_ValueError
  refine ⟨_, pss_cons (ps_set (i := 4) scX.nd rfl (Or.inl rfl) (pe_lst
        (pa_cons (pe_excA ve T.gE.q T.N.gE T.gE.kp (pv 3)) (pa_cons (pe_excA ve T.iG.q T.N.iG T.iG.kp (pv 3))
        (pa_cons (pe_excA ve T.iT.q T.N.iT T.iT.kp (pv 3)) (pa_cons (pe_excA ve T.iX.q T.N.iX T.iX.kp (pv 3)) pa_nil))))))
    (pss_cons (ps_set (i := 4) scX.nd rfl (Or.inl rfl) (pe_op op_cat (pv 4) (pe_lst
        (pa_cons (pe_excA ve T.iR.q T.N.iR T.iR.kp (pv 3)) (pa_cons (pe_excA ve T.iL.q T.N.iL T.iL.kp (pv 3)) (pa_cons (pe_excA ve T.iF.q T.N.iF T.iF.kp (pv 3)) pa_nil))))))
    (pss_cons (ps_set (i := 4) scX.nd rfl (Or.inl rfl) (pe_op op_cat (pv 4) (pe_lst
        (pa_cons (pe_excA ve T.iW.q T.N.iW T.iW.kp (pv 3)) (pa_cons (pe_excA ve T.iO.q T.N.iO T.iO.kp (pv 3)) pa_nil)))))
    (pss_cons (ps_expr (pe_bm PySem.F.plainAttrs_list PySem.F.slot_list_append PySem.F.type_list_append mt_append (pv 4) (pa_cons
        (pe_excI ve F.store_ValueError T.pE.T nm_line hr2 (by decide +kernel) (by decide +kernel) (by decide +kernel)
          (pe_call S.pick hr2 rfl S.gP S.kP S.bP .nil pass0 (pa_cons (pv 0) (pa_cons (pe_lst (pa_cons pe_non (pa_cons pe_int (pa_cons pe_int (pa_cons (pe_op op_pow pe_int pe_int) pa_nil))))) pa_nil)))) pa_nil)))
    hC))), ?_⟩
  intro D x1 x4 x5 x6 x7 x8 x9 v z d H hd okz th fin
  obtain ⟨da, db, dc, hd⟩ := hd
  refine ⟨_, rfl, fun a0 t0 m0 n0 y0 => ?_⟩
  have ⟨s0, A0⟩ := made_a (C := c.gE) (z := z) m0 n0 y0
  refine ⟨_, rfl, fun a1 t1 m1 n1 y1 => ?_⟩
  have ⟨s1, A1⟩ := made_a (C := c.iG) (z := z) m1 n1 y1
  refine ⟨_, rfl, fun a2 t2 m2 n2 y2 => ?_⟩
  have ⟨s2, A2⟩ := made_a (C := c.iT) (z := z) m2 n2 y2
  refine ⟨_, rfl, fun a3 t3 m3 n3 y3 => ?_⟩
  have ⟨s3, A3⟩ := made_a (C := c.iX) (z := z) m3 n3 y3
  refine ⟨(by show 4 ≤ sizeLine; decide), fun p1 np1 => ?_⟩
  have sp1 := same_upd (o := .lst [.ref a0, .ref a1, .ref a2, .ref a3]) np1
  refine ⟨_, rfl, _, rfl, fun a4 t4 m4 n4 y4 => ?_⟩
  have ⟨s4, A4⟩ := made_a (C := c.iR) (z := z) m4 n4 y4
  refine ⟨_, rfl, fun a5 t5 m5 n5 y5 => ?_⟩
  have ⟨s5, A5⟩ := made_a (C := c.iL) (z := z) m5 n5 y5
  refine ⟨_, rfl, fun a6 t6 m6 n6 y6 => ?_⟩
  have ⟨s6, A6⟩ := made_a (C := c.iF) (z := z) m6 n6 y6
  have s46 := (s4.trans s5).trans s6
  refine ⟨(by show 3 ≤ sizeLine; decide), fun q1 nq1 => ⟨_, _, _, _, rfl, rfl, (s46.trans (same_upd nq1)) _ _ upd_same, upd_same, (by show 4 + 3 ≤ sizeLine; decide), fun p2 np2 => ?_⟩⟩
  have sq1 := same_upd (o := .lst [.ref a4, .ref a5, .ref a6]) nq1
  have sp2 := same_upd (o := .lst ([.ref a0, .ref a1, .ref a2, .ref a3] ++ [.ref a4, .ref a5, .ref a6])) np2
  refine ⟨_, rfl, _, rfl, fun a7 t7 m7 n7 y7 => ?_⟩
  have ⟨s7, A7⟩ := made_a (C := c.iW) (z := z) m7 n7 y7
  refine ⟨_, rfl, fun a8 t8 m8 n8 y8 => ?_⟩
  have ⟨s8, A8⟩ := made_a (C := c.iO) (z := z) m8 n8 y8
  have s78 := s7.trans s8
  refine ⟨(by show 2 ≤ sizeLine; decide), fun q2 nq2 => ⟨_, _, _, _, rfl, rfl, (s78.trans (same_upd nq2)) _ _ upd_same, upd_same, (by show 7 + 2 ≤ sizeLine; decide), fun p3 np3 => ?_⟩⟩
  have sq2 := same_upd (o := .lst [.ref a7, .ref a8]) nq2
  have sp3 := same_upd (o := .lst (([.ref a0, .ref a1, .ref a2, .ref a3] ++ [.ref a4, .ref a5, .ref a6]) ++ [.ref a7, .ref a8])) np3
  have u2 := sp2.trans s78
  have u1 := (sp1.trans s46).trans sq1
  have u0 := ((s0.trans s1).trans s2).trans s3
  have toB := ((u0.trans u1).trans u2).trans sq2
  have hdB := toB _ _ hd
  have toA := toB.trans sp3
  have b3 := ((u1.trans u2).trans sq2).trans sp3
  have b6 := ((sq1.trans u2).trans sq2).trans sp3
  have b8 := sq2.trans sp3
  have C0 := A0.mono (((s1.trans s2).trans s3).trans b3)
  have C1 := A1.mono ((s2.trans s3).trans b3)
  have C2 := A2.mono (s3.trans b3)
  have C3 := A3.mono b3
  have C4 := A4.mono ((s5.trans s6).trans b6)
  have C5 := A5.mono (s6.trans b6)
  have C6 := A6.mono b6
  have C7 := A7.mono (s8.trans b8)
  have C8 := A8.mono b8
  have ndp3 : d ≠ p3 := ne_of_none hdB np3
  have hdA := sp3 _ _ hdB
  have noP : ∀ b o, H b = some o → b ≠ p3 := fun b o q => ne_of_none (toB _ _ q) np3
  generalize hHa : upd _ p3 (.lst (([V.ref a0, .ref a1, .ref a2, .ref a3] ++ [.ref a4, .ref a5, .ref a6]) ++ [.ref a7, .ref a8])) = Ha at toA C0 C1 C2 C3 C4 C5 C6 C7 C8 hdA ⊢
  have hl : Ha p3 = some (.lst (([V.ref a0, .ref a1, .ref a2, .ref a3] ++ [.ref a4, .ref a5, .ref a6]) ++ [.ref a7, .ref a8])) := by rw [← hHa]; exact upd_same
  refine ⟨_, rfl, .inl ⟨rfl, _, SqL.of hl⟩, _, rfl, _, _, rfl, rfl, ⟨by decide, by decide, by decide⟩, (by show 4 ≤ sizeLine; decide), fun pl npl => ?_⟩
  have sl := same_upd (o := .lst [V.non, .int 0, .int 7, .int (10 ^ (20 : Int).toNat)]) npl
  refine ⟨d, pl, _, rfl, ⟨_, _, _, sl _ _ hdA⟩, upd_same, (ne_of_none hdA npl).symm, (by decide), (by decide), fun vl H1 hv hd1 same => ?_⟩
  refine fun a9 d9 m9 n9 y9 => ?_
  have ⟨s9, A9⟩ := made_f (C := c.pE) (nm := "line") (v := vl) m9 n9 y9
  have l1 : H1 p3 = some (.lst (([V.ref a0, .ref a1, .ref a2, .ref a3] ++ [.ref a4, .ref a5, .ref a6]) ++ [.ref a7, .ref a8])) := (same p3 ndp3.symm).trans (sl _ _ hl)
  refine ⟨p3, _, _, rfl, rfl, s9 _ _ l1, (by show 9 < sizeLine; decide), ?_⟩
  -- what is carried over: all but the dice and the list itself
  have last : ∀ (xs : List V), Same (delH (delH Ha d) p3) (upd (upd (upd H1 d9 (.xd [("line", vl)])) a9 (evF a9 c.pE d9)) p3 (.lst xs)) := by
    intro xs b o q
    obtain ⟨q1, q⟩ := del_of q
    obtain ⟨q2, q⟩ := del_of q
    rw [upd_ne q1]
    exact s9 _ _ ((same b q2).trans (sl _ _ q))
  have offD : (delH Ha d) p3 = some (.lst (([V.ref a0, .ref a1, .ref a2, .ref a3] ++ [.ref a4, .ref a5, .ref a6]) ++ [.ref a7, .ref a8])) := by rw [delH_ne ndp3.symm]; exact hl
  have mv : ∀ {e C : Addr} (xs : List V), AAt Ha e C z → AAt (upd (upd (upd H1 d9 (.xd [("line", vl)])) a9 (evF a9 c.pE d9)) p3 (.lst xs)) e C z :=
    fun xs h => ((h.off hdA).off offD).mono (last xs)
  have th2 : ∀ xs : List V, Thing K (upd (upd (upd H1 d9 (.xd [("line", vl)])) a9 (evF a9 c.pE d9)) p3 (.lst xs)) v := fun xs => (th.mono fun b o q => by
    obtain ⟨q1, q⟩ := del_of q
    rw [delH_ne (noP b o q), delH_ne q1]
    exact toA _ _ q).mono (last xs)
  have na9 : a9 ≠ p3 := fun q => by rw [q, l1] at m9; cases m9
  have nd9 : d9 ≠ p3 := fun q => by rw [q, l1] at n9; cases n9
  obtain ⟨dx, w1, w2⟩ := A9
  refine goC D _ x1 x5 x6 x7 x8 x9 v vl z p3 a0 a1 a2 a3 a4 a5 a6 a7 a8 a9 _ ⟨upd_same, mv _ C0, mv _ C1, mv _ C2, mv _ C3, mv _ C4, mv _ C5, mv _ C6, mv _ C7, mv _ C8, d9, ?_, ?_⟩ okz (th2 _) fun H' q => fin H' fun b o hb nb => ?_
  · rw [upd_ne na9, upd_same]
  · rw [upd_ne nd9, upd_ne y9, upd_same]
  · refine q b o (last _ b o ?_)
    rw [delH_ne (noP b o hb), delH_ne nb]
    exact toA _ _ hb
end
end LK
set_option Elab.async false
set_option linter.all false
set_option maxRecDepth 100000
set_option maxHeartbeats 4000000
namespace LK
open PySem L2 CG CGX
open PySem.W (kitOne Frag findIn hasDictIn keepIn excIn)
def spRight : Sp := fun vs H Q _ => ∃ (d : Addr), vs = [.ref d] ∧ DiceAt H d ∧ ∀ H', (∀ b o, H b = some o → b ≠ d → H' b = some o) → Q (.bl true) H'
section
variable {P : Program} {w : World} {K : Frag} {mg : Str → Option Value} {base : Heap} {c : Cs} {f1 f2 f3 f4 f5 f6 : Addr}
  {fK fO fP : Addr} {dK dO dP : FuncData}
theorem ok_right {f : Addr} {fd : FuncData} (F : Fun K "_law_right" "_law_right" sRight f fd) (T : Fx K mg c f1 f2 f3 f4 f5 f6) (S : Dx P w K mg base c fK fO fP dK dO dP) :
    FnG P w K mg base CX0 4 f fd ["_law_dice_here"] spRight := by
  refine fnG_of (N := NR) F scX (fun vs H Q E h => ?_) (fun cdv A outer s H vs Q E hr hg h => ?_)
  · obtain ⟨d, rfl, _⟩ := h
    rfl
  · obtain ⟨d, rfl, hd, fin⟩ := h
    obtain ⟨tB, hB, goB⟩ := stage_B (outer := outer) (s := s) (H0 := H) (E := E) T S hg hr
    have hr2 : Room 2 _ := hr.mono (by decide)
    refine ⟨_, pss_cons (ps_set (i := 1) scX.nd rfl (Or.inl rfl) (pe_lst (pa_cons pe_non (pa_cons pe_int (pa_cons (pe_un un_neg pe_int) (pa_cons pe_bl (pa_cons (pe_op op_pow pe_int pe_int)
          (pa_cons pe_str (pa_cons pe_str (pa_cons pe_str (pa_cons (pe_tup pa_nil) (pa_cons (pe_tup (pa_cons pe_str (pa_cons pe_int pa_nil))) (pa_cons (pe_lst (pa_cons pe_int pa_nil))
          (pa_cons (pe_disp (pps_cons pe_str (pe_tup pa_nil) pps_nil) (by rfl) (by rfl) (fun z => by cases z) (by decide)) pa_nil))))))))))))))
      (pss_cons (ps_expr (pe_bm PySem.F.plainAttrs_list PySem.F.slot_list_append PySem.F.type_list_append mt_append (pv 1) (pa_cons (pe_tup (pa_cons pe_str
          (pa_cons (pe_tup (pa_cons pe_int (pa_cons pe_str pa_nil))) (pa_cons (pe_tup pa_nil) pa_nil)))) pa_nil)))
      (pss_cons (ps_par (i := 2) (j := 3) rfl scX.nd rfl rfl (by decide) rfl rfl (pa_cons (pe_call S.pick hr2 rfl S.gP S.kP S.bP .nil pass0 (pa_cons (pv 0) (pa_cons (pv 1) pa_nil)))
          (pa_cons (pe_call S.pick hr2 rfl S.gP S.kP S.bP .nil pass0 (pa_cons (pv 0) (pa_cons (pe_lst (pa_cons pe_str (pa_cons pe_str (pa_cons pe_str pa_nil)))) pa_nil))) pa_nil)) (by rfl))
      hB)), ?_⟩
    obtain ⟨da, db, dc, hd⟩ := hd
    refine ⟨1, rfl, _, _, rfl, rfl, ⟨by decide, by decide, by decide⟩, (by show 0 ≤ sizeLine; decide), fun t1 m1 => ⟨(by show 2 ≤ sizeLine; decide), fun t2 m2 => ⟨(by show 1 ≤ sizeLine; decide), fun l1 k1 => ?_⟩⟩⟩
    refine fun pd npd => ⟨(by show 0 ≤ sizeLine; decide), fun t3 m3 => ?_⟩
    have y3 : pd ≠ t3 := ne_of_none upd_same m3
    refine ⟨by rw [upd_ne y3]; exact upd_same, [(.inr "a", .ref t3)], rfl, (by show 1 ≤ 15; decide), (by show 12 ≤ sizeLine; decide), fun ps nps => ?_⟩
    -- the heap behind the list's items, by names
    have s1 := same_upd (o := .tup []) m1
    have s2 := same_upd (o := .tup [.str "a", .int 1]) m2
    have s3 := same_upd (o := .lst [.int 1]) k1
    have s03 := (s1.trans s2).trans s3
    have z1 := (s2.trans s3) _ _ upd_same
    have z2 := s3 _ _ upd_same
    have zl : (upd (upd (upd H t1 (.tup [])) t2 (.tup [.str "a", .int 1])) l1 (.lst [.int 1])) l1 = some (.lst [.int 1]) := upd_same
    have hd1 := s1 _ _ hd
    have hd2 := s2 _ _ hd1
    have nt1 : t1 ≠ d := (ne_of_none hd m1).symm
    have nt2 : t2 ≠ d := (ne_of_none hd1 m2).symm
    have nl1 : l1 ≠ d := (ne_of_none hd2 k1).symm
    generalize upd (upd (upd H t1 (.tup [])) t2 (.tup [.str "a", .int 1])) l1 (.lst [.int 1]) = h3 at s03 z1 z2 zl npd m3 nps ⊢
    have s4 := same_upd (o := .dK []) npd
    have s5 := same_upd (o := .tup []) m3
    have s36 : Same h3 (upd (upd (upd h3 pd (.dK [])) t3 (.tup [])) pd (.dK (mergeK [] [(.inr "a", .ref t3)]))) := fun b o q => by
      rw [upd_ne (ne_of_none q npd)]
      exact s5 _ _ (s4 _ _ q)
    have zp : (upd (upd (upd h3 pd (.dK [])) t3 (.tup [])) pd (.dK (mergeK [] [(.inr "a", .ref t3)]))) pd = some (.dK [(.inr "a", .ref t3)]) := upd_same
    have z3 : (upd (upd (upd h3 pd (.dK [])) t3 (.tup [])) pd (.dK (mergeK [] [(.inr "a", .ref t3)]))) t3 = some (.tup []) := by rw [upd_ne y3.symm, upd_same]
    have hd3 := s03 _ _ hd
    have npd' : pd ≠ d := (ne_of_none hd3 npd).symm
    have nt3 : t3 ≠ d := (ne_of_none (s4 _ _ hd3) m3).symm
    generalize upd (upd (upd h3 pd (.dK [])) t3 (.tup [])) pd (.dK (mergeK [] [(.inr "a", .ref t3)])) = h6 at s36 zp z3 nps ⊢
    have s06 := s03.trans s36
    have hd6 := s06 _ _ hd
    have nps' : ps ≠ d := (ne_of_none hd6 nps).symm
    obtain ⟨items, hit⟩ : ∃ items : List V, items = [.non, .int 0, .int (-1), .bl true, .int (10 ^ (59 : Int).toNat), .str "", .str "num", .str "no such", .ref t1, .ref t2, .ref l1, .ref pd] := ⟨_, rfl⟩
    show gName 1 (V.ref ps) _ (upd h6 ps (.lst [.non, .int 0, .int (-1), .bl true, .int (10 ^ (59 : Int).toNat), .str "", .str "num", .str "no such", .ref t1, .ref t2, .ref l1, .ref pd])) _
    rw [← hit]
    have s7 := same_upd (o := .lst items) nps
    refine ⟨_, rfl, .inl ⟨rfl, _, SqL.of upd_same⟩, (by show 2 ≤ sizeLine; decide), fun u1 w1 => ⟨(by show 0 ≤ sizeLine; decide), fun u2 w2 => ⟨(by show 3 ≤ sizeLine; decide), fun u3 w3 => ?_⟩⟩⟩
    have s8 := same_upd (o := .tup [.int 4, .str "else"]) w1
    have s9 := same_upd (o := .tup []) w2
    have s10 := same_upd (o := .tup [.str "clash", .ref u1, .ref u2]) w3
    have s810 := (s8.trans s9).trans s10
    have lps := s810 _ _ (upd_same (H := h6) (a := ps) (o := .lst items))
    have few : items.length = 12 := by rw [hit]; rfl
    refine ⟨ps, items, _, rfl, rfl, lps, (by rw [few]; decide), ?_⟩
    have x1 := (s9.trans s10) _ _ upd_same
    have x2 := s10 _ _ upd_same
    have hd7 := s7 _ _ hd6
    have hd8 := s8 _ _ hd7
    have hd9 := s9 _ _ hd8
    have nu1 : u1 ≠ d := (ne_of_none hd7 w1).symm
    have nu2 : u2 ≠ d := (ne_of_none hd8 w2).symm
    have nu3 : u3 ≠ d := (ne_of_none hd9 w3).symm
    have x3 : (upd (upd (upd (upd h6 ps (.lst items)) u1 (.tup [.int 4, .str "else"])) u2 (.tup [])) u3 (.tup [.str "clash", .ref u1, .ref u2])) u3 = some (.tup [.str "clash", .ref u1, .ref u2]) := upd_same
    have s6a := s7.trans s810
    generalize upd (upd (upd (upd h6 ps (.lst items)) u1 (.tup [.int 4, .str "else"])) u2 (.tup [])) u3 (.tup [.str "clash", .ref u1, .ref u2]) = ha at x1 x2 x3 lps s6a ⊢
    have hda := s6a _ _ hd6
    -- all but the dice and the list
    have g : ∀ {x : Addr} {o : HO}, ha x = some o → x ≠ d → x ≠ ps → delH (delH ha d) ps x = some o := fun h a b => by rw [delH_ne b, delH_ne a]; exact h
    have p1 : t1 ≠ ps := ne_of_none (s36 _ _ z1) nps
    have p2 : t2 ≠ ps := ne_of_none (s36 _ _ z2) nps
    have pl : l1 ≠ ps := ne_of_none (s36 _ _ zl) nps
    have pp : pd ≠ ps := ne_of_none zp nps
    have p3 : t3 ≠ ps := ne_of_none z3 nps
    have q1 : u1 ≠ ps := ne_of x1 lps (by intro z; cases z)
    have q2 : u2 ≠ ps := ne_of x2 lps (by intro z; cases z)
    have q3 : u3 ≠ ps := ne_of x3 lps (by intro z; cases z)
    have T1 := g (s6a _ _ (s36 _ _ z1)) nt1 p1
    have T2 := g (s6a _ _ (s36 _ _ z2)) nt2 p2
    have L1 := g (s6a _ _ (s36 _ _ zl)) nl1 pl
    have PD := g (s6a _ _ zp) npd' pp
    have T3 := g (s6a _ _ z3) nt3 p3
    have U1 := g x1 nu1 q1
    have U2 := g x2 nu2 q2
    have U3 := g x3 nu3 q3
    have all : ∀ v ∈ items ++ [V.ref u3], Thing K (delH (delH ha d) ps) v := by
      intro v hv
      rw [hit] at hv
      simp only [List.cons_append, List.nil_append, List.mem_cons, List.not_mem_nil, or_false] at hv
      rcases hv with rfl | rfl | rfl | rfl | rfl | rfl | rfl | rfl | rfl | rfl | rfl | rfl | rfl
      · exact .inl ⟨.none, by simp [things], .non⟩
      · exact .inl ⟨.int 0, by simp [things], .int 0⟩
      · exact .inl ⟨.int (-1), by simp [things], .int (-1)⟩
      · exact .inl ⟨.bool true, by simp [things], .bl true⟩
      · exact .inl ⟨.int (10 ^ 59), by simp [things], .int (10 ^ 59)⟩
      · exact .inl ⟨.str "", by simp [things], .str ""⟩
      · exact .inl ⟨.str "num", by simp [things], .str "num"⟩
      · exact .inl ⟨.str "no such", by simp [things], .str "no such"⟩
      · exact .inl ⟨.tuple [], by simp [things], .tup (SqT.of T1) .nil⟩
      · exact .inl ⟨.tuple [.str "a", .int 1], by simp [things], .tup (SqT.of T2) (.cons (.str "a") (.cons (.int 1) .nil))⟩
      · exact .inl ⟨.list [.int 1], by simp [things], .lst (SqL.of L1) (.cons (.int 1) .nil)⟩
      · exact .inr ⟨pd, t3, rfl, PD, T3⟩
      · exact .inl ⟨.tuple [.str "clash", .tuple [.int 4, .str "else"], .tuple []], by simp [things], .tup (SqT.of U3) (.cons (.str "clash") (.cons (.tup (SqT.of U1) (.cons (.int 4) (.cons (.str "else") .nil))) (.cons (.tup (SqT.of U2) .nil) .nil)))⟩
    have hdb : (upd ha ps (.lst (items ++ [V.ref u3]))) d = some (.lst [.int da, .int db, .int dc]) := by rw [upd_ne nps'.symm]; exact hda
    have len : (items ++ [V.ref u3]).length = 13 := by rw [List.length_append, few]; rfl
    refine ⟨_, rfl, _, rfl, d, ps, _, rfl, ⟨_, _, _, hdb⟩, upd_same, nps', (by rw [len]; decide), (by rw [len]; decide), fun v1 hb hv1 dice1 same1 => ?_⟩
    refine ⟨_, rfl, (by show 3 ≤ sizeLine; decide), fun pw npw => ?_⟩
    obtain ⟨ea, eb, ec, dice1⟩ := dice1
    have sw := same_upd (o := .lst [.str "", .str "a grammar is expected", .str "odd: !"]) npw
    have ddw := sw _ _ dice1
    refine ⟨d, pw, _, rfl, ⟨_, _, _, ddw⟩, upd_same, (ne_of_none dice1 npw).symm, (by decide), (by decide), fun v2 hc hv2 dice2 same2 => ⟨_, _, rfl, ?_⟩⟩
    obtain ⟨z, rfl, okz⟩ : ∃ z, v2 = V.str z ∧ PyData.strOk z = true := by
      simp only [List.mem_cons, List.not_mem_nil, or_false] at hv2
      rcases hv2 with rfl | rfl | rfl
      · exact ⟨_, rfl, by decide +kernel⟩
      · exact ⟨_, rfl, by decide +kernel⟩
      · exact ⟨_, rfl, by decide +kernel⟩
    have go : ∀ b o, ha b = some o → b ≠ d → b ≠ ps → hc b = some o := fun b o h a e => by
      refine (same2 b a).trans (sw _ _ ?_)
      rw [same1 b a, upd_ne e]
      exact h
    have th : Thing K (delH hc d) v1 := (all v1 hv1).mono fun b o q => by
      obtain ⟨e1, q⟩ := del_of q
      obtain ⟨e2, q⟩ := del_of q
      rw [delH_ne e2]
      exact go b o q e2 e1
    refine goB _ _ none none none none none none v1 z d hc dice2 okz th fun H' k => fin H' fun b o hb' nb => ?_
    refine k b o (go b o (s6a _ _ (s06 _ _ hb')) nb ?_) nb
    exact ne_of_none (s06 _ _ hb') nps
end
end LK
set_option Elab.async false
set_option linter.all false
set_option maxRecDepth 100000
set_option maxHeartbeats 4000000
namespace LK
open PySem L2 CG CGX
open PySem.W (kitOne Frag findIn hasDictIn keepIn excIn)
def spLaw (K : Frag) : Sp := fun vs H Q _ => ∃ (a : Addr) (ns : List Int), vs = [.ref a] ∧ SqL K H a (ns.map V.int) ∧ ns.length ≤ 63 ∧ ∀ H', Q (.bl true) H'
abbrev NL : List Str := ["_law_script", "_law_spot"]
theorem scL : FnScope NL ["_law_script"] (defScope sLaw) := ⟨rfl, rfl, rfl, by decide +kernel, rfl, by decide +kernel, by decide +kernel⟩
section
variable {P : Program} {w : World} {K : Frag} {mg : Str → Option Value} {base : Heap} {c : Cs} {f1 f2 f3 f4 f5 f6 : Addr} {fD fR : Addr} {dD dR : FuncData}
theorem ok_law {f : Addr} {fd : FuncData} (FL : Fun K "law" "law" sLaw f fd) (T : Fx K mg c f1 f2 f3 f4 f5 f6)
    (GD : FnOk P w K mg base CX0 1 fD dD ["_law_script", "_law_spot"] (spDice K)) (gD : mg "_law_dice" = some (.ref fD)) (kD : keepIn K (.ref fD) = true) (bD : Binds K dD ["_law_script", "_law_spot"] [])
    (GR : FnG P w K mg base CX0 4 fR dR ["_law_dice_here"] spRight) (gR : mg "_law_right" = some (.ref fR)) (kR : keepIn K (.ref fR) = true) (bR : Binds K dR ["_law_dice_here"] []) :
    FnG P w K mg base CX0 5 f fd ["_law_script"] (spLaw K) := by
  refine fnG_of (N := NL) FL scL (fun vs H Q E h => ?_) (fun cdv A outer s H vs Q E hr hg h => ?_)
  · obtain ⟨a, ns, rfl, _⟩ := h
    rfl
  · obtain ⟨a, ns, rfl, hS, len, fin⟩ := h
    have hr1 : Room 1 _ := hr.mono (by decide)
    have hr2 : Room 2 _ := hr.mono (by decide)
    have ve : ExcBaseFacts "ValueError" "ValueError.__new__" "ValueError.__init__" _ := F.excBase_ValueError
    refine ⟨_, PSs.nox (pss_cons (ps_for PassesOwn.never rfl (pi_range1 rfl T.N.range (pa_cons (pe_callB (call_max2 rfl) (by rfl) T.B.max PyProof.Rows.boot_max (pa_cons pe_int (pa_cons
            (pe_callB (call_min2 rfl) (by rfl) T.N.min PyProof.Rows.boot_min (pa_cons pe_int (pa_cons (pe_callB call_len (by rfl) T.B.len PySem.boot_len (pa_cons (pv 0) pa_nil)) pa_nil))) pa_nil))) pa_nil))
          (pg_name (i := 1) scL.nd rfl (Or.inl rfl))
          (pss_one (ps_if (pt_not (pt_val (pe_callG GR hr hg rfl gR kR bR pass0 (pa_cons (pe_call GD hr1 rfl gD kD bD .nil pass0 (pa_cons (pv 0) (pa_cons (pv 1) pa_nil))) pa_nil)))) (pss_one (ps_ret pe_bl)) pss_nil)))
      (pss_one (ps_ret (pe_cmpR (op_eqD hr.units) (pe_lst
          (pa_cons (pe_fldE (pe_excI ve F.store_ValueError T.pE.T nm_line hr2 (by decide +kernel) (by decide +kernel) (by decide +kernel) pe_non))
          (pa_cons (pe_fldE (pe_excI ve F.store_ValueError T.pE.T nm_line hr2 (by decide +kernel) (by decide +kernel) (by decide +kernel) pe_int))
          (pa_cons (pe_fldE (pe_excI F.excBase_OverflowError F.store_OverflowError T.tM.T nm_limit hr2 (by decide +kernel) (by decide +kernel) (by decide +kernel) pe_int)) pa_nil))))
        (pe_lst (pa_cons pe_non (pa_cons pe_int (pa_cons pe_int pa_nil)))) (nomark _))))), ?_⟩
    refine ⟨_, rfl, .ref a, _, rfl, .inl ⟨_, hS, rfl⟩, _, _, rfl, _, _, rfl, _, rfl, ?b1, ?b2, for_range (lo := 0) (fun i σ H' => ∃ v, σ = [some (.ref a), v] ∧ Same H H') ⟨none, rfl, fun _ _ z => z⟩ ?turn ?after⟩
    case b1 =>
      rw [List.length_map]
      split <;> split <;> omega
    case b2 =>
      rw [List.length_map]
      split <;> split <;> omega
    case turn =>
      rintro i σ H' hi ⟨v, rfl, same⟩
      refine ⟨_, rfl, _, rfl, a, ns, i, (by rw [Int.zero_add]; rfl), same.seq hS, fun p x y np => ⟨p, rfl, ⟨_, _, _, upd_same⟩, fun H2 k2 => ⟨true, rfl, ?_⟩⟩⟩
      refine ⟨_, rfl, fun b o q => ?_⟩
      have q' := same _ _ q
      exact k2 b o (same_upd np _ _ q') (ne_of_none q' np)
    case after =>
      rintro σ H' ⟨v, rfl, same⟩
      refine fun a1 d1 m1 n1 y1 => ?_
      have ⟨s1, e1⟩ := made_f (C := c.pE) (nm := "line") (v := V.non) m1 n1 y1
      refine ⟨a1, c.pE, d1, V.non, rfl, T.pE.ek, T.pE.no, T.pE.T.hd, upd_same, (by rw [upd_ne y1, upd_same]), fun a2 d2 m2 n2 y2 => ?_⟩
      refine ⟨a2, c.pE, d2, V.int 3, rfl, T.pE.ek, T.pE.no, T.pE.T.hd, upd_same, (by rw [upd_ne y2, upd_same]), fun a3 d3 m3 n3 y3 => ?_⟩
      refine ⟨a3, c.tM, d3, V.int 300, rfl, T.tM.ek, T.tM.no, T.tM.T.hd, upd_same, (by rw [upd_ne y3, upd_same]), (by show 3 ≤ sizeLine; decide), fun p1 n1' => ⟨(by show 3 ≤ sizeLine; decide), fun p2 n2' => ?_⟩⟩
      refine ⟨.list [.none, .int 3, .int 300], .list [.none, .int 3, .int 300], .lst (SqL.of ((same_upd n2') _ _ upd_same)) (.cons .non (.cons (.int 3) (.cons (.int 300) .nil))),
        .lst (SqL.of upd_same) (.cons .non (.cons (.int 3) (.cons (.int 300) .nil))), (by decide +kernel), (by decide +kernel), ?_⟩
      rw [show PyData.eqv (.list [.none, .int 3, .int 300]) (.list [.none, .int 3, .int 300]) = true by decide +kernel]
      exact fin _
end
end LK
set_option Elab.async false
set_option linter.all false
set_option maxRecDepth 100000
set_option maxHeartbeats 4000000
namespace LK
open PySem L2 CG CGX
open PySem.W (kitOne Frag findIn hasDictIn keepIn excIn clsIn subIn mroIn specialIn takesIn takerIn typeIn excInitIn excOver nsIn codeIn)
/-! ### the facts of the written part, by one computation -/
def exkB (K : Frag) (C : Addr) : Bool := (clsIn K C).isSome && (findIn K (.ref C) "__getattribute__" == some (some (.builtin "BaseException.__getattribute__"))) && (findIn K (.ref C) "__getattr__" == some none) &&
  (subIn K (.ref C) (.type "BaseException") == some true) && (findIn K (.ref C) "__class__" == some (some (.builtin "object.__class__"))) && (mroIn K C (.type "object") == some true)
def rowB (K : Frag) (C : Addr) : List Value → List Bool → Bool
  | [], [] => true
  | u :: us, b :: bs => (kitOne K (.ref C) u == some b) && rowB K C us bs
  | _, _ => false
def clsAB (K : Frag) (c : Cs) (C : Addr) (bk bo : List Bool) : Bool := excIn K C veTail "ValueError.__new__" && keepIn K (.ref C) && exkB K C &&
  (findIn K (.ref C) "__str__" == some (some (.builtin "BaseException.__str__"))) && rowB K C (rowK c) bk && rowB K C (rowO c) bo
def clsIB (K : Frag) (c : Cs) (nm : Str) (newId : String) (bmB : List Value) (C fI : Addr) (bk bo : List Bool) : Bool := excInitIn K C bmB newId && excOver K C bmB &&
  (typeIn K (.ref fI) == some (.type "function")) && (findIn K (.ref C) "__setattr__" == some (some (.builtin "object.__setattr__"))) && (takerIn K C nm == some none) && hasDictIn K C && keepIn K (.ref C) &&
  exkB K C && (findIn K (.ref C) nm == some none) && rowB K C (rowK c) bk && rowB K C (rowO c) bo
def nonesB (K : Frag) : Bool := ["len", "int", "abs", "max", "isinstance", "ValueError", "KeyError", "IndexError", "LookupError", "OverflowError", "ArithmeticError", "RuntimeError", "range", "repr", "str", "min"].all
  fun n => nsIn K mainGlobals (Str.ofString n) == some none
def allB (K : Frag) (c : Cs) (f1 f2 f3 f4 f5 f6 : Addr) : Bool := nonesB K && (specialIn K (.builtin "object.__class__") "__get__" == some (some (.builtin "getset_descriptor.__get__"))) && (takesIn K (.builtin "object.__class__") == some true) &&
  clsAB K c c.gE (kR 9) none11 && clsAB K c c.iG (kR 0) none11 && clsAB K c c.iT (kR 1) none11 && clsAB K c c.iX (kR 2) none11 && clsAB K c c.iR (kR 3) none11 && clsAB K c c.iL (kR 4) none11 &&
  clsAB K c c.iF (kR 5) none11 && clsAB K c c.iW (kR 6) none11 && clsAB K c c.iO (kR 7) none11 &&
  clsIB K c "line" "ValueError.__new__" veTail c.pE f1 (kR 8) none11 && clsIB K c "wanted" "LookupError.__new__" keMro c.uN f2 none11 oU && clsIB K c "many" "IndexError.__new__" ieMro c.nU f3 none11 oN &&
  clsIB K c "limit" "OverflowError.__new__" oeMro c.tM f4 none11 oT && clsIB K c "given" "RuntimeError.__new__" reMro c.iN f5 none11 oI && clsIB K c "reason" "ArithmeticError.__new__" aeMro c.rF f6 none11 oR
theorem row_of {K : Frag} {C : Addr} : ∀ {us : List Value} {bs : List Bool}, rowB K C us bs = true → KitRow K C us bs
  | [], [], _ => trivial
  | u :: us, b :: bs, h => by
    have h' := Bool.and_eq_true_iff.mp h
    exact ⟨beq_iff_eq.mp h'.1, row_of h'.2⟩
  | [], _ :: _, h => by cases h
  | _ :: _, [], h => by cases h
theorem exk_of {K : Frag} {C : Addr} (h : exkB K C = true) : ExK K C := by
  unfold exkB at h
  simp only [Bool.and_eq_true, beq_iff_eq] at h
  obtain ⟨⟨⟨⟨⟨a, b⟩, c⟩, d⟩, e⟩, f⟩ := h
  exact ⟨a, b, c, d, e, f, .inr trivial⟩
theorem clsA_of {K : Frag} {c : Cs} {C : Addr} {bk bo : List Bool} (h : clsAB K c C bk bo = true) : ClsA K c C bk bo := by
  unfold clsAB at h
  simp only [Bool.and_eq_true, beq_iff_eq] at h
  obtain ⟨⟨⟨⟨⟨a, b⟩, d⟩, e⟩, f⟩, g⟩ := h
  exact ⟨a, b, exk_of d, e, row_of f, row_of g⟩
theorem clsI_of {K : Frag} {mg : Str → Option Value} {c : Cs} {cn nm : Str} {newId : String} {bmB : List Value} {C fI : Addr} {bk bo : List Bool} (h : clsIB K c nm newId bmB C fI bk bo = true)
    (hg : mg cn = some (.ref C)) (hi : findIn K (.ref C) "__init__" = some (some (.ref fI)))
    (fn : ∃ (oc : Value) (od : Option Addr) (qual : Str) (doc pm : Value) (an : Option Addr) (cdv ct : Value) (osl : Array (Option Value)) (p1 p2 q1 q2 q3 q4 : Pos),
      K.lookup fI = some ⟨oc, od, .func (PySem.W.fnOf "__init__" qual (iA nm p1 p2) (iB nm q1 q2 q3 q4) (iS nm) .none .none doc pm an cdv ct), osl⟩ ∧ codeIn K cdv qual = true) : ClsI K mg c cn nm newId bmB C fI bk bo := by
  unfold clsIB at h
  simp only [Bool.and_eq_true, beq_iff_eq] at h
  obtain ⟨⟨⟨⟨⟨⟨⟨⟨⟨⟨a1, a2⟩, a3⟩, a4⟩, a5⟩, a6⟩, a7⟩, a8⟩, a9⟩, a10⟩, a11⟩ := h
  exact ⟨⟨hg, a1, a2, hi, a3, a4, a5, a6, a7, fn⟩, exk_of a8, a9, row_of a10, row_of a11⟩
abbrev FnI (K : Frag) (nm : Str) (fI : Addr) : Prop := ∃ (oc : Value) (od : Option Addr) (qual : Str) (doc pm : Value) (an : Option Addr) (cdv ct : Value) (osl : Array (Option Value)) (p1 p2 q1 q2 q3 q4 : Pos),
  K.lookup fI = some ⟨oc, od, .func (PySem.W.fnOf "__init__" qual (iA nm p1 p2) (iB nm q1 q2 q3 q4) (iS nm) .none .none doc pm an cdv ct), osl⟩ ∧ codeIn K cdv qual = true
theorem facts_of {K : Frag} {h : Heap} {mg : Str → Option Value} {c : Cs} {f1 f2 f3 f4 f5 f6 : Addr} (X : K.In h) (G : h.Ns mainGlobals mg) (ok : allB K c f1 f2 f3 f4 f5 f6 = true)
    (m0 : mg "GrammarError" = some (.ref c.gE)) (m1 : mg "InvalidGrammar" = some (.ref c.iG)) (m2 : mg "InvalidTree" = some (.ref c.iT)) (m3 : mg "InvalidText" = some (.ref c.iX)) (m4 : mg "InvalidResolution" = some (.ref c.iR))
    (m5 : mg "InvalidLevels" = some (.ref c.iL)) (m6 : mg "InvalidFilter" = some (.ref c.iF)) (m7 : mg "InvalidWishes" = some (.ref c.iW)) (m8 : mg "InvalidOperation" = some (.ref c.iO)) (m9 : mg "ParseError" = some (.ref c.pE))
    (m10 : mg "UnknownName" = some (.ref c.uN)) (m11 : mg "NothingToUndo" = some (.ref c.nU)) (m12 : mg "TooMany" = some (.ref c.tM)) (m13 : mg "InvalidNumber" = some (.ref c.iN)) (m14 : mg "Refused" = some (.ref c.rF))
    (i1 : findIn K (.ref c.pE) "__init__" = some (some (.ref f1))) (n1 : FnI K "line" f1) (i2 : findIn K (.ref c.uN) "__init__" = some (some (.ref f2))) (n2 : FnI K "wanted" f2)
    (i3 : findIn K (.ref c.nU) "__init__" = some (some (.ref f3))) (n3 : FnI K "many" f3) (i4 : findIn K (.ref c.tM) "__init__" = some (some (.ref f4))) (n4 : FnI K "limit" f4)
    (i5 : findIn K (.ref c.iN) "__init__" = some (some (.ref f5))) (n5 : FnI K "given" f5) (i6 : findIn K (.ref c.rF) "__init__" = some (some (.ref f6))) (n6 : FnI K "reason" f6) :
    Fx K mg c f1 f2 f3 f4 f5 f6 := by
  unfold allB at ok
  simp only [Bool.and_eq_true, beq_iff_eq] at ok
  obtain ⟨⟨⟨⟨⟨⟨⟨⟨⟨⟨⟨⟨⟨⟨⟨⟨⟨a1, a2⟩, a3⟩, a4⟩, a5⟩, a6⟩, a7⟩, a8⟩, a9⟩, a10⟩, a11⟩, a12⟩, b1⟩, b2⟩, b3⟩, b4⟩, b5⟩, b6⟩ := ok
  unfold nonesB at a1
  simp only [List.all_cons, List.all_nil, Bool.and_eq_true, beq_iff_eq] at a1
  obtain ⟨z1, z2, z3, z4, z5, z6, z7, z8, z9, z10, z11, z12, z13, z14, z15, z16, _⟩ := a1
  have nn : ∀ {n : Str}, nsIn K mainGlobals n = some none → mg n = none := fun z => PySem.W.mg_none_of X G z
  exact { N := ⟨m0, m1, m2, m3, m4, m5, m6, m7, m8, m9, m10, m11, m12, m13, m14, nn z5, nn z6, nn z7, nn z8, nn z9, nn z10, nn z11, nn z12, nn z13, nn z14, nn z15, nn z16⟩
          B := ⟨nn z1, nn z2, nn z3, nn z4⟩
          G := ⟨a2, a3⟩
          gE := clsA_of a4, iG := clsA_of a5, iT := clsA_of a6, iX := clsA_of a7, iR := clsA_of a8, iL := clsA_of a9, iF := clsA_of a10, iW := clsA_of a11, iO := clsA_of a12
          pE := clsI_of b1 m9 i1 n1, uN := clsI_of b2 m10 i2 n2, nU := clsI_of b3 m11 i3 n3, tM := clsI_of b4 m12 i4 n4, iN := clsI_of b5 m13 i5 n5, rF := clsI_of b6 m14 i6 n6 }
theorem all_mk {P : Program} {w : World} {K : Frag} {h : Heap} {mg : Str → Option Value} {fa : Addr} (X : K.In h) (G : h.Ns mainGlobals mg) (hfa : mg "law" = some (.ref fa))
    {fDi fRo fPi fKi fOt fRi fLa f1 f2 f3 f4 f5 f6 gE iG iT iX iR iL iF iW iO pE uN nU tM iN rF : Addr} {odDi anDi odRo anRo odPi anPi odKi anKi odOt anOt odRi anRi odLa anLa od1 an1 od2 an2 od3 an3 od4 an4 od5 an5 od6 an6 : Option Addr} {slDi slRo slPi slKi slOt slRi slLa sl1 sl2 sl3 sl4 sl5 sl6 : Array (Option Value)} {ocDi dcDi pmDi cdDi ctDi ocRo dcRo pmRo cdRo ctRo ocPi dcPi pmPi cdPi ctPi ocKi dcKi pmKi cdKi ctKi ocOt dcOt pmOt cdOt ctOt ocRi dcRi pmRi cdRi ctRi ocLa dcLa pmLa cdLa ctLa oc1 dc1 pm1 cd1 ct1 oc2 dc2 pm2 cd2 ct2 oc3 dc3 pm3 cd3 ct3 oc4 dc4 pm4 cd4 ct4 oc5 dc5 pm5 cd5 ct5 oc6 dc6 pm6 cd6 ct6 kVDi kVRo kVPi kVKi kVOt kVRi kVLa : Value} {qn1 qn2 qn3 qn4 qn5 qn6 : Str} {pa1 pb1 qa1 qb1 qc1 qd1 pa2 pb2 qa2 qb2 qc2 qd2 pa3 pb3 qa3 qb3 qc3 qd3 pa4 pb4 qa4 qb4 qc4 qd4 pa5 pb5 qa5 qb5 qc5 qd5 pa6 pb6 qa6 qb6 qc6 qd6 : Pos}
    (aDi : nsIn K mainGlobals "_law_dice" = some (some (.ref fDi))) (lDi : K.lookup fDi = some ⟨ocDi, odDi, .func (PySem.W.fnOf "_law_dice" "_law_dice" (defArgs sDice) (defBody sDice) (defScope sDice) .none kVDi dcDi pmDi anDi cdDi ctDi), slDi⟩) (cDi : codeIn K cdDi "_law_dice" = true) (kDi : keepIn K (.ref fDi) = true)
    (aRo : nsIn K mainGlobals "_law_roll" = some (some (.ref fRo))) (lRo : K.lookup fRo = some ⟨ocRo, odRo, .func (PySem.W.fnOf "_law_roll" "_law_roll" (defArgs sRoll) (defBody sRoll) (defScope sRoll) .none kVRo dcRo pmRo anRo cdRo ctRo), slRo⟩) (cRo : codeIn K cdRo "_law_roll" = true) (kRo : keepIn K (.ref fRo) = true)
    (aPi : nsIn K mainGlobals "_law_pick" = some (some (.ref fPi))) (lPi : K.lookup fPi = some ⟨ocPi, odPi, .func (PySem.W.fnOf "_law_pick" "_law_pick" (defArgs sPick) (defBody sPick) (defScope sPick) .none kVPi dcPi pmPi anPi cdPi ctPi), slPi⟩) (cPi : codeIn K cdPi "_law_pick" = true) (kPi : keepIn K (.ref fPi) = true)
    (aKi : nsIn K mainGlobals "_law_kinds" = some (some (.ref fKi))) (lKi : K.lookup fKi = some ⟨ocKi, odKi, .func (PySem.W.fnOf "_law_kinds" "_law_kinds" (defArgs sKinds) (defBody sKinds) (defScope sKinds) .none kVKi dcKi pmKi anKi cdKi ctKi), slKi⟩) (cKi : codeIn K cdKi "_law_kinds" = true) (kKi : keepIn K (.ref fKi) = true)
    (aOt : nsIn K mainGlobals "_law_others" = some (some (.ref fOt))) (lOt : K.lookup fOt = some ⟨ocOt, odOt, .func (PySem.W.fnOf "_law_others" "_law_others" (defArgs sOthers) (defBody sOthers) (defScope sOthers) .none kVOt dcOt pmOt anOt cdOt ctOt), slOt⟩) (cOt : codeIn K cdOt "_law_others" = true) (kOt : keepIn K (.ref fOt) = true)
    (aRi : nsIn K mainGlobals "_law_right" = some (some (.ref fRi))) (lRi : K.lookup fRi = some ⟨ocRi, odRi, .func (PySem.W.fnOf "_law_right" "_law_right" (defArgs sRight) (defBody sRight) (defScope sRight) .none kVRi dcRi pmRi anRi cdRi ctRi), slRi⟩) (cRi : codeIn K cdRi "_law_right" = true) (kRi : keepIn K (.ref fRi) = true)
    (aLa : nsIn K mainGlobals "law" = some (some (.ref fLa))) (lLa : K.lookup fLa = some ⟨ocLa, odLa, .func (PySem.W.fnOf "law" "law" (defArgs sLaw) (defBody sLaw) (defScope sLaw) .none kVLa dcLa pmLa anLa cdLa ctLa), slLa⟩) (cLa : codeIn K cdLa "law" = true) (kLa : keepIn K (.ref fLa) = true)
    (agE : nsIn K mainGlobals "GrammarError" = some (some (.ref gE)))
    (aiG : nsIn K mainGlobals "InvalidGrammar" = some (some (.ref iG)))
    (aiT : nsIn K mainGlobals "InvalidTree" = some (some (.ref iT)))
    (aiX : nsIn K mainGlobals "InvalidText" = some (some (.ref iX)))
    (aiR : nsIn K mainGlobals "InvalidResolution" = some (some (.ref iR)))
    (aiL : nsIn K mainGlobals "InvalidLevels" = some (some (.ref iL)))
    (aiF : nsIn K mainGlobals "InvalidFilter" = some (some (.ref iF)))
    (aiW : nsIn K mainGlobals "InvalidWishes" = some (some (.ref iW)))
    (aiO : nsIn K mainGlobals "InvalidOperation" = some (some (.ref iO)))
    (apE : nsIn K mainGlobals "ParseError" = some (some (.ref pE)))
    (auN : nsIn K mainGlobals "UnknownName" = some (some (.ref uN)))
    (anU : nsIn K mainGlobals "NothingToUndo" = some (some (.ref nU)))
    (atM : nsIn K mainGlobals "TooMany" = some (some (.ref tM)))
    (aiN : nsIn K mainGlobals "InvalidNumber" = some (some (.ref iN)))
    (arF : nsIn K mainGlobals "Refused" = some (some (.ref rF)))
    (j1 : findIn K (.ref pE) "__init__" = some (some (.ref f1))) (l1 : K.lookup f1 = some ⟨oc1, od1, .func (PySem.W.fnOf "__init__" qn1 (iA "line" pa1 pb1) (iB "line" qa1 qb1 qc1 qd1) (iS "line") .none .none dc1 pm1 an1 cd1 ct1), sl1⟩) (c1 : codeIn K cd1 qn1 = true)
    (j2 : findIn K (.ref uN) "__init__" = some (some (.ref f2))) (l2 : K.lookup f2 = some ⟨oc2, od2, .func (PySem.W.fnOf "__init__" qn2 (iA "wanted" pa2 pb2) (iB "wanted" qa2 qb2 qc2 qd2) (iS "wanted") .none .none dc2 pm2 an2 cd2 ct2), sl2⟩) (c2 : codeIn K cd2 qn2 = true)
    (j3 : findIn K (.ref nU) "__init__" = some (some (.ref f3))) (l3 : K.lookup f3 = some ⟨oc3, od3, .func (PySem.W.fnOf "__init__" qn3 (iA "many" pa3 pb3) (iB "many" qa3 qb3 qc3 qd3) (iS "many") .none .none dc3 pm3 an3 cd3 ct3), sl3⟩) (c3 : codeIn K cd3 qn3 = true)
    (j4 : findIn K (.ref tM) "__init__" = some (some (.ref f4))) (l4 : K.lookup f4 = some ⟨oc4, od4, .func (PySem.W.fnOf "__init__" qn4 (iA "limit" pa4 pb4) (iB "limit" qa4 qb4 qc4 qd4) (iS "limit") .none .none dc4 pm4 an4 cd4 ct4), sl4⟩) (c4 : codeIn K cd4 qn4 = true)
    (j5 : findIn K (.ref iN) "__init__" = some (some (.ref f5))) (l5 : K.lookup f5 = some ⟨oc5, od5, .func (PySem.W.fnOf "__init__" qn5 (iA "given" pa5 pb5) (iB "given" qa5 qb5 qc5 qd5) (iS "given") .none .none dc5 pm5 an5 cd5 ct5), sl5⟩) (c5 : codeIn K cd5 qn5 = true)
    (j6 : findIn K (.ref rF) "__init__" = some (some (.ref f6))) (l6 : K.lookup f6 = some ⟨oc6, od6, .func (PySem.W.fnOf "__init__" qn6 (iA "reason" pa6 pb6) (iB "reason" qa6 qb6 qc6 qd6) (iS "reason") .none .none dc6 pm6 an6 cd6 ct6), sl6⟩) (c6 : codeIn K cd6 qn6 = true)
    (ok : allB K ⟨gE, iG, iT, iX, iR, iL, iF, iW, iO, pE, uN, nU, tM, iN, rF⟩ f1 f2 f3 f4 f5 f6 = true) :
    ∃ fd : FuncData, (∀ (s : Shared) (v : Value), BindsTo s fd ⟨[v], []⟩ [("_law_script", v)]) ∧ ∀ base : Heap, K.In base → base.Ns mainGlobals mg → FnG P w K mg base CX0 5 fa fd ["_law_script"] (spLaw K) := by
  have e := hfa.symm.trans (PySem.W.mg_of X G aLa)
  cases e
  have T := facts_of (mg := mg) X G ok (PySem.W.mg_of X G agE) (PySem.W.mg_of X G aiG) (PySem.W.mg_of X G aiT) (PySem.W.mg_of X G aiX) (PySem.W.mg_of X G aiR) (PySem.W.mg_of X G aiL) (PySem.W.mg_of X G aiF) (PySem.W.mg_of X G aiW) (PySem.W.mg_of X G aiO) (PySem.W.mg_of X G apE) (PySem.W.mg_of X G auN) (PySem.W.mg_of X G anU) (PySem.W.mg_of X G atM) (PySem.W.mg_of X G aiN) (PySem.W.mg_of X G arF)
    j1 ⟨_, _, _, _, _, _, _, _, _, _, _, _, _, _, _, l1, c1⟩ j2 ⟨_, _, _, _, _, _, _, _, _, _, _, _, _, _, _, l2, c2⟩ j3 ⟨_, _, _, _, _, _, _, _, _, _, _, _, _, _, _, l3, c3⟩ j4 ⟨_, _, _, _, _, _, _, _, _, _, _, _, _, _, _, l4, c4⟩ j5 ⟨_, _, _, _, _, _, _, _, _, _, _, _, _, _, _, l5, c5⟩ j6 ⟨_, _, _, _, _, _, _, _, _, _, _, _, _, _, _, l6, c6⟩
  have FDi := fun_mk (st := sDice) lDi cDi kDi
  have FRo := fun_mk (st := sRoll) lRo cRo kRo
  have FPi := fun_mk (st := sPick) lPi cPi kPi
  have FKi := fun_mk (st := sKinds) lKi cKi kKi
  have FOt := fun_mk (st := sOthers) lOt cOt kOt
  have FRi := fun_mk (st := sRight) lRi cRi kRi
  have FLa := fun_mk (st := sLaw) lLa cLa kLa
  have bDi := FDi.binds (ps := ["_law_script", "_law_spot"]) fun _ _ _ _ _ _ us hl => match us, hl with | [_, _], _ => rfl
  have bRo := FRo.binds (ps := ["_law_dice_here", "_law_total"]) fun _ _ _ _ _ _ us hl => match us, hl with | [_, _], _ => rfl
  have bPi := FPi.binds (ps := ["_law_dice_here", "_law_items"]) fun _ _ _ _ _ _ us hl => match us, hl with | [_, _], _ => rfl
  have bKi := FKi.binds (ps := ["_law_error"]) fun _ _ _ _ _ _ us hl => match us, hl with | [_], _ => rfl
  have bOt := FOt.binds (ps := ["_law_error"]) fun _ _ _ _ _ _ us hl => match us, hl with | [_], _ => rfl
  have bRi := FRi.binds (ps := ["_law_dice_here"]) fun _ _ _ _ _ _ us hl => match us, hl with | [_], _ => rfl
  refine ⟨PySem.W.fnOf "law" "law" (defArgs sLaw) (defBody sLaw) (defScope sLaw) .none kVLa dcLa pmLa anLa cdLa ctLa, fun s v => .of_eq rfl, fun base _ _ => ?_⟩
  have S : Dx P w K mg base _ _ _ _ _ _ _ := ⟨ok_kinds FKi T.N T.G, PySem.W.mg_of X G aKi, kKi, bKi, ok_others FOt T.N T.G, PySem.W.mg_of X G aOt, kOt, bOt,
    ok_pick FPi T.B FRo (PySem.W.mg_of X G aRo) bRo, PySem.W.mg_of X G aPi, kPi, bPi⟩
  exact ok_law FLa T (ok_dice FDi T.B) (PySem.W.mg_of X G aDi) kDi bDi (ok_right FRi T S) (PySem.W.mg_of X G aRi) kRi bRi
end LK
set_option Elab.async false
set_option linter.all false
set_option maxRecDepth 100000
open PySem PySem.W PyProof.Rows
set_option maxRecDepth 100000 in
set_option maxHeartbeats 0 in
theorem PySem.Challenge.cw_chosentrees_k00_errors_and_what_they_kee_holds : PySem.Challenge.rw_chosentrees_k00_errors_and_what_they_kee.Holds := by
  w_on; o_law; k_head; (case hw => w_witness2)
  k_fill
  refine CG.walkG (k := 5) (x := "_law_script") (sp := LK.spLaw) (l := PySem.Challenge.rw_chosentrees_k00_errors_and_what_they_kee) rfl (by decide) rfl ⟨rfl, by decide, by decide⟩ (fun w h Y => PySem.W.kIn_of Y) ?F ?Z
  case Z =>
    intro K H a ns hl hS
    exact ⟨a, ns, rfl, hS, hl, fun _ => rfl⟩
  case F =>
    intro w mg fa h KX G hmg
    refine' LK.all_mk KX G hmg ?aDi ?lDi ?cDi ?kDi ?aRo ?lRo ?cRo ?kRo ?aPi ?lPi ?cPi ?kPi ?aKi ?lKi ?cKi ?kKi ?aOt ?lOt ?cOt ?kOt ?aRi ?lRi ?cRi ?kRi ?aLa ?lLa ?cLa ?kLa ?agE ?aiG ?aiT ?aiX ?aiR ?aiL ?aiF ?aiW ?aiO ?apE ?auN ?anU ?atM ?aiN ?arF ?j1 ?l1 ?c1 ?j2 ?l2 ?c2 ?j3 ?l3 ?c3 ?j4 ?l4 ?c4 ?j5 ?l5 ?c5 ?j6 ?l6 ?c6 ?ok
    (case aDi => k_is)
    (case lDi => k_is)
    (case cDi => k_is)
    (case kDi => k_is)
    (case aRo => k_is)
    (case lRo => k_is)
    (case cRo => k_is)
    (case kRo => k_is)
    (case aPi => k_is)
    (case lPi => k_is)
    (case cPi => k_is)
    (case kPi => k_is)
    (case aKi => k_is)
    (case lKi => k_is)
    (case cKi => k_is)
    (case kKi => k_is)
    (case aOt => k_is)
    (case lOt => k_is)
    (case cOt => k_is)
    (case kOt => k_is)
    (case aRi => k_is)
    (case lRi => k_is)
    (case cRi => k_is)
    (case kRi => k_is)
    (case aLa => k_is)
    (case lLa => k_is)
    (case cLa => k_is)
    (case kLa => k_is)
    (case agE => k_is)
    (case aiG => k_is)
    (case aiT => k_is)
    (case aiX => k_is)
    (case aiR => k_is)
    (case aiL => k_is)
    (case aiF => k_is)
    (case aiW => k_is)
    (case aiO => k_is)
    (case apE => k_is)
    (case auN => k_is)
    (case anU => k_is)
    (case atM => k_is)
    (case aiN => k_is)
    (case arF => k_is)
    (case j1 => k_is)
    (case l1 => k_is)
    (case c1 => k_is)
    (case j2 => k_is)
    (case l2 => k_is)
    (case c2 => k_is)
    (case j3 => k_is)
    (case l3 => k_is)
    (case c3 => k_is)
    (case j4 => k_is)
    (case l4 => k_is)
    (case c4 => k_is)
    (case j5 => k_is)
    (case l5 => k_is)
    (case c5 => k_is)
    (case j6 => k_is)
    (case l6 => k_is)
    (case c6 => k_is)
    (case ok => kernel_rfl)
