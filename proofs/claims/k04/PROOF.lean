import PyProof.Rows.All
import Wide.All
import OpenK.AllK
import Wide.FinOn
import HandS.ForMost
import HandS.ForExc
import HandS.IsInst
import HandS.CallLocal
import HandS.Wide
import HandS.WideBits
import HandS.Flow
import HandS.EndBits
import HandS.WrittenGet
import PyProof.ReprRoads
import HandS.More
import HandS.Walk
import PyProof.Rows.RegFStrParts
import PyProof.StrOps2
import HandS.Style
import PySem.Challenge.RW_cellbills_k04_lists_of_declarations_judg
set_option Elab.async false
set_option linter.all false
set_option maxRecDepth 100000
set_option maxHeartbeats 4000000
/-! What the layer lacks: defs that may ask for a text of a list (they want to know that no such asking is under way), // by any number that is not 0, great powers, calls by keywords alone, repr of data. -/
namespace Cb
open PySem PySem.Spec PyProof.Rows L2

/-! ### numbers -/
def DivAny (_ j : Int) : Prop := j ≠ 0 ∧ j.natAbs.log2 < 9000
def PowAny (i j : Int) : Prop := 0 ≤ j ∧ (Builtin.Int.intBits i : Int) * j ≤ 2 ^ 27
section
variable {X : Cx}
theorem op_fdivA : OpR X (binaryOp .FloorDiv) (rI DivAny fun i j => .int (i.fdiv j)) :=
  opI fun _ _ _ _ _ _ _ hd q => floordiv_int hd.1 q (.inl (PyProof.noPylong_of_log2 hd.2))
theorem op_powA : OpR X (binaryOp .Pow) (rI PowAny fun i j => .int (i ^ j.toNat)) :=
  opI fun _ _ _ _ _ _ _ hd q => pow_int hd.1 hd.2 q
end

/-! ### a text of data -/
@[irreducible] def rRepr (K : PySem.W.Frag) (u : Nat) : List V → Hp → VK → Prop := fun vs H Q =>
  ∃ (v : V) (d : PyData), vs = [v] ∧ Dp K H v d ∧ d.showable = true ∧ d.hasDict = false ∧ u + (d.depth + 1) < cLine ∧ ((∃ i, d = .int i) ∨ d.shown.length ≤ sizeLine) ∧ Q (.str d.shown) H
section
variable {X : Cx}
theorem call_repr (hg : X.A.guards = some []) : CallR X (.builtin "repr") (rRepr X.K X.A.units) := by
  intro pins s σ H vs us Q I rel h
  unfold rRepr at h
  obtain ⟨v, d, rfl, hd, hs, hn, hu, hz, q⟩ := h
  obtain ⟨u, rfl, ru⟩ := vals1 rel
  obtain ⟨as, rd⟩ := Dp.reads I d v u hd ru
  cases hd with
  | non =>
    cases ru
    exact PySem.P.repr_of_none ⟨.str "None", H, I.tok _, ⟨_, rfl⟩, q⟩
  | bl b =>
    cases ru
    exact PySem.P.repr_of_bool ⟨.str (PyData.shown (.bool b)), H, I.tok _, ⟨_, rfl⟩, q⟩
  | int i =>
    obtain ⟨t, rfl⟩ := ru
    have hi : i.natAbs.log2 < 1920 := of_decide_eq_true hs
    exact PySem.P.repr_of_int hi ⟨.str (PyData.shown (.int i)), H, I.tok _, ⟨_, rfl⟩, q⟩
  | str x =>
    obtain ⟨t, rfl⟩ := ru
    exact PySem.P.repr_of_str ⟨.str (PyData.shown (.str x)), H, I.tok _, ⟨_, rfl⟩, q⟩ (hz.resolve_left fun ⟨_, z⟩ => nomatch z)
  | lst e1 e2 =>
    cases ru
    exact repr_of_reads' rd hs (PyData.noDict_hsm hn) hg hu (fun _ _ z => z) (fun h' w tk hk => ⟨.str (PyData.shown _), H, I.kept hk, ⟨_, rfl⟩, q⟩) (hz.resolve_left fun ⟨_, z⟩ => nomatch z)
  | tup e1 e2 =>
    cases ru
    exact repr_of_reads' rd hs (PyData.noDict_hsm hn) hg hu (fun _ _ z => z) (fun h' w tk hk => ⟨.str (PyData.shown _), H, I.kept hk, ⟨_, rfl⟩, q⟩) (hz.resolve_left fun ⟨_, z⟩ => nomatch z)
end

/-! ### defs that want to know what is under way -/
structure FnG (P : Program) (w : World) (K : PySem.W.Frag) (mg : Str → Option Value) (base : Heap) (c : CXT) (k : Nat) (f : Addr) (fd : FuncData) (ps : List Str) (sp : Sp) : Prop where
  long : ∀ vs H Q E, sp vs H Q E → vs.length = ps.length
  goes : ∀ A : Around, A.guards = some [] → Room k A → ∀ (around : List Env) (s : Shared) (H : Hp) (given : Args) (us : List Value) (vs : List V) (Q : VK) (E : XK),
    Env0 P w K mg base A around s H → BindsTo s fd given (ps.zip us) → Vals vs us → sp vs H Q E →
    codeAny (model P w) A (.call (.ref f) given) (CR c around P w H s Q E) s
theorem FnG.up {P : Program} {w : World} {K : PySem.W.Frag} {mg : Str → Option Value} {base : Heap} {c : CXT} {j k : Nat} {f : Addr} {fd : FuncData} {ps : List Str} {sp : Sp}
    (G : FnG P w K mg base c j f fd ps sp) (le : j ≤ k) : FnG P w K mg base c k f fd ps sp :=
  { long := G.long, goes := fun A ga room => G.goes A ga (room.mono le) }
section
variable {X : Cx} {c : CXT} {k : Nat} {f : Addr} {fd : FuncData} {ps : List Str} {sp : Sp} {dvs : List V} {ds : List Value} {E : XK} {x : Str} {p pos : Pos} {e : Expr} {es : List Expr} {t : TA}
theorem runs_g {pins : List (Addr × Obj)} {σ : L2.St} {H : Hp} {s : Shared} {Q : VK} {us : List Value} {vs : List V} (G : FnG X.prog X.w X.K X.mg X.base c k f fd ps sp) (ga : X.A.guards = some []) (room : Room k X.A)
    (bd : Binds X.K fd ps ds) (hd : Vals dvs ds) (out : Passes c X E) (I : Inv X pins σ H s) (rel : Vals vs us) (pr : sp (vs ++ dvs) H Q E) :
    wpAny (model X.prog X.w) X.A (call (.ref f) us) (EP X pins σ Q) X.xe s := by
  have all := rel.append hd
  have many : (us ++ ds).length = ps.length := all.length ▸ G.long _ _ _ _ pr
  refine wpAny_call (codeAny_mono (G.goes X.A ga room X.stack s H ⟨us, []⟩ _ _ Q E I.env0 (bd s us I.kIn many) all pr) ?_)
  intro res s2 got
  match res, got with
  | .error err, got => exact out pins σ H s err s2 I got
  | .ok (.ret u), got => exact I.after got
theorem pe_callG (G : FnG X.prog X.w X.K X.mg X.base c k f fd ps sp) (ga : X.A.guards = some []) (room : Room k X.A) (gl : Gl X x) (mm : X.mg x = some (.ref f)) (kk : PySem.W.keepIn X.K (.ref f) = true)
    (bd : Binds X.K fd ps ds) (hd : Vals dvs ds) (out : Passes c X E) (ha : PA X (e :: es) t) (nd : (x == ("__debug__" : Str)) = false := by decide)
    (se : starEach (e :: es) X.env = (false, eval e X.env) :: starEach es X.env := by rfl) (pl : (backTo pos (starEach es X.env)).any (·.1) = false := by rfl) :
    PE X (.Call (.Name x p) (e :: es) [] pos) (tCall sp dvs E t) := by
  constructor
  intro pins s σ H Q I pr
  refine wpAny_Call_Name_kw (ld_glob I gl mm (PySem.W.callWith_K (h₀ := X.base) I.ok.mod.kin kk ?_ se pl) nd)
  refine thn (ha.run pos pins s σ H _ I pr) ?_
  rintro us s1 ⟨vs, H1, J, rel, pr1⟩
  exact ⟨J.kIn, runs_g G ga room bd hd out J rel pr1⟩
end
/-! f(k = v, ..) -/
section
variable {X : Cx} {c : CXT} {k : Nat} {f : Addr} {fd : FuncData} {ps ks : List Str} {sp : Sp} {E : XK} {x : Str} {p pos : Pos} {kws : List Keyword} {tk : TA} {g : List Value → List Value → List Value} {gV : List V → List V → List V}
theorem pe_callK0 (F : FnOk X.prog X.w X.K X.mg X.base c k f fd ps sp) (room : Room k X.A) (gl : Gl X x) (mm : X.mg x = some (.ref f)) (kk : PySem.W.keepIn X.K (.ref f) = true) (kb : KBinds X.K fd ps ks g gV) (out : Passes c X E) (hk : PK X kws tk)
    (named : (backToKw pos (keywordEach kws X.env)).all (·.1.isSome) = true := by rfl) (names : (backToKw pos (keywordEach kws X.env)).filterMap (·.1) = ks := by rfl) (nd : (x == ("__debug__" : Str)) = false := by decide)
    (pl : ((backTo pos (starEach [] X.env)).any (·.1) || (backToKw pos (keywordEach kws X.env)).any (·.1.isNone)) = false := by rfl) :
    PE X (.Call (.Name x p) [] kws pos) (tCallK sp gV E tNil tk) := by
  constructor
  intro pins s σ H Q I pr
  refine wpAny_Call_Name_kw (ld_glob I gl mm (PySem.W.callWith_KW0 (h₀ := X.base) I.ok.mod.kin kk named ?_ pl) nd)
  refine thn (hk.run pos pins s σ H _ I pr) ?_
  rintro ws s1 ⟨zs, H1, J, rel, pr1⟩
  refine ⟨J.kIn, ?_⟩
  rw [names]
  exact run_fnk (us := []) (vs := []) F room kb out J .nil rel pr1
end
/-- a def of the text that wants to know it -/
theorem fun_g {P : Program} {w : World} {K : PySem.W.Frag} {mg : Str → Option Value} {base : Heap} {c : CXT} {x qual : Str} {st : Stmt} {f : Addr} {fd : FuncData} {N ps : List Str} {k : Nat} {sp : Sp}
    (F : Fun K x qual st f fd) (S : FnScope N ps (defScope st)) (long : ∀ vs H Q E, sp vs H Q E → vs.length = ps.length)
    (body : ∀ (cdv : Value) (A : Around) (around : List Env) (s : Shared) (H : Hp) (vs : List V) (Q : VK) (E : XK), A.guards = some [] → Room k (A.deeper (envOfC qual (defScope st) s.heap.objs.size f cdv)) → sp vs H Q E →
      ∃ t, PSs (cxOf c P w K mg base N qual (defScope st) f cdv A around s H E) (defBody st) t ∧ t { nx := fun _ H' => Q .non H', rt := Q } (start N vs) H) :
    FnG P w K mg base c (k + 1) f fd ps sp := by
  obtain ⟨oc, od, kV, doc, pm, an, cdv, ct, osl, rfl, lk, hcd⟩ := F.ex
  refine ⟨long, ?_⟩
  intro A ga room around s H given us vs Q E z0 bd rel pr
  have KX : K.In s.heap := z0.mod.kin.keeps fun b o q => (z0.bs b o q).1
  have lim : s.heap.NoLimit := z0.mod.nolimit.keeps fun b o q => (z0.bs b o q).1
  have where_ : ∀ y ∈ ps.zip us, (defScope st).names.lookup y.1 = some .local ∨ ((defScope st).names.lookup y.1 = some .cell ∧ ((cellsFrom (s.heap.objs.size + 1) (defScope st).names []).lookup y.1).isSome = true) := by
    rintro ⟨n, v⟩ hy
    exact (S.par n (List.of_mem_zip hy).1).imp_right fun q => ⟨q, PySem.W.cellsFrom_some _ _ _ (.inl q)⟩
  refine codeAny_call_function room.depth (KX _ _ lk) rfl S.co S.gen rfl (PySem.W.codeRec_of KX hcd) (bd _ _ _ _ (wpAny_newFunctionEnv_cells S.kind where_ ?_))
  rintro env rfl s1 fresh
  refine ⟨lim.keeps fresh.toInCall.keep, codeAny_func ?_⟩
  obtain ⟨t, ht, hq⟩ := body cdv A around s H vs Q E ga (room.deeper _) pr
  have J : Inv (cxOf c P w K mg base N qual (defScope st) f cdv A around s H E) [] (start N vs) H s1 := inv_start S room.hd z0 (long _ _ _ _ pr) rel fresh
  refine wpAny_mono (ht.run [] s1 (start N vs) H _ J hq) ?_ (fun _ _ z => z)
  intro fl s2 got
  match fl, got with
  | .ret u, ⟨v, σ2, H2, L, rv, q⟩ => exact ⟨v, H2, L.os, L.bare, L.base, L.hok, rv, q⟩
  | .next, ⟨σ2, H2, L, q⟩ => exact ⟨V.non, H2, L.os, L.bare, L.base, L.hok, rfl, q⟩
  | .brk, ⟨_, _, _, q⟩ => exact q.elim
  | .cont, ⟨_, _, _, q⟩ => exact q.elim
end Cb
set_option Elab.async false
set_option linter.all false
set_option maxRecDepth 100000
set_option maxHeartbeats 4000000
namespace Cb
open PySem PySem.Spec PyProof.Rows L2
section
variable {P : Program} {w : World} {K : PySem.W.Frag} {mg mb : Str → Option Value} {k : Nat} {fa a : Addr} {fd : FuncData} {x : Str} {sp : Sp} {s : Shared} {vs : List Value} {ns : List Int}
/-- the law's def, called with the script, from an abstract heap that knows at most the script -/
theorem enters (H : Hp) (ob : Obj) (eo : ob = { cls := .type "list", data := .seq vs.toArray }) (H1 : ∀ b u, H b = some u → b = a ∧ u = .frz ob (.lst (ns.map V.int)) ∧ K.lookup a = none) (hS : SqL K H a (ns.map V.int)) (hok : HOk P w H s.heap)
    (KX : K.In s.heap) (g1 : s.heap.Ns mainGlobals mg) (g2 : s.heap.Ns builtinsNs mb) (g3 : ∀ x : Str, x ≠ "__name__" → mb x = bootBuiltins x) (g4 : s.heap.NoLimit) (g5 : s.gens = #[])
    (at_ : s.heap.get? a = some ob) (room : Room k callerA)
    (G : ∀ base : Heap, K.In base → base.Ns mainGlobals mg → FnG P w K mg base CX0 k fa fd [x] sp) (bd : ∀ (s : Shared) (u : Value), BindsTo s fd ⟨[u], []⟩ [(x, u)])
    (pr : sp [.ref a] H (fun v _ => v = .bl true) fun _ _ _ => False) :
    codeAny (model P w) callerA (.call (.ref fa) ⟨[.ref a], []⟩) (fun r s' => r = .ok (.ret (.bool true)) ∧ OldK s.heap s'.heap ∧ s'.os = s.os ∧ AllBare s'.gens) s := by
  have off : ∀ {b : Addr} {o : Obj}, s.heap.get? b = some o → o ≠ ob → H b = none := by
    intro b o e ne
    cases z : H b with
    | none => rfl
    | some u =>
      obtain ⟨rfl, _, _⟩ := H1 b u z
      exact absurd (Option.some.inj (e.symm.trans at_)) ne
  have offD : ∀ {b : Addr} {o : Obj} {es : Array DictEntry} {ep : Nat}, s.heap.get? b = some o → o.data = .dict es ep → H b = none := fun {b o es ep} e d => off e (by
    rintro rfl
    rw [eo] at d
    cases d)
  have hid : ∀ {b : Addr} {m : Str → Option Value}, s.heap.Ns b m → (hidT s.heap H).Ns b m := by
    rintro b m ⟨o, es, ep, e, d, r⟩
    exact ⟨o, es, ep, hidT_get e (offD e d), d, r⟩
  have KB : K.In (hidT s.heap H) := by
    intro b o e
    refine hidT_get (KX b o e) ?_
    cases z : H b with
    | none => rfl
    | some u =>
      obtain ⟨rfl, _, no⟩ := H1 b u z
      rw [no] at e
      cases e
  obtain ⟨mc, l1, l2⟩ := g4
  have z0 : Env0 P w K mg (hidT s.heap H) callerA [] s H :=
    { frames := rfl, mod := ⟨KB, hid g1, ⟨mb, hid g2, g3⟩, ⟨mc, hid l1, l2⟩⟩, bs := fun b o e => of_hidT e, bsz := Nat.le_of_eq (hidT_size _ _), funs := trivial
      frf := fun b hb => absurd (show b ∈ ([] : List Addr) from hb) List.not_mem_nil, hok := hok, bare := .of_eq g5 }
  refine codeAny_mono ((G _ KB (hid g1)).goes callerA rfl room [] s H ⟨[.ref a], []⟩ [.ref a] [.ref a] _ _ z0 (bd s (.ref a)) (.cons rfl .nil) pr) ?_
  intro res s2 got
  match res, got with
  | .ok (.ret u), got =>
    obtain ⟨v, H', os, bare, un, hok', rv, ev⟩ := got
    obtain rfl : v = V.bl true := ev
    obtain rfl : u = Value.bool true := rv
    refine ⟨rfl, OldK.of_keep ?_, os, bare⟩
    intro b o e
    cases z : H b with
    | none => exact un.keep b o e z (fun q => absurd (show b ∈ ([] : List Addr) from q) List.not_mem_nil) (by simp)
    | some u =>
      obtain ⟨rfl, rfl, _⟩ := H1 b u z
      have z2 := un.frzs b ob _ z
      obtain ⟨q1, _⟩ := hok b _ z
      obtain ⟨q2, _⟩ := hok' b _ z2
      exact (Option.some.inj (e.symm.trans q1)) ▸ q2
theorem enter (hobj : s.heap.get? a = some { cls := .type "list", data := .seq vs.toArray }) (hi : IntsAre vs ns) (hl : ns.length ≤ sizeLine)
    (KX : K.In s.heap) (g1 : s.heap.Ns mainGlobals mg) (g2 : s.heap.Ns builtinsNs mb) (g3 : ∀ x : Str, x ≠ "__name__" → mb x = bootBuiltins x) (g4 : s.heap.NoLimit) (g5 : s.gens = #[]) (room : Room k callerA)
    (G : ∀ base : Heap, K.In base → base.Ns mainGlobals mg → FnG P w K mg base CX0 k fa fd [x] sp) (bd : ∀ (s : Shared) (u : Value), BindsTo s fd ⟨[u], []⟩ [(x, u)])
    (pr : ∀ H : Hp, SqL K H a (ns.map V.int) → sp [.ref a] H (fun v _ => v = .bl true) fun _ _ _ => False) :
    codeAny (model P w) callerA (.call (.ref fa) ⟨[.ref a], []⟩) (fun r s' => r = .ok (.ret (.bool true)) ∧ OldK s.heap s'.heap ∧ s'.os = s.os ∧ AllBare s'.gens) s := by
  have rel := vals_ints hi
  cases hk : K.lookup a with
  | some o =>
    have same := Option.some.inj ((KX a o hk).symm.trans hobj)
    have hS : SqL K (fun _ => none) a (ns.map V.int) := .inr ⟨o, vs.toArray, _, hk, by rw [same], by rw [same], by rw [same], by rw [List.size_toArray, hi.length]; exact hl, rel⟩
    exact enters (fun _ => none) _ rfl (fun b u z => nomatch (show (none : Option HO) = some u from z)) hS (fun b u z => nomatch (show (none : Option HO) = some u from z)) KX g1 g2 g3 g4 g5 hobj room G bd (pr _ hS)
  | none =>
    let ob : Obj := { cls := .type "list", data := .seq vs.toArray }
    let H : Hp := fun b => if b = a then some (.frz ob (.lst (ns.map V.int))) else none
    have H1 : ∀ b u, H b = some u → b = a ∧ u = .frz ob (.lst (ns.map V.int)) ∧ K.lookup a = none := by
      intro b u z
      by_cases q : b = a
      · exact ⟨q, (Option.some.inj ((if_pos q).symm.trans z)).symm, hk⟩
      · exact nomatch ((if_neg q).symm.trans z : (none : Option HO) = some u)
    have hS : SqL K H a (ns.map V.int) := .inl (.inr ⟨ob, if_pos rfl⟩)
    refine enters H ob rfl H1 hS ?_ KX g1 g2 g3 g4 g5 hobj room G bd (pr _ hS)
    intro b u z
    obtain ⟨rfl, rfl, _⟩ := H1 b u z
    exact ⟨hobj, by rw [List.length_map]; exact hl, vs, _, rel, hobj⟩
end
/-- the goal that k_head leaves, for a law's def that wants to know what is under way; the script's ints with their bits -/
theorem walk_g {l : PySem.W.OpenLaw} {n k : Nat} {q : Program} {loose : List Str} {XP : (Str → Option Value) → Heap → Prop} {YP : World → Heap → Prop} {d : DefRec} {K : Params → PySem.W.Frag} {sp : PySem.W.Frag → Sp} {x : Str}
    (hn : l.most = some n) (small : n ≤ sizeLine) (plain : d.params.defaults = []) (room : Room k callerA) (hK : ∀ (w : World) (h : Heap), YP w h → (K w.params).In h)
    (G : ∀ (w : World) (mg : Str → Option Value) (fa : Addr) (h : Heap), (K w.params).In h → h.Ns mainGlobals mg → mg d.name = some (.ref fa) →
      ∃ fd : FuncData, (∀ (s : Shared) (u : Value), BindsTo s fd ⟨[u], []⟩ [(x, u)]) ∧ ∀ base : Heap, (K w.params).In base → base.Ns mainGlobals mg → FnG l.prog w (K w.params) mg base CX0 k fa fd [x] (sp (K w.params)))
    (pr : ∀ (K : PySem.W.Frag) (H : Hp) (a : Addr) (ns : List Int), ns.length ≤ n → (∀ i ∈ ns, Builtin.Int.intBits i ≤ 1048576) → SqL K H a (ns.map V.int) → sp K [.ref a] H (fun v _ => v = .bl true) fun _ _ _ => False) :
    PySem.W.WalkO q loose XP YP l.row.toRowW d [] (fun f vs => PySem.call f vs) := by
  refine Att.attach_callB hn plain ?_
  intro w s0 s mg mb fa o pm cd doc a vs ns A Y _ _ _ hmg hobj hints hlen hbits hg
  have KX := hK w _ Y
  obtain ⟨fd, bd, GG⟩ := G w mg fa _ KX A.T.g hmg
  exact enter hobj hints (Nat.le_trans hlen small) KX A.T.g A.T.b A.T.builtins A.T.nolimit hg room GG bd fun H hS => pr _ H a ns hlen hbits hS
end Cb
set_option Elab.async false
set_option linter.all false
set_option maxRecDepth 100000
set_option maxHeartbeats 4000000
namespace Cb
open PySem PySem.Spec PyProof.Rows L2
/-- a def stands under its name -/
def Has (K : PySem.W.Frag) (mg : Str → Option Value) (x : Str) (st : Stmt) (ps : List Str) : Prop :=
  ∃ (f : Addr) (fd : FuncData), Fun K x x st f fd ∧ mg x = some (.ref f) ∧ Binds K fd ps []
/-- it keeps a promise -/
def Says (P : Program) (w : World) (K : PySem.W.Frag) (mg : Str → Option Value) (base : Heap) (k : Nat) (x : Str) (ps : List Str) (sp : Sp) : Prop :=
  ∃ (f : Addr) (fd : FuncData), FnOk P w K mg base CX0 k f fd ps sp ∧ mg x = some (.ref f) ∧ PySem.W.keepIn K (.ref f) = true ∧ Binds K fd ps []
def SaysG (P : Program) (w : World) (K : PySem.W.Frag) (mg : Str → Option Value) (base : Heap) (k : Nat) (x : Str) (ps : List Str) (sp : Sp) : Prop :=
  ∃ (f : Addr) (fd : FuncData), FnG P w K mg base CX0 k f fd ps sp ∧ mg x = some (.ref f) ∧ PySem.W.keepIn K (.ref f) = true ∧ Binds K fd ps []
/-- also by keywords alone, in an order of their own: g puts them in the parameters' order -/
def kOnly (g : {α : Type} → List α → List α) : {α : Type} → List α → List α → List α
  | _, [], ws => g ws
  | _, _ :: _, _ => []
def SaysK (P : Program) (w : World) (K : PySem.W.Frag) (mg : Str → Option Value) (base : Heap) (k : Nat) (x : Str) (ps ks : List Str) (g : {α : Type} → List α → List α) (sp : Sp) : Prop :=
  ∃ (f : Addr) (fd : FuncData), FnOk P w K mg base CX0 k f fd ps sp ∧ mg x = some (.ref f) ∧ PySem.W.keepIn K (.ref f) = true ∧ KBinds K fd ps ks (kOnly g) (kOnly g)
def HasK (K : PySem.W.Frag) (mg : Str → Option Value) (x : Str) (st : Stmt) (ps ks : List Str) (g : {α : Type} → List α → List α) : Prop :=
  ∃ (f : Addr) (fd : FuncData), Fun K x x st f fd ∧ mg x = some (.ref f) ∧ KBinds K fd ps ks (kOnly g) (kOnly g)
/-- a def's body keeps a promise -/
abbrev Body (P : Program) (w : World) (K : PySem.W.Frag) (mg : Str → Option Value) (base : Heap) (k : Nat) (x : Str) (st : Stmt) (N : List Str) (sp : Sp) : Prop :=
  ∀ (f : Addr) (cdv : Value) (A : Around) (outer : List Env) (s : Shared) (H : Hp) (vs : List V) (Q : VK) (E : XK), Room k (A.deeper (envOfC x (defScope st) s.heap.objs.size f cdv)) → sp vs H Q E →
      ∃ t, PSs (cxOf CX0 P w K mg base N x (defScope st) f cdv A outer s H E).nox (defBody st) t ∧ t { nx := fun _ H' => Q .non H', rt := Q } (start N vs) H
section
variable {P : Program} {w : World} {K : PySem.W.Frag} {mg : Str → Option Value} {base : Heap} {k : Nat} {x : Str} {st : Stmt} {N ps : List Str} {sp : Sp}
theorem has {f : Addr} {oc : Value} {od an : Option Addr} {osl : Array (Option Value)} {kV doc pm cdv ct : Value} {h : Heap} (X : K.In h) (G : h.Ns mainGlobals mg) (a : PySem.W.nsIn K mainGlobals x = some (some (.ref f)))
    (l : K.lookup f = some ⟨oc, od, .func (PySem.W.fnOf x x (defArgs st) (defBody st) (defScope st) .none kV doc pm an cdv ct), osl⟩) (c : PySem.W.codeIn K cdv x = true) (kp : PySem.W.keepIn K (.ref f) = true)
    (b : ∀ (kV doc pm : Value) (an : Option Addr) (cdv ct : Value) (us : List Value), us.length = ps.length → bindArgs (PySem.W.fnOf x x (defArgs st) (defBody st) (defScope st) .none kV doc pm an cdv ct) ⟨us, []⟩ = pure (ps.zip us)) :
    Has K mg x st ps := ⟨f, _, fun_mk l c kp, PySem.W.mg_of X G a, (fun_mk l c kp).binds b⟩
theorem says (h : Has K mg x st ps) (S : FnScope N ps (defScope st)) (len : ∀ vs H Q E, sp vs H Q E → vs.length = ps.length)
    (body : ∀ (f : Addr) (cdv : Value) (A : Around) (outer : List Env) (s : Shared) (H : Hp) (vs : List V) (Q : VK) (E : XK), Room k (A.deeper (envOfC x (defScope st) s.heap.objs.size f cdv)) → sp vs H Q E →
      ∃ t, PSs (cxOf CX0 P w K mg base N x (defScope st) f cdv A outer s H E).nox (defBody st) t ∧ t { nx := fun _ H' => Q .non H', rt := Q } (start N vs) H) : Says P w K mg base (k + 1) x ps sp := by
  obtain ⟨f, fd, F, hm, b⟩ := h
  exact ⟨f, fd, F.ok S len fun cdv A outer s H vs Q E => body f cdv A outer s H vs Q E, hm, F.kp, b⟩
theorem saysK {ks : List Str} {g : {α : Type} → List α → List α} (h : HasK K mg x st ps ks g) (S : FnScope N ps (defScope st)) (len : ∀ vs H Q E, sp vs H Q E → vs.length = ps.length) (body : Body P w K mg base k x st N sp) : SaysK P w K mg base (k + 1) x ps ks g sp := by
  obtain ⟨f, fd, F, hm, b⟩ := h
  exact ⟨f, fd, F.ok S len fun cdv A outer s H vs Q E => body f cdv A outer s H vs Q E, hm, F.kp, b⟩
/-- one, and two turned about -/
theorem kb1 {fd : FuncData} {p : Str} (h : ∀ v : Value, bindArgs fd ⟨[], [(p, v)]⟩ = pure [(p, v)]) : KBinds K fd [p] [p] (kOnly fun l => l) (kOnly fun l => l) where
  to := fun s us ws _ hl => match us, ws, hl with
    | [], [v], _ => .of_eq (h v)
  rel := fun {vs us zs ws} r1 r2 => by
    cases r1 with
    | nil => exact r2
    | cons _ _ => exact .nil
theorem vals_rev {vs : List V} {us : List Value} (r : Vals vs us) : Vals vs.reverse us.reverse := by
  induction r with
  | nil => exact .nil
  | cons h _ ih =>
    rw [List.reverse_cons, List.reverse_cons]
    exact ih.append (.cons h .nil)
theorem kb2 {fd : FuncData} {p q : Str} (h : ∀ u v : Value, bindArgs fd ⟨[], [(q, u), (p, v)]⟩ = pure [(p, v), (q, u)]) : KBinds K fd [p, q] [q, p] (kOnly List.reverse) (kOnly List.reverse) where
  to := fun s us ws _ hl => match us, ws, hl with
    | [], [u, v], _ => .of_eq (h u v)
    | [], [], hl => nomatch hl
    | [], [_], hl => nomatch hl
    | [], _ :: _ :: _ :: _, hl => by
      have z : (List.reverse (_ :: _ :: _ :: _) : List Value).length = 2 := hl
      rw [List.length_reverse] at z
      simp at z
  rel := fun {vs us zs ws} r1 r2 => by
    cases r1 with
    | nil => exact vals_rev r2
    | cons _ _ => exact .nil
theorem hasK {ks : List Str} {gk : {α : Type} → List α → List α} {f : Addr} {oc : Value} {od an : Option Addr} {osl : Array (Option Value)} {kV doc pm cdv ct : Value} {h : Heap} (X : K.In h) (G : h.Ns mainGlobals mg) (a : PySem.W.nsIn K mainGlobals x = some (some (.ref f)))
    (l : K.lookup f = some ⟨oc, od, .func (PySem.W.fnOf x x (defArgs st) (defBody st) (defScope st) .none kV doc pm an cdv ct), osl⟩) (c : PySem.W.codeIn K cdv x = true) (kp : PySem.W.keepIn K (.ref f) = true)
    (b : KBinds K (PySem.W.fnOf x x (defArgs st) (defBody st) (defScope st) .none kV doc pm an cdv ct) ps ks (kOnly gk) (kOnly gk)) :
    HasK K mg x st ps ks gk := ⟨f, _, fun_mk l c kp, PySem.W.mg_of X G a, b⟩
theorem saysG (h : Has K mg x st ps) (S : FnScope N ps (defScope st)) (len : ∀ vs H Q E, sp vs H Q E → vs.length = ps.length)
    (body : ∀ (f : Addr) (cdv : Value) (A : Around) (outer : List Env) (s : Shared) (H : Hp) (vs : List V) (Q : VK) (E : XK), A.guards = some [] → Room k (A.deeper (envOfC x (defScope st) s.heap.objs.size f cdv)) → sp vs H Q E →
      ∃ t, PSs (cxOf CX0 P w K mg base N x (defScope st) f cdv A outer s H E).nox (defBody st) t ∧ t { nx := fun _ H' => Q .non H', rt := Q } (start N vs) H) : SaysG P w K mg base (k + 1) x ps sp := by
  obtain ⟨f, fd, F, hm, b⟩ := h
  exact ⟨f, fd, fun_g F S len fun cdv A outer s H vs Q E ga hr h => (body f cdv A outer s H vs Q E ga hr h).imp fun _ z => ⟨z.1.nox, z.2⟩, hm, F.kp, b⟩
theorem fnG {f : Addr} {fd : FuncData} (F : Fun K x x st f fd) (S : FnScope N ps (defScope st)) (len : ∀ vs H Q E, sp vs H Q E → vs.length = ps.length)
    (body : ∀ (f : Addr) (cdv : Value) (A : Around) (outer : List Env) (s : Shared) (H : Hp) (vs : List V) (Q : VK) (E : XK), A.guards = some [] → Room k (A.deeper (envOfC x (defScope st) s.heap.objs.size f cdv)) → sp vs H Q E →
      ∃ t, PSs (cxOf CX0 P w K mg base N x (defScope st) f cdv A outer s H E).nox (defBody st) t ∧ t { nx := fun _ H' => Q .non H', rt := Q } (start N vs) H) : FnG P w K mg base CX0 (k + 1) f fd ps sp :=
  fun_g F S len fun cdv A outer s H vs Q E ga hr h => (body f cdv A outer s H vs Q E ga hr h).imp fun _ z => ⟨z.1.nox, z.2⟩
theorem Says.imp {sp' : Sp} (c : Says P w K mg base k x ps sp) (h : ∀ vs H Q E, sp' vs H Q E → sp vs H Q E) : Says P w K mg base k x ps sp' := by
  obtain ⟨f, fd, F, hm, kp, b⟩ := c
  exact ⟨f, fd, F.imp h, hm, kp, b⟩
end
section
variable {X : Cx} {k j : Nat} {x : Str} {ps ks : List Str} {sp : Sp} {p pos : Pos} {e : Expr} {es : List Expr} {t tk : TA} {kws : List Keyword} {g : {α : Type} → List α → List α}
theorem pe_s (c : Says X.prog X.w X.K X.mg X.base k x ps sp) (hr : Room j X.A) (ha : PA X (e :: es) t) (le : k ≤ j := by decide) (gl : Gl X x := by rfl) (nd : (x == ("__debug__" : Str)) = false := by decide)
    (se : starEach (e :: es) X.env = (false, eval e X.env) :: starEach es X.env := by rfl) (pl : (backTo pos (starEach es X.env)).any (·.1) = false := by rfl) : PE X (.Call (.Name x p) (e :: es) [] pos) (tCall sp [] E0 t) := by
  obtain ⟨f, fd, F, hm, kp, b⟩ := c
  exact pe_call F (hr.mono le) gl hm kp b .nil pass0 ha nd se pl
theorem pe_g (c : SaysG X.prog X.w X.K X.mg X.base k x ps sp) (ga : X.A.guards = some []) (hr : Room j X.A) (ha : PA X (e :: es) t) (le : k ≤ j := by decide) (gl : Gl X x := by rfl) (nd : (x == ("__debug__" : Str)) = false := by decide)
    (se : starEach (e :: es) X.env = (false, eval e X.env) :: starEach es X.env := by rfl) (pl : (backTo pos (starEach es X.env)).any (·.1) = false := by rfl) : PE X (.Call (.Name x p) (e :: es) [] pos) (tCall sp [] E0 t) := by
  obtain ⟨f, fd, F, hm, kp, b⟩ := c
  exact pe_callG F ga (hr.mono le) gl hm kp b .nil pass0 ha nd se pl
theorem pe_k0 (c : SaysK X.prog X.w X.K X.mg X.base k x ps ks g sp) (hr : Room j X.A) (hk : PK X kws tk) (le : k ≤ j := by decide) (gl : Gl X x := by rfl)
    (named : (backToKw pos (keywordEach kws X.env)).all (·.1.isSome) = true := by rfl) (names : (backToKw pos (keywordEach kws X.env)).filterMap (·.1) = ks := by rfl) (nd : (x == ("__debug__" : Str)) = false := by decide)
    (pl : ((backTo pos (starEach [] X.env)).any (·.1) || (backToKw pos (keywordEach kws X.env)).any (·.1.isNone)) = false := by rfl) : PE X (.Call (.Name x p) [] kws pos) (tCallK sp (kOnly g) E0 tNil tk) := by
  obtain ⟨f, fd, F, hm, kp, b⟩ := c
  exact pe_callK0 F (hr.mono le) gl hm kp b pass0 hk named names nd pl
end
/-! ### heaps -/
theorem upd_self {H : Hp} {a : Addr} {o : HO} (h : H a = some o) : upd H a o = H := by
  funext b
  by_cases q : b = a
  · rw [q, upd_same, h]
  · rw [upd_ne q]
theorem same_new {H : Hp} {p : Addr} {o : HO} (h : H p = none) : Same H (upd H p o) := fun b u e => by
  rw [upd_ne (ne_of_none e h)]
  exact e
end Cb
set_option Elab.async false
set_option linter.all false
set_option maxRecDepth 100000
set_option maxHeartbeats 4000000
/-! Data that the calls themselves have made: what stands at an address is a list, a tuple or an empty dict of such. -/
namespace Cb
open PySem PySem.Spec PyProof.Rows L2
mutual
inductive DT (H : Hp) : V → PyData → Prop
  | non : DT H .non .none
  | bl (b : Bool) : DT H (.bl b) (.bool b)
  | int (i : Int) : DT H (.int i) (.int i)
  | str (z : Str) : DT H (.str z) (.str z)
  | lst {a : Addr} {xs : List V} {ds : List PyData} : H a = some (.lst xs) → DTs H xs ds → DT H (.ref a) (.list ds)
  | tup {a : Addr} {xs : List V} {ds : List PyData} : H a = some (.tup xs) → DTs H xs ds → DT H (.ref a) (.tuple ds)
  | dct {a : Addr} : H a = some (.dK []) → DT H (.ref a) (.dict [])
inductive DTs (H : Hp) : List V → List PyData → Prop
  | nil : DTs H [] []
  | cons {v : V} {vs : List V} {d : PyData} {ds : List PyData} : DT H v d → DTs H vs ds → DTs H (v :: vs) (d :: ds)
end
mutual
theorem DT.same {H H' : Hp} (s : Same H H') : ∀ (d : PyData) {v : V}, DT H v d → DT H' v d
  | .none, _, h => by cases h; exact .non
  | .bool _, _, h => by cases h; exact .bl _
  | .int _, _, h => by cases h; exact .int _
  | .str _, _, h => by cases h; exact .str _
  | .list ds, _, h => by
    cases h with
    | lst e r => exact .lst (s _ _ e) (DTs.same s ds r)
  | .tuple ds, _, h => by
    cases h with
    | tup e r => exact .tup (s _ _ e) (DTs.same s ds r)
  | .dict _, _, h => by
    cases h with
    | dct e => exact .dct (s _ _ e)
theorem DTs.same {H H' : Hp} (s : Same H H') : ∀ (ds : List PyData) {vs : List V}, DTs H vs ds → DTs H' vs ds
  | [], _, h => by cases h; exact .nil
  | d :: ds, _, h => by
    cases h with
    | cons a r => exact .cons (DT.same s d a) (DTs.same s ds r)
end
theorem DTs.length {H : Hp} : ∀ {ds : List PyData} {vs : List V}, DTs H vs ds → vs.length = ds.length
  | [], _, h => by cases h; rfl
  | d :: ds, _, h => by
    cases h with
    | cons a r =>
      rw [List.length_cons, List.length_cons, DTs.length r]
theorem DTs.get {H : Hp} : ∀ {ds : List PyData} {vs : List V} {j : Nat} {v : V} {d : PyData}, DTs H vs ds → vs[j]? = some v → ds[j]? = some d → DT H v d
  | [], _, j, v, d, h, e, f => by simp at f
  | d0 :: ds, _, 0, v, d, h, e, f => by
    cases h with
    | cons a r =>
      simp at e f
      rw [← e, ← f]
      exact a
  | d0 :: ds, _, j + 1, v, d, h, e, f => by
    cases h with
    | cons a r =>
      simp at e f
      exact r.get e f
/-! ### types -/
def tyN : PyData → String
  | .none => "NoneType"
  | .bool _ => "bool"
  | .int _ => "int"
  | .str _ => "str"
  | .list _ => "list"
  | .tuple _ => "tuple"
  | .dict _ => "dict"
def isS : PyData → Bool
  | .str _ => true
  | _ => false
def isL : PyData → Bool
  | .list _ => true
  | _ => false
def isTu : PyData → Bool
  | .tuple _ => true
  | _ => false
theorem DT.ty {K : PySem.W.Frag} {H : Hp} {v : V} : ∀ {d : PyData}, DT H v d → TyX K H v (.type (tyN d))
  | .none, h => by cases h; exact .base .non
  | .bool _, h => by cases h; exact .base (.bl _)
  | .int _, h => by cases h; exact .base (.int _)
  | .str _, h => by cases h; exact .base (.str _)
  | .list _, h => by
    cases h with
    | lst e _ => exact .base (.lst e)
  | .tuple _, h => by
    cases h with
    | tup e _ => exact .base (.tup e)
  | .dict _, h => by
    cases h with
    | dct e => exact .base (.dK e)
theorem kit_s : ∀ d : PyData, kitB (tyN d) "str" = some (isS d)
  | .none => by show kitB "NoneType" "str" = some false; decide +kernel
  | .bool _ => by show kitB "bool" "str" = some false; decide +kernel
  | .int _ => by show kitB "int" "str" = some false; decide +kernel
  | .str _ => by show kitB "str" "str" = some true; decide +kernel
  | .list _ => by show kitB "list" "str" = some false; decide +kernel
  | .tuple _ => by show kitB "tuple" "str" = some false; decide +kernel
  | .dict _ => by show kitB "dict" "str" = some false; decide +kernel
theorem kit_l : ∀ d : PyData, kitB (tyN d) "list" = some (isL d)
  | .none => by show kitB "NoneType" "list" = some false; decide +kernel
  | .bool _ => by show kitB "bool" "list" = some false; decide +kernel
  | .int _ => by show kitB "int" "list" = some false; decide +kernel
  | .str _ => by show kitB "str" "list" = some false; decide +kernel
  | .list _ => by show kitB "list" "list" = some true; decide +kernel
  | .tuple _ => by show kitB "tuple" "list" = some false; decide +kernel
  | .dict _ => by show kitB "dict" "list" = some false; decide +kernel
theorem kit_t : ∀ d : PyData, kitB (tyN d) "tuple" = some (isTu d)
  | .none => by show kitB "NoneType" "tuple" = some false; decide +kernel
  | .bool _ => by show kitB "bool" "tuple" = some false; decide +kernel
  | .int _ => by show kitB "int" "tuple" = some false; decide +kernel
  | .str _ => by show kitB "str" "tuple" = some false; decide +kernel
  | .list _ => by show kitB "list" "tuple" = some false; decide +kernel
  | .tuple _ => by show kitB "tuple" "tuple" = some true; decide +kernel
  | .dict _ => by show kitB "dict" "tuple" = some false; decide +kernel
/-- what a call of isinstance asks of data -/
theorem isi_s {K : PySem.W.Frag} {H : Hp} {v : V} {d : PyData} {Q : VK} (h : DT H v d) (q : Q (.bl (isS d)) H) : rIsi K [v, .ty "str"] H Q := ⟨_, _, _, _, _, rfl, .ty _, h.ty, kit_ty (kit_s d), q⟩
theorem isi_l {K : PySem.W.Frag} {H : Hp} {v : V} {d : PyData} {Q : VK} (h : DT H v d) (q : Q (.bl (isL d)) H) : rIsi K [v, .ty "list"] H Q := ⟨_, _, _, _, _, rfl, .ty _, h.ty, kit_ty (kit_l d), q⟩
theorem isi_t {K : PySem.W.Frag} {H : Hp} {v : V} {d : PyData} {Q : VK} (h : DT H v d) (q : Q (.bl (isTu d)) H) : rIsi K [v, .ty "tuple"] H Q := ⟨_, _, _, _, _, rfl, .ty _, h.ty, kit_ty (kit_t d), q⟩
/-! ### for the reckoning by ==: without dicts -/
mutual
def plain : PyData → Bool
  | .dict _ => false
  | .list ds => plains ds
  | .tuple ds => plains ds
  | _ => true
def plains : List PyData → Bool
  | [] => true
  | d :: ds => plain d && plains ds
end
mutual
theorem DT.dp {K : PySem.W.Frag} {H : Hp} : ∀ {d : PyData} {v : V}, plain d = true → DT H v d → Dp K H v d
  | .none, _, _, h => by cases h; exact .non
  | .bool _, _, _, h => by cases h; exact .bl _
  | .int _, _, _, h => by cases h; exact .int _
  | .str _, _, _, h => by cases h; exact .str _
  | .list ds, _, p, h => by
    cases h with
    | lst e r => exact .lst (SqL.of e) (DTs.dp (ds := ds) (by simpa [plain] using p) r)
  | .tuple ds, _, p, h => by
    cases h with
    | tup e r => exact .tup (SqT.of e) (DTs.dp (ds := ds) (by simpa [plain] using p) r)
  | .dict _, _, p, _ => by simp [plain] at p
theorem DTs.dp {K : PySem.W.Frag} {H : Hp} : ∀ {ds : List PyData} {vs : List V}, plains ds = true → DTs H vs ds → DpAll K H vs ds
  | [], _, _, h => by cases h; exact .nil
  | d :: ds, _, p, h => by
    cases h with
    | cons a r =>
      have p2 : plain d = true ∧ plains ds = true := by simpa [plains] using p
      exact .cons (DT.dp (d := d) p2.1 a) (DTs.dp (ds := ds) p2.2 r)
end
/-! ### lists made one by one, over any walk -/
theorem lc_mapW {J : It} {n : Nat} {G : Hp → Prop} {Y : Nat → Hp → V → Hp → Prop} {i : Nat} {te : TE} {σ : L2.St} {H1 : Hp} {D : Addr} {Qd : Hp → Prop} {ys : List V} (w : Walk J n G Y) (g0 : ∀ H, Same H1 H → G H) (y0 : ∀ j H x H', Y j H x H' → H' = H) (hD : H1 D = none) (len : ys.length = n) (small : n < 1000)
    (hs : ∀ (j : Nat) (x y : V) (H' : Hp) (Q : VK), Same H1 H' → Y j H' x H' → ys[j]? = some y → (∀ H'', Same H' H'' → Q y H'') → te ((wipe σ [i]).set i (some x)) H' Q)
    (hd : ∀ H', Same H1 H' → H' D = some (.lst ys) → Qd H') :
    ∃ W : Nat → Nat → Hp → Prop, (∃ m, W 0 m (upd H1 D (.lst []))) ∧ ∀ k m H, W k m H →
      (J.stop k H ∧ Qd H) ∨ (J.go k H ∧ ∃ Nx : Hp → Prop, (∀ H', Nx H' → ∃ m', m' < m ∧ W (k + 1) m' H') ∧ ∀ x H', J.yld k H x H' → gName i x (wipe σ [i]) H' fun σ2 H2 => wipe σ2 [i] = wipe σ [i] ∧ tYes σ2 H2 fun b H3 =>
        if b = true then te σ2 H3 fun y H4 => ∃ acc, H4 D = some (.lst acc) ∧ acc.length < sizeLine ∧ Nx (upd H4 D (.lst (acc ++ [y]))) else Nx H3) := by
  refine lc_it w (fun j H' => Same H1 H' ∧ H' D = some (.lst (ys.take j))) ⟨same_new hD, upd_same⟩ (fun j H' _ z => g0 H' z.1) ?_ ?_
  · rintro j x H H' hj ⟨s1, hd1⟩ y
    obtain rfl := y0 _ _ _ _ y
    have hy : ys[j]? = some ys[j] := List.getElem?_eq_getElem (by omega)
    refine ⟨?_, ?_⟩
    · show ((wipe σ [i]).set i (some x)).set i none = wipe σ [i]
      show ((σ.set i none).set i (some x)).set i none = σ.set i none
      rw [List.set_set, List.set_set]
    · show te ((wipe σ [i]).set i (some x)) H' _
      refine hs j x _ H' _ s1 y hy ?_
      intro H'' s2
      have e2 := s2 _ _ hd1
      refine ⟨_, e2, ?_, ?_, ?_⟩
      · rw [List.length_take]
        exact Nat.lt_of_le_of_lt (Nat.min_le_right _ _) (by rw [len]; exact small1000 (by omega))
      · intro b o e
        rw [upd_ne (ne_of_none e hD)]
        exact s2 _ _ (s1 _ _ e)
      · rw [upd_same, List.take_add_one, hy]
        rfl
  · rintro H' ⟨s1, hd1⟩
    rw [List.take_of_length_le (by omega)] at hd1
    exact hd H' s1 hd1
end Cb
set_option Elab.async false
set_option linter.all false
set_option maxRecDepth 100000
set_option maxHeartbeats 4000000
namespace Cb
open PySem PySem.Spec PyProof.Rows L2
/-! ### data that can be laid out and compared -/
mutual
def good : PyData → Bool
  | .none => true
  | .bool _ => true
  | .int _ => true
  | .str z => PyData.strOk z && decide (z.length ≤ 1000)
  | .list ds => decide (ds.length < 1000) && goods ds
  | .tuple ds => decide (ds.length < 1000) && goods ds
  | .dict _ => false
def goods : List PyData → Bool
  | [] => true
  | d :: ds => good d && goods ds
end
theorem goods_mem : ∀ {ds : List PyData} {d : PyData}, goods ds = true → d ∈ ds → good d = true
  | [], _, _, h => by cases h
  | e :: ds, d, g, h => by
    have g2 : good e = true ∧ goods ds = true := by simpa [goods] using g
    rcases List.mem_cons.mp h with rfl | h
    · exact g2.1
    · exact goods_mem g2.2 h
mutual
theorem good_can : ∀ d : PyData, good d = true → d.canLay0 = true
  | .none, _ => by simp [PyData.canLay0]
  | .bool _, _ => by simp [PyData.canLay0]
  | .int _, _ => by simp [PyData.canLay0]
  | .str z, h => by
    have h2 : PyData.strOk z = true ∧ z.length ≤ 1000 := by simpa [good] using h
    simpa [PyData.canLay0] using h2.1
  | .list ds, h => by
    have h2 : ds.length < 1000 ∧ goods ds = true := by simpa [good] using h
    simpa [PyData.canLay0] using goods_can ds h2.2
  | .tuple ds, h => by
    have h2 : ds.length < 1000 ∧ goods ds = true := by simpa [good] using h
    simpa [PyData.canLay0] using goods_can ds h2.2
  | .dict _, h => by simp [good] at h
theorem goods_can : ∀ ds : List PyData, goods ds = true → PyData.canLayAll0 ds = true
  | [], _ => by simp [PyData.canLayAll0]
  | d :: ds, h => by
    have g2 : good d = true ∧ goods ds = true := by simpa [goods] using h
    simp [PyData.canLayAll0, good_can d g2.1, goods_can ds g2.2]
end
mutual
theorem good_plain : ∀ d : PyData, good d = true → plain d = true
  | .none, _ => by simp [plain]
  | .bool _, _ => by simp [plain]
  | .int _, _ => by simp [plain]
  | .str z, h => by simp [plain]
  | .list ds, h => by
    have h2 : ds.length < 1000 ∧ goods ds = true := by simpa [good] using h
    simpa [plain] using goods_plain ds h2.2
  | .tuple ds, h => by
    have h2 : ds.length < 1000 ∧ goods ds = true := by simpa [good] using h
    simpa [plain] using goods_plain ds h2.2
  | .dict _, h => by simp [good] at h
theorem goods_plain : ∀ ds : List PyData, goods ds = true → plains ds = true
  | [], _ => by simp [plains]
  | d :: ds, h => by
    have g2 : good d = true ∧ goods ds = true := by simpa [goods] using h
    simp [plains, good_plain d g2.1, goods_plain ds g2.2]
end
/-- good, and not too deep -/
structure OKd (d : PyData) : Prop where
  good : good d = true
  dep : d.depth ≤ 60
theorem OKd.shaped {d : PyData} (h : OKd d) : SeqAt.shaped d = true := by
  unfold SeqAt.shaped
  rw [good_can d h.good, Bool.true_and]
  exact decide_eq_true (Nat.le_trans h.dep (by decide))
theorem OKd.mem_l {d : PyData} {ds : List PyData} (h : OKd (.list ds)) (m : d ∈ ds) : OKd d := by
  have g := h.good
  have g2 : ds.length < 1000 ∧ goods ds = true := by simpa [Cb.good] using g
  refine ⟨goods_mem g2.2 m, ?_⟩
  have := PyData.depth_le_depthAll ds d m
  have h2 := h.dep
  simp only [PyData.depth] at h2
  omega
theorem OKd.mem_t {d : PyData} {ds : List PyData} (h : OKd (.tuple ds)) (m : d ∈ ds) : OKd d := by
  have g := h.good
  have g2 : ds.length < 1000 ∧ goods ds = true := by simpa [Cb.good] using g
  refine ⟨goods_mem g2.2 m, ?_⟩
  have := PyData.depth_le_depthAll ds d m
  have h2 := h.dep
  simp only [PyData.depth] at h2
  omega
theorem OKd.len_l {ds : List PyData} (h : OKd (.list ds)) : ds.length < 1000 := by
  have g := h.good
  have g2 : ds.length < 1000 ∧ goods ds = true := by simpa [Cb.good] using g
  exact g2.1
theorem OKd.len_t {ds : List PyData} (h : OKd (.tuple ds)) : ds.length < 1000 := by
  have g := h.good
  have g2 : ds.length < 1000 ∧ goods ds = true := by simpa [Cb.good] using g
  exact g2.1
theorem OKd.len_s {z : Str} (h : OKd (.str z)) : z.length ≤ 1000 := by
  have g := h.good
  have g2 : PyData.strOk z = true ∧ z.length ≤ 1000 := by simpa [Cb.good] using g
  exact g2.2
theorem okd_str {z : Str} (h : PyData.strOk z = true) (l : z.length ≤ 1000) : OKd (.str z) := by
  refine ⟨?_, ?_⟩
  · simp [Cb.good, h, l]
  · simp [PyData.depth]
/-! ### == of an item and a text -/
theorem eqv_str (z y : Str) : PyData.eqv (.str z) (.str y) = decide (z = y) := by
  simp only [PyData.eqv]
  by_cases h : z = y <;> simp [h]
def isStr (y : Str) : PyData → Bool
  | .str z => decide (z = y)
  | _ => false
theorem eqv_isStr (y : Str) : ∀ d : PyData, PyData.eqv d (.str y) = isStr y d
  | .none => by simp [PyData.eqv, isStr]
  | .bool _ => by simp [PyData.eqv, isStr]
  | .int _ => by simp [PyData.eqv, isStr]
  | .str z => eqv_str z y
  | .list _ => by simp [PyData.eqv, isStr]
  | .tuple _ => by simp [PyData.eqv, isStr]
  | .dict _ => by simp [PyData.eqv, isStr]
/-! ### tests of what is known -/
theorem ifNot {p : Prop} [Decidable p] {A B : Prop} (hA : ¬ p → A) (hB : p → B) : if (!decide p) = true then A else B := by
  by_cases h : p
  · rw [decide_eq_true h]
    exact iteF (hB h)
  · rw [decide_eq_false h]
    exact iteT (hA h)
theorem ifB {b : Bool} {A B : Prop} (hA : b = true → A) (hB : b = false → B) : if b = true then A else B := by
  cases b with
  | true => exact iteT (hA rfl)
  | false => exact iteF (hB rfl)
theorem ifN {z y : Str} {A B : Prop} (h : ¬ z = y) (b : B) : if decide (V.str z = V.str y) = true then A else B := by
  rw [decide_eq_false (fun e => h (V.str.inj e))]
  exact iteF b
theorem ifY {z y : Str} {A B : Prop} (h : z = y) (a : A) : if decide (V.str z = V.str y) = true then A else B := by
  rw [decide_eq_true (congrArg V.str h)]
  exact iteT a
/-! ### signs of texts -/
def lowC (c : Nat) : Bool := decide (97 ≤ c) && decide (c ≤ 122)
def digC (c : Nat) : Bool := decide (48 ≤ c) && decide (c ≤ 57)
theorem lt1 (a c : Nat) : ([c] < [a]) ↔ c < a := by
  rw [List.cons_lt_cons_iff]
  simp
end Cb
set_option Elab.async false
set_option linter.all false
set_option maxRecDepth 100000
set_option maxHeartbeats 4000000
namespace Cb
open PySem PySem.Spec PyProof.Rows L2
/-! ### what is not looked at -/
def hid (S : List Addr) (H : Hp) : Hp := fun b => if b ∈ S then none else H b
def Keep (S : List Addr) (H H' : Hp) : Prop := ∀ b o, b ∉ S → H b = some o → H' b = some o
theorem hid_at {S : List Addr} {H : Hp} {b : Addr} {o : HO} (n : b ∉ S) (e : H b = some o) : hid S H b = some o := by
  unfold hid
  rw [if_neg n]
  exact e
theorem hid_out {S : List Addr} {H : Hp} {b : Addr} {o : HO} (e : hid S H b = some o) : b ∉ S ∧ H b = some o := by
  unfold hid at e
  split at e
  · cases e
  · exact ⟨by assumption, e⟩
theorem Keep.hid {S : List Addr} {H H' : Hp} (k : Keep S H H') : Same (hid S H) (hid S H') := fun b o e => by
  obtain ⟨n, e2⟩ := hid_out e
  exact hid_at n (k b o n e2)
theorem hid_same {S : List Addr} {H : Hp} : Same (hid S H) H := fun b o e => (hid_out e).2
theorem hid_mono {S S' : List Addr} {H : Hp} (h : ∀ b, b ∈ S → b ∈ S') : Same (hid S' H) (hid S H) := fun b o e => by
  obtain ⟨n, e2⟩ := hid_out e
  exact hid_at (fun z => n (h b z)) e2
theorem Same.keep {S : List Addr} {H H' : Hp} (s : Same H H') : Keep S H H' := fun b o _ e => s b o e
theorem Keep.trans {S : List Addr} {H H' H'' : Hp} (a : Keep S H H') (b : Keep S H' H'') : Keep S H H'' := fun c o n e => b c o n (a c o n e)
theorem Keep.refl {S : List Addr} {H : Hp} : Keep S H H := fun _ _ _ e => e
theorem Keep.mono {S S' : List Addr} {H H' : Hp} (k : Keep S H H') (h : ∀ b, b ∈ S → b ∈ S') : Keep S' H H' := fun b o n e => k b o (fun z => n (h b z)) e
/-- writing what is hidden -/
theorem keep_upd {S : List Addr} {H : Hp} {p : Addr} {o : HO} (h : p ∈ S) : Keep S H (upd H p o) := fun b u n e => by
  rw [upd_ne (show b ≠ p from fun z => n (by rw [z]; exact h))]
  exact e
theorem keep_new {S : List Addr} {H : Hp} {p : Addr} {o : HO} (h : H p = none) : Keep S H (upd H p o) := fun b u _ e => same_new h b u e
/-- what was new when S' was told may be hidden no more -/
theorem Keep.less {S S' : List Addr} {H H' : Hp} (k : Keep S' H H') (h : ∀ b, b ∈ S' → b ∉ S → H b = none) : Keep S H H' := fun b o n e => by
  by_cases z : b ∈ S'
  · rw [h b z n] at e
    cases e
  · exact k b o z e
/-! ### data of bounded size -/
def fit : List Nat → PyData → Bool
  | _, .none => true
  | _, .bool _ => true
  | _, .int i => decide (i = 0) || decide (i = 7)
  | _, .str z => PyData.strOk z && decide (z.length ≤ 40)
  | w :: ws, .list ds => decide (ds.length ≤ w) && ds.all (fit ws)
  | w :: ws, .tuple ds => decide (ds.length ≤ w) && ds.all (fit ws)
  | _, _ => false
def bulk : List Nat → Nat
  | [] => 40
  | w :: ws => 40 + w * (bulk ws + 1)
theorem bulk_40 : ∀ ws, 40 ≤ bulk ws
  | [] => Nat.le_refl _
  | w :: ws => by
    unfold bulk
    omega
theorem weightAll_le {n : Nat} : ∀ {ds : List PyData}, (∀ d ∈ ds, d.weight ≤ n) → PyData.weightAll ds ≤ ds.length * (n + 1)
  | [], _ => by simp [PyData.weightAll]
  | d :: ds, h => by
    have h1 := h d (List.mem_cons_self ..)
    have h2 := weightAll_le (ds := ds) fun e he => h e (List.mem_cons_of_mem _ he)
    simp only [PyData.weightAll, List.length_cons]
    rw [Nat.add_mul]
    omega
theorem canAll {ds : List PyData} (h : ∀ d ∈ ds, d.canLay0 = true) : PyData.canLayAll0 ds = true := by
  induction ds with
  | nil => simp [PyData.canLayAll0]
  | cons d ds ih => simp [PyData.canLayAll0, h d (List.mem_cons_self ..), ih fun e he => h e (List.mem_cons_of_mem _ he)]
theorem depthAll_le {n : Nat} {ds : List PyData} (h : ∀ d ∈ ds, d.depth ≤ n) : PyData.depthAll ds ≤ n := by
  induction ds with
  | nil => simp [PyData.depthAll]
  | cons d ds ih =>
    have h1 := h d (List.mem_cons_self ..)
    have h2 := ih fun e he => h e (List.mem_cons_of_mem _ he)
    simp only [PyData.depthAll]
    omega
/-- what fits is good, can be laid out, compared and shown -/
structure Fits (ws : List Nat) (d : PyData) : Prop where
  good : good d = true
  dep : d.depth ≤ ws.length
  wgt : d.weight ≤ bulk ws
  short : d.intsShort 13 = true
  shw : d.showable = true
  nod : d.hasDict = false
theorem goods_of : ∀ {ds : List PyData}, (∀ d ∈ ds, good d = true) → goods ds = true
  | [], _ => rfl
  | d :: ds, h => by
    simp only [goods, h d (List.mem_cons_self ..), goods_of (ds := ds) fun e he => h e (List.mem_cons_of_mem _ he), Bool.and_self]
theorem showAll_of : ∀ {ds : List PyData}, (∀ d ∈ ds, d.showable = true) → PyData.showableAll ds = true
  | [], _ => by simp [PyData.showableAll]
  | d :: ds, h => by
    simp only [PyData.showableAll, h d (List.mem_cons_self ..), showAll_of (ds := ds) fun e he => h e (List.mem_cons_of_mem _ he), Bool.and_self]
theorem shortAll_of : ∀ {ds : List PyData}, (∀ d ∈ ds, d.intsShort 13 = true) → PyData.intsShortAll 13 ds = true
  | [], _ => by simp [PyData.intsShortAll]
  | d :: ds, h => by
    simp only [PyData.intsShortAll, h d (List.mem_cons_self ..), shortAll_of (ds := ds) fun e he => h e (List.mem_cons_of_mem _ he), Bool.and_self]
theorem nodAll_of : ∀ {ds : List PyData}, (∀ d ∈ ds, d.hasDict = false) → PyData.hasDictAll ds = false
  | [], _ => by simp [PyData.hasDictAll]
  | d :: ds, h => by
    simp only [PyData.hasDictAll, h d (List.mem_cons_self ..), nodAll_of (ds := ds) fun e he => h e (List.mem_cons_of_mem _ he), Bool.or_self]
theorem log_100 {i : Int} (h : i.natAbs < 100) : i.natAbs.log2 < 1920 := Nat.lt_of_lt_of_le (PySem.Flt.log2_lt_of (by decide) (show i.natAbs < 2 ^ 7 by omega)) (by decide)
theorem fits_of : ∀ (ws : List Nat), (∀ w ∈ ws, w < 1000) → ∀ d : PyData, fit ws d = true → Fits ws d
  | ws, _, .none, _ => ⟨rfl, by simp [PyData.depth], by simp [PyData.weight], by simp [PyData.intsShort], by simp [PyData.showable], by simp [PyData.hasDict]⟩
  | ws, _, .bool _, _ => ⟨rfl, by simp [PyData.depth], by simp [PyData.weight], by simp [PyData.intsShort], by simp [PyData.showable], by simp [PyData.hasDict]⟩
  | ws, _, .int i, h => by
    have h2 : i = 0 ∨ i = 7 := by cases ws <;> simpa [fit] using h
    have h40 := bulk_40 ws
    rcases h2 with rfl | rfl
    · exact ⟨rfl, by simp [PyData.depth], by simp [PyData.weight], by decide +kernel, by decide +kernel, by simp [PyData.hasDict]⟩
    · exact ⟨rfl, by simp [PyData.depth], Nat.le_trans (by decide +kernel) h40, by decide +kernel, by decide +kernel, by simp [PyData.hasDict]⟩
  | ws, _, .str z, h => by
    have h2 : PyData.strOk z = true ∧ z.length ≤ 40 := by cases ws <;> simpa [fit] using h
    have h40 := bulk_40 ws
    refine ⟨?_, by simp [PyData.depth], ?_, by simp [PyData.intsShort], by simp [PyData.showable], by simp [PyData.hasDict]⟩
    · simp only [Cb.good, h2.1, Bool.true_and]
      exact decide_eq_true (Nat.le_trans h2.2 (by decide))
    · simp only [PyData.weight]
      exact Nat.le_trans h2.2 h40
  | [], _, .list _, h => by simp [fit] at h
  | [], _, .tuple _, h => by simp [fit] at h
  | [], _, .dict _, h => by simp [fit] at h
  | _ :: _, _, .dict _, h => by simp [fit] at h
  | w :: ws, hw, .list ds, h => by
    have h2 : ds.length ≤ w ∧ ds.all (fit ws) = true := by simpa only [fit, Bool.and_eq_true, decide_eq_true_eq] using h
    have all : ∀ d ∈ ds, Fits ws d := fun d hd => fits_of ws (fun x hx => hw x (List.mem_cons_of_mem _ hx)) d (List.all_eq_true.mp h2.2 d hd)
    have w1 := hw w (List.mem_cons_self ..)
    refine ⟨?_, ?_, ?_, ?_, ?_, ?_⟩
    · simp only [Cb.good, goods_of fun d hd => (all d hd).good, Bool.and_true]
      exact decide_eq_true (by omega)
    · have := depthAll_le fun d hd => (all d hd).dep
      simp only [PyData.depth, List.length_cons]
      omega
    · have h3 := weightAll_le fun d hd => (all d hd).wgt
      have h4 : ds.length * (bulk ws + 1) ≤ w * (bulk ws + 1) := Nat.mul_le_mul_right _ h2.1
      simp only [PyData.weight, bulk]
      omega
    · simp only [PyData.intsShort]
      exact shortAll_of fun d hd => (all d hd).short
    · simp only [PyData.showable]
      exact showAll_of fun d hd => (all d hd).shw
    · simp only [PyData.hasDict]
      exact nodAll_of fun d hd => (all d hd).nod
  | w :: ws, hw, .tuple ds, h => by
    have h2 : ds.length ≤ w ∧ ds.all (fit ws) = true := by simpa only [fit, Bool.and_eq_true, decide_eq_true_eq] using h
    have all : ∀ d ∈ ds, Fits ws d := fun d hd => fits_of ws (fun x hx => hw x (List.mem_cons_of_mem _ hx)) d (List.all_eq_true.mp h2.2 d hd)
    have w1 := hw w (List.mem_cons_self ..)
    refine ⟨?_, ?_, ?_, ?_, ?_, ?_⟩
    · simp only [Cb.good, goods_of fun d hd => (all d hd).good, Bool.and_true]
      exact decide_eq_true (by omega)
    · have := depthAll_le fun d hd => (all d hd).dep
      simp only [PyData.depth, List.length_cons]
      omega
    · have h3 := weightAll_le fun d hd => (all d hd).wgt
      have h4 : ds.length * (bulk ws + 1) ≤ w * (bulk ws + 1) := Nat.mul_le_mul_right _ h2.1
      simp only [PyData.weight, bulk]
      omega
    · simp only [PyData.intsShort]
      exact shortAll_of fun d hd => (all d hd).short
    · simp only [PyData.showable]
      exact showAll_of fun d hd => (all d hd).shw
    · simp only [PyData.hasDict]
      exact nodAll_of fun d hd => (all d hd).nod
theorem Fits.ok {ws : List Nat} {d : PyData} (f : Fits ws d) (l : ws.length ≤ 60) : OKd d := ⟨f.good, Nat.le_trans f.dep l⟩
theorem Fits.len {ws : List Nat} {d : PyData} (f : Fits ws d) (l : ws.length ≤ 60) (b : bulk ws ≤ 2 ^ 20) : d.shown.length ≤ sizeLine := by
  refine Nat.le_trans (PyProof.Rows.shown_le13 ?_ f.short) (by decide)
  simp only [PyData.layable0, good_can d f.good, Bool.true_and, Bool.and_eq_true, decide_eq_true_eq]
  exact ⟨Nat.le_trans f.dep (by omega), Nat.le_trans f.wgt b⟩
/-- its text, asked by call_repr -/
theorem r_fits {K : PySem.W.Frag} {u : Nat} {H : Hp} {Q : VK} {v : V} {d : PyData} {ws : List Nat} (h : DT H v d) (f : Fits ws d) (l : ws.length ≤ 60) (b : bulk ws ≤ 2 ^ 20) (hu : u + 200 < cLine) (q : Q (.str (PyData.shown d)) H) : rRepr K u [v] H Q := by
  unfold rRepr
  exact ⟨v, d, rfl, h.dp (good_plain d f.good), f.shw, f.nod, by have := f.dep; omega, .inr (f.len l b), q⟩
end Cb
set_option Elab.async false
set_option linter.all false
set_option maxRecDepth 100000
set_option maxHeartbeats 4000000
namespace Cb
open PySem PySem.Spec PyProof.Rows L2
def topS (i : Nat) : Stmt := PySem.Challenge.pw_cellbills_k04_lists_of_declarations_judg.main.body.getD i (.Pass ⟨0, 0, 0, 0⟩)
/-! ### words -/
abbrev s_is_letter : Stmt := topS 3
theorem sc_is_letter : FnScope ["sign"] ["sign"] (defScope s_is_letter) := ⟨rfl, rfl, rfl, by decide +kernel, rfl, by decide +kernel, by decide +kernel⟩
abbrev s_is_digit : Stmt := topS 4
theorem sc_is_digit : FnScope ["sign"] ["sign"] (defScope s_is_digit) := ⟨rfl, rfl, rfl, by decide +kernel, rfl, by decide +kernel, by decide +kernel⟩
abbrev s_is_reserved : Stmt := topS 5
theorem sc_is_reserved : FnScope ["text"] ["text"] (defScope s_is_reserved) := ⟨rfl, rfl, rfl, by decide +kernel, rfl, by decide +kernel, by decide +kernel⟩
abbrev s_is_word : Stmt := topS 6
theorem sc_is_word : FnScope ["value", "sign"] ["value"] (defScope s_is_word) := ⟨rfl, rfl, rfl, by decide +kernel, rfl, by decide +kernel, by decide +kernel⟩
abbrev s_are_strings : Stmt := topS 7
theorem sc_are_strings : FnScope ["values", "value"] ["values"] (defScope s_are_strings) := ⟨rfl, rfl, rfl, by decide +kernel, rfl, by decide +kernel, by decide +kernel⟩
def resL : List Str := ["calls", "catch", "drop", "else", "end", "fail", "flag", "fun", "go", "if", "in", "keep", "kind", "let", "match", "no", "not", "num", "raise", "take", "then", "to", "try", "use", "yes"]
def isRes (z : Str) : Bool := decide (z ∈ resL)
structure TWord (K : PySem.W.Frag) (w : World) (mg : Str → Option Value) : Prop where
  d_is_letter : Has K mg "is_letter" s_is_letter ["sign"]
  d_is_digit : Has K mg "is_digit" s_is_digit ["sign"]
  d_is_reserved : Has K mg "is_reserved" s_is_reserved ["text"]
  d_is_word : Has K mg "is_word" s_is_word ["value"]
  d_are_strings : Has K mg "are_strings" s_are_strings ["values"]
  b_isinstance : mg "isinstance" = none
  b_str : mg "str" = none
  b_list : mg "list" = none
  b_tuple : mg "tuple" = none
  b_len : mg "len" = none
  b_all : mg "all" = none
  g_MOST_SIGNS : ∃ t, mg "MOST_SIGNS" = some (.int 30 t)
  g_RESERVED : ∃ (d : Addr) (es : Array DictEntry) (n : Nat), mg "RESERVED" = some (.ref d) ∧ KDict K w d es n ∧ ∀ z : Str, ∃ r : Option Value, PySem.W.nsIn K d z = some r ∧ r.isSome = isRes z
section
variable {P : Program} {w : World} {K : PySem.W.Frag} {mg : Str → Option Value} {base : Heap}
def sp_is_letter : Sp := fun vs H Q _ => ∃ c : Nat, vs = [.str ⟨#[c]⟩] ∧ Q (.bl (lowC c)) H
theorem c_is_letter (T : TWord K w mg) : Says P w K mg base 1 "is_letter" ["sign"] sp_is_letter := by
  refine says T.d_is_letter sc_is_letter (fun vs H Q E h => ?_) (fun f cdv A outer s H vs Q E hr h => ?_)
  · obtain ⟨_, rfl, _⟩ := h; rfl
  · refine ⟨_, (pss_one (ps_ret (pe_chain op_le_str op_le_str pe_str (pv 0) pe_str))), ?_⟩
    obtain ⟨c, rfl, q⟩ := h
    unfold lowC at q
    refine ⟨_, rfl, _, _, rfl, rfl, _, rfl, ?_⟩
    refine ifNot (fun h => ?_) (fun h => ?_)
    · have h1 : 97 ≤ c := Nat.le_of_not_lt fun z => h ((lt1 97 c).mpr z)
      rw [decide_eq_true h1, Bool.true_and] at q
      refine ⟨_, _, rfl, rfl, ?_⟩
      by_cases h2 : c ≤ 122
      · rw [decide_eq_true h2] at q
        have e : decide (([122] : List Nat) < [c]) = false := decide_eq_false fun z => Nat.not_lt.mpr h2 ((lt1 c 122).mp z)
        show Q (.bl (!decide (([122] : List Nat) < [c]))) H
        rw [e]
        exact q
      · rw [decide_eq_false h2] at q
        have e : decide (([122] : List Nat) < [c]) = true := decide_eq_true ((lt1 c 122).mpr (Nat.lt_of_not_le h2))
        show Q (.bl (!decide (([122] : List Nat) < [c]))) H
        rw [e]
        exact q
    · have h1 : ¬ 97 ≤ c := Nat.not_le.mpr ((lt1 97 c).mp h)
      rw [decide_eq_false h1, Bool.false_and] at q
      exact q
def sp_is_digit : Sp := fun vs H Q _ => ∃ c : Nat, vs = [.str ⟨#[c]⟩] ∧ Q (.bl (digC c)) H
theorem c_is_digit (T : TWord K w mg) : Says P w K mg base 1 "is_digit" ["sign"] sp_is_digit := by
  refine says T.d_is_digit sc_is_digit (fun vs H Q E h => ?_) (fun f cdv A outer s H vs Q E hr h => ?_)
  · obtain ⟨_, rfl, _⟩ := h; rfl
  · refine ⟨_, (pss_one (ps_ret (pe_chain op_le_str op_le_str pe_str (pv 0) pe_str))), ?_⟩
    obtain ⟨c, rfl, q⟩ := h
    unfold digC at q
    refine ⟨_, rfl, _, _, rfl, rfl, _, rfl, ?_⟩
    refine ifNot (fun h => ?_) (fun h => ?_)
    · have h1 : 48 ≤ c := Nat.le_of_not_lt fun z => h ((lt1 48 c).mpr z)
      rw [decide_eq_true h1, Bool.true_and] at q
      refine ⟨_, _, rfl, rfl, ?_⟩
      by_cases h2 : c ≤ 57
      · rw [decide_eq_true h2] at q
        have e : decide (([57] : List Nat) < [c]) = false := decide_eq_false fun z => Nat.not_lt.mpr h2 ((lt1 c 57).mp z)
        show Q (.bl (!decide (([57] : List Nat) < [c]))) H
        rw [e]
        exact q
      · rw [decide_eq_false h2] at q
        have e : decide (([57] : List Nat) < [c]) = true := decide_eq_true ((lt1 c 57).mpr (Nat.lt_of_not_le h2))
        show Q (.bl (!decide (([57] : List Nat) < [c]))) H
        rw [e]
        exact q
    · have h1 : ¬ 48 ≤ c := Nat.not_le.mpr ((lt1 48 c).mp h)
      rw [decide_eq_false h1, Bool.false_and] at q
      exact q
def sp_is_reserved : Sp := fun vs H Q _ => ∃ z : Str, vs = [.str z] ∧ Q (.bl (isRes z)) H
theorem c_is_reserved (T : TWord K w mg) : Says P w K mg base 1 "is_reserved" ["text"] sp_is_reserved := by
  obtain ⟨d, es, n, g, D, all⟩ := T.g_RESERVED
  refine says T.d_is_reserved sc_is_reserved (fun vs H Q E h => ?_) (fun f cdv A outer s H vs Q E hr h => ?_)
  · obtain ⟨_, rfl, _⟩ := h; rfl
  · refine ⟨_, (pss_one (ps_ret (pe_cmpR (op_in_kd D) (pv 0) (pe_glob (v := .ref d) rfl g rfl) (by rfl)))), ?_⟩
    obtain ⟨z, rfl, q⟩ := h
    obtain ⟨r, e, er⟩ := all z
    rw [← er] at q
    exact ⟨_, rfl, _, _, rfl, rfl, e, q⟩
/-- a word, of its signs -/
def headLow (z : Str) : Bool := match z.cps[0]? with
  | some c => lowC c
  | none => false
def isWordS (z : Str) : Bool := (decide (1 ≤ z.length) && decide (z.length ≤ 30)) && (headLow z && !isRes z) && z.cps.toList.all fun c => lowC c || digC c
def isWord : PyData → Bool
  | .str z => isWordS z
  | _ => false
def sp_is_word : Sp := fun vs H Q _ => ∃ (v : V) (d : PyData), vs = [v] ∧ DT H v d ∧ OKd d ∧ ∀ H', Same H H' → Q (.bl (isWord d)) H'
theorem c_is_word (T : TWord K w mg) : Says P w K mg base 2 "is_word" ["value"] sp_is_word := by
  obtain ⟨tm, gm⟩ := T.g_MOST_SIGNS
  refine says T.d_is_word sc_is_word (fun vs H Q E h => ?_) (fun f cdv A outer s H vs Q E hr h => ?_)
  · obtain ⟨_, _, rfl, _⟩ := h; rfl
  · refine ⟨_, (pss_cons (ps_if (PW.pt (pw_or (pt_not (pt_val (pe_callB call_isi (by rfl) T.b_isinstance (by decide +kernel) (pa_cons (pv 0) (pa_cons (pe_bltn (v := .ty "str") (by rfl) T.b_str (by decide +kernel) rfl) pa_nil))))) (pw_or1 (pt_not (pt_chain op_le op_le pe_int (pe_callB call_len_str (by rfl) T.b_len (by decide +kernel) (pa_cons (pv 0) pa_nil)) (pe_glob (v := .int 30) rfl gm ⟨_, rfl⟩))))))
        (pss_one (ps_ret pe_bl))
        pss_nil)
      (pss_cons (ps_if (PW.pt (pw_or (pt_not (pt_val (pe_s (c_is_letter T) hr (pa_cons (pe_item_str (pv 0) pe_int (fun _ _ => rfl)) pa_nil)))) (pw_or1 (pt_val (pe_s (c_is_reserved T) hr (pa_cons (pv 0) pa_nil))))))
        (pss_one (ps_ret pe_bl))
        pss_nil)
      (pss_one (ps_ret (pe_callB (cr_all rfl) (by rfl) T.b_all (by decide +kernel) (pa_cons (pe_lc (own := [("sign", 1)]) (g := gName 1) (tt := tYes) rfl sc_is_word.nd (pi_str (pv 0)) (blkOk_by (N := ["value", "sign"]) (sc := defScope s_is_word) (own := [("sign", 1)]) (by decide +kernel)) (fun _ _ _ _ _ => pg_name (i := 1) sc_is_word.nd rfl (Or.inl rfl)) (fun _ _ _ _ _ => pts_nil) (fun _ _ _ _ _ => (pe_or (pe_s (c_is_letter T) hr (pa_cons (pv 1) pa_nil)) (pe_one (pe_s (c_is_digit T) hr (pa_cons (pv 1) pa_nil)))))) pa_nil)))))), ?_⟩
    obtain ⟨v, d, rfl, hd, ok, q⟩ := h
    refine ⟨_, rfl, _, _, _, _, _, rfl, .ty _, hd.ty, kit_ty (kit_s d), _, rfl, ?_⟩
    cases d with
    | str z =>
      cases hd
      have lz := ok.len_s
      have q1 := q
      show if (!true) = true then _ else _
      refine iteF ?_
      refine ⟨_, rfl, _, rfl, Nat.le_trans lz (by decide), ?_⟩
      refine ⟨_, _, rfl, rfl, _, rfl, ?_⟩
      have back : (decide (1 ≤ z.length) && decide (z.length ≤ 30)) = false → ∀ H', Same H H' → Q (.bl false) H' := fun e H' s' => by
        have q2 : Q (.bl (isWordS z)) H' := q H' s'
        unfold isWordS at q2
        rw [e] at q2
        simpa using q2
      refine ifB (fun h1 => ?_) (fun h1 => ?_)
      · have l1 : 1 ≤ z.length := by
          have := of_decide_eq_true h1
          omega
        refine ⟨_, _, rfl, rfl, _, rfl, ?_⟩
        refine ifB (fun h2 => ?_) (fun h2 => ?_)
        · have n2 : ¬ z.length ≤ 30 := fun y => by
            have : decide (((z.length : Nat) : Int) ≤ 30) = true := decide_eq_true (by omega)
            rw [this] at h2
            cases h2
          exact back (by rw [decide_eq_false n2, Bool.and_false]) _ (Same.refl _)
        · have l2 : z.length ≤ 30 := by
            cases z2 : decide (((z.length : Nat) : Int) ≤ 30) with
            | false => 
              rw [z2] at h2
              cases h2
            | true =>
              have := of_decide_eq_true z2
              omega
          have hc : ∃ c, z.cps[0]? = some c := ⟨z.cps[0]'l1, Array.getElem?_eq_getElem l1⟩
          obtain ⟨c, hc⟩ := hc
          refine ⟨_, rfl, _, _, c, rfl, rfl, by decide, by decide, by omega, hc, ?_⟩
          refine ⟨c, rfl, _, rfl, ?_⟩
          have hl : headLow z = lowC c := by
            unfold headLow
            rw [hc]
          have q3 : ∀ H', Same H H' → Q (.bl ((lowC c && !isRes z) && z.cps.toList.all fun c => lowC c || digC c)) H' := fun H' s' => by
            have q2 : Q (.bl (isWordS z)) H' := q H' s'
            unfold isWordS at q2
            rw [decide_eq_true l1, decide_eq_true l2, hl] at q2
            simpa using q2
          refine ifB (fun h3 => ?_) (fun h3 => ?_)
          · have e : lowC c = false := by simpa using h3
            have q4 := q3 H (Same.refl _)
            rw [e] at q4
            exact q4
          · have e : lowC c = true := by simpa using h3
            refine ⟨_, rfl, _, rfl, _, rfl, ?_⟩
            refine ifB (fun h4 => ?_) (fun h4 => ?_)
            · have q4 := q3 H (Same.refl _)
              rw [e, h4] at q4
              exact q4
            · refine ⟨_, rfl, _, rfl, fun D hD => lc_mapW (walk_str (z := z)) (ys := (z.cps.toList.map fun c => V.bl (lowC c || digC c))) (fun _ _ => trivial) (fun j H x H' y => y.1) hD (by simp) (by show z.cps.size < 1000; have : z.cps.size = z.length := rfl; omega) ?_ ?_⟩
              · rintro j x y H' Q' s1 ⟨_, c2, hc2, rfl⟩ hy q'
                have hy2 : y = .bl (lowC c2 || digC c2) := by
                  rw [List.getElem?_map, Array.getElem?_toList, hc2] at hy
                  exact (Option.some.inj hy).symm
                subst hy2
                refine ⟨_, rfl, c2, rfl, _, rfl, ?_⟩
                cases e2 : lowC c2 with
                | true =>
                  rw [e2] at q'
                  exact iteT (q' _ (Same.refl _))
                | false =>
                  rw [e2] at q'
                  exact iteF ⟨_, rfl, c2, rfl, q' _ (Same.refl _)⟩
              · intro H' s1 hd2
                refine ⟨_, (z.cps.toList.map fun c => lowC c || digC c), rfl, ?_, ?_⟩
                · rw [List.map_map]
                  exact SqL.of hd2
                · have q4 := q3 H' s1
                  rw [e, h4] at q4
                  rw [List.all_map]
                  simpa using q4
      · have n1 : ¬ 1 ≤ z.length := fun y => by
          have : decide ((1 : Int) ≤ ((z.length : Nat) : Int)) = true := decide_eq_true (by omega)
          rw [this] at h1
          cases h1
        refine ⟨_, rfl, ?_⟩
        exact back (by rw [decide_eq_false n1, Bool.false_and]) _ (Same.refl _)
    | none => exact iteT (q _ (Same.refl _))
    | bool _ => exact iteT (q _ (Same.refl _))
    | int _ => exact iteT (q _ (Same.refl _))
    | list _ => exact iteT (q _ (Same.refl _))
    | tuple _ => exact iteT (q _ (Same.refl _))
    | dict _ => exact iteT (q _ (Same.refl _))
/-- all strings, of a list -/
def sp_are_strings : Sp := fun vs H Q _ => ∃ (p : Addr) (xs : List V) (ds : List PyData), vs = [.ref p] ∧ H p = some (.lst xs) ∧ DTs H xs ds ∧ xs.length < 1000 ∧ ∀ H', Same H H' → Q (.bl (ds.all isS)) H'
theorem c_are_strings (T : TWord K w mg) : Says P w K mg base 1 "are_strings" ["values"] sp_are_strings := by
  refine says T.d_are_strings sc_are_strings (fun vs H Q E h => ?_) (fun f cdv A outer s H vs Q E hr h => ?_)
  · obtain ⟨_, _, _, rfl, _⟩ := h; rfl
  · refine ⟨_, (pss_one (ps_ret (pe_callB (cr_all rfl) (by rfl) T.b_all (by decide +kernel) (pa_cons (pe_lc (own := [("value", 1)]) (g := gName 1) (tt := tYes) rfl sc_are_strings.nd (pi_list (pv 0)) (blkOk_by (N := ["values", "value"]) (sc := defScope s_are_strings) (own := [("value", 1)]) (by decide +kernel)) (fun _ _ _ _ _ => pg_name (i := 1) sc_are_strings.nd rfl (Or.inl rfl)) (fun _ _ _ _ _ => pts_nil) (fun _ _ _ _ _ => (pe_callB (id := "isinstance") (r := rIsi K) call_isi (by rfl) T.b_isinstance (by decide +kernel) (pa_cons (pv 1) (pa_cons (pe_bltn (v := .ty "str") (by rfl) T.b_str (by decide +kernel) rfl) pa_nil))))) pa_nil)))), ?_⟩
    obtain ⟨p, xs, ds, rfl, hp, hds, small, q⟩ := h
    refine ⟨_, rfl, _, rfl, ⟨_, SqL.of hp⟩, fun D hD => lc_mapW (walk_list (K := K) (a := p) (xs := xs)) (ys := ds.map fun d => V.bl (isS d)) (fun H' s' => s'.seq (SqL.of hp)) (fun j H x H' y => y.1) hD (by rw [List.length_map, hds.length]) small ?_ ?_⟩
    · rintro j x y H' Q' s1 ⟨_, hx⟩ hy q'
      rw [List.getElem?_map] at hy
      cases hdj : ds[j]? with
      | none =>
        rw [hdj] at hy
        cases hy
      | some d =>
        rw [hdj] at hy
        obtain rfl : V.bl (isS d) = y := Option.some.inj hy
        have hx2 : DT H' x d := (hds.get hx hdj).same s1 d
        exact ⟨x, rfl, _, _, _, _, _, rfl, .ty _, hx2.ty, kit_ty (kit_s d), q' _ (Same.refl _)⟩
    · intro H' s1 hd2
      refine ⟨_, ds.map isS, rfl, ?_, ?_⟩
      · rw [List.map_map]
        exact SqL.of hd2
      · have q4 := q H' s1
        rw [List.all_map]
        exact q4
end
end Cb
set_option Elab.async false
set_option linter.all false
set_option maxRecDepth 100000
set_option maxHeartbeats 4000000
namespace Cb
open PySem PySem.Spec PyProof.Rows L2
abbrev s_is_kind_list : Stmt := topS 12
theorem sc_is_kind_list : FnScope ["value"] ["value"] (defScope s_is_kind_list) := ⟨rfl, rfl, rfl, by decide +kernel, rfl, by decide +kernel, by decide +kernel⟩
abbrev s_is_maker : Stmt := topS 13
theorem sc_is_maker : FnScope ["value"] ["value"] (defScope s_is_maker) := ⟨rfl, rfl, rfl, by decide +kernel, rfl, by decide +kernel, by decide +kernel⟩
abbrev s_is_choice_form : Stmt := topS 14
theorem sc_is_choice_form : FnScope ["value", "name", "makers", "maker"] ["value"] (defScope s_is_choice_form) := ⟨rfl, rfl, rfl, by decide +kernel, rfl, by decide +kernel, by decide +kernel⟩
abbrev s_is_calls_form : Stmt := topS 15
theorem sc_is_calls_form : FnScope ["value", "name", "wanted", "answer"] ["value"] (defScope s_is_calls_form) := ⟨rfl, rfl, rfl, by decide +kernel, rfl, by decide +kernel, by decide +kernel⟩
abbrev s_is_declaration_form : Stmt := topS 16
theorem sc_is_declaration_form : FnScope ["value"] ["value"] (defScope s_is_declaration_form) := ⟨rfl, rfl, rfl, by decide +kernel, rfl, by decide +kernel, by decide +kernel⟩
abbrev s_maker_names : Stmt := topS 17
theorem sc_maker_names : FnScope ["declaration", "maker"] ["declaration"] (defScope s_maker_names) := ⟨rfl, rfl, rfl, by decide +kernel, rfl, by decide +kernel, by decide +kernel⟩
abbrev s_kinds_within : Stmt := topS 18
theorem sc_kinds_within : FnScope ["declaration", "maker", "kind"] ["declaration"] (defScope s_kinds_within) := ⟨rfl, rfl, rfl, by decide +kernel, rfl, by decide +kernel, by decide +kernel⟩
abbrev s_wrong_in_declaration : Stmt := topS 19
theorem sc_wrong_in_declaration : FnScope ["declaration", "names", "makers", "own", "maker", "word"] ["declaration", "names", "makers"] (defScope s_wrong_in_declaration) := ⟨rfl, rfl, rfl, by decide +kernel, rfl, by decide +kernel, by decide +kernel⟩
abbrev s_wrong_declaration : Stmt := topS 20
theorem sc_wrong_declaration : FnScope ["kinds", "names", "makers", "number", "declaration", "why", "kind"] ["kinds"] (defScope s_wrong_declaration) := ⟨rfl, rfl, rfl, by decide +kernel, rfl, by decide +kernel, by decide +kernel⟩
abbrev s_is_kinds : Stmt := topS 21
theorem sc_is_kinds : FnScope ["value"] ["value"] (defScope s_is_kinds) := ⟨rfl, rfl, rfl, by decide +kernel, rfl, by decide +kernel, by decide +kernel⟩
structure TKind (K : PySem.W.Frag) (w : World) (mg : Str → Option Value) : Prop where
  tw : TWord K w mg
  d_is_kind_list : Has K mg "is_kind_list" s_is_kind_list ["value"]
  d_is_maker : Has K mg "is_maker" s_is_maker ["value"]
  d_is_choice_form : Has K mg "is_choice_form" s_is_choice_form ["value"]
  d_is_calls_form : Has K mg "is_calls_form" s_is_calls_form ["value"]
  d_is_declaration_form : Has K mg "is_declaration_form" s_is_declaration_form ["value"]
  d_maker_names : Has K mg "maker_names" s_maker_names ["declaration"]
  d_kinds_within : Has K mg "kinds_within" s_kinds_within ["declaration"]
  d_wrong_in_declaration : Has K mg "wrong_in_declaration" s_wrong_in_declaration ["declaration", "names", "makers"]
  d_wrong_declaration : Has K mg "wrong_declaration" s_wrong_declaration ["kinds"]
  d_is_kinds : Has K mg "is_kinds" s_is_kinds ["value"]
  k_is_kinds : HasK K mg "is_kinds" s_is_kinds ["value"] ["value"] (fun l => l)
  b_enumerate : mg "enumerate" = none
  g_MOST_KINDS : ∃ t, mg "MOST_KINDS" = some (.int 12 t)
  g_MOST_MAKERS : ∃ t, mg "MOST_MAKERS" = some (.int 8 t)
  g_MOST_PARTS : ∃ t, mg "MOST_PARTS" = some (.int 4 t)
section
variable {P : Program} {w : World} {K : PySem.W.Frag} {mg : Str → Option Value} {base : Heap}
theorem ifNeI {i j : Int} {A B : Prop} (y : ¬ i = j → A) (n : i = j → B) : if (!decide (V.int i = V.int j)) = true then A else B := by
  by_cases h : i = j
  · rw [decide_eq_true (congrArg V.int h)]
    exact iteF (n h)
  · rw [decide_eq_false (fun e => h (V.int.inj e))]
    exact iteT (y h)
theorem ifEqI {i j : Int} {A B : Prop} (y : i = j → A) (n : ¬ i = j → B) : if decide (V.int i = V.int j) = true then A else B := by
  by_cases h : i = j
  · rw [decide_eq_true (congrArg V.int h)]
    exact iteT (y h)
  · rw [decide_eq_false (fun e => h (V.int.inj e))]
    exact iteF (n h)
theorem ifLe {i j : Int} {A B : Prop} (y : i ≤ j → A) (n : ¬ i ≤ j → B) : if decide (i ≤ j) = true then A else B := by
  by_cases h : i ≤ j
  · rw [decide_eq_true h]
    exact iteT (y h)
  · rw [decide_eq_false h]
    exact iteF (n h)
def isKindList : PyData → Bool
  | .list ds => decide (ds.length ≤ 4) && ds.all isS
  | _ => false
def sp_data (f : PyData → Bool) : Sp := fun vs H Q _ => ∃ (v : V) (d : PyData), vs = [v] ∧ DT H v d ∧ OKd d ∧ ∀ H', Same H H' → Q (.bl (f d)) H'
theorem len_data {f : PyData → Bool} {x : Str} : ∀ vs H Q E, sp_data f vs H Q E → vs.length = ([x] : List Str).length := fun vs H Q E h => by
  obtain ⟨_, _, rfl, _⟩ := h; rfl
theorem c_is_kind_list (T : TKind K w mg) : Says P w K mg base 2 "is_kind_list" ["value"] (sp_data isKindList) := by
  obtain ⟨tm, gm⟩ := T.g_MOST_PARTS
  refine says T.d_is_kind_list sc_is_kind_list len_data (fun f cdv A outer s H vs Q E hr h => ?_)
  refine ⟨_, (pss_one (ps_ret (pe_and (pe_callB call_isi (by rfl) T.tw.b_isinstance (by decide +kernel) (pa_cons (pv 0) (pa_cons (pe_bltn (v := .ty "list") (by rfl) T.tw.b_list (by decide +kernel) rfl) pa_nil))) (pe_and (pe_cmpR op_le (pe_callB call_len_seq (by rfl) T.tw.b_len (by decide +kernel) (pa_cons (pv 0) pa_nil)) (pe_glob (v := .int 4) rfl gm ⟨_, rfl⟩) (nomark _)) (pe_one (pe_s (c_are_strings T.tw) hr (pa_cons (pv 0) pa_nil))))))), ?_⟩
  obtain ⟨v, d, rfl, hd, ok, q⟩ := h
  refine ⟨_, rfl, _, _, _, _, _, rfl, .ty _, hd.ty, kit_ty (kit_l d), _, rfl, ?_⟩
  cases d with
  | list ds =>
    have small := ok.len_l
    cases hd with
    | @lst p xs _ e r =>
      have lx := r.length
      refine iteT ?_
      refine ⟨_, rfl, p, xs, rfl, .inl (SqL.of e), _, _, rfl, rfl, _, rfl, ifLe (fun h => ?_) (fun h => ?_)⟩
      · refine ⟨_, rfl, p, xs, ds, rfl, e, r, by omega, fun H' s' => ?_⟩
        have q2 : Q (.bl (decide (ds.length ≤ 4) && ds.all isS)) H' := q H' s'
        rw [decide_eq_true (show ds.length ≤ 4 by omega)] at q2
        exact q2
      · have q2 : Q (.bl (decide (ds.length ≤ 4) && ds.all isS)) H := q H (Same.refl _)
        rw [decide_eq_false (show ¬ ds.length ≤ 4 by omega)] at q2
        exact q2
  | none => exact iteF (q _ (Same.refl _))
  | bool _ => exact iteF (q _ (Same.refl _))
  | int _ => exact iteF (q _ (Same.refl _))
  | str _ => exact iteF (q _ (Same.refl _))
  | tuple _ => exact iteF (q _ (Same.refl _))
  | dict _ => exact iteF (q _ (Same.refl _))
def isMaker : PyData → Bool
  | .tuple [n, k] => isS n && isKindList k
  | _ => false
theorem isMaker_len {ds : List PyData} (h : ¬ ds.length = 2) : isMaker (.tuple ds) = false := by
  match ds, h with
  | [], _ => rfl
  | [_], _ => rfl
  | [_, _], h => exact absurd rfl h
  | _ :: _ :: _ :: _, _ => rfl
theorem c_is_maker (T : TKind K w mg) : Says P w K mg base 3 "is_maker" ["value"] (sp_data isMaker) := by
  refine says T.d_is_maker sc_is_maker len_data (fun f cdv A outer s H vs Q E hr h => ?_)
  refine ⟨_, (pss_cons (ps_if (PW.pt (pw_or (pt_not (pt_val (pe_callB call_isi (by rfl) T.tw.b_isinstance (by decide +kernel) (pa_cons (pv 0) (pa_cons (pe_bltn (v := .ty "tuple") (by rfl) T.tw.b_tuple (by decide +kernel) rfl) pa_nil))))) (pw_or1 (pt_cmpR op_ne (pe_callB call_len_seq (by rfl) T.tw.b_len (by decide +kernel) (pa_cons (pv 0) pa_nil)) pe_int (nomark _)))))
        (pss_one (ps_ret pe_bl))
        pss_nil)
      (pss_one (ps_ret (pe_and (pe_callB call_isi (by rfl) T.tw.b_isinstance (by decide +kernel) (pa_cons (pe_ix ix_tup (pv 0) pe_int (fun _ _ => rfl)) (pa_cons (pe_bltn (v := .ty "str") (by rfl) T.tw.b_str (by decide +kernel) rfl) pa_nil))) (pe_one (pe_s (c_is_kind_list T) hr (pa_cons (pe_ix ix_tup (pv 0) pe_int (fun _ _ => rfl)) pa_nil))))))), ?_⟩
  obtain ⟨v, d, rfl, hd, ok, q⟩ := h
  refine ⟨_, rfl, _, _, _, _, _, rfl, .ty _, hd.ty, kit_ty (kit_t d), _, rfl, ?_⟩
  cases d with
  | tuple ds =>
    cases hd with
    | @tup p xs _ e r =>
      have lx := r.length
      refine iteF ?_
      refine ⟨_, rfl, p, xs, rfl, .inr (SqT.of e), rfl, _, rfl, ifNeI (fun h => ?_) (fun h => ?_)⟩
      · have q2 := q H (Same.refl _)
        rw [isMaker_len (ds := ds) (by omega)] at q2
        exact q2
      · cases r with
        | nil => simp at h
        | @cons x xr n nr hn r =>
          cases r with
          | nil => simp at h
          | @cons y yr k kr hk r =>
            cases r with
            | cons _ _ =>
              simp only [List.length_cons] at h
              omega
            | nil =>
              have okn : OKd n := ok.mem_t (by simp)
              have okk : OKd k := ok.mem_t (by simp)
              refine ⟨_, rfl, p, _, _, x, rfl, rfl, SqT.of e, rfl, _, _, _, _, _, rfl, .ty _, hn.ty, kit_ty (kit_s n), _, rfl, ?_⟩
              have q2 : ∀ H', Same H H' → Q (.bl (isS n && isKindList k)) H' := q
              refine ifB (fun h1 => ?_) (fun h1 => ?_)
              · refine ⟨_, rfl, p, _, _, y, rfl, rfl, SqT.of e, rfl, y, k, rfl, hk, okk, fun H' s' => ?_⟩
                have q3 := q2 H' s'
                rw [h1] at q3
                exact q3
              · have q3 := q2 H (Same.refl _)
                rw [h1] at q3
                exact q3
  | none => exact iteT (q _ (Same.refl _))
  | bool _ => exact iteT (q _ (Same.refl _))
  | int _ => exact iteT (q _ (Same.refl _))
  | str _ => exact iteT (q _ (Same.refl _))
  | list _ => exact iteT (q _ (Same.refl _))
  | dict _ => exact iteT (q _ (Same.refl _))
/-- all items of a list, as a def judges each -/
theorem all_of {X : Cx} {f : PyData → Bool} {i : Nat} {σ : L2.St} {H1 : Hp} {p D : Addr} {xs : List V} {ds : List PyData} {te : TE} {Qd : Hp → Prop} (hp : H1 p = some (.lst xs)) (r : DTs H1 xs ds) (hD : H1 D = none) (small : xs.length < 1000)
    (hs : ∀ (x : V) (d : PyData) (H' : Hp) (Q : VK), d ∈ ds → DT H' x d → (∀ H'', Same H' H'' → Q (.bl (f d)) H'') → te ((wipe σ [i]).set i (some x)) H' Q)
    (hd : ∀ H', Same H1 H' → H' D = some (.lst ((ds.map f).map V.bl)) → Qd H') :
    ∃ W : Nat → Nat → Hp → Prop, (∃ m, W 0 m (upd H1 D (.lst []))) ∧ ∀ k m H, W k m H →
      ((Itl X.K p).stop k H ∧ Qd H) ∨ ((Itl X.K p).go k H ∧ ∃ Nx : Hp → Prop, (∀ H', Nx H' → ∃ m', m' < m ∧ W (k + 1) m' H') ∧ ∀ x H', (Itl X.K p).yld k H x H' → gName i x (wipe σ [i]) H' fun σ2 H2 => wipe σ2 [i] = wipe σ [i] ∧ tYes σ2 H2 fun b H3 =>
        if b = true then te σ2 H3 fun y H4 => ∃ acc, H4 D = some (.lst acc) ∧ acc.length < sizeLine ∧ Nx (upd H4 D (.lst (acc ++ [y]))) else Nx H3) := by
  refine lc_mapW (walk_list (K := X.K) (a := p) (xs := xs)) (ys := (ds.map f).map V.bl) (fun H' s' => s'.seq (SqL.of hp)) (fun j H x H' y => y.1) hD (by rw [List.length_map, List.length_map, r.length]) small ?_ hd
  rintro j x y H' Q' s1 ⟨_, hx⟩ hy q'
  rw [List.map_map, List.getElem?_map] at hy
  cases hdj : ds[j]? with
  | none =>
    rw [hdj] at hy
    cases hy
  | some d =>
    rw [hdj] at hy
    obtain rfl : V.bl (f d) = y := Option.some.inj hy
    exact hs x d H' Q' (List.mem_of_getElem? hdj) ((r.get hx hdj).same s1 d) q'
def isMakers : PyData → Bool
  | .list ms => (decide (1 ≤ ms.length) && decide (ms.length ≤ 8)) && ms.all isMaker
  | _ => false
def sp_is_choice_form : Sp := fun vs H Q _ => ∃ (p : Addr) (x n m : V) (dn dm : PyData), vs = [.ref p] ∧ H p = some (.tup [x, n, m]) ∧ DT H n dn ∧ DT H m dm ∧ OKd dn ∧ OKd dm ∧ ∀ H', Same H H' → Q (.bl (isS dn && isMakers dm)) H'
theorem c_is_choice_form (T : TKind K w mg) : Says P w K mg base 4 "is_choice_form" ["value"] sp_is_choice_form := by
  obtain ⟨tm, gm⟩ := T.g_MOST_MAKERS
  refine says T.d_is_choice_form sc_is_choice_form (fun vs H Q E h => ?_) (fun f cdv A outer s H vs Q E hr h => ?_)
  · obtain ⟨_, _, _, _, _, _, rfl, _⟩ := h; rfl
  refine ⟨_, (pss_cons (ps_asg (pe_slice sl_tup (pv 0) (po_some pe_int) po_none) (pg_tup rfl (pgs_cons (pg_name (i := 1) sc_is_choice_form.nd rfl (.inl rfl)) (pgs_cons (pg_name (i := 2) sc_is_choice_form.nd rfl (.inl rfl)) pgs_nil))))
    (pss_cons (ps_if (PW.pt (pw_or (pt_not (pt_val (pe_callB call_isi (by rfl) T.tw.b_isinstance (by decide +kernel) (pa_cons (pv 1) (pa_cons (pe_bltn (v := .ty "str") (by rfl) T.tw.b_str (by decide +kernel) rfl) pa_nil))))) (pw_or1 (pt_not (pt_val (pe_callB call_isi (by rfl) T.tw.b_isinstance (by decide +kernel) (pa_cons (pv 2) (pa_cons (pe_bltn (v := .ty "list") (by rfl) T.tw.b_list (by decide +kernel) rfl) pa_nil))))))))
        (pss_one (ps_ret pe_bl))
        pss_nil)
    (pss_one (ps_ret (pe_and (pe_chain op_le op_le pe_int (pe_callB call_len_seq (by rfl) T.tw.b_len (by decide +kernel) (pa_cons (pv 2) pa_nil)) (pe_glob (v := .int 8) rfl gm ⟨_, rfl⟩)) (pe_one (pe_callB (cr_all rfl) (by rfl) T.tw.b_all (by decide +kernel) (pa_cons (pe_lc (own := [("maker", 3)]) (g := gName 3) (tt := tYes) rfl sc_is_choice_form.nd (pi_list (pv 2)) (blkOk_by (N := ["value", "name", "makers", "maker"]) (sc := defScope s_is_choice_form) (own := [("maker", 3)]) (by decide +kernel)) (fun _ _ _ _ _ => pg_name (i := 3) sc_is_choice_form.nd rfl (Or.inl rfl)) (fun _ _ _ _ _ => pts_nil) (fun _ _ _ _ _ => (pe_s (c_is_maker T) hr (pa_cons (pv 3) pa_nil)))) pa_nil)))))))), ?_⟩
  obtain ⟨p, x, n, m, dn, dm, rfl, hp, hn, hm, okn, okm, q⟩ := h
  refine ⟨_, rfl, 1, rfl, p, _, rfl, SqT.of hp, (by show ¬ (HT.sIx 3 0 (some 1) = 0 ∧ HT.sIx 3 3 none = 3); decide), fun t ht => ?_⟩
  have s1 : Same H (upd H t (.tup [n, m])) := same_new ht
  refine ⟨t, [n, m], rfl, SqT.of upd_same, rfl, n, _, rfl, m, [], rfl, rfl, ?_⟩
  refine ⟨_, rfl, _, _, _, _, _, rfl, .ty _, (hn.same s1 dn).ty, kit_ty (kit_s dn), _, rfl, ?_⟩
  have back : (isS dn && isMakers dm) = false → ∀ H', Same H H' → Q (.bl false) H' := fun e H' s' => by
    have q2 := q H' s'
    rw [e] at q2
    exact q2
  refine ifB (fun h1 => ?_) (fun h1 => ?_)
  · exact back (by have : isS dn = false := by simpa using h1
                   rw [this]; rfl) _ s1
  have e1 : isS dn = true := by simpa using h1
  refine ⟨_, rfl, _, _, _, _, _, rfl, .ty _, (hm.same s1 dm).ty, kit_ty (kit_l dm), _, rfl, ?_⟩
  cases dm with
  | list ms =>
    have small := okm.len_l
    have hm2 := hm.same s1 (.list ms)
    cases hm2 with
    | @lst pm xs _ e r =>
      have lx := r.length
      refine iteF ?_
      refine ⟨_, rfl, pm, xs, rfl, .inl (SqL.of e), _, _, rfl, rfl, _, rfl, ifLe (fun h2 => ?_) (fun h2 => ?_)⟩
      · refine ⟨_, _, rfl, rfl, _, rfl, ifLe (fun h3 => ?_) (fun h3 => ?_)⟩
        · refine ⟨_, rfl, _, rfl, ⟨_, SqL.of e⟩, fun D hD => all_of (f := isMaker) e r hD (by omega) ?_ ?_⟩
          · intro x2 d2 H' Q' hm3 hx q'
            exact ⟨x2, rfl, x2, d2, rfl, hx, okm.mem_l hm3, q'⟩
          · intro H' s2 hd2
            refine ⟨_, ms.map isMaker, rfl, SqL.of hd2, ?_⟩
            have q2 : Q (.bl (isS dn && ((decide (1 ≤ ms.length) && decide (ms.length ≤ 8)) && ms.all isMaker))) H' := q H' (s1.trans s2)
            rw [e1, decide_eq_true (show 1 ≤ ms.length by omega), decide_eq_true (show ms.length ≤ 8 by omega)] at q2
            rw [List.all_map]
            exact q2
        · exact back (by show (isS dn && ((decide (1 ≤ ms.length) && decide (ms.length ≤ 8)) && ms.all isMaker)) = false
                         rw [e1, decide_eq_false (show ¬ ms.length ≤ 8 by omega)]; simp) _ s1
      · refine ⟨_, rfl, iteF ?_⟩
        exact back (by show (isS dn && ((decide (1 ≤ ms.length) && decide (ms.length ≤ 8)) && ms.all isMaker)) = false
                       rw [e1, decide_eq_false (show ¬ 1 ≤ ms.length by omega)]; simp) _ s1
  | none => exact iteT (back (by rw [e1]; rfl) _ s1)
  | bool _ => exact iteT (back (by rw [e1]; rfl) _ s1)
  | int _ => exact iteT (back (by rw [e1]; rfl) _ s1)
  | str _ => exact iteT (back (by rw [e1]; rfl) _ s1)
  | tuple _ => exact iteT (back (by rw [e1]; rfl) _ s1)
  | dict _ => exact iteT (back (by rw [e1]; rfl) _ s1)
def sp_is_calls_form : Sp := fun vs H Q _ => ∃ (p : Addr) (x n m a : V) (dn dm da : PyData), vs = [.ref p] ∧ H p = some (.tup [x, n, m, a]) ∧ DT H n dn ∧ DT H m dm ∧ DT H a da ∧ OKd dn ∧ OKd dm ∧ OKd da ∧ ∀ H', Same H H' → Q (.bl (isS dn && (isKindList dm && isS da))) H'
theorem c_is_calls_form (T : TKind K w mg) : Says P w K mg base 3 "is_calls_form" ["value"] sp_is_calls_form := by
  refine says T.d_is_calls_form sc_is_calls_form (fun vs H Q E h => ?_) (fun f cdv A outer s H vs Q E hr h => ?_)
  · obtain ⟨_, _, _, _, _, _, _, _, rfl, _⟩ := h; rfl
  refine ⟨_, (pss_cons (ps_asg (pe_slice sl_tup (pv 0) (po_some pe_int) po_none) (pg_tup rfl (pgs_cons (pg_name (i := 1) sc_is_calls_form.nd rfl (.inl rfl)) (pgs_cons (pg_name (i := 2) sc_is_calls_form.nd rfl (.inl rfl)) (pgs_cons (pg_name (i := 3) sc_is_calls_form.nd rfl (.inl rfl)) pgs_nil)))))
    (pss_one (ps_ret (pe_and (pe_callB call_isi (by rfl) T.tw.b_isinstance (by decide +kernel) (pa_cons (pv 1) (pa_cons (pe_bltn (v := .ty "str") (by rfl) T.tw.b_str (by decide +kernel) rfl) pa_nil))) (pe_and (pe_s (c_is_kind_list T) hr (pa_cons (pv 2) pa_nil)) (pe_one (pe_callB call_isi (by rfl) T.tw.b_isinstance (by decide +kernel) (pa_cons (pv 3) (pa_cons (pe_bltn (v := .ty "str") (by rfl) T.tw.b_str (by decide +kernel) rfl) pa_nil))))))))), ?_⟩
  obtain ⟨p, x, n, m, a, dn, dm, da, rfl, hp, hn, hm, ha, okn, okm, oka, q⟩ := h
  refine ⟨_, rfl, 1, rfl, p, _, rfl, SqT.of hp, (by show ¬ (HT.sIx 4 0 (some 1) = 0 ∧ HT.sIx 4 4 none = 4); decide), fun t ht => ?_⟩
  have s1 : Same H (upd H t (.tup [n, m, a])) := same_new ht
  refine ⟨t, [n, m, a], rfl, SqT.of upd_same, rfl, n, _, rfl, m, _, rfl, a, [], rfl, rfl, ?_⟩
  refine ⟨_, rfl, _, _, _, _, _, rfl, .ty _, (hn.same s1 dn).ty, kit_ty (kit_s dn), _, rfl, ?_⟩
  refine ifB (fun h1 => ?_) (fun h1 => ?_)
  · refine ⟨_, rfl, m, dm, rfl, hm.same s1 dm, okm, fun H2 s2 => ⟨_, rfl, ifB (fun h2 => ?_) (fun h2 => ?_)⟩⟩
    · refine ⟨_, rfl, _, _, _, _, _, rfl, .ty _, (ha.same (s1.trans s2) da).ty, kit_ty (kit_s da), ?_⟩
      have q2 := q H2 (s1.trans s2)
      rw [h1, h2] at q2
      exact q2
    · have q2 := q H2 (s1.trans s2)
      rw [h1, h2] at q2
      exact q2
  · have q2 := q _ s1
    rw [h1] at q2
    exact q2
end
end Cb
set_option Elab.async false
set_option linter.all false
set_option maxRecDepth 100000
set_option maxHeartbeats 4000000
namespace Cb
open PySem PySem.Spec PyProof.Rows L2
section
variable {P : Program} {w : World} {K : PySem.W.Frag} {mg : Str → Option Value} {base : Heap}
def declForm : PyData → Bool
  | .tuple [h, n, m] => isStr "choice" h && (isS n && isMakers m)
  | .tuple [h, n, m, a] => isStr "calls" h && (isS n && (isKindList m && isS a))
  | _ => false
theorem declForm_len {ds : List PyData} (h : ¬ ds.length = 3) (h2 : ¬ ds.length = 4) : declForm (.tuple ds) = false := by
  match ds, h, h2 with
  | [], _, _ => rfl
  | [_], _, _ => rfl
  | [_, _], _, _ => rfl
  | [_, _, _], h, _ => exact absurd rfl h
  | [_, _, _, _], _, h => exact absurd rfl h
  | _ :: _ :: _ :: _ :: _ :: _, _, _ => rfl
theorem ok_word {z : Str} (h : PyData.strOk z = true) (l : z.length ≤ 1000) : SeqAt.shaped (.str z) = true := (okd_str h l).shaped
theorem DTs.three {H : Hp} {xs : List V} {ds : List PyData} (r : DTs H xs ds) (h : xs.length = 3) : ∃ x y z a b c, xs = [x, y, z] ∧ ds = [a, b, c] ∧ DT H x a ∧ DT H y b ∧ DT H z c := by
  cases r with
  | nil => simp at h
  | cons ha r =>
    cases r with
    | nil => simp at h
    | cons hb r =>
      cases r with
      | nil => simp at h
      | cons hc r =>
        cases r with
        | nil => exact ⟨_, _, _, _, _, _, rfl, rfl, ha, hb, hc⟩
        | cons _ _ =>
          simp only [List.length_cons] at h
          omega
theorem DTs.four {H : Hp} {xs : List V} {ds : List PyData} (r : DTs H xs ds) (h : xs.length = 4) : ∃ x y z u a b c d, xs = [x, y, z, u] ∧ ds = [a, b, c, d] ∧ DT H x a ∧ DT H y b ∧ DT H z c ∧ DT H u d := by
  cases r with
  | nil => simp at h
  | cons ha r =>
    obtain ⟨x, y, z, a, b, c, rfl, rfl, h1, h2, h3⟩ := r.three (by simpa using h)
    exact ⟨_, _, _, _, _, _, _, _, rfl, rfl, ha, h1, h2, h3⟩
theorem c_is_declaration_form (T : TKind K w mg) : Says P w K mg base 5 "is_declaration_form" ["value"] (sp_data declForm) := by
  refine says T.d_is_declaration_form sc_is_declaration_form len_data (fun f cdv A outer s H vs Q E hr h => ?_)
  refine ⟨_, (pss_cons (ps_if (pt_not (pt_val (pe_callB call_isi (by rfl) T.tw.b_isinstance (by decide +kernel) (pa_cons (pv 0) (pa_cons (pe_bltn (v := .ty "tuple") (by rfl) T.tw.b_tuple (by decide +kernel) rfl) pa_nil)))))
        (pss_one (ps_ret pe_bl))
        pss_nil)
    (pss_cons (ps_if (PW.pt (pw_and (pt_cmpR op_eq (pe_callB call_len_seq (by rfl) T.tw.b_len (by decide +kernel) (pa_cons (pv 0) pa_nil)) pe_int (nomark _)) (pw_and1 (pt_cmpR (op_eqD hr.units) (pe_ix ix_tup (pv 0) pe_int (fun _ _ => rfl)) pe_str (nomark _)))))
        (pss_one (ps_ret (pe_s (c_is_choice_form T) hr (pa_cons (pv 0) pa_nil))))
        pss_nil)
    (pss_one (ps_ret (pe_and (pe_cmpR op_eq (pe_callB call_len_seq (by rfl) T.tw.b_len (by decide +kernel) (pa_cons (pv 0) pa_nil)) pe_int (nomark _)) (pe_and (pe_cmpR (op_eqD hr.units) (pe_ix ix_tup (pv 0) pe_int (fun _ _ => rfl)) pe_str (nomark _)) (pe_one (pe_s (c_is_calls_form T) hr (pa_cons (pv 0) pa_nil))))))))), ?_⟩
  obtain ⟨v, d, rfl, hd, ok, q⟩ := h
  refine ⟨_, rfl, _, _, _, _, _, rfl, .ty _, hd.ty, kit_ty (kit_t d), _, rfl, ?_⟩
  cases d with
  | tuple ds =>
    cases hd with
    | @tup p xs _ e r =>
      have lx := r.length
      refine iteF ?_
      refine ⟨_, rfl, p, xs, rfl, .inr (SqT.of e), rfl, _, rfl, ifEqI (fun h => ?_) (fun h => ?_)⟩
      · obtain ⟨x, y, z, a, b, c, rfl, rfl, ha, hb, hc⟩ := r.three (by omega)
        have oka : OKd a := ok.mem_t (by simp)
        have okb : OKd b := ok.mem_t (by simp)
        have okc : OKd c := ok.mem_t (by simp)
        have q1 : ∀ H', Same H H' → Q (.bl (isStr "choice" a && (isS b && isMakers c))) H' := q
        refine ⟨_, rfl, p, _, _, x, rfl, rfl, SqT.of e, rfl, a, .str "choice", ha.dp (good_plain a oka.good), .str _, oka.shaped, by decide +kernel, _, rfl, ?_⟩
        rw [eqv_isStr]
        refine ifB (fun h1 => ?_) (fun h1 => ?_)
        · refine ⟨_, rfl, p, x, y, z, b, c, rfl, e, hb, hc, okb, okc, fun H' s' => ?_⟩
          have q2 := q1 H' s'
          rw [h1] at q2
          exact q2
        · refine ⟨_, rfl, p, [x, y, z], rfl, .inr (SqT.of e), rfl, _, rfl, ifEqI (fun h2 => ?_) (fun h2 => ?_)⟩
          · simp at h2
          · have q2 := q1 H (Same.refl _)
            rw [h1] at q2
            exact q2
      · refine iteF ?_
        refine ⟨_, rfl, p, xs, rfl, .inr (SqT.of e), rfl, _, rfl, ifEqI (fun h2 => ?_) (fun h2 => ?_)⟩
        · obtain ⟨x, y, z, u, a, b, c, d, rfl, rfl, ha, hb, hc, hu⟩ := r.four (by omega)
          have oka : OKd a := ok.mem_t (by simp)
          have okb : OKd b := ok.mem_t (by simp)
          have okc : OKd c := ok.mem_t (by simp)
          have okd : OKd d := ok.mem_t (by simp)
          have q1 : ∀ H', Same H H' → Q (.bl (isStr "calls" a && (isS b && (isKindList c && isS d)))) H' := q
          refine ⟨_, rfl, p, _, _, x, rfl, rfl, SqT.of e, rfl, a, .str "calls", ha.dp (good_plain a oka.good), .str _, oka.shaped, by decide +kernel, _, rfl, ?_⟩
          rw [eqv_isStr]
          refine ifB (fun h1 => ?_) (fun h1 => ?_)
          · refine ⟨_, rfl, p, x, y, z, u, b, c, d, rfl, e, hb, hc, hu, okb, okc, okd, fun H' s' => ?_⟩
            have q2 := q1 H' s'
            rw [h1] at q2
            exact q2
          · have q2 := q1 H (Same.refl _)
            rw [h1] at q2
            exact q2
        · have q2 := q H (Same.refl _)
          rw [declForm_len (ds := ds) (by omega) (by omega)] at q2
          exact q2
  | none => exact iteT (q _ (Same.refl _))
  | bool _ => exact iteT (q _ (Same.refl _))
  | int _ => exact iteT (q _ (Same.refl _))
  | str _ => exact iteT (q _ (Same.refl _))
  | list _ => exact iteT (q _ (Same.refl _))
  | dict _ => exact iteT (q _ (Same.refl _))
/-! ### what a right form has -/
theorem isS_str : ∀ {d : PyData}, isS d = true → ∃ z, d = .str z
  | .str z, _ => ⟨z, rfl⟩
theorem isStr_str {y : Str} : ∀ {d : PyData}, isStr y d = true → d = .str y
  | .str z, h => by
    have : z = y := of_decide_eq_true h
    rw [this]
theorem isKindList_list : ∀ {d : PyData}, isKindList d = true → ∃ ks, d = .list ks ∧ ks.length ≤ 4 ∧ ks.all isS = true
  | .list ks, h => by
    have h2 : decide (ks.length ≤ 4) = true ∧ ks.all isS = true := by simpa [isKindList] using h
    exact ⟨ks, rfl, of_decide_eq_true h2.1, h2.2⟩
theorem isMaker_tup : ∀ {d : PyData}, isMaker d = true → ∃ z ks, d = .tuple [.str z, .list ks] ∧ ks.length ≤ 4 ∧ ks.all isS = true
  | .tuple [n, k], h => by
    have h2 : isS n = true ∧ isKindList k = true := by simpa [isMaker] using h
    obtain ⟨z, rfl⟩ := isS_str h2.1
    obtain ⟨ks, rfl, l, a⟩ := isKindList_list h2.2
    exact ⟨z, ks, rfl, l, a⟩
theorem isMakers_list : ∀ {d : PyData}, isMakers d = true → ∃ ms, d = .list ms ∧ 1 ≤ ms.length ∧ ms.length ≤ 8 ∧ ms.all isMaker = true
  | .list ms, h => by
    have h2 : (1 ≤ ms.length ∧ ms.length ≤ 8) ∧ ms.all isMaker = true := by simpa [isMakers] using h
    exact ⟨ms, rfl, h2.1.1, h2.1.2, h2.2⟩
theorem declForm_cases : ∀ {d : PyData}, declForm d = true → (∃ n ms, d = .tuple [.str "choice", .str n, .list ms] ∧ 1 ≤ ms.length ∧ ms.length ≤ 8 ∧ ms.all isMaker = true) ∨
    ∃ n ws a, d = .tuple [.str "calls", .str n, .list ws, .str a] ∧ ws.length ≤ 4 ∧ ws.all isS = true
  | .tuple [h, n, m], e => by
    have h2 : isStr "choice" h = true ∧ isS n = true ∧ isMakers m = true := by simpa [declForm] using e
    obtain rfl := isStr_str h2.1
    obtain ⟨z, rfl⟩ := isS_str h2.2.1
    obtain ⟨ms, rfl, a, b, c⟩ := isMakers_list h2.2.2
    exact .inl ⟨z, ms, rfl, a, b, c⟩
  | .tuple [h, n, m, a], e => by
    have h2 : isStr "calls" h = true ∧ isS n = true ∧ isKindList m = true ∧ isS a = true := by simpa [declForm] using e
    obtain rfl := isStr_str h2.1
    obtain ⟨z, rfl⟩ := isS_str h2.2.1
    obtain ⟨ks, rfl, l, al⟩ := isKindList_list h2.2.2.1
    obtain ⟨y, rfl⟩ := isS_str h2.2.2.2
    exact .inr ⟨z, ks, y, rfl, l, al⟩
def strOf : PyData → Str
  | .str z => z
  | _ => ""
def nameOf : PyData → Str
  | .tuple (.str z :: _) => z
  | _ => ""
def partsOf : PyData → List Str
  | .tuple [_, .list ks] => ks.map strOf
  | _ => []
def makerNames : PyData → List Str
  | .tuple [_, _, .list ms] => ms.map nameOf
  | _ => []
def kindsIn : PyData → List Str
  | .tuple [_, _, .list ms] => (ms.map partsOf).flatten
  | .tuple [_, _, .list ws, a] => ws.map strOf ++ [strOf a]
  | _ => []
def declName : PyData → Str
  | .tuple (_ :: .str n :: _) => n
  | _ => ""
theorem strs_of {H : Hp} : ∀ {ds : List PyData} {xs : List V}, DTs H xs ds → ds.all isS = true → xs = (ds.map strOf).map V.str
  | [], _, h, _ => by cases h; rfl
  | d :: ds, _, h, a => by
    cases h with
    | cons hd r =>
      have a2 : isS d = true ∧ ds.all isS = true := by simpa using a
      obtain ⟨z, rfl⟩ := isS_str a2.1
      cases hd
      rw [strs_of r a2.2]
      rfl
theorem strs_dt {H : Hp} : ∀ zs : List Str, DTs H (zs.map V.str) (zs.map PyData.str)
  | [] => .nil
  | z :: zs => .cons (.str z) (strs_dt zs)
def sp_maker_names : Sp := fun vs H Q _ => ∃ (v : V) (d : PyData), vs = [v] ∧ DT H v d ∧ OKd d ∧ declForm d = true ∧ ∀ p H', Same H H' → H p = none → H' p = some (.lst ((makerNames d).map V.str)) → Q (.ref p) H'
theorem c_maker_names (T : TKind K w mg) : Says P w K mg base 1 "maker_names" ["declaration"] sp_maker_names := by
  refine says T.d_maker_names sc_maker_names (fun vs H Q E h => ?_) (fun f cdv A outer s H vs Q E hr h => ?_)
  · obtain ⟨_, _, rfl, _⟩ := h; rfl
  refine ⟨_, (pss_cons (ps_if (pt_cmpR op_eq (pe_ix ix_tup (pv 0) pe_int (fun _ _ => rfl)) pe_str (nomark _))
        (pss_one (ps_ret (pe_lst pa_nil)))
        pss_nil)
    (pss_one (ps_ret (pe_lc (own := [("maker", 1)]) (g := gName 1) (tt := tYes) rfl sc_maker_names.nd (pi_list (pe_ix ix_tup (pv 0) pe_int (fun _ _ => rfl))) (blkOk_by (N := ["declaration", "maker"]) (sc := defScope s_maker_names) (own := [("maker", 1)]) (by decide +kernel)) (fun _ _ _ _ _ => pg_name (i := 1) sc_maker_names.nd rfl (Or.inl rfl)) (fun _ _ _ _ _ => pts_nil) (fun _ _ _ _ _ => (pe_ix (r := rIxT K) ix_tup (pv 1) pe_int (fun _ _ => rfl))))))), ?_⟩
  obtain ⟨v, d, rfl, hd, ok, df, q⟩ := h
  rcases declForm_cases df with ⟨n, ms, rfl, l1, l8, al⟩ | ⟨n, ws, a, rfl, l4, al⟩
  · cases hd with
    | @tup p xs _ e r =>
      obtain ⟨x, y, z, a, b, c, rfl, he, ha, hb, hc⟩ := r.three (by rw [r.length]; rfl)
      cases he
      cases ha
      cases hc with
      | @lst pm xs2 _ em rm =>
        refine ⟨_, rfl, p, _, _, _, rfl, rfl, SqT.of e, rfl, rfl, _, rfl, ifN (by decide +kernel) ?_⟩
        have lm := rm.length
        refine ⟨_, rfl, p, _, _, .ref pm, rfl, rfl, SqT.of e, rfl, pm, rfl, ⟨_, SqL.of em⟩, fun D hD => lc_mapW (walk_list (K := K) (a := pm) (xs := xs2)) (ys := ((ms.map nameOf).map V.str)) (fun H' s' => s'.seq (SqL.of em)) (fun j H x H' y => y.1) hD (by rw [List.length_map, List.length_map, rm.length]) (by omega) ?_ ?_⟩
        · rintro j x y H' Q' s1 ⟨_, hx⟩ hy q'
          rw [List.map_map, List.getElem?_map] at hy
          cases hdj : ms[j]? with
          | none =>
            rw [hdj] at hy
            cases hy
          | some d =>
            rw [hdj] at hy
            obtain rfl : V.str (nameOf d) = y := Option.some.inj hy
            have dm : isMaker d = true := List.all_eq_true.mp al d (List.mem_of_getElem? hdj)
            obtain ⟨z, ks, rfl, _, _⟩ := isMaker_tup dm
            have hx2 := (rm.get hx hdj).same s1 _
            cases hx2 with
            | @tup pt xt _ et rt =>
              cases rt with
              | cons hz rt =>
                cases hz
                cases rt with
                | cons hk rt =>
                  cases rt with
                  | nil => exact ⟨_, rfl, pt, _, _, .str z, rfl, rfl, SqT.of et, rfl, q' _ (Same.refl _)⟩
        · intro H' s1 hd2
          exact q D H' s1 hD hd2
  · cases hd with
    | @tup p xs _ e r =>
      obtain ⟨x, y, z, u, a', b, c, d, rfl, he, ha, hb, hc, hu⟩ := r.four (by rw [r.length]; rfl)
      cases he
      cases ha
      refine ⟨_, rfl, p, _, _, _, rfl, rfl, SqT.of e, rfl, rfl, _, rfl, ifY rfl ?_⟩
      refine ⟨(show 0 ≤ sizeLine by decide), fun l hl => ?_⟩
      exact q l _ (same_new hl) hl upd_same
end
end Cb
set_option Elab.async false
set_option linter.all false
set_option maxRecDepth 100000
set_option maxHeartbeats 4000000
namespace Cb
open PySem PySem.Spec PyProof.Rows L2
section
variable {P : Program} {w : World} {K : PySem.W.Frag} {mg : Str → Option Value} {base : Heap}
def sp_kinds_within : Sp := fun vs H Q _ => ∃ (v : V) (d : PyData), vs = [v] ∧ DT H v d ∧ OKd d ∧ declForm d = true ∧ ∀ p H', Same H H' → H p = none → H' p = some (.lst ((kindsIn d).map V.str)) → Q (.ref p) H'
theorem parts_small {m : PyData} (h : isMaker m = true) : (partsOf m).length ≤ 4 := by
  obtain ⟨z, ks, rfl, l, _⟩ := isMaker_tup h
  show (ks.map strOf).length ≤ 4
  rw [List.length_map]
  exact l
theorem flat_small : ∀ {ms : List PyData}, ms.all isMaker = true → ((ms.map partsOf).flatten).length ≤ 4 * ms.length
  | [], _ => by simp
  | m :: ms, h => by
    have h2 : isMaker m = true ∧ ms.all isMaker = true := by simpa using h
    have h3 := parts_small h2.1
    have h4 := flat_small h2.2
    simp only [List.map_cons, List.flatten_cons, List.length_append, List.length_cons] at *
    omega
theorem c_kinds_within (T : TKind K w mg) : Says P w K mg base 1 "kinds_within" ["declaration"] sp_kinds_within := by
  refine says T.d_kinds_within sc_kinds_within (fun vs H Q E h => ?_) (fun f cdv A outer s H vs Q E hr h => ?_)
  · obtain ⟨_, _, rfl, _⟩ := h; rfl
  refine ⟨_, (pss_cons (ps_if (pt_cmpR op_eq (pe_ix ix_tup (pv 0) pe_int (fun _ _ => rfl)) pe_str (nomark _))
        (pss_one (ps_ret (pe_op op_cat (pe_ix ix_tup (pv 0) pe_int (fun _ _ => rfl)) (pe_lst (pa_cons (pe_ix ix_tup (pv 0) pe_int (fun _ _ => rfl)) pa_nil)))))
        pss_nil)
    (pss_one (ps_ret (pe_lc2 (own := [("maker", 1), ("kind", 2)]) (vs1 := [2]) (g := gName 1) (tt := tYes) (wi1 := iList K (tOp (rIxT K) (tVar 1) (tC (.int 1)))) (g1 := gName 2) (tt1 := tYes) rfl sc_kinds_within.nd (pi_list (pe_ix ix_tup (pv 0) pe_int (fun _ _ => rfl))) (blkOk_by (N := ["declaration", "maker", "kind"]) (sc := defScope s_kinds_within) (own := [("maker", 1), ("kind", 2)]) (by decide +kernel)) (by decide)
      (fun _ _ _ _ _ => pg_name (i := 1) sc_kinds_within.nd rfl (Or.inl rfl)) (fun _ _ _ _ _ => pts_nil) (fun _ _ _ _ _ => pi_list (pe_ix (r := rIxT K) ix_tup (pv 1) pe_int (fun _ _ => rfl))) (fun _ _ _ _ _ => pg_name (i := 2) sc_kinds_within.nd rfl (Or.inl rfl)) (fun _ _ _ _ _ => pts_nil) (fun _ _ _ _ _ => (pv 2)))))), ?_⟩
  obtain ⟨v, d, rfl, hd, ok, df, q⟩ := h
  rcases declForm_cases df with ⟨n, ms, rfl, l1, l8, al⟩ | ⟨n, ws, a, rfl, l4, al⟩
  · cases hd with
    | @tup p xs _ e r =>
      obtain ⟨x, y, z, a, b, c, rfl, he, ha, hb, hc⟩ := r.three (by rw [r.length]; rfl)
      cases he
      cases ha
      cases hc with
      | @lst pm xs2 _ em rm =>
        have lm := rm.length
        refine ⟨_, rfl, p, _, _, _, rfl, rfl, SqT.of e, rfl, rfl, _, rfl, ifN (by decide +kernel) ?_⟩
        refine ⟨_, rfl, p, _, _, .ref pm, rfl, rfl, SqT.of e, rfl, pm, rfl, ⟨_, SqL.of em⟩, fun D hD => ?_⟩
        refine ⟨fun i m H' => m = ms.length - i ∧ i ≤ ms.length ∧ Same H H' ∧ H' D = some (.lst ((((ms.take i).map partsOf).flatten).map V.str)), ⟨ms.length, rfl, Nat.zero_le _, same_new hD, upd_same⟩, ?_⟩
        rintro i m H1 ⟨rfl, hi, s1, hd1⟩
        by_cases hlt : i < ms.length
        · right
          have hx : xs2[i]? = some (xs2[i]'(by omega)) := List.getElem?_eq_getElem (by omega)
          have hm : ms[i]? = some ms[i] := List.getElem?_eq_getElem hlt
          have dm : isMaker ms[i] = true := List.all_eq_true.mp al _ (List.getElem_mem _)
          have hdt := rm.get hx hm
          refine ⟨⟨xs2, _, s1.seq (SqL.of em), hx⟩, fun H' => Same H H' ∧ H' D = some (.lst ((((ms.take (i + 1)).map partsOf).flatten).map V.str)), fun H' z => ⟨ms.length - (i + 1), by omega, rfl, hlt, z.1, z.2⟩, ?_⟩
          rintro x H' ⟨eH, ex⟩
          subst eH
          obtain rfl : xs2[i] = x := Option.some.inj (hx.symm.trans (ex xs2 (s1.seq (SqL.of em))))
          refine ⟨rfl, ?_⟩
          obtain ⟨z, ks, ez, k4, ka⟩ := isMaker_tup dm
          rw [ez] at hdt
          generalize hxv : xs2[i] = xv at hdt
          cases hdt with
          | @tup pt xt _ et rt =>
            cases rt with
            | cons hz rt =>
              cases rt with
              | cons hk rt =>
                cases rt with
                | nil =>
                  cases hz
                  cases hk with
                  | @lst pk xk _ ek rk =>
                    have lk := rk.length
                    have exk := strs_of rk ka
                    have done : ((ms.take (i + 1)).map partsOf).flatten = ((ms.take i).map partsOf).flatten ++ ks.map strOf := by
                      rw [List.take_add_one, hm, List.map_append, List.flatten_append]
                      show _ ++ (List.map partsOf [ms[i]]).flatten = _
                      rw [ez]
                      simp [partsOf]
                    have small : (((ms.take i).map partsOf).flatten).length ≤ 4 * ms.length := by
                      have h1 := flat_small (ms := ms.take i) (List.all_eq_true.mpr fun y hy => List.all_eq_true.mp al y (List.mem_of_mem_take hy))
                      have h2 : (ms.take i).length ≤ ms.length := by rw [List.length_take]; omega
                      omega
                    refine ⟨_, rfl, pt, _, 1, .ref pk, rfl, rfl, SqT.of (s1 _ _ et), rfl, pk, rfl, ⟨_, SqL.of (s1 _ _ ek)⟩, ?_⟩
                    refine ⟨fun j k H2 => k = ks.length - j ∧ j ≤ ks.length ∧ Same H H2 ∧ H2 D = some (.lst ((((ms.take i).map partsOf).flatten ++ (ks.map strOf).take j).map V.str)), ?_, ?_⟩
                    · exact ⟨ks.length, rfl, Nat.zero_le _, s1, by rw [List.take_zero, List.append_nil]; exact hd1⟩
                    · rintro j k H2 ⟨rfl, hj, s2, hd2⟩
                      by_cases hl2 : j < ks.length
                      · right
                        have hxk : xk[j]? = some (V.str (strOf ks[j])) := by
                          rw [exk, List.map_map, List.getElem?_map, List.getElem?_eq_getElem hl2]
                          rfl
                        refine ⟨⟨xk, _, s2.seq (SqL.of ek), hxk⟩, fun H3 => Same H H3 ∧ H3 D = some (.lst ((((ms.take i).map partsOf).flatten ++ (ks.map strOf).take (j + 1)).map V.str)), fun H3 z => ⟨ks.length - (j + 1), by omega, rfl, hl2, z.1, z.2⟩, ?_⟩
                        rintro y H3 ⟨eH3, ey⟩
                        rw [eH3]
                        obtain rfl : V.str (strOf ks[j]) = y := Option.some.inj (hxk.symm.trans (ey xk (s2.seq (SqL.of ek))))
                        refine ⟨rfl, ?_⟩
                        refine ⟨_, rfl, _, hd2, ?_, ?_, ?_⟩
                        · refine small1000 ?_
                          rw [List.length_map, List.length_append, List.length_take]
                          have := flat_small (ms := ms.take i) (List.all_eq_true.mpr fun y hy => List.all_eq_true.mp al y (List.mem_of_mem_take hy))
                          omega
                        · intro b o e
                          rw [upd_ne (ne_of_none e hD)]
                          exact s2 _ _ e
                        · have et2 : (ks.map strOf).take (j + 1) = (ks.map strOf).take j ++ [strOf ks[j]] := by
                            rw [List.take_add_one, List.getElem?_map, List.getElem?_eq_getElem hl2]
                            rfl
                          rw [upd_same, et2, ← List.append_assoc, List.map_append (l₂ := [strOf ks[j]])]
                          rfl
                      · left
                        have ej : j = ks.length := by omega
                        subst ej
                        refine ⟨⟨xk, s2.seq (SqL.of ek), by omega⟩, s2, ?_⟩
                        rw [done]
                        have ef : (ks.map strOf).take ks.length = ks.map strOf := List.take_of_length_le (by rw [List.length_map]; omega)
                        rw [ef] at hd2
                        exact hd2
        · left
          have ei : i = ms.length := by omega
          subst ei
          refine ⟨⟨xs2, s1.seq (SqL.of em), by omega⟩, ?_⟩
          rw [List.take_length] at hd1
          exact q D H1 s1 hD hd1
  · cases hd with
    | @tup p xs _ e r =>
      obtain ⟨x, y, z, u, a', b, c, d, rfl, he, ha, hb, hc, hu⟩ := r.four (by rw [r.length]; rfl)
      cases he
      cases ha
      cases hu
      cases hc with
      | @lst pm xs2 _ em rm =>
        have lm := rm.length
        refine ⟨_, rfl, p, _, _, _, rfl, rfl, SqT.of e, rfl, rfl, _, rfl, ifY rfl ?_⟩
        refine ⟨_, rfl, p, _, 2, .ref pm, rfl, rfl, SqT.of e, rfl, _, rfl, p, _, 3, .str a, rfl, rfl, SqT.of e, rfl, (show 1 ≤ sizeLine by decide), fun l hl => ?_⟩
        refine ⟨pm, l, xs2, _, rfl, rfl, same_new hl _ _ em, upd_same, (show xs2.length + 1 ≤ sizeLine from Nat.le_of_lt (small1000 (by omega))), fun t ht => ?_⟩
        refine q t _ ((same_new hl).trans (same_new ht)) ?_ ?_
        · exact ((same_new hl).free ht)
        · rw [upd_same, strs_of rm al]
          show some (HO.lst ((ws.map strOf).map V.str ++ [V.str a])) = some (HO.lst ((ws.map strOf ++ [a]).map V.str))
          rw [List.map_append]
          rfl
end
end Cb
set_option Elab.async false
set_option linter.all false
set_option maxRecDepth 100000
set_option maxHeartbeats 4000000
namespace Cb
open PySem PySem.Spec PyProof.Rows L2
/-! ### the names noted so far, in a dict -/
abbrev Kv := List (Key × V)
def kHas (kn : Kv) (z : Str) : Bool := (valV kn (Sum.inr z)).isSome
def addK (kn : Kv) (z : Str) : Kv := putK kn (Sum.inr z) (V.bl true)
theorem addK_len (kn : Kv) (z : Str) : (addK kn z).length ≤ kn.length + 1 := by
  unfold addK putK
  split
  · rw [List.length_map]
    omega
  · rw [List.length_append]
    simp
def addMakers : List Str → Kv → Bool × Kv
  | [], km => (false, km)
  | z :: r, km => if kHas km z then (true, km) else addMakers r (addK km z)
theorem addMakers_len : ∀ (zs : List Str) (km : Kv), (addMakers zs km).2.length ≤ km.length + zs.length
  | [], km => by simp [addMakers]
  | z :: r, km => by
    unfold addMakers
    split
    · simp
    · have h1 := addMakers_len r (addK km z)
      have h2 := addK_len km z
      simp only [List.length_cons]
      omega
def wrongIn (d : PyData) (kn km : Kv) : Option Str × Kv × Kv :=
  if declForm d = true then
    if ((declName d :: makerNames d).all isWordS) = true then
      if kHas kn (declName d) = true then (some "twice", kn, km)
      else if (addMakers (makerNames d) km).1 = true then (some "twice", addK kn (declName d), (addMakers (makerNames d) km).2) else (none, addK kn (declName d), (addMakers (makerNames d) km).2)
    else (some "name", kn, km)
  else (some "form", kn, km)
def whyV : Option Str → V
  | none => .non
  | some z => .str z
/-- all but two stay -/
def But2 (p q : Addr) (H H' : Hp) : Prop := ∀ b o, b ≠ p → b ≠ q → H b = some o → H' b = some o
section
variable {P : Program} {w : World} {K : PySem.W.Frag} {mg : Str → Option Value} {base : Heap}
theorem declForm_name {d : PyData} (h : declForm d = true) (ok : OKd d) : OKd (.str (declName d)) ∧ ∀ z ∈ makerNames d, OKd (.str z) := by
  rcases declForm_cases h with ⟨n, ms, rfl, l1, l8, al⟩ | ⟨n, ws, a, rfl, l4, al⟩
  · refine ⟨ok.mem_t (by show PyData.str n ∈ _; simp), ?_⟩
    intro z hz
    obtain ⟨m, hm, rfl⟩ := List.mem_map.mp (show z ∈ ms.map nameOf from hz)
    obtain ⟨y, ks, rfl, _, _⟩ := isMaker_tup (List.all_eq_true.mp al m hm)
    have ok1 : OKd (.list ms) := ok.mem_t (by simp)
    exact (ok1.mem_l hm).mem_t (by show PyData.str y ∈ _; simp)
  · refine ⟨ok.mem_t (by show PyData.str n ∈ _; simp), ?_⟩
    intro z hz
    cases (show z ∈ ([] : List Str) from hz)
/-- the second item of a right declaration -/
theorem decl_at {H : Hp} {v : V} {d : PyData} (h : declForm d = true) (hd : DT H v d) : ∃ p xs, v = .ref p ∧ H p = some (.tup xs) ∧ atI xs 1 = some (.str (declName d)) := by
  rcases declForm_cases h with ⟨n, ms, rfl, l1, l8, al⟩ | ⟨n, ws, a, rfl, l4, al⟩
  · cases hd with
    | @tup p xs _ e r =>
      obtain ⟨x, y, z, a, b, c, rfl, he, ha, hb, hc⟩ := r.three (by rw [r.length]; rfl)
      cases he
      cases hb
      exact ⟨p, _, rfl, e, rfl⟩
  · cases hd with
    | @tup p xs _ e r =>
      obtain ⟨x, y, z, u, a', b, c, d, rfl, he, ha, hb, hc, hu⟩ := r.four (by rw [r.length]; rfl)
      cases he
      cases hb
      exact ⟨p, _, rfl, e, rfl⟩
theorem makers_len {d : PyData} (h : declForm d = true) : (makerNames d).length ≤ 8 := by
  rcases declForm_cases h with ⟨n, ms, rfl, l1, l8, al⟩ | ⟨n, ws, a, rfl, l4, al⟩
  · show (ms.map nameOf).length ≤ 8
    rw [List.length_map]
    exact l8
  · show (([] : List Str)).length ≤ 8
    decide
def sp_wrong_in : Sp := fun vs H Q _ => ∃ (v : V) (d : PyData) (pn pm : Addr) (kn km : Kv), vs = [v, .ref pn, .ref pm] ∧ DT H v d ∧ OKd d ∧ pn ≠ pm ∧ H pn = some (.dK kn) ∧ H pm = some (.dK km) ∧ kn.length ≤ 900 ∧ km.length ≤ 900 ∧
  ∀ H', But2 pn pm H H' → H' pn = some (.dK (wrongIn d kn km).2.1) → H' pm = some (.dK (wrongIn d kn km).2.2) → Q (whyV (wrongIn d kn km).1) H'
theorem But2.of_same {p q : Addr} {H H' : Hp} (s : Same H H') : But2 p q H H' := fun b o _ _ e => s b o e
theorem c_wrong_in_declaration (T : TKind K w mg) : Says P w K mg base 6 "wrong_in_declaration" ["declaration", "names", "makers"] sp_wrong_in := by
  refine says T.d_wrong_in_declaration sc_wrong_in_declaration (fun vs H Q E h => ?_) (fun f cdv A outer s H vs Q E hr h => ?_)
  · obtain ⟨_, _, _, _, _, _, rfl, _⟩ := h; rfl
  refine ⟨_, (pss_cons (ps_if (pt_not (pt_val (pe_s (c_is_declaration_form T) hr (pa_cons (pv 0) pa_nil))))
        (pss_one (ps_ret pe_str))
        pss_nil)
    (pss_cons (ps_set (i := 3) sc_wrong_in_declaration.nd rfl (.inl rfl) (pe_s (c_maker_names T) hr (pa_cons (pv 0) pa_nil)))
    (pss_cons (ps_if (pt_not (pt_val (pe_callB (cr_all rfl) (by rfl) T.tw.b_all (by decide +kernel) (pa_cons (pe_lc (own := [("word", 5)]) (g := gName 5) (tt := tYes) rfl sc_wrong_in_declaration.nd (pi_list (pe_op op_cat (pe_lst (pa_cons (pe_ix ix_tup (pv 0) pe_int (fun _ _ => rfl)) pa_nil)) (pv 3))) (blkOk_by (N := ["declaration", "names", "makers", "own", "maker", "word"]) (sc := defScope s_wrong_in_declaration) (own := [("word", 5)]) (by decide +kernel)) (fun _ _ _ _ _ => pg_name (i := 5) sc_wrong_in_declaration.nd rfl (Or.inl rfl)) (fun _ _ _ _ _ => pts_nil) (fun _ _ _ _ _ => (pe_s (c_is_word T.tw) hr (pa_cons (pv 5) pa_nil)))) pa_nil))))
        (pss_one (ps_ret pe_str))
        pss_nil)
    (pss_cons (ps_if (pt_cmp (pc_din (hu_of hr) (pe_ix ix_tup (pv 0) pe_int (fun _ _ => rfl)) (pv 1)))
        (pss_one (ps_ret pe_str))
        pss_nil)
    (pss_cons (ps_dput (hu_of hr) (pv 1) (pe_ix ix_tup (pv 0) pe_int (fun _ _ => rfl)) pe_bl rfl)
    (pss_cons (ps_for PassesOwn.never rfl (pi_list (pv 3)) (pg_name (i := 4) sc_wrong_in_declaration.nd rfl (.inl rfl))
        (pss_cons (ps_if (pt_cmp (pc_din (hu_of hr) (pv 4) (pv 2)))
            (pss_one (ps_ret pe_str))
            pss_nil)
        (pss_one (ps_dput (hu_of hr) (pv 2) (pv 4) pe_bl rfl))))
    (pss_one (ps_ret pe_non)))))))), ?_⟩
  obtain ⟨v, d, pn, pm, kn, km, rfl, hd, ok, ne, hn, hm, ln, lm, q⟩ := h
  refine ⟨_, rfl, v, d, rfl, hd, ok, fun H1 s1 => ⟨_, rfl, ?_⟩⟩
  refine ifB (fun h1 => ?_) (fun h1 => ?_)
  · have e1 : declForm d = false := (Bool.not_eq_true' _).mp h1
    have ew : wrongIn d kn km = (some ("form" : Str), kn, km) := by
      unfold wrongIn
      rw [e1]
      rfl
    rw [ew] at q
    exact q H1 (.of_same s1) (s1 _ _ hn) (s1 _ _ hm)
  have e1 : declForm d = true := (Bool.not_eq_false' _).mp h1
  obtain ⟨okn, okm⟩ := declForm_name e1 ok
  have lmk := makers_len e1
  obtain ⟨p, xs, rfl, hp, at1⟩ := decl_at e1 hd
  refine ⟨_, rfl, .ref p, d, rfl, hd.same s1 d, ok, e1, fun po H2 s2 hpo hpo2 => ?_⟩
  have s12 := s1.trans s2
  refine ⟨_, rfl, p, xs, 1, .str (declName d), rfl, rfl, SqT.of (s12 _ _ hp), at1, (show 1 ≤ sizeLine by decide), fun l hl => ?_⟩
  refine ⟨_, rfl, l, po, _, _, rfl, rfl, upd_same, same_new hl _ _ hpo2, (show 1 + ((makerNames d).map V.str).length ≤ sizeLine by rw [List.length_map]; exact Nat.le_of_lt (small1000 (by omega))), fun t ht => ?_⟩
  have s3 : Same H (upd (upd H2 l (.lst [.str (declName d)])) t (.lst ([.str (declName d)] ++ (makerNames d).map V.str))) := s12.trans ((same_new hl).trans (same_new ht))
  refine ⟨t, rfl, ⟨_, SqL.of upd_same⟩, fun D hD => all_of (X := (cxOf CX0 P w K mg base ["declaration", "names", "makers", "own", "maker", "word"] "wrong_in_declaration" (defScope s_wrong_in_declaration) f cdv A outer s H E).nox) (f := isWord) (ds := (declName d :: makerNames d).map PyData.str) upd_same (strs_dt (declName d :: makerNames d)) hD (by simp only [List.length_append, List.length_map, List.length_cons, List.length_nil]; omega) ?_ ?_⟩
  · intro x d2 H' Q' hm2 hx q'
    obtain ⟨z, hz, rfl⟩ := List.mem_map.mp hm2
    have okz : OKd (.str z) := by
      rcases List.mem_cons.mp hz with rfl | hz
      · exact okn
      · exact okm z hz
    exact ⟨x, rfl, x, _, rfl, hx, okz, q'⟩
  intro H3 s4 hd3
  have s34 := s3.trans s4
  refine ⟨_, _, rfl, SqL.of hd3, _, rfl, ?_⟩
  have eall : ((((declName d :: makerNames d).map PyData.str).map isWord).all id) = (declName d :: makerNames d).all isWordS := by
    rw [List.map_map, List.all_map]
    rfl
  rw [eall]
  refine ifB (fun h2 => ?_) (fun h2 => ?_)
  · have e2 : (declName d :: makerNames d).all isWordS = false := (Bool.not_eq_true' _).mp h2
    have ew : wrongIn d kn km = (some ("name" : Str), kn, km) := by
      unfold wrongIn
      rw [e1, e2]
      rfl
    rw [ew] at q
    exact q H3 (.of_same s34) (s34 _ _ hn) (s34 _ _ hm)
  have e2 : (declName d :: makerNames d).all isWordS = true := (Bool.not_eq_false' _).mp h2
  refine ⟨_, rfl, p, xs, 1, .str (declName d), rfl, rfl, SqT.of (s34 _ _ hp), at1, _, rfl, pn, _, rfl, DGet.k (k := Sum.inr (declName d)) (s34 _ _ hn), _, rfl, ?_⟩
  refine ifB (fun h3 => ?_) (fun h3 => ?_)
  · have e3 : kHas kn (declName d) = true := h3
    have ew : wrongIn d kn km = (some ("twice" : Str), kn, km) := by
      unfold wrongIn
      rw [e1, e2, e3]
      rfl
    rw [ew] at q
    exact q H3 (.of_same s34) (s34 _ _ hn) (s34 _ _ hm)
  have e3 : kHas kn (declName d) = false := h3
  refine ⟨_, rfl, _, rfl, p, xs, 1, .str (declName d), rfl, rfl, SqT.of (s34 _ _ hp), at1, pn, _, rfl, DPut.k (k := Sum.inr (declName d)) (s34 _ _ hn) (Nat.lt_of_le_of_lt ln (by decide)), ?_⟩
  have npo : po ≠ pn := (ne_of_none (s1 _ _ hn) hpo).symm
  have npm : po ≠ pm := (ne_of_none (s1 _ _ hm) hpo).symm
  have hpo4 : upd H3 pn (.dK (addK kn (declName d))) po = some (.lst ((makerNames d).map V.str)) := by
    rw [upd_ne npo]
    exact (((same_new hl).trans (same_new ht)).trans s4) _ _ hpo2
  have hm4 : upd H3 pn (.dK (addK kn (declName d))) pm = some (.dK km) := by
    rw [upd_ne ne.symm]
    exact s34 _ _ hm
  have b4 : But2 pn pm H (upd H3 pn (.dK (addK kn (declName d)))) := fun b o n1 n2 e => by
    rw [upd_ne n1]
    exact s34 _ _ e
  refine ⟨_, rfl, po, rfl, ⟨_, SqL.of hpo4⟩, for_list (xs := (makerNames d).map V.str) (fun i σ H' => (∃ x4 : Option V, σ = [some (.ref p), some (.ref pn), some (.ref pm), some (.ref po), x4, none]) ∧
    (∃ km' : Kv, addMakers (makerNames d) km = addMakers ((makerNames d).drop i) km' ∧ H' pm = some (.dK km') ∧ km'.length ≤ km.length + i) ∧ H' pn = some (.dK (addK kn (declName d))) ∧ But2 pn pm H H' ∧ H' po = some (.lst ((makerNames d).map V.str)))
    ⟨⟨none, rfl⟩, ⟨km, rfl, hm4, by omega⟩, upd_same, b4, hpo4⟩ (fun i σ H' _ h => SqL.of h.2.2.2.2) ?_ ?_⟩
  · rintro i x σ H' hx ⟨⟨x4, rfl⟩, ⟨km', ea, hk, lk⟩, hn', b', ho'⟩
    have hi : i < (makerNames d).length := by
      have := (List.getElem?_eq_some_iff.mp hx).1
      rwa [List.length_map] at this
    have hxz : x = .str ((makerNames d)[i]) := by
      rw [List.getElem?_map, List.getElem?_eq_getElem hi] at hx
      exact (Option.some.inj hx).symm
    subst hxz
    rw [List.drop_eq_getElem_cons hi] at ea
    refine ⟨_, rfl, _, rfl, pm, _, rfl, DGet.k (k := Sum.inr ((makerNames d)[i])) hk, _, rfl, ?_⟩
    refine ifB (fun h4 => ?_) (fun h4 => ?_)
    · have e4 : kHas km' ((makerNames d)[i]) = true := h4
      have ew : wrongIn d kn km = (some ("twice" : Str), addK kn (declName d), km') := by
        unfold wrongIn
        rw [e1, e2, e3, ea]
        unfold addMakers
        rw [e4]
        rfl
      rw [ew] at q
      exact q H' b' hn' hk
    · have e4 : kHas km' ((makerNames d)[i]) = false := h4
      refine ⟨_, rfl, _, rfl, pm, _, rfl, DPut.k (k := Sum.inr ((makerNames d)[i])) hk (Nat.lt_of_le_of_lt (show km'.length ≤ 908 by omega) (by decide)), ?_⟩
      refine ⟨⟨_, rfl⟩, ⟨addK km' ((makerNames d)[i]), ?_, upd_same, ?_⟩, ?_, ?_, ?_⟩
      · rw [ea]
        conv => lhs; unfold addMakers
        rw [e4]
        rfl
      · have := addK_len km' ((makerNames d)[i])
        omega
      · rw [upd_ne ne]
        exact hn'
      · intro b o n1 n2 e
        rw [upd_ne n2]
        exact b' b o n1 n2 e
      · rw [upd_ne npm]
        exact ho'
  · rintro σ H' ⟨⟨x4, rfl⟩, ⟨km', ea, hk, lk⟩, hn', b', ho'⟩
    rw [List.length_map, List.drop_length] at ea
    have ew : wrongIn d kn km = (none, addK kn (declName d), km') := by
      unfold wrongIn
      rw [e1, e2, e3, ea]
      rfl
    rw [ew] at q
    exact q H' b' hn' hk
end
end Cb
set_option Elab.async false
set_option linter.all false
set_option maxRecDepth 100000
set_option maxHeartbeats 4000000
namespace Cb
open PySem PySem.Spec PyProof.Rows L2
def firstLoop : List PyData → Nat → Kv → Kv → Option (Nat × Str) × Kv
  | [], _, kn, _ => (none, kn)
  | d :: ds, i, kn, km => match (wrongIn d kn km).1 with
    | some w => (some (i, w), (wrongIn d kn km).2.1)
    | none => firstLoop ds (i + 1) (wrongIn d kn km).2.1 (wrongIn d kn km).2.2
def secondLoop (kn : Kv) : List PyData → Nat → Option (Nat × Str)
  | [], _ => none
  | d :: ds, i => if (kindsIn d).all (kHas kn) = true then secondLoop kn ds (i + 1) else some (i, "kind")
def kn0 : Kv := [(Sum.inr "num", V.bl true), (Sum.inr "flag", V.bl true)]
def wrongDecl (ds : List PyData) : Option (Nat × Str) := match (firstLoop ds 0 kn0 []).1 with
  | some x => some x
  | none => secondLoop (firstLoop ds 0 kn0 []).2 ds 0
theorem wrongIn_len (d : PyData) (kn km : Kv) : (wrongIn d kn km).2.1.length ≤ kn.length + 1 ∧ (wrongIn d kn km).2.2.length ≤ km.length + 8 := by
  have h1 := addK_len kn (declName d)
  unfold wrongIn
  split
  · rename_i df
    have h2 := addMakers_len (makerNames d) km
    have h3 := makers_len df
    split
    · split
      · exact ⟨by show kn.length ≤ _; omega, by show km.length ≤ _; omega⟩
      · split
        · exact ⟨h1, by show ((addMakers (makerNames d) km).2).length ≤ _; omega⟩
        · exact ⟨h1, by show ((addMakers (makerNames d) km).2).length ≤ _; omega⟩
    · exact ⟨by show kn.length ≤ _; omega, by show km.length ≤ _; omega⟩
  · exact ⟨by show kn.length ≤ _; omega, by show km.length ≤ _; omega⟩
theorem wrongIn_form {d : PyData} {kn km : Kv} (h : (wrongIn d kn km).1 = none) : declForm d = true := by
  unfold wrongIn at h
  split at h
  · assumption
  · cases h
theorem firstLoop_forms : ∀ {ds : List PyData} {i : Nat} {kn km : Kv}, (firstLoop ds i kn km).1 = none → ∀ d ∈ ds, declForm d = true
  | [], _, _, _, _, d, hd => by cases hd
  | e :: ds, i, kn, km, h, d, hd => by
    unfold firstLoop at h
    cases hw : (wrongIn e kn km).1 with
    | some w =>
      rw [hw] at h
      cases h
    | none =>
      rw [hw] at h
      rcases List.mem_cons.mp hd with rfl | hd
      · exact wrongIn_form hw
      · exact firstLoop_forms h d hd
section
variable {P : Program} {w : World} {K : PySem.W.Frag} {mg : Str → Option Value} {base : Heap}
def wrongQ (r : Option (Nat × Str)) (Q : VK) (H : Hp) : Prop := match r with
  | none => Q .non H
  | some (i, z) => ∀ t H', Same H H' → H t = none → H' t = some (.tup [.int (i : Nat), .str z]) → Q (.ref t) H'
def sp_wrong_declaration : Sp := fun vs H Q _ => ∃ (p : Addr) (xs : List V) (ds : List PyData), vs = [.ref p] ∧ H p = some (.lst xs) ∧ DTs H xs ds ∧ OKd (.list ds) ∧ ds.length ≤ 12 ∧ ∀ H', Same H H' → wrongQ (wrongDecl ds) Q H'
theorem c_wrong_declaration (T : TKind K w mg) : Says P w K mg base 7 "wrong_declaration" ["kinds"] sp_wrong_declaration := by
  refine says T.d_wrong_declaration sc_wrong_declaration (fun vs H Q E h => ?_) (fun f cdv A outer s H vs Q E hr h => ?_)
  · obtain ⟨_, _, _, rfl, _⟩ := h; rfl
  refine ⟨_, (pss_cons (ps_asg (pe_tup (pa_cons (pe_disp (pps_cons pe_str pe_bl (pps_cons pe_str pe_bl pps_nil)) rfl rfl (by decide) (by decide)) (pa_cons pe_dnewK pa_nil))) (pg_tup rfl (pgs_cons (pg_name (i := 1) sc_wrong_declaration.nd rfl (.inr rfl)) (pgs_cons (pg_name (i := 2) sc_wrong_declaration.nd rfl (.inl rfl)) pgs_nil))))
    (pss_cons (ps_for PassesOwn.never rfl (pi_enum (by rfl) T.b_enumerate (pa_cons (pv 0) pa_nil)) (pg_tup rfl (pgs_cons (pg_name (i := 3) sc_wrong_declaration.nd rfl (.inl rfl)) (pgs_cons (pg_name (i := 4) sc_wrong_declaration.nd rfl (.inl rfl)) pgs_nil)))
        (pss_cons (ps_set (i := 5) sc_wrong_declaration.nd rfl (.inl rfl) (pe_s (c_wrong_in_declaration T) hr (pa_cons (pv 4) (pa_cons (pv 1) (pa_cons (pv 2) pa_nil)))))
        (pss_one (ps_if (pt_cmpR op_notN (pv 5) pe_non (nomark _))
            (pss_one (ps_ret (pe_tup (pa_cons (pv 3) (pa_cons (pv 5) pa_nil)))))
            pss_nil))))
    (pss_cons (ps_for PassesOwn.never rfl (pi_enum (by rfl) T.b_enumerate (pa_cons (pv 0) pa_nil)) (pg_tup rfl (pgs_cons (pg_name (i := 3) sc_wrong_declaration.nd rfl (.inl rfl)) (pgs_cons (pg_name (i := 4) sc_wrong_declaration.nd rfl (.inl rfl)) pgs_nil)))
        (pss_one (ps_if (pt_not (pt_val (pe_callB (cr_all rfl) (by rfl) T.tw.b_all (by decide +kernel) (pa_cons (pe_lc (own := [("kind", 6)]) (g := gName 6) (tt := tYes) rfl sc_wrong_declaration.nd (pi_list (pe_s (c_kinds_within T) hr (pa_cons (pv 4) pa_nil))) (blkOk_by (N := ["kinds", "names", "makers", "number", "declaration", "why", "kind"]) (sc := defScope s_wrong_declaration) (own := [("kind", 6)]) (by decide +kernel)) (fun _ _ _ _ _ => pg_name (i := 6) sc_wrong_declaration.nd rfl (Or.inl rfl)) (fun _ _ _ _ _ => pts_nil) (fun _ _ _ _ _ => (pe_cmp (pc_din (hu_of hr) (pv 6) (pv 1))))) pa_nil))))
            (pss_one (ps_ret (pe_tup (pa_cons (pv 3) (pa_cons pe_str pa_nil)))))
            pss_nil)))
    (pss_one (ps_ret pe_non))))), ?_⟩
  obtain ⟨p, xs, ds, rfl, hp, hds, ok, l12, q⟩ := h
  have lx := hds.length
  refine fun pn hpn => ⟨upd_same, kn0, rfl, by decide, ?_⟩
  rw [upd_upd]
  refine fun pm hpm => ⟨(show 2 ≤ sizeLine by decide), fun tt htt => ?_⟩
  refine ⟨tt, [.ref pn, .ref pm], rfl, SqT.of upd_same, rfl, .ref pn, _, rfl, .ref pm, [], rfl, rfl, ?_⟩
  have npm : pn ≠ pm := ne_of_none upd_same hpm
  have ntn : tt ≠ pn := (ne_of_none ((upd_ne npm).trans upd_same) htt).symm
  have ntm : tt ≠ pm := (ne_of_none upd_same htt).symm
  have hpm0 : H pm = none := by rwa [upd_ne npm.symm] at hpm
  have s0 : Same H (upd (upd (upd H pn (.dK (mergeK [] kn0))) pm (.dK [])) tt (.tup [.ref pn, .ref pm])) := ((same_new hpn).trans (same_new hpm)).trans (same_new htt)
  have hn0 : upd (upd (upd H pn (.dK (mergeK [] kn0))) pm (.dK [])) tt (.tup [.ref pn, .ref pm]) pn = some (.dK kn0) := by
    rw [upd_ne ntn.symm, upd_ne npm, upd_same]
    rfl
  have hm0 : upd (upd (upd H pn (.dK (mergeK [] kn0))) pm (.dK [])) tt (.tup [.ref pn, .ref pm]) pm = some (.dK []) := by
    rw [upd_ne ntm.symm, upd_same]
  have off : ∀ {H1 H2 : Hp}, Same H H1 → But2 pn pm H1 H2 → Same H H2 := fun s b c o e => b c o (ne_of_none e hpn) (ne_of_none e hpm0) (s c o e)
  refine ⟨_, rfl, p, xs, rfl, SqL.of (s0 _ _ hp), for_it (walk_enum (K := K) (a := p) (xs := xs)) (fun i σ H' => (∃ x3 x4 x5 : Option V, σ = [some (.ref p), some (.ref pn), some (.ref pm), x3, x4, x5, none]) ∧
    (∃ kn km : Kv, firstLoop ds 0 kn0 [] = firstLoop (ds.drop i) i kn km ∧ H' pn = some (.dK kn) ∧ H' pm = some (.dK km) ∧ kn.length ≤ 2 + i ∧ km.length ≤ 8 * i) ∧ Same H H')
    ⟨⟨none, none, none, rfl⟩, ⟨kn0, [], rfl, hn0, hm0, by decide, by decide⟩, s0⟩ (fun i σ H' _ h => h.2.2.seq (SqL.of hp)) ?_ ?_⟩
  · rintro i x σ H1 H2 hi ⟨⟨x3, x4, x5, rfl⟩, ⟨kn, km, ef, hn, hm, ln, lm⟩, s1⟩ ⟨t, xi, xd, rfl, ht, rfl, ei, ed⟩
    obtain rfl : V.int (i : Nat) = xi := Option.some.inj ei
    have hdi : ds[i]? = some (ds[i]'(by omega)) := List.getElem?_eq_getElem (by omega)
    have hdt := hds.get ed hdi
    have okd : OKd (ds[i]'(by omega)) := ok.mem_l (List.getElem_mem _)
    have s2 : Same H (upd H1 t (.tup [.int (i : Nat), xd])) := s1.trans (same_new ht)
    have n1 : t ≠ pn := (ne_of_none hn ht).symm
    have n2 : t ≠ pm := (ne_of_none hm ht).symm
    refine ⟨t, _, rfl, SqT.of upd_same, rfl, .int (i : Nat), _, rfl, xd, [], rfl, rfl, ?_⟩
    rw [List.drop_eq_getElem_cons (show i < ds.length by omega)] at ef
    conv at ef => rhs; unfold firstLoop
    have lw := wrongIn_len (ds[i]'(by omega)) kn km
    refine ⟨_, rfl, _, rfl, _, rfl, xd, _, pn, pm, kn, km, rfl, hdt.same s2 _, okd, npm, (upd_ne n1.symm).trans hn, (upd_ne n2.symm).trans hm, by omega, by omega, fun H3 b3 hn3 hm3 => ?_⟩
    have s3 := off s2 b3
    refine ⟨_, rfl, rfl, _, rfl, ?_⟩
    cases hw : (wrongIn (ds[i]'(by omega)) kn km).1 with
    | some z =>
      rw [hw] at ef
      refine iteT ?_
      refine ⟨_, rfl, _, rfl, (show 2 ≤ sizeLine by decide), fun t2 ht2 => ?_⟩
      have q2 := q H3 s3
      unfold wrongDecl at q2
      rw [ef] at q2
      exact q2 t2 _ (same_new ht2) ht2 upd_same
    | none =>
      rw [hw] at ef
      refine iteF ?_
      exact ⟨⟨_, _, _, rfl⟩, ⟨_, _, ef, hn3, hm3, by omega, by omega⟩, s3⟩
  · rintro σ H1 ⟨⟨x3, x4, x5, rfl⟩, ⟨kn, km, ef, hn, hm, ln, lm⟩, s1⟩
    rw [lx, List.drop_length] at ef
    have fo := firstLoop_forms (ds := ds) (i := 0) (kn := kn0) (km := []) (by rw [ef]; rfl)
    have q2 : ∀ H', Same H H' → wrongQ (secondLoop kn ds 0) Q H' := fun H' s' => by
      have q3 := q H' s'
      unfold wrongDecl at q3
      rw [ef] at q3
      exact q3
    refine ⟨_, rfl, p, xs, rfl, SqL.of (s1 _ _ hp), for_it (walk_enum (K := K) (a := p) (xs := xs)) (fun i σ H' => (∃ x3 x4 x5 : Option V, σ = [some (.ref p), some (.ref pn), some (.ref pm), x3, x4, x5, none]) ∧ secondLoop kn ds 0 = secondLoop kn (ds.drop i) i ∧ H' pn = some (.dK kn) ∧ Same H H')
      ⟨⟨_, _, _, rfl⟩, rfl, hn, s1⟩ (fun i σ H' _ h => h.2.2.2.seq (SqL.of hp)) ?_ ?_⟩
    · rintro i x σ H2 H3 hi ⟨⟨y3, y4, y5, rfl⟩, es, hn2, s2⟩ ⟨t, xi, xd, rfl, ht, rfl, ei, ed⟩
      obtain rfl : V.int (i : Nat) = xi := Option.some.inj ei
      have hdi : ds[i]? = some (ds[i]'(by omega)) := List.getElem?_eq_getElem (by omega)
      have hdt := hds.get ed hdi
      have okd : OKd (ds[i]'(by omega)) := ok.mem_l (List.getElem_mem _)
      have s3 : Same H (upd H2 t (.tup [.int (i : Nat), xd])) := s2.trans (same_new ht)
      have n1 : t ≠ pn := (ne_of_none hn2 ht).symm
      refine ⟨t, _, rfl, SqT.of upd_same, rfl, .int (i : Nat), _, rfl, xd, [], rfl, rfl, ?_⟩
      rw [List.drop_eq_getElem_cons (show i < ds.length by omega)] at es
      conv at es => rhs; unfold secondLoop
      refine ⟨_, rfl, xd, _, rfl, hdt.same s3 _, okd, fo _ (List.getElem_mem _), fun po H4 s4 hpo ho => ?_⟩
      have hn4 : H4 pn = some (.dK kn) := s4 _ _ ((upd_ne n1.symm).trans hn2)
      have small : (kindsIn (ds[i]'(by omega))).length < 1000 := by
        rcases declForm_cases (fo _ (List.getElem_mem (show i < ds.length by omega))) with ⟨n, ms, e, l1, l8, al⟩ | ⟨n, ws, a, e, l4, al⟩
        · rw [e]
          have := flat_small al
          show ((ms.map partsOf).flatten).length < 1000
          omega
        · rw [e]
          show (ws.map strOf ++ [strOf (.str a)]).length < 1000
          simp only [List.length_append, List.length_map, List.length_cons, List.length_nil]
          omega
      refine ⟨po, rfl, ⟨_, SqL.of ho⟩, fun D hD => lc_mapW (walk_list (K := K) (a := po) (xs := (kindsIn (ds[i]'(by omega))).map V.str)) (ys := ((kindsIn (ds[i]'(by omega))).map (kHas kn)).map V.bl) (fun H' s' => s'.seq (SqL.of ho)) (fun j H x H' y => y.1) hD (by simp) (by rw [List.length_map]; exact small) ?_ ?_⟩
      · rintro j x y H' Q' s5 ⟨_, hx⟩ hy q'
        rw [List.getElem?_map] at hx
        rw [List.map_map, List.getElem?_map] at hy
        cases hz : (kindsIn (ds[i]'(by omega)))[j]? with
        | none =>
          rw [hz] at hx
          cases hx
        | some z =>
          rw [hz] at hx hy
          obtain rfl : V.str z = x := Option.some.inj hx
          obtain rfl : V.bl (kHas kn z) = y := Option.some.inj hy
          exact ⟨_, rfl, _, rfl, pn, _, rfl, DGet.k (k := Sum.inr z) (s5 _ _ hn4), q' _ (Same.refl _)⟩
      · intro H5 s5 hd5
        refine ⟨_, _, rfl, SqL.of hd5, _, rfl, ?_⟩
        have s6 := (s3.trans s4).trans s5
        rw [show (((kindsIn (ds[i]'(by omega))).map (kHas kn)).all id) = (kindsIn (ds[i]'(by omega))).all (kHas kn) by rw [List.all_map]; rfl]
        refine ifB (fun h4 => ?_) (fun h4 => ?_)
        · have e4 := (Bool.not_eq_true' _).mp h4
          rw [e4] at es
          refine ⟨_, rfl, (show 2 ≤ sizeLine by decide), fun t2 ht2 => ?_⟩
          have q3 := q2 H5 s6
          rw [es] at q3
          exact q3 t2 _ (same_new ht2) ht2 upd_same
        · have e4 := (Bool.not_eq_false' _).mp h4
          rw [e4] at es
          exact ⟨⟨_, _, _, rfl⟩, es, s5 _ _ hn4, s6⟩
    · rintro σ H2 ⟨⟨y3, y4, y5, rfl⟩, es, hn2, s2⟩
      rw [lx, List.drop_length] at es
      have q3 := q2 H2 s2
      rw [es] at q3
      exact q3
def isKinds : PyData → Bool
  | .list ds => decide (ds.length ≤ 12) && (wrongDecl ds).isNone
  | _ => false
def sp_is_kinds : Sp := fun vs H Q _ => ∃ (v : V) (d : PyData), vs = [v] ∧ DT H v d ∧ (OKd d ∨ d = .dict []) ∧ ∀ H', Same H H' → Q (.bl (isKinds d)) H'
theorem len_is_kinds : ∀ vs H Q E, sp_is_kinds vs H Q E → vs.length = (["value"] : List Str).length := fun vs H Q E h => by
  obtain ⟨_, _, rfl, _⟩ := h; rfl
theorem b_is_kinds (T : TKind K w mg) : Body P w K mg base 7 "is_kinds" s_is_kinds ["value"] sp_is_kinds := by
  obtain ⟨tm, gm⟩ := T.g_MOST_KINDS
  intro f cdv A outer s H vs Q E hr h
  refine ⟨_, (pss_cons (ps_if (PW.pt (pw_or (pt_not (pt_val (pe_callB call_isi (by rfl) T.tw.b_isinstance (by decide +kernel) (pa_cons (pv 0) (pa_cons (pe_bltn (v := .ty "list") (by rfl) T.tw.b_list (by decide +kernel) rfl) pa_nil))))) (pw_or1 (pt_cmpR op_gt (pe_callB call_len_seq (by rfl) T.tw.b_len (by decide +kernel) (pa_cons (pv 0) pa_nil)) (pe_glob (v := .int 12) rfl gm ⟨_, rfl⟩) (nomark _)))))
        (pss_one (ps_ret pe_bl))
        pss_nil)
    (pss_one (ps_ret (pe_cmpR op_isN (pe_s (c_wrong_declaration T) hr (pa_cons (pv 0) pa_nil)) pe_non (nomark _))))), ?_⟩
  obtain ⟨v, d, rfl, hd, ok, q⟩ := h
  refine ⟨_, rfl, _, _, _, _, _, rfl, .ty _, hd.ty, kit_ty (kit_l d), _, rfl, ?_⟩
  cases d with
  | list ds =>
    have ok1 : OKd (.list ds) := by
      rcases ok with ok | ok
      · exact ok
      · cases ok
    cases hd with
    | @lst p xs _ e r =>
      have lx := r.length
      refine iteF ?_
      refine ⟨_, rfl, p, xs, rfl, .inl (SqL.of e), _, _, rfl, rfl, _, rfl, ?_⟩
      refine ifB (fun h => ?_) (fun h => ?_)
      · have h2 := of_decide_eq_true h
        have q2 : Q (.bl (decide (ds.length ≤ 12) && (wrongDecl ds).isNone)) H := q H (Same.refl _)
        rw [decide_eq_false (show ¬ ds.length ≤ 12 by omega)] at q2
        exact q2
      · have h2 := of_decide_eq_false h
        have q2 : ∀ H', Same H H' → Q (.bl (wrongDecl ds).isNone) H' := fun H' s' => by
          have q3 : Q (.bl (decide (ds.length ≤ 12) && (wrongDecl ds).isNone)) H' := q H' s'
          rw [decide_eq_true (show ds.length ≤ 12 by omega)] at q3
          exact q3
        refine ⟨_, rfl, p, xs, ds, rfl, e, r, ok1, by omega, fun H' s' => ?_⟩
        cases hw : wrongDecl ds with
        | none =>
          have q3 := q2 H' s'
          rw [hw] at q3
          exact ⟨rfl, q3⟩
        | some x =>
          obtain ⟨i, z⟩ := x
          intro t H2 s2 _ _
          have q3 := q2 H2 (s'.trans s2)
          rw [hw] at q3
          exact ⟨rfl, q3⟩
  | none => exact iteT (q _ (Same.refl _))
  | bool _ => exact iteT (q _ (Same.refl _))
  | int _ => exact iteT (q _ (Same.refl _))
  | str _ => exact iteT (q _ (Same.refl _))
  | tuple _ => exact iteT (q _ (Same.refl _))
  | dict _ => exact iteT (q _ (Same.refl _))
theorem c_is_kinds (T : TKind K w mg) : Says P w K mg base 8 "is_kinds" ["value"] sp_is_kinds := says T.d_is_kinds sc_is_kinds len_is_kinds (b_is_kinds T)
theorem k_is_kinds (T : TKind K w mg) : SaysK P w K mg base 8 "is_kinds" ["value"] ["value"] (fun l => l) sp_is_kinds := saysK T.k_is_kinds sc_is_kinds len_is_kinds (b_is_kinds T)
end
end Cb
set_option Elab.async false
set_option linter.all false
set_option maxRecDepth 100000
set_option maxHeartbeats 4000000
namespace Cb
open PySem PySem.Spec PyProof.Rows L2
abbrev s_l_hash : Stmt := topS 23
theorem sc_l_hash : FnScope ["_law_seed", "_law_index", "_law_mixed"] ["_law_seed", "_law_index"] (defScope s_l_hash) := ⟨rfl, rfl, rfl, by decide +kernel, rfl, by decide +kernel, by decide +kernel⟩
abbrev s_l_random : Stmt := topS 24
theorem sc_l_random : FnScope ["_law_generator_here", "_law_bound", "_law_drawn", "_law_turn"] ["_law_generator_here", "_law_bound"] (defScope s_l_random) := ⟨rfl, rfl, rfl, by decide +kernel, rfl, by decide +kernel, by decide +kernel⟩
abbrev s_l_cell : Stmt := topS 25
theorem sc_l_cell : FnScope ["_law_script", "_law_index"] ["_law_script", "_law_index"] (defScope s_l_cell) := ⟨rfl, rfl, rfl, by decide +kernel, rfl, by decide +kernel, by decide +kernel⟩
abbrev s_l_generator : Stmt := topS 26
theorem sc_l_generator : FnScope ["_law_script", "_law_index", "_law_seed"] ["_law_script", "_law_index"] (defScope s_l_generator) := ⟨rfl, rfl, rfl, by decide +kernel, rfl, by decide +kernel, by decide +kernel⟩
structure TGen (K : PySem.W.Frag) (mg : Str → Option Value) : Prop where
  d_l_hash : Has K mg "_law_hash" s_l_hash ["_law_seed", "_law_index"]
  d_l_random : Has K mg "_law_random" s_l_random ["_law_generator_here", "_law_bound"]
  d_l_cell : Has K mg "_law_cell" s_l_cell ["_law_script", "_law_index"]
  d_l_generator : Has K mg "_law_generator" s_l_generator ["_law_script", "_law_index"]
  b_int : mg "int" = none
  b_range : mg "range" = none
  b_len : mg "len" = none
  b_sum : mg "sum" = none
  b_max : mg "max" = none
/-- a generator: three numbers -/
def gen (a s t : Int) : HO := .lst [.int a, .int s, .int t]
local macro_rules | `(tactic| walk_at "rd1") => `(tactic| first
  | with_reducible_and_instances refine ⟨_, rfl, ?_⟩
  | refine ⟨_, rfl, ?_⟩
  | refine ⟨_, _, rfl, rfl, ?_⟩
  | refine .inl ⟨_, rfl, ?_⟩
  | (refine ⟨by first | decide | omega | exact .inl (by decide) | exact .inr (by decide) | exact .inl (by omega) | exact .inr (by omega) | exact ⟨by decide, by decide⟩, ?_⟩))
local macro_rules | `(tactic| walk_at "rd") => `(tactic| repeat walk_at "rd1")
section
variable {P : Program} {w : World} {K : PySem.W.Frag} {mg : Str → Option Value} {base : Heap}
def sp_l_hash : Sp := fun vs H Q _ => ∃ s i : Int, vs = [.int s, .int i] ∧ 0 ≤ i ∧ i < 2 ^ 63 ∧ ∀ r : Int, Q (.int r) H
theorem mod_in {m b : Int} (h : 0 < b) : 0 ≤ m % b ∧ m % b < b := ⟨Int.emod_nonneg _ (by omega), Int.emod_lt_of_pos _ h⟩
theorem cut_first (ns : List Int) : cutV (ns.map V.int) none (some 1) = (ns.take 1).map V.int := by
  unfold cutV
  rw [show HT.sIx (ns.map V.int).length 0 none = 0 from HT.sIx_none _ _, show HT.sIx (ns.map V.int).length (ns.map V.int).length (some 1) = min 1 (ns.map V.int).length from HT.sIx_nat _ _ 1]
  cases ns with
  | nil => rfl
  | cons x r => simp
theorem c_l_hash (T : TGen K mg) : Says P w K mg base 1 "_law_hash" ["_law_seed", "_law_index"] sp_l_hash := by
  refine says T.d_l_hash sc_l_hash (fun vs H Q E h => ?_) (fun f cdv A outer s H vs Q E hr h => ?_)
  · obtain ⟨_, _, rfl, _⟩ := h; rfl
  · refine ⟨_, (pss_cons (ps_set (i := 2) sc_l_hash.nd rfl (.inl rfl) (pe_op op_mod (pe_callTy call_int1 (by rfl) T.b_int (by decide +kernel) (pa_cons (pe_op op_add (pe_op op_add (pe_op op_add (pe_op op_mul (pv 0) pe_int) (pe_op op_mul (pe_op op_mul pe_int (pv 1)) (pv 1))) (pe_op op_mul pe_int (pv 1))) pe_int) pa_nil)) pe_int))
      (pss_cons (ps_set (i := 2) sc_l_hash.nd rfl (.inl rfl) (pe_op op_mod (pe_callTy call_int1 (by rfl) T.b_int (by decide +kernel) (pa_cons (pe_op op_add (pe_op op_add (pe_op op_mul (pv 2) (pv 2)) (pe_op op_mul pe_int (pv 1))) pe_int) pa_nil)) pe_int))
      (pss_one (ps_ret (pe_op op_mod (pe_callTy call_int1 (by rfl) T.b_int (by decide +kernel) (pa_cons (pe_op op_mul (pv 2) pe_int) pa_nil)) pe_int))))), ?_⟩
    obtain ⟨s, i, rfl, h0, h1, q⟩ := h
    walk_at "rd"
    have hm := @mod_in (s * 1140671 + 27644437 * i * i + 131 * i + 19) 2147483629 (by decide)
    generalize (s * 1140671 + 27644437 * i * i + 131 * i + 19) % 2147483629 = m at hm ⊢
    walk_at "rd"
    exact q _

/-- a draw: some number below the bound; the generator goes on -/
@[irreducible] def sp_l_random : Sp := fun vs H Q _ => ∃ (p : Addr) (a s t b : Int), vs = [.ref p, .int b] ∧ H p = some (gen a s t) ∧ 0 < b ∧ b.natAbs < 2 ^ 210 ∧ 0 ≤ t ∧ t < 2 ^ 62 ∧
  ∀ r a' t' : Int, 0 ≤ r → r < b → t ≤ t' → t' ≤ t + 8 → Q (.int r) (upd H p (gen a' s t'))
theorem c_l_random (T : TGen K mg) : Says P w K mg base 2 "_law_random" ["_law_generator_here", "_law_bound"] sp_l_random := by
  refine says T.d_l_random sc_l_random (fun vs H Q E h => ?_) (fun f cdv A outer s H vs Q E hr h => ?_) <;> unfold sp_l_random at h
  · obtain ⟨_, _, _, _, _, rfl, _⟩ := h; rfl
  · refine ⟨_, (pss_cons (ps_if (pt_cmpR op_gt (pe_ix ix_list (pv 0) pe_int (fun _ _ => rfl)) pe_int (nomark _))
        (pss_cons (ps_set (i := 2) sc_l_random.nd rfl (.inl rfl) (pe_op op_mod (pe_callTy call_int1 (by rfl) T.b_int (by decide +kernel) (pa_cons (pe_ix ix_list (pv 0) pe_int (fun _ _ => rfl)) pa_nil)) (pv 1)))
        (pss_cons (ps_asg (pe_op op_fdivA (pe_ix ix_list (pv 0) pe_int (fun _ _ => rfl)) (pv 1)) (pg_sub (pv 0) pe_int set_list))
        (pss_one (ps_ret (pv 2)))))
        pss_nil)
      (pss_cons (ps_set (i := 2) sc_l_random.nd rfl (.inl rfl) pe_int)
      (pss_cons (ps_for PassesOwn.never rfl (pi_range1 (by rfl) T.b_range (pa_cons (pe_op op_add pe_int (pe_op op_fdiv (pe_bits (pv 1)) pe_int)) pa_nil)) (pg_name (i := 3) sc_l_random.nd rfl (.inl rfl))
        (pss_cons (ps_asg (pe_op op_add (pe_ix ix_list (pv 0) pe_int (fun _ _ => rfl)) pe_int) (pg_sub (pv 0) pe_int set_list))
        (pss_one (ps_set (i := 2) sc_l_random.nd rfl (.inl rfl) (pe_op op_add (pe_op op_mul (pv 2) pe_int) (pe_s (c_l_hash T) hr (pa_cons (pe_ix ix_list (pv 0) pe_int (fun _ _ => rfl)) (pa_cons (pe_ix ix_list (pv 0) pe_int (fun _ _ => rfl)) pa_nil))))))))
      (pss_one (ps_ret (pe_op op_mod (pe_callTy call_int1 (by rfl) T.b_int (by decide +kernel) (pa_cons (pv 2) pa_nil)) (pv 1))))))), ?_⟩
    obtain ⟨p, a, s, t, b, rfl, hp, b0, b1, t0, t1, q⟩ := h
    have bl : Builtin.Int.intBits b ≤ 210 := PyProof.Rows.intBits_le b1
    refine ⟨_, rfl, _, _, _, _, rfl, rfl, SqL.of hp, rfl, _, _, rfl, rfl, _, rfl, ite2 (fun _ => ?_) (fun _ => ?_)⟩
    · refine ⟨_, rfl, _, _, _, _, rfl, rfl, SqL.of hp, rfl, .inl ⟨_, rfl, ?_⟩⟩
      refine ⟨_, rfl, _, _, rfl, rfl, b0, ?_⟩
      refine ⟨_, rfl, _, _, _, _, rfl, rfl, SqL.of hp, rfl, _, rfl, _, _, rfl, rfl, ⟨by omega, Nat.lt_of_lt_of_le (PySem.Flt.log2_lt_of (by decide) b1) (by decide)⟩, ?_⟩
      refine ⟨_, rfl, _, _, _, _, rfl, rfl, hp, rfl, ?_⟩
      refine ⟨_, rfl, ?_⟩
      exact q _ _ t (mod_in b0).1 (mod_in b0).2 (by omega) (by omega)
    · refine ⟨_, rfl, _, rfl, _, _, rfl, rfl, ⟨by decide, by decide⟩, _, _, rfl, rfl, _, rfl, ?_, ?_, ?_⟩
      · show -(2 ^ 62) ≤ 1 + ((Builtin.Int.intBits b : Nat) : Int) / 30
        omega
      · show 1 + ((Builtin.Int.intBits b : Nat) : Int) / 30 < 2 ^ 62
        omega
      · refine for_range (lo := 0) (fun i σ H' => ∃ (d t' : Int) (v : Option V), σ = [some (.ref p), some (.int b), some (.int d), v] ∧ t' = t + i ∧ H' = upd H p (gen a s t')) ⟨0, t, none, rfl, by omega, (upd_self hp).symm⟩ ?_ ?_
        · rintro i σ H' hi ⟨d, t', v, rfl, rfl, rfl⟩
          have hi8 : i < (1 + ((Builtin.Int.intBits b : Nat) : Int) / 30).toNat := hi
          refine ⟨_, rfl, _, _, _, _, rfl, rfl, SqL.of upd_same, rfl, _, _, rfl, rfl, ?_⟩
          refine ⟨_, rfl, _, _, _, _, rfl, rfl, upd_same, rfl, ?_⟩
          rw [upd_upd]
          refine ⟨_, rfl, _, _, rfl, rfl, .inr (by decide), ?_⟩
          refine ⟨_, rfl, _, _, _, _, rfl, rfl, SqL.of upd_same, rfl, _, rfl, _, _, _, _, rfl, rfl, SqL.of upd_same, rfl, ?_⟩
          refine ⟨_, _, rfl, by omega, by omega, fun r => ?_⟩
          refine ⟨_, _, rfl, rfl, ?_⟩
          exact ⟨_, t + i + 1, _, rfl, by omega, rfl⟩
        · rintro σ H' ⟨d, t', v, rfl, rfl, rfl⟩
          refine ⟨_, rfl, .inl ⟨_, rfl, ?_⟩⟩
          refine ⟨_, rfl, _, _, rfl, rfl, b0, ?_⟩
          have hn : ((1 + ((Builtin.Int.intBits b : Nat) : Int) / 30).toNat : Int) ≤ 8 := by omega
          exact q _ a _ (mod_in b0).1 (mod_in b0).2 (Int.le_add_of_nonneg_right (Int.natCast_nonneg _)) (Int.add_le_add_left hn t)
def sp_l_cell (K : PySem.W.Frag) : Sp := fun vs H Q _ => ∃ (p : Addr) (ns : List Int) (i : Int), vs = [.ref p, .int i] ∧ SqL K H p (ns.map V.int) ∧ 0 ≤ i ∧ ∀ (r : Int) (H' : Hp), Same H H' → Q (.int r) H'
theorem c_l_cell (T : TGen K mg) : Says P w K mg base 1 "_law_cell" ["_law_script", "_law_index"] (sp_l_cell K) := by
  refine says T.d_l_cell sc_l_cell (fun vs H Q E h => ?_) (fun f cdv A outer s H vs Q E hr h => ?_)
  · obtain ⟨_, _, _, rfl, _⟩ := h; rfl
  · refine ⟨_, (pss_cons (ps_if (pt_cmpR op_lt (pv 1) (pe_callB call_len_seq (by rfl) T.b_len (by decide +kernel) (pa_cons (pv 0) pa_nil)) (nomark _))
        (pss_one (ps_ret (pe_ix ix_list (pv 0) (pv 1) (fun _ _ => rfl))))
        pss_nil)
      (pss_one (ps_ret (pe_op op_mod (pe_callB (cr_sum rfl) (by rfl) T.b_sum (by decide +kernel) (pa_cons (pe_slice sl_list (pv 0) po_none (po_some pe_int)) pa_nil)) pe_int)))), ?_⟩
    obtain ⟨p, ns, i, rfl, hp, i0, q⟩ := h
    refine ⟨_, rfl, _, rfl, _, _, rfl, .inl hp, _, _, rfl, rfl, _, rfl, ite2 (fun lt => ?_) (fun _ => ?_)⟩
    · have lt2 : i < ((ns.map V.int).length : Int) := of_decide_eq_true lt
      rw [List.length_map] at lt2
      have e : atI (ns.map V.int) i = some (.int (ns[i.toNat]'(by omega))) := by
        have z := atI_nat (xs := ns.map V.int) (j := i.toNat) (v := .int (ns[i.toNat]'(by omega))) (by rw [List.getElem?_map, List.getElem?_eq_getElem (by omega)]; rfl)
        rwa [Int.toNat_of_nonneg i0] at z
      refine ⟨_, rfl, _, rfl, _, _, _, _, rfl, rfl, hp, e, ?_⟩
      exact q _ _ (Same.refl _)
    · refine ⟨_, rfl, 1, rfl, _, _, rfl, hp, fun l hl => ?_⟩
      refine ⟨_, (ns.take 1), rfl, ?_, ?_⟩
      · rw [← cut_first]
        exact SqL.of upd_same
      · refine ⟨_, _, rfl, rfl, (show (0 : Int) < 1000003 by decide), ?_⟩
        exact q _ _ (same_new hl)
/-- a new generator -/
def sp_l_generator (K : PySem.W.Frag) : Sp := fun vs H Q _ => ∃ (p : Addr) (ns : List Int) (i : Int), vs = [.ref p, .int i] ∧ SqL K H p (ns.map V.int) ∧ 0 ≤ i ∧ i < 1000 ∧
  ∀ (g : Addr) (a s : Int) (H' : Hp), H g = none → Same H H' → H' g = some (gen a s (1000 * i)) → Q (.ref g) H'
theorem c_l_generator (T : TGen K mg) : Says P w K mg base 2 "_law_generator" ["_law_script", "_law_index"] (sp_l_generator K) := by
  refine says T.d_l_generator sc_l_generator (fun vs H Q E h => ?_) (fun f cdv A outer s H vs Q E hr h => ?_)
  · obtain ⟨_, _, _, rfl, _⟩ := h; rfl
  · refine ⟨_, (pss_cons (ps_set (i := 2) sc_l_generator.nd rfl (.inl rfl) (pe_s (c_l_cell T) hr (pa_cons (pv 0) (pa_cons (pv 1) pa_nil))))
      (pss_one (ps_ret (pe_lst (pa_cons (pe_op op_mod (pe_callTy call_int1 (by rfl) T.b_int (by decide +kernel) (pa_cons (pe_callB (call_max2 rfl) (by rfl) T.b_max (by decide +kernel) (pa_cons (pe_op op_sub (pv 2) (pe_op op_powA pe_int pe_int)) (pa_cons pe_int pa_nil))) pa_nil)) (pe_op op_powA (pe_op op_powA pe_int pe_int) pe_int)) (pa_cons (pe_op op_mod (pe_callTy call_int1 (by rfl) T.b_int (by decide +kernel) (pa_cons (pv 2) pa_nil)) pe_int) (pa_cons (pe_op op_mul pe_int (pv 1)) pa_nil))))))), ?_⟩
    obtain ⟨p, ns, i, rfl, hp, i0, i1, q⟩ := h
    refine ⟨_, rfl, _, rfl, _, _, _, rfl, hp, i0, fun r H1 s1 => ?_⟩
    refine ⟨_, rfl, _, _, rfl, rfl, ⟨by decide, by decide +kernel⟩, _, _, rfl, rfl, ?_⟩
    refine ⟨_, _, rfl, .inl ⟨_, rfl, ?_⟩⟩
    refine ⟨_, _, rfl, rfl, ⟨by decide, by decide +kernel⟩, _, _, rfl, rfl, ⟨by decide, by decide +kernel⟩, ?_⟩
    refine ⟨_, _, rfl, rfl, (show (0 : Int) < ((10 ^ Int.toNat 60) ^ Int.toNat 10) by decide +kernel), ?_⟩
    refine ⟨_, rfl, .inl ⟨_, rfl, _, _, rfl, rfl, (show (0 : Int) < 2147483647 by decide), ?_⟩⟩
    refine ⟨_, rfl, _, _, rfl, rfl, .inl (by decide), ?_⟩
    refine ⟨(show 3 ≤ sizeLine by decide), fun g hg => ?_⟩
    exact q g _ _ _ (s1.free hg) (s1.trans (same_new hg)) upd_same
end
end Cb
set_option Elab.async false
set_option linter.all false
set_option maxRecDepth 100000
set_option maxHeartbeats 4000000
namespace Cb
open PySem PySem.Spec PyProof.Rows L2
abbrev s_l_drawn_kinds : Stmt := topS 27
theorem sc_l_drawn_kinds : FnScope ["_law_generator_here", "_law_names", "_law_every", "_law_found", "_law_at", "_law_name", "_law_makers", "_law_turn", "_law_parts", "_law_wanted", "_law_place"] ["_law_generator_here"] (defScope s_l_drawn_kinds) := ⟨rfl, rfl, rfl, by decide +kernel, rfl, by decide +kernel, by decide +kernel⟩
/-! ### what is drawn -/
def NamesOk (ns : List Str) : Prop := ns = (["list"] : List Str) ∨ ns = (["list", "tree"] : List Str) ∨ ns = (["list", "tree", "pair"] : List Str)
def evry (ns : List Str) : List Str := (["num", "flag", "step"] : List Str) ++ ns
def hd1 (n : Str) : Str := ⟨#[n.cps.getD 0 0]⟩
def abc (j : Nat) : Str := ⟨#[("abcd" : Str).cps.getD j 0]⟩
def rest1 (n : Str) : Nat → List (List Str) → List PyData
  | _, [] => []
  | j, zs :: r => .tuple [.str (hd1 n ++ abc j), .list (zs.map .str)] :: rest1 n (j + 1) r
theorem rest1_app (n : Str) : ∀ (zss : List (List Str)) (j : Nat) (zs : List Str), rest1 n j (zss ++ [zs]) = rest1 n j zss ++ [.tuple [.str (hd1 n ++ abc (j + zss.length)), .list (zs.map .str)]]
  | [], j, zs => rfl
  | z :: zss, j, zs => by
    show _ :: rest1 n (j + 1) (zss ++ [zs]) = _ :: (rest1 n (j + 1) zss ++ _)
    rw [rest1_app n zss (j + 1) zs, List.length_cons, show j + (zss.length + 1) = j + 1 + zss.length by omega]
def mk1 (n : Str) (z : List Str) (zss : List (List Str)) : List PyData := .tuple [.str (hd1 n ++ "zero"), .list (z.map .str)] :: rest1 n 0 zss
/-- a drawn choice kind: its name, the parts of its first constructor, those of the others -/
abbrev Ch := Str × List Str × List (List Str)
def ch (c : Ch) : PyData := .tuple [.str "choice", .str c.1, .list (mk1 c.1 c.2.1 c.2.2)]
def ChOk (E : List Str) (c : Ch) : Prop := (c.2.1 = (["num"] : List Str) ∨ c.2.1 = []) ∧ c.2.2.length ≤ 3 ∧ ∀ zs ∈ c.2.2, zs.length ≤ 4 ∧ ∀ z ∈ zs, z ∈ E
def stepD (wanted : List Str) : PyData := .tuple [.str "calls", .str "step", .list (wanted.map .str), .str "num"]
structure Drawn (L : List Ch) (wanted : List Str) : Prop where
  nm : NamesOk (L.map (·.1))
  ok : ∀ c ∈ L, ChOk (evry (L.map (·.1))) c
  wl : wanted.length ≤ 2
  wm : ∀ z ∈ wanted, z ∈ evry (L.map (·.1))
/-! ### the generator goes on -/
def Gn (g : Addr) (s t0 : Int) (n : Nat) (H : Hp) : Prop := ∃ a t : Int, H g = some (gen a s t) ∧ t0 ≤ t ∧ t ≤ t0 + n
theorem Gn.mono {g : Addr} {s t0 : Int} {n m : Nat} {H : Hp} (G : Gn g s t0 n H) (h : n ≤ m) : Gn g s t0 m H := by
  obtain ⟨a, t, e, l1, l2⟩ := G
  exact ⟨a, t, e, l1, by omega⟩
theorem Gn.some {g : Addr} {s t0 : Int} {n : Nat} {H : Hp} (G : Gn g s t0 n H) {p : Addr} (h : H p = none) : p ≠ g := by
  obtain ⟨a, t, e, _⟩ := G
  exact (ne_of_none e h).symm
theorem Gn.new {g : Addr} {s t0 : Int} {n : Nat} {H : Hp} (G : Gn g s t0 n H) {p : Addr} {o : HO} (h : H p = none) : Gn g s t0 n (upd H p o) := by
  obtain ⟨a, t, e, l⟩ := G
  exact ⟨a, t, same_new h _ _ e, l⟩
theorem Gn.off {g : Addr} {s t0 : Int} {n : Nat} {H : Hp} (G : Gn g s t0 n H) {p : Addr} {o : HO} (h : g ≠ p) : Gn g s t0 n (upd H p o) := by
  obtain ⟨a, t, e, l⟩ := G
  exact ⟨a, t, (upd_ne h).trans e, l⟩
/-- a draw -/
theorem draw {g : Addr} {s t0 : Int} {n : Nat} {H : Hp} {b : Int} {Q : VK} {E : XK} (G : Gn g s t0 n H) (h0 : 0 ≤ t0) (h1 : t0 + n < 2 ^ 62) (b0 : 0 < b) (b1 : b.natAbs < 2 ^ 210)
    (q : ∀ (r : Int) (H' : Hp), 0 ≤ r → r < b → Gn g s t0 (n + 8) H' → Keep [g] H H' → Q (.int r) H') : sp_l_random [.ref g, .int b] H Q E := by
  obtain ⟨a, t, e, l1, l2⟩ := G
  unfold sp_l_random
  refine ⟨g, a, s, t, b, rfl, e, b0, b1, by omega, by omega, fun r a' t' r0 r1 t2 t3 => ?_⟩
  exact q r _ r0 r1 ⟨a', t', upd_same, by omega, by omega⟩ (keep_upd (by simp))
/-- a row of drawn texts -/
theorem lc_draws {g D : Addr} {s t0 : Int} {n0 m : Nat} {E : List Str} {te : TE} {i : Nat} {σ : L2.St} {H1 : Hp} {Qd : Hp → Prop} (hD : H1 D = none) (G : Gn g s t0 n0 H1) (small : m ≤ 10)
    (hs : ∀ (x : V) (H' : Hp) (k : Nat) (Q : VK), k ≤ n0 + 8 * m → Gn g s t0 k H' → Keep [g] H1 H' → (∀ z H'', z ∈ E → Keep [g] H' H'' → Gn g s t0 (k + 8) H'' → Q (.str z) H'') → te ((wipe σ [i]).set i (some x)) H' Q)
    (hd : ∀ (H' : Hp) (zs : List Str), zs.length = m → (∀ z ∈ zs, z ∈ E) → Keep [g] H1 H' → H' D = some (.lst (zs.map V.str)) → Gn g s t0 (n0 + 8 * m) H' → Qd H') :
    ∃ W : Nat → Nat → Hp → Prop, (∃ m, W 0 m (upd H1 D (.lst []))) ∧ ∀ k m' H, W k m' H →
      ((Itr 0 m).stop k H ∧ Qd H) ∨ ((Itr 0 m).go k H ∧ ∃ Nx : Hp → Prop, (∀ H', Nx H' → ∃ m'', m'' < m' ∧ W (k + 1) m'' H') ∧ ∀ x H', (Itr 0 m).yld k H x H' → gName i x (wipe σ [i]) H' fun σ2 H2 => wipe σ2 [i] = wipe σ [i] ∧ tYes σ2 H2 fun b H3 =>
        if b = true then te σ2 H3 fun y H4 => ∃ acc, H4 D = some (.lst acc) ∧ acc.length < sizeLine ∧ Nx (upd H4 D (.lst (acc ++ [y]))) else Nx H3) := by
  have ng : g ≠ D := (G.some hD).symm
  refine lc_it walk_range (fun j H' => Keep [g] H1 H' ∧ Gn g s t0 (n0 + 8 * j) H' ∧ ∃ zs : List Str, zs.length = j ∧ (∀ z ∈ zs, z ∈ E) ∧ H' D = some (.lst (zs.map V.str))) ⟨keep_new hD, G.off ng, [], rfl, fun z hz => absurd hz List.not_mem_nil, upd_same⟩ (fun _ _ _ _ => trivial) ?_ ?_
  · rintro j x H H' hj ⟨k1, g1, zs, lz, mz, hd1⟩ ⟨rfl, rfl⟩
    refine ⟨?_, ?_⟩
    · show ((wipe σ [i]).set i (some _)).set i none = wipe σ [i]
      show ((σ.set i none).set i (some _)).set i none = σ.set i none
      rw [List.set_set, List.set_set]
    · show te ((wipe σ [i]).set i (some _)) H' _
      refine hs _ H' _ _ (by omega) g1 k1 ?_
      intro z H2 hz k2 g2
      have nD : D ∉ [g] := by simp [Ne.symm ng]
      have e2 := k2 _ _ nD hd1
      refine ⟨_, e2, ?_, ?_, ?_, zs ++ [z], ?_, ?_, ?_⟩
      · rw [List.length_map, lz]
        exact small1000 (by omega)
      · intro b o n e
        rw [upd_ne (ne_of_none e hD)]
        exact k2 b o n (k1 b o n e)
      · exact (g2.mono (by omega)).off ng
      · rw [List.length_append, lz]
        rfl
      · intro y hy
        rcases List.mem_append.mp hy with hy | hy
        · exact mz y hy
        · rw [List.mem_singleton.mp hy]
          exact hz
      · rw [upd_same, List.map_append]
        rfl
  · rintro H' ⟨k1, g1, zs, lz, mz, hd1⟩
    exact hd H' zs lz mz k1 hd1 g1
theorem cut_names {r : Int} (h0 : 0 ≤ r) (h1 : r < 3) : ∃ ns : List Str, NamesOk ns ∧ cutV [.str "list", .str "tree", .str "pair"] none (some (1 + r)) = ns.map V.str := by
  have h : r = 0 ∨ r = 1 ∨ r = 2 := by omega
  rcases h with rfl | rfl | rfl
  · exact ⟨["list"], .inl rfl, by decide⟩
  · exact ⟨["list", "tree"], .inr (.inl rfl), by decide⟩
  · exact ⟨["list", "tree", "pair"], .inr (.inr rfl), by decide⟩
theorem names_len {ns : List Str} (h : NamesOk ns) : ns.length ≤ 3 := by
  rcases h with rfl | rfl | rfl <;> decide
theorem names_hd {ns : List Str} (h : NamesOk ns) {n : Str} (m : n ∈ ns) : n.length = 4 ∧ n.cps[0]? = some (n.cps.getD 0 0) := by
  have : n = "list" ∨ n = "tree" ∨ n = "pair" := by
    rcases h with rfl | rfl | rfl
    · exact .inl (List.mem_singleton.mp m)
    · rcases List.mem_cons.mp m with rfl | m
      · exact .inl rfl
      · exact .inr (.inl (List.mem_singleton.mp m))
    · rcases List.mem_cons.mp m with rfl | m
      · exact .inl rfl
      · rcases List.mem_cons.mp m with rfl | m
        · exact .inr (.inl rfl)
        · exact .inr (.inr (List.mem_singleton.mp m))
  rcases this with rfl | rfl | rfl <;> decide
end Cb
set_option Elab.async false
set_option linter.all false
set_option maxRecDepth 100000
set_option maxHeartbeats 8000000
namespace Cb
open PySem PySem.Spec PyProof.Rows L2
structure TDraw (K : PySem.W.Frag) (w : World) (mg : Str → Option Value) : Prop where
  tk : TKind K w mg
  tg : TGen K mg
  d_l_drawn_kinds : Has K mg "_law_drawn_kinds" s_l_drawn_kinds ["_law_generator_here"]
theorem Keep.free {S : List Addr} {H H' : Hp} (k : Keep S H H') {p : Addr} (h : H' p = none) (n : p ∉ S) : H p = none := by
  cases e : H p with
  | none => rfl
  | some o =>
    rw [k p o n e] at h
    cases h
theorem mk1_app (n : Str) (z : List Str) (zss : List (List Str)) (zs : List Str) : mk1 n z (zss ++ [zs]) = mk1 n z zss ++ [.tuple [.str (hd1 n ++ abc zss.length), .list (zs.map .str)]] := by
  unfold mk1
  rw [rest1_app, Nat.zero_add]
  rfl
theorem rest1_len (n : Str) : ∀ (zss : List (List Str)) (j : Nat), (rest1 n j zss).length = zss.length
  | [], _ => rfl
  | _ :: r, j => by
    show (rest1 n (j + 1) r).length + 1 = r.length + 1
    rw [rest1_len n r]
theorem DTs.snoc {H : Hp} : ∀ {xs : List V} {ds : List PyData} {x : V} {d : PyData}, DTs H xs ds → DT H x d → DTs H (xs ++ [x]) (ds ++ [d])
  | _, [], _, _, h, a => by cases h; exact .cons a .nil
  | _, e :: ds, _, _, h, a => by
    cases h with
    | cons b r => exact .cons b (DTs.snoc (ds := ds) r a)
theorem DTs.app {H : Hp} : ∀ {ds es : List PyData} {xs ys : List V}, DTs H xs ds → DTs H ys es → DTs H (xs ++ ys) (ds ++ es)
  | [], _, _, _, h, a => by cases h; exact a
  | e :: ds, _, _, _, h, a => by
    cases h with
    | cons b r => exact .cons b (DTs.app (ds := ds) r a)
section
variable {P : Program} {w : World} {K : PySem.W.Frag} {mg : Str → Option Value} {base : Heap}
def sp_drawn : Sp := fun vs H Q _ => ∃ (g : Addr) (a s t : Int), vs = [.ref g] ∧ H g = some (gen a s t) ∧ 0 ≤ t ∧ t < 2 ^ 60 ∧
  ∀ (p : Addr) (xs : List V) (L : List Ch) (wanted : List Str) (H' : Hp), Drawn L wanted → p ≠ g → H p = none → H' p = some (.lst xs) → DTs (hid [g] H') xs (L.map ch ++ [stepD wanted]) → Keep [g] H H' → Gn g s t 2000 H' → Q (.ref p) H'
theorem c_l_drawn_kinds (T : TDraw K w mg) : Says P w K mg base 3 "_law_drawn_kinds" ["_law_generator_here"] sp_drawn := by
  refine says T.d_l_drawn_kinds sc_l_drawn_kinds (fun vs H Q E h => ?_) (fun f cdv A outer s H vs Q E hr h => ?_)
  · obtain ⟨_, _, _, _, rfl, _⟩ := h; rfl
  refine ⟨_, (pss_cons (ps_set (i := 1) sc_l_drawn_kinds.nd rfl (.inl rfl) (pe_slice sl_list (pe_lst (pa_cons pe_str (pa_cons pe_str (pa_cons pe_str pa_nil)))) po_none (po_some (pe_op op_add pe_int (pe_s (c_l_random T.tg) hr (pa_cons (pv 0) (pa_cons pe_int pa_nil)))))))
    (pss_cons (ps_asg (pe_tup (pa_cons (pe_op op_cat (pe_lst (pa_cons pe_str (pa_cons pe_str (pa_cons pe_str pa_nil)))) (pv 1)) (pa_cons (pe_lst pa_nil) pa_nil))) (pg_tup rfl (pgs_cons (pg_name (i := 2) sc_l_drawn_kinds.nd rfl (.inr rfl)) (pgs_cons (pg_name (i := 3) sc_l_drawn_kinds.nd rfl (.inl rfl)) pgs_nil))))
    (pss_cons (ps_for PassesOwn.never rfl (pi_enum (by rfl) T.tk.b_enumerate (pa_cons (pv 1) pa_nil)) (pg_tup rfl (pgs_cons (pg_name (i := 4) sc_l_drawn_kinds.nd rfl (.inl rfl)) (pgs_cons (pg_name (i := 5) sc_l_drawn_kinds.nd rfl (.inl rfl)) pgs_nil)))
        (pss_cons (ps_set (i := 6) sc_l_drawn_kinds.nd rfl (.inl rfl) (pe_lst (pa_cons (pe_tup (pa_cons (pe_op op_add_str (pe_item_str (pv 5) pe_int (fun _ _ => rfl)) pe_str) (pa_cons (pe_ix ix_list (pe_lst (pa_cons (pe_lst (pa_cons pe_str pa_nil)) (pa_cons (pe_lst pa_nil) pa_nil))) (pe_s (c_l_random T.tg) hr (pa_cons (pv 0) (pa_cons pe_int pa_nil))) (fun _ _ => rfl)) pa_nil))) pa_nil)))
        (pss_cons (ps_for PassesOwn.never rfl (pi_range1 (by rfl) T.tg.b_range (pa_cons (pe_s (c_l_random T.tg) hr (pa_cons (pv 0) (pa_cons pe_int pa_nil))) pa_nil)) (pg_name (i := 7) sc_l_drawn_kinds.nd rfl (.inl rfl))
            (pss_cons (ps_setLc (i := 8) (own := [("_law_place", 10)]) (g := gName 10) (tt := tYes) rfl sc_l_drawn_kinds.nd rfl rfl (sw_true rfl rfl rfl (by decide +kernel)) (pi_range1 (by rfl) T.tg.b_range (pa_cons (pe_s (c_l_random T.tg) hr (pa_cons (pv 0) (pa_cons pe_int pa_nil))) pa_nil)) (blkOk_by (N := ["_law_generator_here", "_law_names", "_law_every", "_law_found", "_law_at", "_law_name", "_law_makers", "_law_turn", "_law_parts", "_law_wanted", "_law_place"]) (sc := defScope s_l_drawn_kinds) (own := [("_law_place", 10)]) (by decide +kernel)) (fun _ _ _ _ _ => pg_name (i := 10) sc_l_drawn_kinds.nd rfl (Or.inl rfl)) (fun _ _ _ _ _ => pts_nil) (fun _ _ _ _ _ => (pe_ix (r := rIxL K) ix_list (pv 2) (pe_s (c_l_random T.tg) hr (pa_cons (pv 0) (pa_cons (pe_callB (r := fun xs H Q => ∃ p ys, xs = [.ref p] ∧ (SqL K H p ys ∨ SqT K H p ys) ∧ Q (.int ys.length) H) call_len_seq (by rfl) T.tg.b_len (by decide +kernel) (pa_cons (pv 2) pa_nil)) pa_nil))) (fun _ _ => rfl))))
            (pss_one (ps_expr (pe_bm PySem.F.plainAttrs_list PySem.F.slot_list_append PySem.F.type_list_append mt_append (pv 6) (pa_cons (pe_tup (pa_cons (pe_op op_add_str (pe_item_str (pv 5) pe_int (fun _ _ => rfl)) (pe_item_str pe_str (pv 7) (fun _ _ => rfl))) (pa_cons (pv 8) pa_nil))) pa_nil))))))
        (pss_one (ps_expr (pe_bm PySem.F.plainAttrs_list PySem.F.slot_list_append PySem.F.type_list_append mt_append (pv 3) (pa_cons (pe_tup (pa_cons pe_str (pa_cons (pv 5) (pa_cons (pv 6) pa_nil)))) pa_nil)))))))
    (pss_cons (ps_setLc (i := 9) (own := [("_law_place", 10)]) (g := gName 10) (tt := tYes) rfl sc_l_drawn_kinds.nd rfl rfl (sw_true rfl rfl rfl (by decide +kernel)) (pi_range1 (by rfl) T.tg.b_range (pa_cons (pe_s (c_l_random T.tg) hr (pa_cons (pv 0) (pa_cons pe_int pa_nil))) pa_nil)) (blkOk_by (N := ["_law_generator_here", "_law_names", "_law_every", "_law_found", "_law_at", "_law_name", "_law_makers", "_law_turn", "_law_parts", "_law_wanted", "_law_place"]) (sc := defScope s_l_drawn_kinds) (own := [("_law_place", 10)]) (by decide +kernel)) (fun _ _ _ _ _ => pg_name (i := 10) sc_l_drawn_kinds.nd rfl (Or.inl rfl)) (fun _ _ _ _ _ => pts_nil) (fun _ _ _ _ _ => (pe_ix (r := rIxL K) ix_list (pv 2) (pe_s (c_l_random T.tg) hr (pa_cons (pv 0) (pa_cons (pe_callB (r := fun xs H Q => ∃ p ys, xs = [.ref p] ∧ (SqL K H p ys ∨ SqT K H p ys) ∧ Q (.int ys.length) H) call_len_seq (by rfl) T.tg.b_len (by decide +kernel) (pa_cons (pv 2) pa_nil)) pa_nil))) (fun _ _ => rfl))))
    (pss_one (ps_ret (pe_op op_cat (pv 3) (pe_lst (pa_cons (pe_tup (pa_cons pe_str (pa_cons pe_str (pa_cons (pv 9) (pa_cons pe_str pa_nil))))) pa_nil))))))))), ?_⟩
  obtain ⟨g, a, s0, t, rfl, hg, t0, t1, q⟩ := h
  have G0 : Gn g s0 t 0 H := ⟨a, t, hg, by omega, by omega⟩
  -- names
  refine ⟨(show 3 ≤ sizeLine by decide), fun l0 hl0 => ?_⟩
  refine ⟨_, rfl, draw (G0.new hl0) t0 (by omega) (by decide) (by decide) fun r H1 r0 r1 G1 k1 => ?_⟩
  have nl0 : l0 ≠ g := G0.some hl0
  refine ⟨_, _, rfl, rfl, _, rfl, _, _, rfl, SqL.of (k1 _ _ (by simp [nl0]) upd_same), fun n0 hn0 => ?_⟩
  obtain ⟨ns, nok, ec⟩ := cut_names r0 r1
  rw [ec]
  have nlen := names_len nok
  have K1 : Keep [g] H (upd H1 n0 (.lst (ns.map V.str))) := ((keep_new hl0).trans k1).trans (keep_new hn0)
  have G2 : Gn g s0 t 8 (upd H1 n0 (.lst (ns.map V.str))) := (G1.mono (by omega)).new hn0
  -- every, found
  refine ⟨(show 3 ≤ sizeLine by decide), fun l1 hl1 => ?_⟩
  refine ⟨_, rfl, l1, n0, _, _, rfl, rfl, upd_same, same_new hl1 _ _ upd_same, (show 3 + (ns.map V.str).length ≤ sizeLine by rw [List.length_map]; exact Nat.le_of_lt (small1000 (by omega))), fun ev hev => ?_⟩
  refine ⟨(show 0 ≤ sizeLine by decide), fun f0 hf0 => ?_⟩
  refine ⟨(show 2 ≤ sizeLine by decide), fun tt htt => ?_⟩
  refine ⟨tt, [.ref ev, .ref f0], rfl, SqT.of upd_same, rfl, .ref ev, _, rfl, .ref f0, [], rfl, rfl, ?_⟩
  have eE : ([.str "num", .str "flag", .str "step"] : List V) ++ ns.map V.str = (evry ns).map V.str := rfl
  rw [eE] at hf0 htt ⊢
  generalize hHs : upd (upd (upd (upd (upd H1 n0 (.lst (ns.map V.str))) l1 (.lst [.str "num", .str "flag", .str "step"])) ev (.lst ((evry ns).map V.str))) f0 (.lst [])) tt (.tup [.ref ev, .ref f0]) = Hs
  have s5 : Same (upd H1 n0 (.lst (ns.map V.str))) Hs := by
    rw [← hHs]
    exact ((((same_new hl1).trans (same_new hev)).trans (same_new hf0)).trans (same_new htt))
  have hev2 : Hs ev = some (.lst ((evry ns).map V.str)) := by
    rw [← hHs]
    exact same_new htt _ _ (same_new hf0 _ _ upd_same)
  have hf2 : Hs f0 = some (.lst []) := by
    rw [← hHs]
    exact same_new htt _ _ upd_same
  have hn2 : Hs n0 = some (.lst (ns.map V.str)) := s5 _ _ upd_same
  have K5 : Keep [g] H Hs := K1.trans (fun b o _ e => s5 b o e)
  have G5 : Gn g s0 t 8 Hs := by
    obtain ⟨a', t', e, l⟩ := G2
    exact ⟨a', t', s5 _ _ e, l⟩
  have ngf : f0 ≠ g := by
    have hz := hf0
    obtain ⟨a', t', e, _⟩ := G2
    exact (ne_of_none (same_new hev _ _ (same_new hl1 _ _ e)) hz).symm
  have hfH : H f0 = none := (K1.trans ((keep_new hl1).trans (keep_new hev))).free hf0 (by simp [ngf])
  have nfe : f0 ≠ ev := (ne_of_none upd_same hf0).symm
  have nfn : f0 ≠ n0 := (ne_of_none (same_new hev _ _ (same_new hl1 _ _ upd_same)) hf0).symm
  have nge : ev ≠ g := by
    obtain ⟨a', t', e, _⟩ := G2
    exact (ne_of_none (same_new hl1 _ _ e) hev).symm
  have ngn : n0 ≠ g := by
    obtain ⟨a', t', e, _⟩ := G1
    exact (ne_of_none e hn0).symm
  clear hHs
  refine ⟨_, rfl, n0, _, rfl, SqL.of hn2, for_it (walk_enum (K := K) (a := n0) (xs := ns.map V.str)) (fun i σ H' => (∃ x4 x5 x6 x7 x8 : Option V, σ = [some (.ref g), some (.ref n0), some (.ref ev), some (.ref f0), x4, x5, x6, x7, x8, none, none]) ∧
    Gn g s0 t (8 + 300 * i) H' ∧ Keep [g, f0] Hs H' ∧ ∃ (L : List Ch) (xs : List V), L.map (·.1) = ns.take i ∧ (∀ c ∈ L, ChOk (evry ns) c) ∧ H' f0 = some (.lst xs) ∧ DTs (hid [g, f0] H') xs (L.map ch))
    ⟨⟨none, none, none, none, none, rfl⟩, G5, Keep.refl, [], [], rfl, fun c hc => absurd hc List.not_mem_nil, hf2, .nil⟩ (fun i σ H' _ h => SqL.of (h.2.2.1 _ _ (by simp [ngn, nfn.symm]) hn2)) ?_ ?_⟩
  · rintro i x σ H2 H3 hi ⟨⟨x4, x5, x6, x7, x8, rfl⟩, Gi, ki, L, xs, eL, okL, hf, dts⟩ ⟨tp, xi, xd, rfl, htp, rfl, ei, ed⟩
    rw [List.length_map] at hi
    have hni : xd = .str ns[i] := by
      have ed2 : (ns.map V.str)[i]? = some xd := ed
      rw [List.getElem?_map, List.getElem?_eq_getElem hi] at ed2
      exact (Option.some.inj ed2).symm
    subst hni
    obtain rfl : V.int (i : Nat) = xi := Option.some.inj ei
    obtain ⟨len4, at0⟩ := names_hd nok (List.getElem_mem hi)
    refine ⟨tp, _, rfl, SqT.of upd_same, rfl, .int (i : Nat), _, rfl, .str ns[i], [], rfl, rfl, ?_⟩
    have Gt := Gi.new (o := .tup [.int (i : Nat), .str ns[i]]) htp
    -- makers = [(name[0] + "zero", ..)]
    refine ⟨_, rfl, _, 0, _, rfl, rfl, by decide, by decide, by omega, at0, ?_⟩
    refine ⟨_, _, rfl, rfl, (show 1 + 4 ≤ sizeLine by decide), ?_⟩
    refine ⟨(show 1 ≤ sizeLine by decide), fun la hla => ?_⟩
    refine ⟨(show 0 ≤ sizeLine by decide), fun lb hlb => ?_⟩
    refine ⟨(show 2 ≤ sizeLine by decide), fun lc hlc => ?_⟩
    refine ⟨_, rfl, draw (((Gt.new hla).new hlb).new hlc) t0 (by omega) (by decide) (by decide) fun r2 H4 p0 p1 G4 k4 => ?_⟩
    have nla : la ≠ g := Gt.some hla
    have nlb : lb ≠ g := (Gt.new hla).some hlb
    have nlc : lc ≠ g := ((Gt.new hla).new hlb).some hlc
    obtain ⟨z, pz, zok, epz, hz4⟩ : ∃ (z : List Str) (pz : Addr), (z = (["num"] : List Str) ∨ z = []) ∧ atI [V.ref la, V.ref lb] r2 = some (.ref pz) ∧ (H4 pz = some (.lst (z.map V.str)) ∧ pz ≠ g ∧ pz ≠ f0) := by
      have hr2 : r2 = 0 ∨ r2 = 1 := by omega
      rcases hr2 with rfl | rfl
      · refine ⟨["num"], la, .inl rfl, rfl, k4 _ _ (by simp [nla]) (same_new hlc _ _ (same_new hlb _ _ upd_same)), nla, ?_⟩
        exact (ne_of_none (same_new htp _ _ hf) hla).symm
      · refine ⟨[], lb, .inr rfl, rfl, k4 _ _ (by simp [nlb]) (same_new hlc _ _ upd_same), nlb, ?_⟩
        exact (ne_of_none (same_new hla _ _ (same_new htp _ _ hf)) hlb).symm
    refine ⟨lc, _, _, .ref pz, rfl, rfl, SqL.of (k4 _ _ (by simp [nlc]) upd_same), epz, ?_⟩
    refine ⟨(show 2 ≤ sizeLine by decide), fun tm htm => ?_⟩
    refine ⟨(show 1 ≤ sizeLine by decide), fun m0 hm0 => ?_⟩
    have hf4 : H4 f0 = some (.lst xs) := k4 _ _ (by simp [ngf]) (same_new hlc _ _ (same_new hlb _ _ (same_new hla _ _ (same_new htp _ _ hf))))
    have K4 : Keep [g] H2 H4 := (((keep_new htp).trans (keep_new hla)).trans ((keep_new hlb).trans (keep_new hlc))).trans k4
    generalize hHm : upd (upd H4 tm (.tup [.str ((⟨#[ns[i].cps.getD 0 0]⟩ : Str) ++ "zero"), .ref pz])) m0 (.lst [.ref tm]) = Hm
    have s6 : Same H4 Hm := by
      rw [← hHm]
      exact (same_new htm).trans (same_new hm0)
    have K6 : Keep [g] H2 Hm := K4.trans (fun b o _ e => s6 b o e)
    have hm6 : Hm m0 = some (.lst [.ref tm]) := by
      rw [← hHm]
      exact upd_same
    have htm6 : Hm tm = some (.tup [.str (hd1 ns[i] ++ "zero"), .ref pz]) := by
      rw [← hHm]
      exact same_new hm0 _ _ upd_same
    have G6 : Gn g s0 t (8 + 300 * i + 8) Hm := by
      obtain ⟨a', t', e, l⟩ := G4
      exact ⟨a', t', s6 _ _ e, l⟩
    have nm4 : H4 m0 = none := by
      have := hm0
      by_cases e : m0 = tm
      · rw [e, upd_same] at this
        cases this
      · rwa [upd_ne e] at this
    have nmg : m0 ≠ g := G4.some nm4
    have nmf : m0 ≠ f0 := (ne_of_none hf4 nm4).symm
    have nmt : m0 ≠ tm := (ne_of_none upd_same hm0).symm
    have nmz : m0 ≠ pz := (ne_of_none hz4.1 nm4).symm
    have ntg : tm ≠ g := G4.some htm
    have ntf : tm ≠ f0 := (ne_of_none hf4 htm).symm
    have nm2 : H2 m0 = none := by
      cases e : H2 m0 with
      | none => rfl
      | some o =>
        rw [K4 _ _ (by simp [nmg]) e] at nm4
        cases nm4
    have dm6 : DTs (hid [g, f0, m0] Hm) [.ref tm] (mk1 ns[i] z []) := by
      refine .cons (.tup (hid_at (by simp [ntg, ntf, nmt.symm]) htm6) (.cons (.str _) (.cons (.lst (hid_at (by simp [hz4.2.1, hz4.2.2, nmz.symm]) (s6 _ _ hz4.1)) (strs_dt z)) .nil))) .nil
    clear hHm
    -- for turn in range(random(4))
    refine ⟨_, rfl, draw G6 t0 (by omega) (by decide) (by decide) fun r3 H7 u0 u1 G7 k7 => ?_⟩
    have K7 : Keep [g] H2 H7 := K6.trans k7
    have hm7 : H7 m0 = some (.lst [.ref tm]) := k7 _ _ (by simp [nmg]) hm6
    have dm7 : DTs (hid [g, f0, m0] H7) [.ref tm] (mk1 ns[i] z []) := dm6.same ((k7.mono (S' := [g, f0, m0]) (fun b hb => by simp at hb; simp [hb])).hid) _
    have hf7 : H7 f0 = some (.lst xs) := k7 _ _ (by simp [ngf]) (s6 _ _ hf4)
    have hev7 : H7 ev = some (.lst ((evry ns).map V.str)) := K7 _ _ (by simp [nge]) (ki _ _ (by simp [nge, nfe.symm]) hev2)
    refine ⟨r3, rfl, by omega, by omega, for_range (n := r3.toNat) (fun j σ H' => (∃ x7 x8 : Option V, σ = [some (.ref g), some (.ref n0), some (.ref ev), some (.ref f0), some (.int (i : Nat)), some (.str ns[i]), some (.ref m0), x7, x8, none, none]) ∧
      Gn g s0 t (8 + 300 * i + 16 + 60 * j) H' ∧ Keep [g, m0] H7 H' ∧ ∃ (zss : List (List Str)) (ms : List V), zss.length = j ∧ (∀ zs ∈ zss, zs.length ≤ 4 ∧ ∀ y ∈ zs, y ∈ evry ns) ∧ H' m0 = some (.lst ms) ∧ DTs (hid [g, f0, m0] H') ms (mk1 ns[i] z zss))
      ⟨⟨_, _, rfl⟩, G7.mono (by omega), Keep.refl, [], _, rfl, fun c hc => absurd hc List.not_mem_nil, hm7, dm7⟩ ?_ ?_⟩
    · rintro j σ H8 hj ⟨⟨y7, y8, rfl⟩, Gj, kj, zss, ms, lz, okz, hmj, dmj⟩
      have nem : ev ≠ m0 := by
        have := ki _ _ (by simp [nge, nfe.symm]) hev2
        exact ne_of_none this nm2
      have hev8 : H8 ev = some (.lst ((evry ns).map V.str)) := kj _ _ (by simp [nge, nem]) hev7
      have hf8 : H8 f0 = some (.lst xs) := kj _ _ (by simp [ngf, nmf.symm]) hf7
      -- parts
      refine ⟨_, rfl, draw Gj t0 (by omega) (by decide) (by decide) fun r5 H9 v0 v1 G9 k9 => ?_⟩
      have hev9 : H9 ev = some (.lst ((evry ns).map V.str)) := k9 _ _ (by simp [nge]) hev8
      refine ⟨r5, rfl, by omega, by omega, fun D hD => lc_draws (E := evry ns) hD G9 (by omega) ?_ ?_⟩
      · intro x H' k Q' hk Gk kk q'
        have hev' := kk _ _ (by simp [nge]) hev9
        have el : ((evry ns).map V.str).length = 3 + ns.length := by
          rw [List.length_map]
          show (((["num", "flag", "step"] : List Str)) ++ ns).length = _
          simp
          omega
        refine ⟨_, rfl, _, rfl, _, rfl, ev, _, rfl, .inl (SqL.of hev'), draw Gk t0 (by omega) (by rw [el]; omega) (by rw [el]; omega) fun r6 H'' z0 z1 G' k' => ?_⟩
        rw [el] at z1
        have hlt : r6.toNat < (evry ns).length := by
          rw [List.length_map] at el
          omega
        have eat : atI ((evry ns).map V.str) r6 = some (.str ((evry ns)[r6.toNat]'hlt)) := by
          have z := atI_nat (xs := (evry ns).map V.str) (j := r6.toNat) (v := .str ((evry ns)[r6.toNat]'hlt)) (by rw [List.getElem?_map, List.getElem?_eq_getElem hlt]; rfl)
          rwa [Int.toNat_of_nonneg z0] at z
        refine ⟨ev, _, _, _, rfl, rfl, SqL.of (k' _ _ (by simp [nge]) hev'), eat, ?_⟩
        exact q' _ _ (List.getElem_mem _) k' G'
      · intro H' zs lzs mzs k10 hD10 G10
        have j3 : j < 3 := by omega
        have nDg : D ≠ g := G9.some hD
        have kall : Keep [g] H8 H' := k9.trans k10
        have hm' : H' m0 = some (.lst ms) := kall _ _ (by simp [nmg]) hmj
        have hf' : H' f0 = some (.lst xs) := kall _ _ (by simp [ngf]) hf8
        have nDm : D ≠ m0 := (ne_of_none (k9 _ _ (by simp [nmg]) hmj) hD).symm
        have nDf : D ≠ f0 := (ne_of_none (k9 _ _ (by simp [ngf]) hf8) hD).symm
        have lms : ms.length = 1 + j := by
          have := dmj.length
          unfold mk1 at this
          rw [List.length_cons, rest1_len, lz] at this
          omega
        have ej : (0 + (j : Int)).toNat = j := by omega
        have hc : ("abcd" : Str).cps[(0 + (j : Int)).toNat]? = some (("abcd" : Str).cps.getD j 0) := by
          rw [ej]
          match j, j3 with
          | 0, _ => rfl
          | 1, _ => rfl
          | 2, _ => rfl
        refine ⟨_, rfl, .inl ⟨rfl, _, SqL.of hm'⟩, ?_⟩
        refine ⟨_, rfl, _, 0, _, rfl, rfl, by decide, by decide, by omega, at0, ?_⟩
        refine ⟨_, rfl, _, _, _, rfl, rfl, by omega, by omega, (show (0 + (j : Int)) < 4 by omega), hc, ?_⟩
        refine ⟨_, _, rfl, rfl, (show 1 + 1 ≤ sizeLine by decide), _, rfl, (show 2 ≤ sizeLine by decide), fun tq htq => ?_⟩
        refine ⟨m0, ms, _, rfl, rfl, same_new htq _ _ hm', small1000 (by omega), ?_⟩
        have ntqg : tq ≠ g := G10.some htq
        have ntqm : tq ≠ m0 := (ne_of_none hm' htq).symm
        have ntqf : tq ≠ f0 := (ne_of_none hf' htq).symm
        have kfin : Keep [g, m0] H8 (upd (upd H' tq (.tup [.str (hd1 ns[i] ++ abc j), .ref D])) m0 (.lst (ms ++ [.ref tq]))) := ((kall.mono (fun b hb => by simp at hb; simp [hb])).trans (keep_new htq)).trans (keep_upd (by simp))
        refine ⟨⟨_, _, rfl⟩, ((G10.new htq).off nmg.symm).mono (by omega), kj.trans kfin, zss ++ [zs], ms ++ [.ref tq], ?_, ?_, upd_same, ?_⟩
        · rw [List.length_append, lz]
          rfl
        · intro y hy
          rcases List.mem_append.mp hy with hy | hy
          · exact okz y hy
          · rw [List.mem_singleton.mp hy]
            exact ⟨by omega, mzs⟩
        · rw [mk1_app, lz]
          refine DTs.snoc (dmj.same ((kfin.mono (S' := [g, f0, m0]) (fun b hb => by simp at hb; rcases hb with hb | hb <;> simp [hb])).hid) _) ?_
          refine .tup (hid_at (by simp [ntqg, ntqf, ntqm]) ((upd_ne ntqm).trans upd_same)) (.cons (.str _) (.cons (.lst (hid_at (by simp [nDg, nDf, nDm]) ((upd_ne nDm).trans (same_new htq _ _ hD10))) (strs_dt zs)) .nil))
    · rintro σ H8 ⟨⟨y7, y8, rfl⟩, Gj, kj, zss, ms, lz, okz, hmj, dmj⟩
      have hf8 : H8 f0 = some (.lst xs) := kj _ _ (by simp [ngf, nmf.symm]) hf7
      have lxs : xs.length ≤ 3 := by
        have h1 := dts.length
        have h2 := congrArg List.length eL
        rw [List.length_map] at h1 h2
        rw [List.length_take] at h2
        omega
      have k28 : Keep [g] H2 H8 := (((K7.mono (S' := [g, m0]) (fun b hb => by simp at hb; simp [hb])).trans kj).less (fun b hb hb2 => by
        simp at hb hb2
        rcases hb with hb | hb
        · exact absurd hb hb2
        · rw [hb]
          exact nm2))
      refine ⟨_, rfl, .inl ⟨rfl, _, SqL.of hf8⟩, ?_⟩
      refine ⟨_, rfl, _, rfl, (show 3 ≤ sizeLine by decide), fun tq htq => ?_⟩
      refine ⟨f0, xs, _, rfl, rfl, same_new htq _ _ hf8, small1000 (by omega), ?_⟩
      have ntqg : tq ≠ g := Gj.some htq
      have ntqf : tq ≠ f0 := (ne_of_none hf8 htq).symm
      have kfin : Keep [g, f0] H2 (upd (upd H8 tq (.tup [.str "choice", .str ns[i], .ref m0])) f0 (.lst (xs ++ [.ref tq]))) := ((k28.mono (fun b hb => by simp at hb; simp [hb])).trans (keep_new htq)).trans (keep_upd (by simp))
      refine ⟨⟨_, _, _, _, _, rfl⟩, ((Gj.new htq).off ngf.symm).mono (by omega), ki.trans kfin, L ++ [(ns[i], z, zss)], xs ++ [.ref tq], ?_, ?_, upd_same, ?_⟩
      · rw [List.map_append, eL, List.take_add_one, List.getElem?_eq_getElem hi]
        rfl
      · intro c hc
        rcases List.mem_append.mp hc with hc | hc
        · exact okL c hc
        · rw [List.mem_singleton.mp hc]
          exact ⟨zok, by show zss.length ≤ 3; omega, okz⟩
      · rw [List.map_append]
        refine DTs.snoc (dts.same kfin.hid _) ?_
        refine .tup (hid_at (by simp [ntqg, ntqf]) ((upd_ne ntqf).trans upd_same)) (.cons (.str _) (.cons (.str _) (.cons (.lst (hid_at (by simp [nmg, nmf]) ((upd_ne nmf).trans (same_new htq _ _ hmj))) ?_) .nil)))
        refine dmj.same (Same.trans (hid_mono (S := [g, f0]) (S' := [g, f0, m0]) (fun b hb => by simp at hb; rcases hb with hb | hb <;> simp [hb])) ?_) _
        exact Keep.hid ((keep_new htq).trans (keep_upd (by simp)))
  · rintro σ H2 ⟨⟨x4, x5, x6, x7, x8, rfl⟩, Gi, ki, L, xs, eL, okL, hf, dts⟩
    rw [List.length_map] at Gi eL
    rw [List.take_length] at eL
    have lxs : xs.length ≤ 3 := by
      have h1 := dts.length
      have h2 := congrArg List.length eL
      rw [List.length_map] at h1 h2
      omega
    have hev2' : H2 ev = some (.lst ((evry ns).map V.str)) := ki _ _ (by simp [nge, nfe.symm]) hev2
    refine ⟨_, rfl, draw Gi t0 (by omega) (by decide) (by decide) fun r5 H9 v0 v1 G9 k9 => ?_⟩
    have hev9 : H9 ev = some (.lst ((evry ns).map V.str)) := k9 _ _ (by simp [nge]) hev2'
    refine ⟨r5, rfl, by omega, by omega, fun D hD => lc_draws (E := evry ns) hD G9 (by omega) ?_ ?_⟩
    · intro x H' k Q' hk Gk kk q'
      have hev' := kk _ _ (by simp [nge]) hev9
      have el : ((evry ns).map V.str).length = 3 + ns.length := by
        rw [List.length_map]
        show (((["num", "flag", "step"] : List Str)) ++ ns).length = _
        simp
        omega
      refine ⟨_, rfl, _, rfl, _, rfl, ev, _, rfl, .inl (SqL.of hev'), draw Gk t0 (by omega) (by rw [el]; omega) (by rw [el]; omega) fun r6 H'' z0 z1 G' k' => ?_⟩
      rw [el] at z1
      have hlt : r6.toNat < (evry ns).length := by
        rw [List.length_map] at el
        omega
      have eat : atI ((evry ns).map V.str) r6 = some (.str ((evry ns)[r6.toNat]'hlt)) := by
        have z := atI_nat (xs := (evry ns).map V.str) (j := r6.toNat) (v := .str ((evry ns)[r6.toNat]'hlt)) (by rw [List.getElem?_map, List.getElem?_eq_getElem hlt]; rfl)
        rwa [Int.toNat_of_nonneg z0] at z
      refine ⟨ev, _, _, _, rfl, rfl, SqL.of (k' _ _ (by simp [nge]) hev'), eat, ?_⟩
      exact q' _ _ (List.getElem_mem _) k' G'
    · intro H' zs lzs mzs k10 hD10 G10
      have kall : Keep [g] H2 H' := k9.trans k10
      have hf' : H' f0 = some (.lst xs) := kall _ _ (by simp [ngf]) hf
      refine ⟨_, rfl, _, rfl, (show 4 ≤ sizeLine by decide), fun tq htq => ?_⟩
      refine ⟨(show 1 ≤ sizeLine by decide), fun lq hlq => ?_⟩
      refine ⟨f0, lq, xs, _, rfl, rfl, same_new hlq _ _ (same_new htq _ _ hf'), upd_same, (show xs.length + 1 ≤ sizeLine from Nat.le_of_lt (small1000 (by omega))), fun p hp => ?_⟩
      have nDg : D ≠ g := G9.some hD
      have ntqg : tq ≠ g := G10.some htq
      have npg : p ≠ g := ((G10.new htq).new hlq).some hp
      have kfin : Keep [g, f0] H2 (upd (upd (upd H' tq (.tup [.str "calls", .str "step", .ref D, .str "num"])) lq (.lst [.ref tq])) p (.lst (xs ++ [.ref tq]))) := (((kall.mono (fun b hb => by simp at hb; simp [hb])).trans (keep_new htq)).trans (keep_new hlq)).trans (keep_new hp)
      have kH0 : Keep [g] H (upd (upd H' tq (.tup [.str "calls", .str "step", .ref D, .str "num"])) lq (.lst [.ref tq])) := by
        refine ((K5.mono (S' := [g, f0]) (fun b hb => by simp at hb; simp [hb])).trans (ki.trans (((kall.mono (fun b hb => by simp at hb; simp [hb])).trans (keep_new htq)).trans (keep_new hlq)))).less (fun b hb hb2 => ?_)
        simp at hb hb2
        rcases hb with hb | hb
        · exact absurd hb hb2
        · rw [hb]
          exact hfH
      refine q p _ L zs _ ⟨by rw [eL]; exact nok, by rw [eL]; exact okL, by omega, by rw [eL]; exact mzs⟩ npg (kH0.free hp (by simp [npg])) upd_same ?_ (kH0.trans (keep_new hp)) ?_
      · refine DTs.snoc ((dts.same kfin.hid _).same (hid_mono (S := [g]) (S' := [g, f0]) (fun b hb => by simp at hb; simp [hb])) _) ?_
        refine .tup (hid_at (by simp [ntqg]) (same_new hp _ _ (same_new hlq _ _ upd_same))) (.cons (.str _) (.cons (.str _) (.cons (.lst (hid_at (by simp [nDg]) (same_new hp _ _ (same_new hlq _ _ (same_new htq _ _ hD10)))) (strs_dt zs)) (.cons (.str _) .nil))))
      · exact (((G10.new htq).new hlq).new hp).mono (by omega)
end
end Cb
set_option Elab.async false
set_option linter.all false
set_option maxRecDepth 100000
set_option maxHeartbeats 8000000
namespace Cb
open PySem PySem.Spec PyProof.Rows L2
abbrev s_l_bent : Stmt := topS 28
theorem sc_l_bent : FnScope ["_law_generator_here", "_law_kinds", "_law_at", "_law_sort", "_law_name", "_law_makers", "_law_maker", "_law_parts", "_law_found", "_law_odd", "_law_wide", "_law_number"] ["_law_generator_here", "_law_kinds"] (defScope s_l_bent) := ⟨rfl, rfl, rfl, by decide +kernel, rfl, by decide +kernel, by decide +kernel⟩
/-! ### a text so and so often -/
def manyS (z : Str) (n : Nat) : Str := ⟨(List.replicate n z.cps).foldl (· ++ ·) #[]⟩
theorem op_mul_strA {X : Cx} : OpR X (binaryOp .Mult) (fun x y H Q => ∃ (z : Str) (n : Int), x = .str z ∧ y = .int n ∧ 2 ≤ n ∧ n ≤ 100 ∧ z.length = 1 ∧ (manyS z n.toNat).length ≤ sizeLine ∧ Q (.str (manyS z n.toNat)) H) := by
  intro pins s σ H x y v u Q I rx ry h
  obtain ⟨z, n, rfl, rfl, n0, n1, lz, sm, q⟩ := h
  obtain ⟨t, rfl⟩ := rx
  obtain ⟨t', rfl⟩ := ry
  refine PySem.P.mul_str ?_ ?_ ?_ ?_
  · have h1 : ¬ n < -(2 ^ 63 : Int) := by omega
    have h2 : ¬ n ≥ 2 ^ 63 := by omega
    rw [decide_eq_false h1, decide_eq_false h2]
    rfl
  · intro _ _
    rw [lz]
    have : (1 : Int) ≤ (2 ^ 63 - 1) / n := Int.le_ediv_of_mul_le (by omega) (by omega)
    omega
  · intro _ _
    rw [lz]
    unfold Builtin.Str.tooLong
    have : n.toNat ≤ 100 := by omega
    exact decide_eq_false (Nat.not_lt.mpr (Nat.le_trans (show 1 * n.toNat ≤ 100 by omega) (show 100 ≤ sizeLine by decide)))
  · have h1 : ¬ n < 1 := by omega
    have h2 : (n == 1 || z.length == 0) = false := by
      rw [lz]
      have : (n == 1) = false := by
        rw [beq_eq_false_iff_ne]
        omega
      rw [this]
      rfl
    rw [if_neg h1, h2]
    exact ⟨sm, ⟨.str (manyS z n.toNat), H, I.tok _, ⟨_, rfl⟩, q⟩⟩
theorem same_keep {S : List Addr} {H H' : Hp} (s : Same H H') : Keep S H H' := fun b o _ e => s b o e
/-! ### cuts -/
theorem cut_to {xs : List V} {i : Nat} (h : i ≤ xs.length) : cutV xs none (some (i : Int)) = xs.take i := by
  unfold cutV
  rw [show HT.sIx xs.length 0 none = 0 from HT.sIx_none _ _, HT.sIx_nat _ _ i, Nat.min_eq_left h]
  simp
theorem cut_from {xs : List V} {i : Nat} (h : i ≤ xs.length) : cutV xs (some (i : Int)) none = xs.drop i := by
  unfold cutV
  rw [HT.sIx_nat _ _ i, show HT.sIx xs.length xs.length none = xs.length from HT.sIx_none _ _, Nat.min_eq_left h]
  rw [List.take_of_length_le (by simp)]
theorem DTs.take {H : Hp} : ∀ {ds : List PyData} {xs : List V} (i : Nat), DTs H xs ds → DTs H (xs.take i) (ds.take i)
  | _, _, 0, _ => by rw [List.take_zero, List.take_zero]; exact .nil
  | [], _, _ + 1, h => by cases h; exact .nil
  | d :: ds, _, i + 1, h => by
    cases h with
    | cons a r => exact .cons a (DTs.take (ds := ds) i r)
theorem DTs.drop {H : Hp} : ∀ {ds : List PyData} {xs : List V} (i : Nat), DTs H xs ds → DTs H (xs.drop i) (ds.drop i)
  | _, _, 0, h => h
  | [], _, _ + 1, h => by cases h; exact .nil
  | d :: ds, _, i + 1, h => by
    cases h with
    | cons a r => exact DTs.drop (ds := ds) i r
/-- kinds[:at] + [X] + kinds[at + 1:] -/
abbrev tPut (K : PySem.W.Frag) (tX : TE) : TE := tOp rCat (tOp rCat (tSl (rSlL K) (tVar 1) tNoPart (tPart (tVar 2))) (tLst (tCons tX tNil))) (tSl (rSlL K) (tVar 1) (tPart (tOp (rI0 fun i j => .int (i + j)) (tVar 2) (tC (.int 1)))) tNoPart)
theorem put_ok {K : PySem.W.Frag} {σ : L2.St} {H : Hp} {Q : VK} {tX : TE} {kp fp : Addr} {fo : HO} {i : Nat} {xs : List V} {kd : List PyData} {d : PyData} (h1 : σ[1]? = some (some (.ref kp))) (h2 : σ[2]? = some (some (.int i))) (hk : H kp = some (.lst xs)) (hf : H fp = some fo)
    (dk : DTs (hid [fp] H) xs kd) (hi : i < xs.length) (sm : xs.length < 900)
    (hx : ∀ (H1 : Hp) (R : VK), Same H H1 → (∀ (v : V) (H2 : Hp), Same H1 H2 → DT (hid [fp] H2) v d → R v H2) → tX σ H1 R)
    (q : ∀ (p : Addr) (H' : Hp), Same H H' → DT (hid [fp] H') (.ref p) (.list (kd.take i ++ [d] ++ kd.drop (i + 1))) → Q (.ref p) H') : tPut K tX σ H Q := by
  have nf : ∀ {H' : Hp} {p : Addr}, Same H H' → H' p = none → p ∉ [fp] := fun s e => by
    have := ne_of_none (s _ _ hf) e
    simp [Ne.symm this]
  refine ⟨_, h1, _, h2, _, rfl, kp, _, rfl, SqL.of hk, fun a1 n1 => ?_⟩
  rw [cut_to (Nat.le_of_lt hi)]
  have s1 : Same H (upd H a1 (.lst (xs.take i))) := same_new n1
  refine hx _ _ s1 fun v H2 s2 dv => ?_
  have s12 := s1.trans s2
  refine ⟨(show 1 ≤ sizeLine by decide), fun a2 n2 => ?_⟩
  have s3 := s12.trans (same_new (o := .lst [v]) n2)
  refine ⟨a1, a2, _, _, rfl, rfl, same_new n2 _ _ (s2 _ _ upd_same), upd_same, (show (xs.take i).length + 1 ≤ sizeLine from Nat.le_of_lt (small1000 (by rw [List.length_take]; omega))), fun a3 n3 => ?_⟩
  have s4 := s3.trans (same_new (o := .lst (xs.take i ++ [v])) n3)
  refine ⟨_, h1, _, h2, _, _, rfl, rfl, _, rfl, kp, _, rfl, SqL.of (s4 _ _ hk), fun a4 n4 => ?_⟩
  rw [show ((i : Int) + 1) = ((i + 1 : Nat) : Int) by omega, cut_from (by omega)]
  have s5 := s4.trans (same_new (o := .lst (xs.drop (i + 1))) n4)
  refine ⟨a3, a4, _, _, rfl, rfl, same_new n4 _ _ upd_same, upd_same, (show (xs.take i ++ [v]).length + (xs.drop (i + 1)).length ≤ sizeLine from Nat.le_of_lt (small1000 (by simp only [List.length_append, List.length_take, List.length_drop, List.length_cons, List.length_nil]; omega))), fun a5 n5 => ?_⟩
  have s6 := s5.trans (same_new (o := .lst (xs.take i ++ [v] ++ xs.drop (i + 1))) n5)
  refine q a5 _ s6 (.lst (hid_at (nf s5 n5) upd_same) ?_)
  have dk6 := dk.same (Keep.hid (same_keep s6)) _
  have dv6 := dv.same (Keep.hid (same_keep (((same_new n2).trans (same_new n3)).trans ((same_new n4).trans (same_new (o := .lst (xs.take i ++ [v] ++ xs.drop (i + 1))) n5))))) _
  exact (DTs.snoc (dk6.take i) dv6).app (dk6.drop (i + 1))
/-- found.append(..): what is found stays right -/
structure Fnd (fp : Addr) (B : PyData → Prop) (n : Nat) (H : Hp) : Prop where
  ex : ∃ (fs : List V) (bs : List PyData), H fp = some (.lst fs) ∧ DTs (hid [fp] H) fs bs ∧ (∀ b ∈ bs, B b) ∧ fs.length ≤ n
theorem Fnd.at_ {fp : Addr} {B : PyData → Prop} {n : Nat} {H : Hp} (F : Fnd fp B n H) : ∃ fs : List V, H fp = some (.lst fs) ∧ fs.length ≤ n := by
  obtain ⟨fs, bs, h, _, _, l⟩ := F.ex
  exact ⟨fs, h, l⟩
theorem Fnd.same {fp : Addr} {B : PyData → Prop} {n : Nat} {H H' : Hp} (F : Fnd fp B n H) (s : Same H H') : Fnd fp B n H' := by
  obtain ⟨fs, bs, h, d, b, l⟩ := F.ex
  exact ⟨fs, bs, s _ _ h, d.same (Keep.hid (same_keep s)) _, b, l⟩
theorem Fnd.add {fp p : Addr} {B : PyData → Prop} {n : Nat} {H H' : Hp} {d : PyData} {fs : List V} (F : Fnd fp B n H) (s : Same H H') (hf : H' fp = some (.lst fs)) (dp : DT (hid [fp] H') (.ref p) d) (b : B d) : Fnd fp B (n + 1) (upd H' fp (.lst (fs ++ [.ref p]))) := by
  obtain ⟨fs2, bs, h, dd, bb, l⟩ := (F.same s).ex
  rw [hf] at h
  obtain rfl : fs = fs2 := by
    have := Option.some.inj h
    exact HO.lst.inj this
  have k : Keep [fp] H' (upd H' fp (.lst (fs ++ [.ref p]))) := keep_upd (by simp)
  refine ⟨fs ++ [.ref p], bs ++ [d], upd_same, DTs.snoc (dd.same k.hid _) (dp.same k.hid _), ?_, ?_⟩
  · intro x hx
    rcases List.mem_append.mp hx with hx | hx
    · exact bb x hx
    · rw [List.mem_singleton.mp hx]
      exact b
  · rw [List.length_append]
    show fs.length + 1 ≤ n + 1
    omega
end Cb
set_option Elab.async false
set_option linter.all false
set_option maxRecDepth 100000
set_option maxHeartbeats 4000000
namespace Cb
open PySem PySem.Spec PyProof.Rows L2
/-! ### what a right list of declarations is -/
theorem kHas_add (kn : Kv) (z y : Str) : kHas (addK kn z) y = (decide (y = z) || kHas kn y) := by
  unfold kHas addK
  rw [valV_put]
  by_cases h : y = z
  · subst h
    simp
  · rw [if_neg (fun e => h (Sum.inr.inj e)), decide_eq_false h, Bool.false_or]
theorem addMakers_ok : ∀ (zs : List Str) (km : Kv), (addMakers zs km).1 = false ↔ zs.Nodup ∧ ∀ z ∈ zs, kHas km z = false
  | [], km => by simp [addMakers]
  | z :: r, km => by
    unfold addMakers
    cases h : kHas km z with
    | true => simp [h]
    | false =>
      rw [if_neg (by decide), addMakers_ok r (addK km z), List.nodup_cons]
      simp only [kHas_add, Bool.or_eq_false_iff, decide_eq_false_iff_not]
      constructor
      · rintro ⟨n, a⟩
        refine ⟨⟨fun m => (a z m).1 rfl, n⟩, fun y hy => ?_⟩
        rcases List.mem_cons.mp hy with rfl | hy
        · exact h
        · exact (a y hy).2
      · rintro ⟨⟨m, n⟩, a⟩
        exact ⟨n, fun y hy => ⟨fun e => m (e ▸ hy), a y (List.mem_cons_of_mem _ hy)⟩⟩
theorem addMakers_has : ∀ (zs : List Str) (km : Kv), (addMakers zs km).1 = false → ∀ y, kHas (addMakers zs km).2 y = (decide (y ∈ zs) || kHas km y)
  | [], km, _, y => by simp [addMakers]
  | z :: r, km, h, y => by
    unfold addMakers at h ⊢
    cases e : kHas km z with
    | true => simp [e] at h
    | false =>
      rw [e] at h
      rw [if_neg (by decide)] at h ⊢
      rw [addMakers_has r (addK km z) h y, kHas_add]
      by_cases h1 : y = z <;> by_cases h2 : y ∈ r <;> simp [h1, h2]
theorem wrongIn_none {d : PyData} {kn km : Kv} : (wrongIn d kn km).1 = none ↔ declForm d = true ∧ (declName d :: makerNames d).all isWordS = true ∧ kHas kn (declName d) = false ∧ (addMakers (makerNames d) km).1 = false := by
  unfold wrongIn
  by_cases h1 : declForm d = true
  · rw [if_pos h1]
    by_cases h2 : (declName d :: makerNames d).all isWordS = true
    · rw [if_pos h2]
      by_cases h3 : kHas kn (declName d) = true
      · rw [if_pos h3]
        simp [h3]
      · rw [if_neg h3]
        by_cases h4 : (addMakers (makerNames d) km).1 = true
        · rw [if_pos h4]
          simp [h4]
        · rw [if_neg h4]
          exact ⟨fun _ => ⟨h1, h2, Bool.not_eq_true _ ▸ h3, Bool.not_eq_true _ ▸ h4⟩, fun _ => rfl⟩
    · rw [if_neg h2]
      constructor
      · intro h
        cases h
      · rintro ⟨_, h, _⟩
        exact absurd h h2
  · rw [if_neg h1]
    constructor
    · intro h
      cases h
    · rintro ⟨h, _⟩
      exact absurd h h1
theorem wrongIn_snd {d : PyData} {kn km : Kv} (h : (wrongIn d kn km).1 = none) : (wrongIn d kn km).2 = (addK kn (declName d), (addMakers (makerNames d) km).2) := by
  obtain ⟨h1, h2, h3, h4⟩ := wrongIn_none.mp h
  unfold wrongIn
  rw [if_pos h1, if_pos h2, if_neg (by rw [h3]; decide), if_neg (by rw [h4]; decide)]
theorem first_cons {d : PyData} {ds : List PyData} {i : Nat} {kn km : Kv} : (firstLoop (d :: ds) i kn km).1 = none ↔ (wrongIn d kn km).1 = none ∧ (firstLoop ds (i + 1) (wrongIn d kn km).2.1 (wrongIn d kn km).2.2).1 = none := by
  conv => lhs; unfold firstLoop
  cases h : (wrongIn d kn km).1 with
  | some w => simp
  | none => simp
theorem first_iff : ∀ (ds : List PyData) (i : Nat) (kn km : Kv), (firstLoop ds i kn km).1 = none ↔ (∀ d ∈ ds, declForm d = true ∧ (declName d :: makerNames d).all isWordS = true) ∧ ((ds.map declName).Nodup ∧ ∀ z ∈ ds.map declName, kHas kn z = false) ∧ (((ds.map makerNames).flatten).Nodup ∧ ∀ z ∈ (ds.map makerNames).flatten, kHas km z = false)
  | [], i, kn, km => by simp [firstLoop]
  | d :: ds, i, kn, km => by
    rw [first_cons, List.map_cons, List.map_cons, List.flatten_cons, List.nodup_cons, List.nodup_append]
    constructor
    · rintro ⟨h, g⟩
      obtain ⟨h1, h2, h3, h4⟩ := wrongIn_none.mp h
      rw [wrongIn_snd h] at g
      obtain ⟨g1, ⟨g2, g3⟩, g4, g5⟩ := (first_iff ds _ _ _).mp g
      obtain ⟨m1, m2⟩ := (addMakers_ok _ _).mp h4
      refine ⟨?_, ⟨⟨?_, g2⟩, ?_⟩, ⟨m1, g4, ?_⟩, ?_⟩
      · intro x hx
        rcases List.mem_cons.mp hx with rfl | hx
        · exact ⟨h1, h2⟩
        · exact g1 x hx
      · intro m
        have := g3 _ m
        rw [kHas_add] at this
        simp at this
      · intro z hz
        rcases List.mem_cons.mp hz with rfl | hz
        · exact h3
        · have := g3 z hz
          rw [kHas_add] at this
          exact (Bool.or_eq_false_iff.mp this).2
      · intro a ha b hb e
        subst e
        have := g5 _ hb
        rw [addMakers_has _ _ h4] at this
        simp [ha] at this
      · intro z hz
        rcases List.mem_append.mp hz with hz | hz
        · exact m2 z hz
        · have := g5 z hz
          rw [addMakers_has _ _ h4] at this
          exact (Bool.or_eq_false_iff.mp this).2
    · rintro ⟨f, ⟨⟨n1, n2⟩, n3⟩, ⟨m1, m2, m3⟩, m4⟩
      have hw : (wrongIn d kn km).1 = none := wrongIn_none.mpr ⟨(f d (List.mem_cons_self ..)).1, (f d (List.mem_cons_self ..)).2, n3 _ (List.mem_cons_self ..), (addMakers_ok _ _).mpr ⟨m1, fun z hz => m4 z (List.mem_append.mpr (.inl hz))⟩⟩
      refine ⟨hw, ?_⟩
      rw [wrongIn_snd hw]
      refine (first_iff ds _ _ _).mpr ⟨fun x hx => f x (List.mem_cons_of_mem _ hx), ⟨n2, fun z hz => ?_⟩, m2, fun z hz => ?_⟩
      · rw [kHas_add, n3 z (List.mem_cons_of_mem _ hz), Bool.or_false]
        exact decide_eq_false fun e => n1 (e ▸ hz)
      · rw [addMakers_has _ _ (wrongIn_none.mp hw).2.2.2, m4 z (List.mem_append.mpr (.inr hz)), Bool.or_false]
        exact decide_eq_false fun e => m3 z e z hz rfl
theorem first_has : ∀ (ds : List PyData) (i : Nat) (kn km : Kv), (firstLoop ds i kn km).1 = none → ∀ y, kHas (firstLoop ds i kn km).2 y = (decide (y ∈ ds.map declName) || kHas kn y)
  | [], i, kn, km, _, y => by simp [firstLoop]
  | d :: ds, i, kn, km, h, y => by
    obtain ⟨h1, h2⟩ := first_cons.mp h
    have ih := first_has ds _ _ _ h2 y
    have e : (firstLoop (d :: ds) i kn km).2 = (firstLoop ds (i + 1) (wrongIn d kn km).2.1 (wrongIn d kn km).2.2).2 := by
      conv => lhs; unfold firstLoop
      rw [h1]
    rw [e, ih, wrongIn_snd h1, kHas_add, List.map_cons]
    by_cases a : y = declName d <;> by_cases b : y ∈ ds.map declName <;> simp [a, b]
theorem second_iff (kn : Kv) : ∀ (ds : List PyData) (i : Nat), secondLoop kn ds i = none ↔ ∀ d ∈ ds, (kindsIn d).all (kHas kn) = true
  | [], i => by simp [secondLoop]
  | d :: ds, i => by
    unfold secondLoop
    by_cases h : (kindsIn d).all (kHas kn) = true
    · rw [if_pos h, second_iff kn ds (i + 1)]
      constructor
      · intro a x hx
        rcases List.mem_cons.mp hx with rfl | hx
        · exact h
        · exact a x hx
      · exact fun a x hx => a x (List.mem_cons_of_mem _ hx)
    · rw [if_neg h]
      constructor
      · intro e
        cases e
      · exact fun a => absurd (a d (List.mem_cons_self ..)) h
theorem kn0_has (y : Str) : kHas kn0 y = (decide (y = "num") || decide (y = "flag")) := by
  unfold kHas kn0
  by_cases h : y = ("num" : Str)
  · rw [valV_pos (p := (Sum.inr ("num" : Str), V.bl true)) (congrArg Sum.inr h.symm), decide_eq_true h]
    rfl
  · rw [valV_neg (p := (Sum.inr ("num" : Str), V.bl true)) (fun e => h (Sum.inr.inj e).symm)]
    by_cases h2 : y = ("flag" : Str)
    · rw [valV_pos (p := (Sum.inr ("flag" : Str), V.bl true)) (congrArg Sum.inr h2.symm), decide_eq_true h2, Bool.or_true]
      rfl
    · rw [valV_neg (p := (Sum.inr ("flag" : Str), V.bl true)) (fun e => h2 (Sum.inr.inj e).symm), decide_eq_false h, decide_eq_false h2]
      rfl
def nms (ds : List PyData) : List Str := "num" :: "flag" :: ds.map declName
structure Fine (ds : List PyData) : Prop where
  form : ∀ d ∈ ds, declForm d = true
  word : ∀ d ∈ ds, ∀ z ∈ declName d :: makerNames d, isWordS z = true
  names : (nms ds).Nodup
  makers : ((ds.map makerNames).flatten).Nodup
  kinds : ∀ d ∈ ds, ∀ k ∈ kindsIn d, k ∈ nms ds
  len : ds.length ≤ 12
theorem isKinds_iff {ds : List PyData} : isKinds (.list ds) = true ↔ Fine ds := by
  show (decide (ds.length ≤ 12) && (wrongDecl ds).isNone) = true ↔ _
  rw [Bool.and_eq_true, decide_eq_true_eq, Option.isNone_iff_eq_none]
  have wd : wrongDecl ds = none ↔ (firstLoop ds 0 kn0 []).1 = none ∧ secondLoop (firstLoop ds 0 kn0 []).2 ds 0 = none := by
    unfold wrongDecl
    cases h : (firstLoop ds 0 kn0 []).1 with
    | some x => simp
    | none => simp
  rw [wd]
  have nd : (nms ds).Nodup ↔ (ds.map declName).Nodup ∧ ∀ z ∈ ds.map declName, kHas kn0 z = false := by
    unfold nms
    rw [List.nodup_cons, List.nodup_cons]
    simp only [kn0_has, Bool.or_eq_false_iff, decide_eq_false_iff_not]
    constructor
    · rintro ⟨a, b, c⟩
      exact ⟨c, fun z hz => ⟨fun e => a (List.mem_cons_of_mem _ (e ▸ hz)), fun e => b (e ▸ hz)⟩⟩
    · rintro ⟨c, d⟩
      refine ⟨fun m => ?_, fun m => (d _ m).2 rfl, c⟩
      rcases List.mem_cons.mp m with e | m
      · exact absurd e (by decide)
      · exact (d _ m).1 rfl
  have kk : (firstLoop ds 0 kn0 []).1 = none → ((∀ d ∈ ds, (kindsIn d).all (kHas (firstLoop ds 0 kn0 []).2) = true) ↔ ∀ d ∈ ds, ∀ k ∈ kindsIn d, k ∈ nms ds) := by
    intro h
    have e : ∀ y, kHas (firstLoop ds 0 kn0 []).2 y = true ↔ y ∈ nms ds := by
      intro y
      rw [first_has _ _ _ _ h, kn0_has]
      unfold nms
      simp only [Bool.or_eq_true, decide_eq_true_eq, List.mem_cons]
      constructor
      · rintro (a | a | a)
        · exact .inr (.inr a)
        · exact .inl a
        · exact .inr (.inl a)
      · rintro (a | a | a)
        · exact .inr (.inl a)
        · exact .inr (.inr a)
        · exact .inl a
    simp only [List.all_eq_true, e]
  constructor
  · rintro ⟨l, h1, h2⟩
    obtain ⟨f, n, m, _⟩ := (first_iff _ _ _ _).mp h1
    exact ⟨fun d hd => (f d hd).1, fun d hd z hz => List.all_eq_true.mp (f d hd).2 z hz, nd.mpr n, m, (kk h1).mp ((second_iff _ _ _).mp h2), l⟩
  · intro F
    have h1 : (firstLoop ds 0 kn0 []).1 = none := (first_iff _ _ _ _).mpr ⟨fun d hd => ⟨F.form d hd, List.all_eq_true.mpr (F.word d hd)⟩, nd.mp F.names, F.makers, fun z _ => rfl⟩
    exact ⟨F.len, h1, (second_iff _ _ _).mpr ((kk h1).mpr F.kinds)⟩
theorem notFine {ds : List PyData} (h : ¬ Fine ds) : isKinds (.list ds) = false := Bool.eq_false_iff.mpr fun e => h (isKinds_iff.mp e)
end Cb
set_option Elab.async false
set_option linter.all false
set_option maxRecDepth 100000
set_option maxHeartbeats 4000000
namespace Cb
open PySem PySem.Spec PyProof.Rows L2
/-! ### a text of data, an empty dict too -/
@[irreducible] def rRep2 (K : PySem.W.Frag) (u : Nat) : List V → Hp → VK → Prop := fun vs H Q => rRepr K u vs H Q ∨ ∃ a : Addr, vs = [.ref a] ∧ H a = some (.dK []) ∧ u + 200 < cLine ∧ Q (.str (PyData.shown (.dict []))) H
theorem call_repr2 {X : Cx} (hg : X.A.guards = some []) : CallR X (.builtin "repr") (rRep2 X.K X.A.units) := by
  intro pins s σ H vs us Q I rel h
  unfold rRep2 at h
  rcases h with h | ⟨a, rfl, e, hu, q⟩
  · exact call_repr hg pins s σ H vs us Q I rel h
  · obtain ⟨u, rfl, ru⟩ := vals1 rel
    cases ru
    obtain ⟨_, low, vs, kv, o, es, ep, ho, ex, hd, _, pr, _⟩ := dk_of I.hok e
    obtain rfl : vs = [] := by
      cases vs with
      | nil => rfl
      | cons x r =>
        have := Paired.length kv
        simp at this
    have ees : es.toList = [] := by
      have := pr.length
      exact List.length_eq_zero_iff.mp this
    have rd : Reads s.heap (.ref a) (.dict []) (a :: [] ++ []) := .dict ho ex.1 hd (by rw [ees]; exact .nil) (by rw [ees]; exact .nil)
    refine repr_of_reads' rd (by decide +kernel) (fun _ m => ?_) hg (by show X.A.units + (_ + 1) < cLine; simp only [PyData.depth, PyData.depthKv]; omega) (fun _ _ z => z) (fun h' w tk hk => ⟨.str (PyData.shown (.dict [])), H, I.kept hk, ⟨_, rfl⟩, q⟩) (by decide +kernel)
    have : sysModules = a := by simpa using m
    rw [this] at low
    simp at low
/-! ### wrong ones -/
section
variable {A B : List PyData} {d : PyData}
theorem wrong_form (h : declForm d = false) : isKinds (.list (A ++ [d] ++ B)) = false := notFine fun F => by
  have := F.form d (by simp)
  rw [h] at this
  cases this
theorem wrong_word {z : Str} (m : z ∈ declName d :: makerNames d) (h : isWordS z = false) : isKinds (.list (A ++ [d] ++ B)) = false := notFine fun F => by
  have := F.word d (by simp) z m
  rw [h] at this
  cases this
theorem wrong_twice (h : ¬ (makerNames d).Nodup) : isKinds (.list (A ++ [d] ++ B)) = false := notFine fun F => by
  have := F.makers
  simp only [List.map_append, List.flatten_append, List.map_cons, List.map_nil, List.flatten_cons, List.flatten_nil, List.append_nil] at this
  exact h (List.nodup_append.mp (List.nodup_append.mp this).1).2.1
theorem wrong_base (h : declName d = ("num" : Str) ∨ declName d = ("flag" : Str)) : isKinds (.list (A ++ [d] ++ B)) = false := notFine fun F => by
  have n := F.names
  unfold nms at n
  rw [List.nodup_cons, List.nodup_cons] at n
  have m : declName d ∈ (A ++ [d] ++ B).map declName := List.mem_map.mpr ⟨d, by simp, rfl⟩
  rcases h with h | h
  · exact n.1 (List.mem_cons_of_mem _ (h ▸ m))
  · exact n.2.1 (h ▸ m)
theorem wrong_name {e : PyData} (m : e ∈ A ++ B) (h : declName e = declName d) : isKinds (.list (A ++ [d] ++ B)) = false := notFine fun F => by
  have n := F.names
  unfold nms at n
  rw [List.nodup_cons, List.nodup_cons] at n
  have n2 := n.2.2
  simp only [List.map_append, List.map_cons, List.map_nil] at n2
  rcases List.mem_append.mp m with m | m
  · exact (List.nodup_append.mp (List.nodup_append.mp n2).1).2.2 (declName e) (List.mem_map.mpr ⟨e, m, rfl⟩) (declName d) (by simp) h
  · exact (List.nodup_append.mp n2).2.2 (declName d) (by simp) (declName e) (List.mem_map.mpr ⟨e, m, rfl⟩) h.symm
theorem wrong_kind {S : List Str} {k : Str} (hS : ∀ x ∈ A ++ B, declName x ∈ S) (m : k ∈ kindsIn d) (h : k ∉ (declName d :: "num" :: "flag" :: S : List Str)) : isKinds (.list (A ++ [d] ++ B)) = false := notFine fun F => by
  have n := F.kinds d (by simp) k m
  unfold nms at n
  refine h ?_
  rcases List.mem_cons.mp n with n | n
  · exact List.mem_cons_of_mem _ (n ▸ List.mem_cons_self ..)
  rcases List.mem_cons.mp n with n | n
  · exact List.mem_cons_of_mem _ (List.mem_cons_of_mem _ (n ▸ List.mem_cons_self ..))
  obtain ⟨x, hx, rfl⟩ := List.mem_map.mp n
  have : x = d ∨ x ∈ A ++ B := by
    simp only [List.mem_append, List.mem_cons, List.not_mem_nil, or_false] at hx ⊢
    rcases hx with (hx | hx) | hx
    · exact .inr (.inl hx)
    · exact .inl hx
    · exact .inr (.inr hx)
  rcases this with rfl | hx
  · exact List.mem_cons_self ..
  · exact List.mem_cons_of_mem _ (List.mem_cons_of_mem _ (List.mem_cons_of_mem _ (hS x hx)))
end
theorem wrong_long {ds : List PyData} (h : 12 < ds.length) : isKinds (.list ds) = false := notFine fun F => by
  have := F.len
  omega
/-! ### what is drawn is right -/
def mkr (n : Str) (j : Nat) : Nat → List Str
  | 0 => []
  | k + 1 => (hd1 n ++ abc j) :: mkr n (j + 1) k
def mkn (n : Str) (k : Nat) : List Str := (hd1 n ++ "zero") :: mkr n 0 k
theorem rest1_names (n : Str) : ∀ (zss : List (List Str)) (j : Nat), (rest1 n j zss).map nameOf = mkr n j zss.length
  | [], j => rfl
  | z :: zss, j => by
    show _ :: (rest1 n (j + 1) zss).map nameOf = _ :: mkr n (j + 1) zss.length
    rw [rest1_names n zss (j + 1)]
    rfl
theorem mkr_sub (n : Str) : ∀ (k m j : Nat), k ≤ m → (mkr n j k).Sublist (mkr n j m)
  | 0, m, j, _ => List.nil_sublist _
  | k + 1, 0, j, h => by omega
  | k + 1, m + 1, j, h => List.Sublist.cons_cons _ (mkr_sub n k m (j + 1) (by omega))
theorem ch_makers (c : Ch) : makerNames (ch c) = mkn c.1 c.2.2.length := by
  show (mk1 c.1 c.2.1 c.2.2).map nameOf = _
  unfold mk1 mkn
  rw [List.map_cons, rest1_names]
  rfl
theorem strs_back (zs : List Str) : (zs.map PyData.str).map strOf = zs := by
  rw [List.map_map]
  exact List.map_id _
theorem rest1_parts (n : Str) : ∀ (zss : List (List Str)) (j : Nat), ((rest1 n j zss).map partsOf).flatten = zss.flatten
  | [], j => rfl
  | z :: zss, j => by
    show (z.map PyData.str).map strOf ++ ((rest1 n (j + 1) zss).map partsOf).flatten = z ++ zss.flatten
    rw [rest1_parts n zss (j + 1), strs_back]
theorem ch_kinds (c : Ch) : kindsIn (ch c) = c.2.1 ++ c.2.2.flatten := by
  show ((mk1 c.1 c.2.1 c.2.2).map partsOf).flatten = _
  unfold mk1
  rw [List.map_cons, List.flatten_cons, rest1_parts]
  show (c.2.1.map PyData.str).map strOf ++ _ = _
  rw [strs_back]
theorem step_kinds (w : List Str) : kindsIn (stepD w) = w ++ (["num"] : List Str) := by
  show (w.map PyData.str).map strOf ++ [strOf (.str "num")] = _
  rw [strs_back]
  rfl
theorem strs_isS (zs : List Str) : (zs.map PyData.str).all isS = true := by
  rw [List.all_map]
  exact List.all_eq_true.mpr fun _ _ => rfl
theorem rest1_maker (n : Str) : ∀ (zss : List (List Str)) (j : Nat), (∀ zs ∈ zss, zs.length ≤ 4) → (rest1 n j zss).all isMaker = true
  | [], j, _ => rfl
  | z :: zss, j, h => by
    show (isS (PyData.str (hd1 n ++ abc j)) && (decide ((z.map PyData.str).length ≤ 4) && (z.map PyData.str).all isS) && (rest1 n (j + 1) zss).all isMaker) = true
    rw [rest1_maker n zss (j + 1) fun zs hz => h zs (List.mem_cons_of_mem _ hz), strs_isS, List.length_map, decide_eq_true (h z (List.mem_cons_self ..))]
    rfl
theorem ch_form {E : List Str} {c : Ch} (ok : ChOk E c) : declForm (ch c) = true := by
  obtain ⟨hz, l3, h⟩ := ok
  show (isStr "choice" (.str "choice") && (isS (.str c.1) && (decide (1 ≤ (mk1 c.1 c.2.1 c.2.2).length) && decide ((mk1 c.1 c.2.1 c.2.2).length ≤ 8) && (mk1 c.1 c.2.1 c.2.2).all isMaker))) = true
  have lz : c.2.1.length ≤ 4 := by
    rcases hz with hz | hz <;> rw [hz] <;> decide
  have e1 : (mk1 c.1 c.2.1 c.2.2).all isMaker = true := by
    unfold mk1
    show (isS (PyData.str (hd1 c.1 ++ "zero")) && (decide ((c.2.1.map PyData.str).length ≤ 4) && (c.2.1.map PyData.str).all isS) && (rest1 c.1 0 c.2.2).all isMaker) = true
    rw [rest1_maker c.1 c.2.2 0 fun zs hz => (h zs hz).1, strs_isS, List.length_map, decide_eq_true lz]
    rfl
  have e2 : (mk1 c.1 c.2.1 c.2.2).length = c.2.2.length + 1 := by
    unfold mk1
    rw [List.length_cons, rest1_len]
  rw [e1, e2, decide_eq_true (show 1 ≤ c.2.2.length + 1 by omega), decide_eq_true (show c.2.2.length + 1 ≤ 8 by omega), show isStr "choice" (.str "choice") = true by decide +kernel]
  rfl
theorem step_form {w : List Str} (h : w.length ≤ 2) : declForm (stepD w) = true := by
  show (isStr "calls" (.str "calls") && (isS (.str "step") && ((decide ((w.map PyData.str).length ≤ 4) && (w.map PyData.str).all isS) && isS (.str "num")))) = true
  rw [strs_isS, List.length_map, decide_eq_true (show w.length ≤ 4 by omega)]
  decide +kernel
/-- the names in use -/
def six : List Str := ["num", "flag", "step", "list", "tree", "pair"]
def three : List Str := ["list", "tree", "pair"]
theorem three_words : ∀ n ∈ three, ∀ z ∈ n :: mkn n 3, isWordS z = true := by
  have : (three.all fun n => (n :: mkn n 3).all isWordS) = true := by decide +kernel
  intro n hn z hz
  exact List.all_eq_true.mp (List.all_eq_true.mp this n hn) z hz
def Ns2 (ns : List Str) : Prop := NamesOk ns ∨ NamesOk ns.reverse
theorem ns2_three {ns : List Str} (h : Ns2 ns) : ∀ n ∈ ns, n ∈ three := by
  rcases h with (h | h | h) | h
  · subst h; decide +kernel
  · subst h; decide +kernel
  · subst h; decide +kernel
  · intro n hn
    have hn2 := List.mem_reverse.mpr hn
    rcases h with h | h | h <;> rw [h] at hn2
    · exact (show ∀ n ∈ (["list"] : List Str), n ∈ three by decide +kernel) n hn2
    · exact (show ∀ n ∈ (["list", "tree"] : List Str), n ∈ three by decide +kernel) n hn2
    · exact (show ∀ n ∈ (["list", "tree", "pair"] : List Str), n ∈ three by decide +kernel) n hn2
theorem ns2_cases {ns : List Str} (h : Ns2 ns) : ns = (["list"] : List Str) ∨ ns = (["list", "tree"] : List Str) ∨ ns = (["list", "tree", "pair"] : List Str) ∨ ns = (["tree", "list"] : List Str) ∨ ns = (["pair", "tree", "list"] : List Str) := by
  rcases h with (h | h | h) | h | h | h
  · exact .inl h
  · exact .inr (.inl h)
  · exact .inr (.inr (.inl h))
  · have := congrArg List.reverse h
    rw [List.reverse_reverse] at this
    exact .inl this
  · have := congrArg List.reverse h
    rw [List.reverse_reverse] at this
    exact .inr (.inr (.inr (.inl this)))
  · have := congrArg List.reverse h
    rw [List.reverse_reverse] at this
    exact .inr (.inr (.inr (.inr this)))
theorem ns2_names {ns : List Str} (h : Ns2 ns) : ("num" :: "flag" :: "step" :: ns : List Str).Nodup := by
  rcases ns2_cases h with h | h | h | h | h <;> subst h <;> decide +kernel
theorem ns2_makers {ns : List Str} (h : Ns2 ns) : ((ns.map fun n => mkn n 3).flatten).Nodup := by
  rcases ns2_cases h with h | h | h | h | h <;> subst h <;> decide +kernel
theorem makers_sub : ∀ (M : List Ch), (∀ c ∈ M, c.2.2.length ≤ 3) → (((M.map ch).map makerNames).flatten).Sublist (((M.map (·.1)).map fun n => mkn n 3).flatten)
  | [], _ => List.Sublist.refl _
  | c :: M, h => by
    simp only [List.map_cons, List.flatten_cons]
    rw [ch_makers]
    exact List.Sublist.append (List.Sublist.cons_cons _ (mkr_sub c.1 _ 3 0 (h c (List.mem_cons_self ..)))) (makers_sub M fun x hx => h x (List.mem_cons_of_mem _ hx))
theorem ch_name (c : Ch) : declName (ch c) = c.1 := rfl
theorem names_map (M : List Ch) : (M.map ch).map declName = M.map (·.1) := by
  rw [List.map_map]
  rfl
/-- in whatever order -/
theorem fine_of {M : List Ch} {w : List Str} {ds : List PyData} (ns : Ns2 (M.map (·.1))) (ok : ∀ c ∈ M, ChOk (evry (M.map (·.1))) c) (wl : w.length ≤ 2) (wm : ∀ z ∈ w, z ∈ evry (M.map (·.1)))
    (hd : ds = M.map ch ++ [stepD w] ∨ ds = stepD w :: M.map ch) : Fine ds := by
  have ml : M.length ≤ 3 := by
    have e : M.length = (M.map (·.1)).length := (List.length_map ..).symm
    rw [e]
    rcases ns2_cases ns with h | h | h | h | h <;> rw [h] <;> decide
  have mem : ∀ d ∈ ds, (∃ c ∈ M, d = ch c) ∨ d = stepD w := by
    intro d hd'
    rcases hd with rfl | rfl
    · rcases List.mem_append.mp hd' with h | h
      · obtain ⟨c, hc, rfl⟩ := List.mem_map.mp h
        exact .inl ⟨c, hc, rfl⟩
      · exact .inr (List.mem_singleton.mp h)
    · rcases List.mem_cons.mp hd' with h | h
      · exact .inr h
      · obtain ⟨c, hc, rfl⟩ := List.mem_map.mp h
        exact .inl ⟨c, hc, rfl⟩
  have nin : ∀ k ∈ evry (M.map (·.1)), k ∈ nms ds := by
    intro k hk
    unfold nms
    have hk2 : k = "num" ∨ k = "flag" ∨ k = "step" ∨ k ∈ M.map (·.1) := by
      rcases List.mem_append.mp hk with h | h
      · simp only [List.mem_cons, List.not_mem_nil, or_false] at h
        rcases h with h | h | h
        · exact .inl h
        · exact .inr (.inl h)
        · exact .inr (.inr (.inl h))
      · exact .inr (.inr (.inr h))
    have stepIn : ("step" : Str) ∈ ds.map declName := List.mem_map.mpr ⟨stepD w, by rcases hd with rfl | rfl <;> simp, rfl⟩
    rcases hk2 with rfl | rfl | rfl | h
    · exact List.mem_cons_self ..
    · exact List.mem_cons_of_mem _ (List.mem_cons_self ..)
    · exact List.mem_cons_of_mem _ (List.mem_cons_of_mem _ stepIn)
    · refine List.mem_cons_of_mem _ (List.mem_cons_of_mem _ ?_)
      obtain ⟨c, hc, rfl⟩ := List.mem_map.mp h
      have hcm : ch c ∈ M.map ch := List.mem_map.mpr ⟨c, hc, rfl⟩
      refine List.mem_map.mpr ⟨ch c, ?_, rfl⟩
      rcases hd with rfl | rfl
      · exact List.mem_append.mpr (.inl hcm)
      · exact List.mem_cons_of_mem _ hcm
  refine ⟨?_, ?_, ?_, ?_, ?_, ?_⟩
  · intro d hd'
    rcases mem d hd' with ⟨c, hc, rfl⟩ | rfl
    · exact ch_form (ok c hc)
    · exact step_form wl
  · intro d hd' z hz
    rcases mem d hd' with ⟨c, hc, rfl⟩ | rfl
    · have c3 := ns2_three ns c.1 (List.mem_map.mpr ⟨c, hc, rfl⟩)
      refine three_words c.1 c3 z ?_
      rw [ch_makers] at hz
      rcases List.mem_cons.mp hz with h | h
      · exact h ▸ List.mem_cons_self ..
      · refine List.mem_cons_of_mem _ ?_
        exact (List.Sublist.cons_cons _ (mkr_sub c.1 _ 3 0 (ok c hc).2.1)).subset h
    · have : z = "step" := by
        rcases List.mem_cons.mp hz with h | h
        · exact h
        · cases (show z ∈ ([] : List Str) from h)
      subst this
      decide +kernel
  · have n := ns2_names ns
    unfold nms
    rcases hd with rfl | rfl
    · rw [List.map_append, names_map]
      show (("num" :: "flag" :: (M.map (·.1) ++ (["step"] : List Str)) : List Str)).Nodup
      refine List.Perm.nodup_iff ?_ |>.mpr n
      refine List.Perm.cons _ (List.Perm.cons _ ?_)
      exact List.perm_append_singleton ..
    · rw [List.map_cons, names_map]
      exact n
  · have n := (makers_sub M fun c hc => (ok c hc).2.1).nodup (ns2_makers ns)
    rcases hd with rfl | rfl
    · rw [List.map_append, List.flatten_append]
      show (_ ++ ([] : List Str)).Nodup
      rw [List.append_nil]
      exact n
    · exact n
  · intro d hd' k hk
    rcases mem d hd' with ⟨c, hc, rfl⟩ | rfl
    · rw [ch_kinds] at hk
      obtain ⟨hz, l3, h⟩ := ok c hc
      rcases List.mem_append.mp hk with hk | hk
      · rcases hz with hz | hz <;> rw [hz] at hk
        · rw [List.mem_singleton.mp hk]
          exact nin _ (by unfold evry; simp)
        · cases hk
      · obtain ⟨zs, hzs, hk⟩ := List.mem_flatten.mp hk
        exact nin k ((h zs hzs).2 k hk)
    · rw [step_kinds] at hk
      rcases List.mem_append.mp hk with hk | hk
      · exact nin k (wm k hk)
      · rw [List.mem_singleton.mp hk]
        exact nin _ (by unfold evry; simp)
  · rcases hd with rfl | rfl <;> simp only [List.length_append, List.length_map, List.length_cons, List.length_nil] <;> omega
theorem drawn_fine {L : List Ch} {w : List Str} (D : Drawn L w) : isKinds (.list (L.map ch ++ [stepD w])) = true := isKinds_iff.mpr (fine_of (.inl D.nm) D.ok D.wl D.wm (.inl rfl))
theorem drawn_fine_rev {L : List Ch} {w : List Str} (D : Drawn L w) : isKinds (.list (L.map ch ++ [stepD w]).reverse) = true := by
  have e1 : (L.map ch ++ [stepD w]).reverse = stepD w :: (L.reverse.map ch) := by
    rw [List.reverse_append, List.map_reverse]
    rfl
  have e2 : L.reverse.map (·.1) = (L.map (·.1)).reverse := List.map_reverse
  have ev : ∀ k, k ∈ evry (L.map (·.1)) → k ∈ evry (L.reverse.map (·.1)) := by
    intro k hk
    rw [e2]
    unfold evry at *
    rcases List.mem_append.mp hk with h | h
    · exact List.mem_append.mpr (.inl h)
    · exact List.mem_append.mpr (.inr (List.mem_reverse.mpr h))
  refine isKinds_iff.mpr (fine_of (M := L.reverse) (w := w) (.inr (by rw [e2, List.reverse_reverse]; exact D.nm)) (fun c hc => ?_) D.wl (fun z hz => ev z (D.wm z hz)) (.inr e1))
  obtain ⟨hz, l3, h⟩ := D.ok c (List.mem_reverse.mp hc)
  exact ⟨hz, l3, fun zs hzs => ⟨(h zs hzs).1, fun z hz => ev z ((h zs hzs).2 z hz)⟩⟩
end Cb
set_option Elab.async false
set_option linter.all false
set_option maxRecDepth 100000
set_option maxHeartbeats 4000000
namespace Cb
open PySem PySem.Spec PyProof.Rows L2
/-! ### the bent ones: wrong, and of a bounded size -/
abbrev W5 : List Nat := [4, 9, 2, 5, 1]
abbrev W6 : List Nat := [14, 4, 9, 2, 5, 1]
theorem w6_ok : (∀ w ∈ W6, w < 1000) ∧ W6.length ≤ 60 ∧ bulk W6 ≤ 2 ^ 20 := by decide +kernel
def Sized (d : PyData) : Prop := d = .dict [] ∨ ∃ ws : List Nat, Fits ws d ∧ ws.length ≤ 60 ∧ bulk ws ≤ 2 ^ 20
def Bad (d : PyData) : Prop := isKinds d = false ∧ Sized d
theorem sized6 {d : PyData} (h : fit W6 d = true) : Sized d := .inr ⟨W6, fits_of W6 w6_ok.1 d h, w6_ok.2.1, w6_ok.2.2⟩
theorem sized5 {d : PyData} (h : fit W5 d = true) : Sized d := .inr ⟨W5, fits_of W5 (by decide) d h, by decide, by decide +kernel⟩
def strF (z : Str) : Bool := PyData.strOk z && decide (z.length ≤ 40)
theorem fit_str {ws : List Nat} {z : Str} : fit ws (.str z) = strF z := by cases ws <;> rfl
theorem fit_list {w : Nat} {ws : List Nat} {ds : List PyData} : fit (w :: ws) (.list ds) = (decide (ds.length ≤ w) && ds.all (fit ws)) := by simp only [fit]
theorem fit_tup {w : Nat} {ws : List Nat} {ds : List PyData} : fit (w :: ws) (.tuple ds) = (decide (ds.length ≤ w) && ds.all (fit ws)) := by simp only [fit]
theorem fit_none {ws : List Nat} : fit ws .none = true := by cases ws <;> rfl
theorem fitL {w : Nat} {ws : List Nat} {ds : List PyData} (l : ds.length ≤ w) (h : ∀ d ∈ ds, fit ws d = true) : fit (w :: ws) (.list ds) = true := by
  rw [fit_list, decide_eq_true l, Bool.true_and]
  exact List.all_eq_true.mpr h
theorem fitT {w : Nat} {ws : List Nat} {ds : List PyData} (l : ds.length ≤ w) (h : ∀ d ∈ ds, fit ws d = true) : fit (w :: ws) (.tuple ds) = true := by
  rw [fit_tup, decide_eq_true l, Bool.true_and]
  exact List.all_eq_true.mpr h
theorem fits2 {ws : List Nat} {a b : PyData} (ha : fit ws a = true) (hb : fit ws b = true) : ∀ d ∈ [a, b], fit ws d = true := by
  intro d h
  rcases List.mem_cons.mp h with rfl | h
  · exact ha
  · rw [List.mem_singleton.mp h]
    exact hb
theorem fits3 {ws : List Nat} {a b c : PyData} (ha : fit ws a = true) (hb : fit ws b = true) (hc : fit ws c = true) : ∀ d ∈ [a, b, c], fit ws d = true := by
  intro d h
  rcases List.mem_cons.mp h with rfl | h
  · exact ha
  · exact fits2 hb hc d h
theorem fits4 {ws : List Nat} {a b c e : PyData} (ha : fit ws a = true) (hb : fit ws b = true) (hc : fit ws c = true) (he : fit ws e = true) : ∀ d ∈ [a, b, c, e], fit ws d = true := by
  intro d h
  rcases List.mem_cons.mp h with rfl | h
  · exact ha
  · exact fits3 hb hc he d h
theorem six_strF : ∀ z ∈ six, strF z = true := by
  have : six.all strF = true := by decide +kernel
  exact fun z hz => List.all_eq_true.mp this z hz
theorem fit_strs {ws : List Nat} {zs : List Str} (h : ∀ z ∈ zs, z ∈ six) : ∀ d ∈ zs.map PyData.str, fit ws d = true := by
  intro d hd
  obtain ⟨z, hz, rfl⟩ := List.mem_map.mp hd
  rw [fit_str]
  exact six_strF z (h z hz)
def ts (i : Int) : Str := (toString i : String)
theorem three_strF : ∀ n ∈ three, (∀ z ∈ n :: mkn n 3, strF z = true) ∧ ∀ j : Nat, j < 9 → strF ((hd1 n ++ "zero") ++ ts (j : Int)) = true := by
  have h1 : (three.all fun n => (n :: mkn n 3).all strF) = true := by decide +kernel
  have h2 : (three.all fun n => (List.range 9).all fun j => strF ((hd1 n ++ "zero") ++ ts (j : Int))) = true := by decide +kernel
  intro n hn
  refine ⟨fun z hz => List.all_eq_true.mp (List.all_eq_true.mp h1 n hn) z hz, fun j hj => ?_⟩
  exact List.all_eq_true.mp (List.all_eq_true.mp h2 n hn) j (List.mem_range.mpr hj)
theorem evry_six {ns : List Str} (h : ∀ n ∈ ns, n ∈ three) : ∀ z ∈ evry ns, z ∈ six := by
  intro z hz
  rcases List.mem_append.mp hz with hz | hz
  · exact (show ∀ z ∈ (["num", "flag", "step"] : List Str), z ∈ six by decide +kernel) z hz
  · exact (show ∀ z ∈ three, z ∈ six by decide +kernel) z (h z hz)
theorem rest1_fit {n : Str} (hn : n ∈ three) {ws : List Nat} : ∀ (zss : List (List Str)) (j : Nat), j + zss.length ≤ 3 → (∀ zs ∈ zss, zs.length ≤ 4 ∧ ∀ z ∈ zs, z ∈ six) → ∀ d ∈ rest1 n j zss, fit (2 :: 5 :: ws) d = true
  | [], j, _, _, d, hd => by cases hd
  | zs :: zss, j, l, h, d, hd => by
    have l' : j + (zss.length + 1) ≤ 3 := l
    rcases List.mem_cons.mp (show d ∈ PyData.tuple [.str (hd1 n ++ abc j), .list (zs.map .str)] :: rest1 n (j + 1) zss from hd) with rfl | hd
    · have h0 := h zs (List.mem_cons_self ..)
      refine fitT (by simp) (fits2 ?_ (fitL (by rw [List.length_map]; omega) (fit_strs h0.2)))
      rw [fit_str]
      have : (three.all fun n => (List.range 3).all fun j => strF (hd1 n ++ abc j)) = true := by decide +kernel
      exact List.all_eq_true.mp (List.all_eq_true.mp this n hn) j (List.mem_range.mpr (by omega))
    · exact rest1_fit hn zss (j + 1) (by omega) (fun z hz => h z (List.mem_cons_of_mem _ hz)) d hd
theorem mk1_fit {n : Str} (hn : n ∈ three) {z : List Str} {zss : List (List Str)} (hz : z = (["num"] : List Str) ∨ z = []) (l : zss.length ≤ 3) (h : ∀ zs ∈ zss, zs.length ≤ 4 ∧ ∀ z ∈ zs, z ∈ six) {ws : List Nat} : ∀ d ∈ mk1 n z zss, fit (2 :: 5 :: ws) d = true := by
  intro d hd
  rcases List.mem_cons.mp (show d ∈ PyData.tuple [.str (hd1 n ++ "zero"), .list (z.map .str)] :: rest1 n 0 zss from hd) with rfl | hd
  · refine fitT (by simp) (fits2 (by rw [fit_str]; exact (three_strF n hn).1 _ (by unfold mkn; simp)) (fitL ?_ (fit_strs ?_)))
    · rcases hz with rfl | rfl <;> decide
    · rcases hz with rfl | rfl
      · decide +kernel
      · intro z hz
        cases hz
  · exact rest1_fit hn zss 0 (by omega) h d hd
theorem mk1_len {n : Str} {z : List Str} {zss : List (List Str)} : (mk1 n z zss).length = zss.length + 1 := by
  unfold mk1
  rw [List.length_cons, rest1_len]
theorem ch_fit {ns : List Str} (hs : ∀ n ∈ ns, n ∈ three) {c : Ch} (hc : c.1 ∈ three) (ok : ChOk (evry ns) c) {ws : List Nat} : fit (4 :: 9 :: 2 :: 5 :: ws) (ch c) = true := by
  obtain ⟨hz, l, h⟩ := ok
  refine fitT (by simp) (fits3 (by rw [fit_str]; decide +kernel) (by rw [fit_str]; exact (three_strF c.1 hc).1 _ (List.mem_cons_self ..)) (fitL ?_ (mk1_fit hc hz l fun zs hzs => ⟨(h zs hzs).1, fun z m => evry_six hs z ((h zs hzs).2 z m)⟩)))
  rw [mk1_len]
  omega
theorem step_fit {w : List Str} (l : w.length ≤ 2) (h : ∀ z ∈ w, z ∈ six) {ws : List Nat} : fit (4 :: 9 :: 2 :: 5 :: ws) (stepD w) = true := by
  refine fitT (by simp) (fits4 (by rw [fit_str]; decide +kernel) (by rw [fit_str]; decide +kernel) (fitL (by rw [List.length_map]; omega) (fit_strs h)) (by rw [fit_str]; decide +kernel))
/-- what stands around the place that is bent -/
structure Env (A B : List PyData) (nm cn : Str) (z : PyData) (rest : List PyData) : Prop where
  fA : ∀ x ∈ A ++ B, fit W5 x = true
  len : A.length + B.length ≤ 12
  fn : strF nm = true
  fc : strF cn = true
  f9 : ∀ j : Nat, j < 9 → strF (cn ++ ts (j : Int)) = true
  fz : fit [5, 1] z = true
  fr : ∀ x ∈ rest, fit [2, 5, 1] x = true
  lr : rest.length ≤ 3
  stp : ∃ e ∈ A ++ B, declName e = ("step" : Str)
  nS : ∀ x ∈ A ++ B, declName x ∈ six
  nmS : nm ∈ six
abbrev mkE (cn : Str) (z : PyData) (rest : List PyData) : List PyData := .tuple [.str cn, z] :: rest
section
variable {A B : List PyData} {nm cn : Str} {z : PyData} {rest : List PyData}
theorem Env.put (E : Env A B nm cn z rest) {d : PyData} (hd : fit W5 d = true) (h : isKinds (.list (A ++ [d] ++ B)) = false) : Bad (.list (A ++ [d] ++ B)) := by
  refine ⟨h, sized6 (fitL ?_ ?_)⟩
  · have := E.len
    simp only [List.length_append, List.length_cons, List.length_nil]
    omega
  · intro x hx
    have : x = d ∨ x ∈ A ++ B := by
      simp only [List.mem_append, List.mem_cons, List.not_mem_nil, or_false] at hx ⊢
      rcases hx with (hx | hx) | hx
      · exact .inr (.inl hx)
      · exact .inl hx
      · exact .inr (.inr hx)
    rcases this with rfl | hx
    · exact hd
    · exact E.fA x hx
theorem Env.mks (E : Env A B nm cn z rest) : ∀ x ∈ mkE cn z rest, fit [2, 5, 1] x = true := by
  intro x hx
  rcases List.mem_cons.mp hx with rfl | hx
  · exact fitT (by simp) (fits2 (by rw [fit_str]; exact E.fc) E.fz)
  · exact E.fr x hx
theorem Env.mkL (E : Env A B nm cn z rest) : fit [9, 2, 5, 1] (.list (mkE cn z rest)) = true := fitL (by have := E.lr; simp only [List.length_cons]; omega) E.mks
theorem Env.mk' (E : Env A B nm cn z rest) {m : PyData} (hm : fit [2, 5, 1] m = true) : fit [9, 2, 5, 1] (.list (m :: rest)) = true := fitL (by have := E.lr; simp only [List.length_cons]; omega) fun x hx => by
  rcases List.mem_cons.mp hx with rfl | hx
  · exact hm
  · exact E.fr x hx
theorem Env.chd (E : Env A B nm cn z rest) {a b : PyData} (ha : fit [9, 2, 5, 1] a = true) (hb : fit [9, 2, 5, 1] b = true) : fit W5 (.tuple [.str "choice", a, b]) = true :=
  fitT (by simp) (fits3 (by rw [fit_str]; decide +kernel) ha hb)
def odds1 : List PyData := [.str "num", .str "flag", .str "let", .str "Kind", .str "1a", .str "", .str "a b", .str "a_b", .none, .int 7, .list [.str "list"], .str (manyS "a" 31), .str "step"]
theorem odds1_fit : ∀ d ∈ odds1, fit [9, 2, 5, 1] d = true ∧ fit [5, 1] d = true := by
  have : (odds1.all fun d => fit [9, 2, 5, 1] d && fit [5, 1] d) = true := by decide +kernel
  intro d hd
  exact Bool.and_eq_true_iff.mp (List.all_eq_true.mp this d hd)
theorem bad1a (E : Env A B nm cn z rest) {d : PyData} (h : d ∈ odds1) : Bad (.list (A ++ [.tuple [.str "choice", d, .list (mkE cn z rest)]] ++ B)) := by
  refine E.put (E.chd (odds1_fit d h).1 E.mkL) ?_
  simp only [odds1, List.mem_cons, List.not_mem_nil, or_false] at h
  rcases h with rfl | rfl | rfl | rfl | rfl | rfl | rfl | rfl | rfl | rfl | rfl | rfl | rfl
  · exact wrong_base (.inl rfl)
  · exact wrong_base (.inr rfl)
  · exact wrong_word (List.mem_cons_self ..) (show isWordS "let" = false by decide +kernel)
  · exact wrong_word (List.mem_cons_self ..) (show isWordS "Kind" = false by decide +kernel)
  · exact wrong_word (List.mem_cons_self ..) (show isWordS "1a" = false by decide +kernel)
  · exact wrong_word (List.mem_cons_self ..) (show isWordS "" = false by decide +kernel)
  · exact wrong_word (List.mem_cons_self ..) (show isWordS "a b" = false by decide +kernel)
  · exact wrong_word (List.mem_cons_self ..) (show isWordS "a_b" = false by decide +kernel)
  · exact wrong_form (by simp [declForm, isS])
  · exact wrong_form (by simp [declForm, isS])
  · exact wrong_form (by simp [declForm, isS])
  · exact wrong_word (List.mem_cons_self ..) (show isWordS (manyS "a" 31) = false by decide +kernel)
  · obtain ⟨e, m, he⟩ := E.stp
    exact wrong_name m he
/-- the first constructor's name, bent -/
def odd0 (d : PyData) : PyData := if isStr "step" d = true then .int 0 else d
theorem head_form {x y : PyData} (h : isMaker x = false) {nm : Str} : declForm (.tuple [.str "choice", .str nm, .list (x :: rest)]) = false := by
  simp [declForm, isMakers, h]
theorem bad1b (E : Env A B nm cn z rest) {d : PyData} (h : d ∈ odds1) : Bad (.list (A ++ [.tuple [.str "choice", .str nm, .list (.tuple [odd0 d, z] :: rest)]] ++ B)) := by
  have f0 : fit [5, 1] (odd0 d) = true := by
    unfold odd0
    split
    · decide +kernel
    · exact (odds1_fit d h).2
  refine E.put (E.chd (by rw [fit_str]; exact E.fn) (E.mk' (fitT (by simp) (fits2 f0 E.fz)))) ?_
  simp only [odds1, List.mem_cons, List.not_mem_nil, or_false] at h
  have word : ∀ s : Str, isStr "step" (.str s) = false → isWordS s = false → isKinds (.list (A ++ [.tuple [.str "choice", .str nm, .list (.tuple [odd0 (.str s), z] :: rest)]] ++ B)) = false := by
    intro s h1 h2
    unfold odd0
    rw [h1, if_neg (by decide)]
    exact wrong_word (List.mem_cons_of_mem _ (show s ∈ s :: rest.map nameOf from List.mem_cons_self ..)) h2
  rcases h with rfl | rfl | rfl | rfl | rfl | rfl | rfl | rfl | rfl | rfl | rfl | rfl | rfl
  · exact word _ (by decide +kernel) (by decide +kernel)
  · exact word _ (by decide +kernel) (by decide +kernel)
  · exact word _ (by decide +kernel) (by decide +kernel)
  · exact word _ (by decide +kernel) (by decide +kernel)
  · exact word _ (by decide +kernel) (by decide +kernel)
  · exact word _ (by decide +kernel) (by decide +kernel)
  · exact word _ (by decide +kernel) (by decide +kernel)
  · exact word _ (by decide +kernel) (by decide +kernel)
  · exact wrong_form (head_form (y := .none) rfl)
  · exact wrong_form (head_form (y := .none) rfl)
  · exact wrong_form (head_form (y := .none) rfl)
  · exact word _ (by decide +kernel) (by decide +kernel)
  · have e : odd0 (.str "step") = .int 0 := by
      unfold odd0
      rw [show isStr "step" (.str "step") = true by decide +kernel, if_pos rfl]
    rw [e]
    exact wrong_form (head_form (y := .none) rfl)
def odds2 : List PyData := [.list [.str "nowhere"], .tuple [.str "num"], .list [.int 7], .list [.str "Num"], .none, .str "num", .list [.str "num", .str "num", .str "num", .str "num", .str "num"], .list [.list [.str "num"]]]
theorem odds2_fit : ∀ d ∈ odds2, fit [9, 2, 5, 1] d = true ∧ fit [5, 1] d = true := by
  have : (odds2.all fun d => fit [9, 2, 5, 1] d && fit [5, 1] d) = true := by decide +kernel
  intro d hd
  exact Bool.and_eq_true_iff.mp (List.all_eq_true.mp this d hd)
theorem six_not : ∀ x ∈ six, ("nowhere" : Str) ∉ (x :: "num" :: "flag" :: six : List Str) ∧ ("Num" : Str) ∉ (x :: "num" :: "flag" :: six : List Str) := by decide +kernel
theorem bad2a (E : Env A B nm cn z rest) {d : PyData} (h : d ∈ odds2) : Bad (.list (A ++ [.tuple [.str "choice", .str nm, .list (.tuple [.str cn, d] :: rest)]] ++ B)) := by
  refine E.put (E.chd (by rw [fit_str]; exact E.fn) (E.mk' (fitT (by simp) (fits2 (by rw [fit_str]; exact E.fc) (odds2_fit d h).2)))) ?_
  simp only [odds2, List.mem_cons, List.not_mem_nil, or_false] at h
  have sn := six_not nm E.nmS
  rcases h with rfl | rfl | rfl | rfl | rfl | rfl | rfl | rfl
  · exact wrong_kind (k := "nowhere") E.nS (show ("nowhere" : Str) ∈ ([("nowhere" : Str)] ++ (rest.map partsOf).flatten) from List.mem_append.mpr (.inl (List.mem_cons_self ..))) sn.1
  · exact wrong_form (head_form (y := .none) (by simp [isMaker, isKindList, isS]))
  · exact wrong_form (head_form (y := .none) (by simp [isMaker, isKindList, isS]))
  · exact wrong_kind (k := "Num") E.nS (show ("Num" : Str) ∈ ([("Num" : Str)] ++ (rest.map partsOf).flatten) from List.mem_append.mpr (.inl (List.mem_cons_self ..))) sn.2
  · exact wrong_form (head_form (y := .none) (by simp [isMaker, isKindList, isS]))
  · exact wrong_form (head_form (y := .none) (by simp [isMaker, isKindList, isS]))
  · exact wrong_form (head_form (y := .none) (by simp [isMaker, isKindList, isS]))
  · exact wrong_form (head_form (y := .none) (by simp [isMaker, isKindList, isS]))
/-- the last one, bent -/
theorem bad2b {A : List PyData} (fA : ∀ x ∈ A, fit W5 x = true) (len : A.length ≤ 12) (nS : ∀ x ∈ A, declName x ∈ six) {d : PyData} (h : d ∈ odds2) : Bad (.list (A ++ [.tuple [.str "calls", .str "step", d, .str "num"]])) := by
  have e : A ++ [.tuple [.str "calls", .str "step", d, .str "num"]] = A ++ [.tuple [.str "calls", .str "step", d, .str "num"]] ++ [] := (List.append_nil _).symm
  have fd : fit W5 (.tuple [.str "calls", .str "step", d, .str "num"]) = true := fitT (by simp) (fits4 (by rw [fit_str]; decide +kernel) (by rw [fit_str]; decide +kernel) (odds2_fit d h).1 (by rw [fit_str]; decide +kernel))
  refine ⟨?_, sized6 (fitL ?_ ?_)⟩
  · rw [e]
    simp only [odds2, List.mem_cons, List.not_mem_nil, or_false] at h
    have sn := six_not "step" (by decide +kernel)
    have nS' : ∀ x ∈ A ++ [], declName x ∈ six := fun x hx => nS x (by simpa using hx)
    rcases h with rfl | rfl | rfl | rfl | rfl | rfl | rfl | rfl
    · exact wrong_kind (k := "nowhere") nS' (show ("nowhere" : Str) ∈ ([("nowhere" : Str)] ++ [strOf (.str "num")]) from List.mem_append.mpr (.inl (List.mem_cons_self ..))) sn.1
    · exact wrong_form (by simp [declForm, isKindList, isS])
    · exact wrong_form (by simp [declForm, isKindList, isS])
    · exact wrong_kind (k := "Num") nS' (show ("Num" : Str) ∈ ([("Num" : Str)] ++ [strOf (.str "num")]) from List.mem_append.mpr (.inl (List.mem_cons_self ..))) sn.2
    · exact wrong_form (by simp [declForm, isKindList, isS])
    · exact wrong_form (by simp [declForm, isKindList, isS])
    · exact wrong_form (by simp [declForm, isKindList, isS])
    · exact wrong_form (by simp [declForm, isKindList, isS])
  · simp only [List.length_append, List.length_cons, List.length_nil]
    omega
  · intro x hx
    rcases List.mem_append.mp hx with hx | hx
    · exact fA x hx
    · rw [List.mem_singleton.mp hx]
      exact fd
def nine (cn : Str) : List PyData := (List.range 9).map fun (j : Nat) => .tuple [.str (cn ++ ts (j : Int)), .list []]
def odds3 (cn : Str) (z : PyData) (rest : List PyData) : List PyData := [.list (mkE cn z rest ++ [.tuple [.str cn, z]]), .list [], .tuple [], .tuple (mkE cn z rest), .none, .list (nine cn), .list [.list [.str cn, z]], .list [.tuple [.str cn]]]
theorem nine_fit (E : Env A B nm cn z rest) : fit [9, 2, 5, 1] (.list (nine cn)) = true := by
  refine fitL (by simp [nine]) fun x hx => ?_
  obtain ⟨j, hj, rfl⟩ := List.mem_map.mp hx
  exact fitT (by simp) (fits2 (by rw [fit_str]; exact E.f9 j (List.mem_range.mp hj)) (by decide +kernel))
theorem bad3 (E : Env A B nm cn z rest) {d : PyData} (h : d ∈ odds3 cn z rest) : Bad (.list (A ++ [.tuple [.str "choice", .str nm, d]] ++ B)) := by
  have lr := E.lr
  have fm : fit [2, 5, 1] (.tuple [.str cn, z]) = true := fitT (by simp) (fits2 (by rw [fit_str]; exact E.fc) E.fz)
  have fd : fit [9, 2, 5, 1] d = true := by
    simp only [odds3, List.mem_cons, List.not_mem_nil, or_false] at h
    rcases h with rfl | rfl | rfl | rfl | rfl | rfl | rfl | rfl
    · refine fitL (by simp only [List.length_append, List.length_cons, List.length_nil]; omega) fun x hx => ?_
      rcases List.mem_append.mp hx with hx | hx
      · exact E.mks x hx
      · rw [List.mem_singleton.mp hx]
        exact fm
    · decide +kernel
    · decide +kernel
    · exact fitT (by simp only [List.length_cons]; omega) E.mks
    · exact fit_none
    · exact nine_fit E
    · refine fitL (by simp) fun x hx => ?_
      rw [List.mem_singleton.mp hx]
      exact fitL (by simp) (fits2 (by rw [fit_str]; exact E.fc) E.fz)
    · refine fitL (by simp) fun x hx => ?_
      rw [List.mem_singleton.mp hx]
      refine fitT (by simp) fun y hy => ?_
      rw [List.mem_singleton.mp hy, fit_str]
      exact E.fc
  refine E.put (E.chd (by rw [fit_str]; exact E.fn) fd) ?_
  simp only [odds3, List.mem_cons, List.not_mem_nil, or_false] at h
  rcases h with rfl | rfl | rfl | rfl | rfl | rfl | rfl | rfl
  · refine wrong_twice fun n => ?_
    have n2 : ((mkE cn z rest ++ [PyData.tuple [.str cn, z]]).map nameOf).Nodup := n
    rw [List.map_append] at n2
    exact (List.nodup_append.mp n2).2.2 cn (List.mem_cons_self ..) cn (List.mem_cons_self ..) rfl
  · exact wrong_form (by simp [declForm, isMakers])
  · exact wrong_form (by simp [declForm, isMakers])
  · exact wrong_form (by simp [declForm, isMakers])
  · exact wrong_form (by simp [declForm, isMakers])
  · exact wrong_form (by simp [declForm, isMakers, nine])
  · exact wrong_form (by simp [declForm, isMakers, isMaker])
  · exact wrong_form (by simp [declForm, isMakers, isMaker])
def odds4 (nm cn : Str) (z : PyData) (rest : List PyData) : List PyData := [.tuple [.str "choose", .str nm, .list (mkE cn z rest)], .list [.str "choice", .str nm, .list (mkE cn z rest)], .tuple [.str "choice", .str nm], .tuple [.str "choice", .str nm, .list (mkE cn z rest), .str "num"], .tuple [.str "calls", .str nm, .list [], .none], .tuple [.str "calls", .str nm, .list []]]
theorem bad4 (E : Env A B nm cn z rest) {d : PyData} (h : d ∈ odds4 nm cn z rest) : Bad (.list (A ++ [d] ++ B)) := by
  have fn : ∀ {ws : List Nat}, fit ws (.str nm) = true := by
    intro ws
    rw [fit_str]
    exact E.fn
  have fd : fit W5 d = true := by
    simp only [odds4, List.mem_cons, List.not_mem_nil, or_false] at h
    rcases h with rfl | rfl | rfl | rfl | rfl | rfl
    · exact fitT (by simp) (fits3 (by rw [fit_str]; decide +kernel) fn E.mkL)
    · exact fitL (by simp) (fits3 (by rw [fit_str]; decide +kernel) fn E.mkL)
    · exact fitT (by simp) (fits2 (by rw [fit_str]; decide +kernel) fn)
    · exact fitT (by simp) (fits4 (by rw [fit_str]; decide +kernel) fn E.mkL (by rw [fit_str]; decide +kernel))
    · exact fitT (by simp) (fits4 (by rw [fit_str]; decide +kernel) fn (by decide +kernel) fit_none)
    · exact fitT (by simp) (fits3 (by rw [fit_str]; decide +kernel) fn (by decide +kernel))
  refine E.put fd ?_
  have n1 : isStr "choice" (.str "choose") = false := by decide +kernel
  have n2 : isStr "calls" (.str "choice") = false := by decide +kernel
  have n3 : isStr "choice" (.str "calls") = false := by decide +kernel
  simp only [odds4, List.mem_cons, List.not_mem_nil, or_false] at h
  rcases h with rfl | rfl | rfl | rfl | rfl | rfl
  · exact wrong_form (by simp [declForm, n1])
  · exact wrong_form rfl
  · exact wrong_form rfl
  · exact wrong_form (by simp [declForm, n2])
  · exact wrong_form (by simp [declForm, isS])
  · exact wrong_form (by simp [declForm, n3])
end
end Cb
set_option Elab.async false
set_option linter.all false
set_option maxRecDepth 100000
set_option maxHeartbeats 4000000
namespace Cb
open PySem PySem.Spec PyProof.Rows L2
/-! ### the last ones -/
def wideD (i : Int) : PyData := .tuple [.str "choice", .str ("k" ++ ts i), .list [.tuple [.str ("m" ++ ts i), .list []]]]
def wideL : List PyData := (List.range 13).map fun (j : Nat) => wideD (j : Int)
theorem wide_fit : ∀ d ∈ wideL, fit W5 d = true := by
  have : ((List.range 13).all fun (j : Nat) => fit W5 (wideD (j : Int))) = true := by decide +kernel
  intro d hd
  obtain ⟨j, hj, rfl⟩ := List.mem_map.mp hd
  exact List.all_eq_true.mp this j hj
section
variable {L : List Ch} {w : List Str}
abbrev kd (L : List Ch) (w : List Str) : List PyData := L.map ch ++ [stepD w]
theorem Drawn.three (D : Drawn L w) : ∀ n ∈ L.map (·.1), n ∈ three := ns2_three (.inl D.nm)
theorem Drawn.len (D : Drawn L w) : 1 ≤ L.length ∧ L.length ≤ 3 := by
  have e : L.length = (L.map (·.1)).length := (List.length_map ..).symm
  rw [e]
  rcases D.nm with h | h | h <;> rw [h] <;> decide
theorem Drawn.fits (D : Drawn L w) : ∀ d ∈ kd L w, fit W5 d = true := by
  intro d hd
  rcases List.mem_append.mp hd with h | h
  · obtain ⟨c, hc, rfl⟩ := List.mem_map.mp h
    exact ch_fit D.three (D.three _ (List.mem_map.mpr ⟨c, hc, rfl⟩)) (D.ok c hc)
  · rw [List.mem_singleton.mp h]
    exact step_fit D.wl fun z hz => evry_six D.three z (D.wm z hz)
theorem Drawn.fits6 (D : Drawn L w) : fit W6 (.list (kd L w)) = true := by
  refine fitL ?_ D.fits
  have := D.len
  simp only [List.length_append, List.length_map, List.length_cons, List.length_nil]
  omega
theorem Drawn.rfits6 (D : Drawn L w) : fit W6 (.list (kd L w).reverse) = true := by
  refine fitL ?_ fun d hd => D.fits d (List.mem_reverse.mp hd)
  have := D.len
  simp only [List.length_reverse, List.length_append, List.length_map, List.length_cons, List.length_nil]
  omega
theorem Drawn.six (D : Drawn L w) : ∀ d ∈ kd L w, declName d ∈ six := by
  intro d hd
  rcases List.mem_append.mp hd with h | h
  · obtain ⟨c, hc, rfl⟩ := List.mem_map.mp h
    exact (show ∀ z ∈ Cb.three, z ∈ Cb.six by decide +kernel) _ (D.three _ (List.mem_map.mpr ⟨c, hc, rfl⟩))
  · rw [List.mem_singleton.mp h]
    exact (show ("step" : Str) ∈ Cb.six by decide +kernel)
/-- the surroundings of the i-th -/
theorem Drawn.env (D : Drawn L w) {i : Nat} {c : Ch} (hc : L[i]? = some c) : Env ((kd L w).take i) ((kd L w).drop (i + 1)) c.1 (hd1 c.1 ++ "zero") (.list (c.2.1.map .str)) (rest1 c.1 0 c.2.2) := by
  have cm := List.mem_of_getElem? hc
  have hi : i < L.length := (List.getElem?_eq_some_iff.mp hc).1
  have c3 := D.three _ (List.mem_map.mpr ⟨c, cm, rfl⟩)
  have ok := D.ok c cm
  have sub : ∀ x ∈ (kd L w).take i ++ (kd L w).drop (i + 1), x ∈ kd L w := by
    intro x hx
    rcases List.mem_append.mp hx with hx | hx
    · exact List.mem_of_mem_take hx
    · exact List.mem_of_mem_drop hx
  refine ⟨fun x hx => D.fits x (sub x hx), ?_, ?_, ?_, (three_strF c.1 c3).2, ?_, ?_, ?_, ?_, fun x hx => D.six x (sub x hx), ?_⟩
  · have := D.len
    simp only [List.length_take, List.length_drop, List.length_append, List.length_map, List.length_cons, List.length_nil]
    omega
  · exact (three_strF c.1 c3).1 _ (List.mem_cons_self ..)
  · exact (three_strF c.1 c3).1 _ (by unfold mkn; simp)
  · refine fitL ?_ (fit_strs ?_)
    · rcases ok.1 with h | h <;> rw [h] <;> decide
    · rcases ok.1 with h | h <;> rw [h]
      · decide +kernel
      · intro z hz
        cases hz
  · exact rest1_fit c3 c.2.2 0 (by have := ok.2.1; omega) fun zs hzs => ⟨(ok.2.2 zs hzs).1, fun z m => evry_six D.three z ((ok.2.2 zs hzs).2 z m)⟩
  · rw [rest1_len]
    exact ok.2.1
  · refine ⟨stepD w, List.mem_append.mpr (.inr ?_), rfl⟩
    rw [List.drop_append_of_le_length (by rw [List.length_map]; omega)]
    simp
  · exact (show ∀ z ∈ Cb.three, z ∈ Cb.six by decide +kernel) _ c3
def lasts (L : List Ch) (w : List Str) : List PyData := [.list (kd L w ++ (kd L w).take 1), .tuple (kd L w), .none, ch (L.headD ("", [], [])), .list wideL, .list (wideL.take 12 ++ [.none]), .list (kd L w ++ [.tuple [.str "calls", .str "more", .list [.str "num"], .str "gone"]]), .dict []]
theorem bad_lasts (D : Drawn L w) : ∀ d ∈ lasts L w, Bad d := by
  intro d h
  have ln := D.len
  have lk : (kd L w).length = L.length + 1 := by simp [kd]
  simp only [lasts, List.mem_cons, List.not_mem_nil, or_false] at h
  rcases h with rfl | rfl | rfl | rfl | rfl | rfl | rfl | rfl
  · cases hL : L with
    | nil => rw [hL] at ln; simp at ln
    | cons c r =>
      have hD := D
      rw [hL] at hD
      refine ⟨?_, sized6 (fitL ?_ ?_)⟩
      · have e : (kd (c :: r) w ++ (kd (c :: r) w).take 1) = kd (c :: r) w ++ [ch c] ++ [] := by
          rw [List.append_nil]
          rfl
        rw [e]
        exact wrong_name (e := ch c) (by rw [List.append_nil]; exact List.mem_cons_self ..) rfl
      · rw [hL] at lk
        simp only [List.length_append, List.length_take, lk]
        rw [hL] at ln
        simp only [List.length_cons] at ln ⊢
        omega
      · intro x hx
        rcases List.mem_append.mp hx with hx | hx
        · exact hD.fits x hx
        · exact hD.fits x (List.mem_of_mem_take hx)
  · exact ⟨rfl, sized6 (fitT (by omega) D.fits)⟩
  · exact ⟨rfl, sized6 fit_none⟩
  · cases hL : L with
    | nil => rw [hL] at ln; simp at ln
    | cons c r =>
      have hD := D
      rw [hL] at hD
      exact ⟨rfl, sized5 (ch_fit hD.three (hD.three _ (List.mem_cons_self ..)) (hD.ok c (List.mem_cons_self ..)))⟩
  · exact ⟨wrong_long (by simp [wideL]), sized6 (fitL (by simp [wideL]) wide_fit)⟩
  · refine ⟨wrong_long (by simp [wideL]), sized6 (fitL (by simp [wideL]) fun x hx => ?_)⟩
    rcases List.mem_append.mp hx with hx | hx
    · exact wide_fit x (List.mem_of_mem_take hx)
    · rw [List.mem_singleton.mp hx]
      exact fit_none
  · refine ⟨?_, sized6 (fitL ?_ ?_)⟩
    · have e : kd L w ++ [PyData.tuple [.str "calls", .str "more", .list [.str "num"], .str "gone"]] = kd L w ++ [.tuple [.str "calls", .str "more", .list [.str "num"], .str "gone"]] ++ [] := (List.append_nil _).symm
      rw [e]
      refine wrong_kind (S := Cb.six) (k := "gone") (fun x hx => D.six x (by simpa using hx)) (show ("gone" : Str) ∈ ([("num" : Str)] ++ [("gone" : Str)]) by simp) (show ("gone" : Str) ∉ ("more" :: "num" :: "flag" :: Cb.six : List Str) by decide +kernel)
    · simp only [List.length_append, lk, List.length_cons, List.length_nil]
      omega
    · intro x hx
      rcases List.mem_append.mp hx with hx | hx
      · exact D.fits x hx
      · rw [List.mem_singleton.mp hx]
        decide +kernel
  · exact ⟨rfl, .inl rfl⟩
end
end Cb
set_option Elab.async false
set_option linter.all false
set_option maxRecDepth 100000
set_option maxHeartbeats 8000000
namespace Cb
open PySem PySem.Spec PyProof.Rows L2
/-! ### new things while one list grows -/
theorem nin1 {a b : Addr} (h : a ≠ b) : a ∉ [b] := by simp [h]
section
variable {fp : Addr} {fo : HO} {H : Hp}
theorem dt_tup {t : Addr} {xs : List V} {ds : List PyData} (hf : H fp = some fo) (ht : H t = none) (d : DTs (hid [fp] H) xs ds) : DT (hid [fp] (upd H t (.tup xs))) (.ref t) (.tuple ds) :=
  .tup (hid_at (nin1 (ne_of_none hf ht).symm) upd_same) (d.same (Keep.hid (same_keep (same_new ht))) _)
theorem dt_lst {t : Addr} {xs : List V} {ds : List PyData} (hf : H fp = some fo) (ht : H t = none) (d : DTs (hid [fp] H) xs ds) : DT (hid [fp] (upd H t (.lst xs))) (.ref t) (.list ds) :=
  .lst (hid_at (nin1 (ne_of_none hf ht).symm) upd_same) (d.same (Keep.hid (same_keep (same_new ht))) _)
theorem DTs.up {H' : Hp} {xs : List V} {ds : List PyData} (d : DTs (hid [fp] H) xs ds) (s : Same H H') : DTs (hid [fp] H') xs ds := d.same (Keep.hid (same_keep s)) _
theorem DT.up {H' : Hp} {x : V} {d : PyData} (h : DT (hid [fp] H) x d) (s : Same H H') : DT (hid [fp] H') x d := h.same (Keep.hid (same_keep s)) _
end
structure Ctx (kp mp zp fp : Addr) (xs ms : List V) (kdd md : List PyData) (zd : PyData) (H : Hp) : Prop where
  hk : H kp = some (.lst xs)
  dk : DTs (hid [fp] H) xs kdd
  hm : H mp = some (.lst ms)
  dm : DTs (hid [fp] H) ms md
  dz : DT (hid [fp] H) (.ref zp) zd
  nk : kp ≠ fp
  nm : mp ≠ fp
section
variable {kp mp zp fp : Addr} {xs ms : List V} {kdd md : List PyData} {zd : PyData} {H H' : Hp} {K : PySem.W.Frag}
theorem Ctx.keep (C : Ctx kp mp zp fp xs ms kdd md zd H) (k : Keep [fp] H H') : Ctx kp mp zp fp xs ms kdd md zd H' :=
  ⟨k _ _ (nin1 C.nk) C.hk, C.dk.same k.hid _, k _ _ (nin1 C.nm) C.hm, C.dm.same k.hid _, C.dz.same k.hid _, C.nk, C.nm⟩
theorem Ctx.up (C : Ctx kp mp zp fp xs ms kdd md zd H) (s : Same H H') : Ctx kp mp zp fp xs ms kdd md zd H' := C.keep (same_keep s)
theorem Ctx.dmk (C : Ctx kp mp zp fp xs ms kdd md zd H) : DT (hid [fp] H) (.ref mp) (.list md) := .lst (hid_at (nin1 C.nm) C.hm) C.dm
/-- (sort, name, [(A, B)] + makers[1:]) -/
abbrev tMk3 (K : PySem.W.Frag) (tA tB : TE) : TE := tTup (tCons (tVar 3) (tCons (tVar 4) (tCons (tOp rCat (tLst (tCons (tTup (tCons tA (tCons tB tNil))) tNil)) (tSl (rSlL K) (tVar 5) (tPart (tC (.int 1))) tNoPart)) tNil)))
theorem mk3_ok {σ : L2.St} {Q : VK} {tA tB : TE} {da db : PyData} {nm : Str} {fo : HO} (h3 : σ[3]? = some (some (.str "choice"))) (h4 : σ[4]? = some (some (.str nm))) (h5 : σ[5]? = some (some (.ref mp))) (C : Ctx kp mp zp fp xs ms kdd md zd H) (hf : H fp = some fo)
    (lm : 1 ≤ ms.length) (lm2 : ms.length ≤ 10) (hA : ∃ va, DT (hid [fp] H) va da ∧ ∀ R : VK, R va H → tA σ H R) (hB : ∃ vb, DT (hid [fp] H) vb db ∧ ∀ R : VK, R vb H → tB σ H R)
    (q : ∀ (v : V) (H2 : Hp), Same H H2 → DT (hid [fp] H2) v (.tuple [.str "choice", .str nm, .list (.tuple [da, db] :: md.drop 1)]) → Q v H2) : tMk3 K tA tB σ H Q := by
  obtain ⟨va, dva, hA⟩ := hA
  obtain ⟨vb, dvb, hB⟩ := hB
  refine ⟨_, h3, _, h4, ?_⟩
  refine hA _ (hB _ ?_)
  refine ⟨(show 2 ≤ sizeLine by decide), fun t ht => ⟨(show 1 ≤ sizeLine by decide), fun l hl => ?_⟩⟩
  have d1 := dt_tup hf ht (.cons dva (.cons dvb .nil))
  have s1 : Same H (upd H t (.tup [va, vb])) := same_new ht
  have hf1 := s1 _ _ hf
  have d2 := dt_lst hf1 hl (.cons d1 .nil)
  have s2 := s1.trans (same_new (o := .lst [.ref t]) hl)
  have C2 := C.up s2
  refine ⟨_, h5, _, rfl, mp, _, rfl, SqL.of C2.hm, fun a na => ?_⟩
  rw [show (1 : Int) = ((1 : Nat) : Int) from rfl, cut_from lm]
  have s3 := s2.trans (same_new (o := .lst (ms.drop 1)) na)
  refine ⟨l, a, _, _, rfl, rfl, same_new na _ _ upd_same, upd_same, (show 1 + (ms.drop 1).length ≤ sizeLine from Nat.le_of_lt (small1000 (by rw [List.length_drop]; omega))), fun p np => ?_⟩
  have s4 := s3.trans (same_new (o := .lst ([.ref t] ++ ms.drop 1)) np)
  refine ⟨(show 3 ≤ sizeLine by decide), fun t3 n3 => ?_⟩
  have C3 := C.up s3
  have dl : DTs (hid [fp] _) ([.ref t] ++ ms.drop 1) ([.tuple [da, db]] ++ md.drop 1) := ((DTs.cons (d1.up ((same_new hl).trans (same_new na))) .nil)).app (C3.dm.drop 1)
  have d5 := dt_lst (s3 _ _ hf) np dl
  refine q _ _ (s4.trans (same_new n3)) (dt_tup (s4 _ _ hf) n3 (.cons (.str _) (.cons (.str _) (.cons d5 .nil))))
/-- [.. for i in range(n)], new things each -/
theorem lc_newR {n : Nat} {te : TE} {i : Nat} {σ : L2.St} {H1 : Hp} {D : Addr} {Qd : Hp → Prop} {fo : HO} (f : Nat → PyData) (hf : H1 fp = some fo) (hD : H1 D = none) (small : n < 1000)
    (hs : ∀ (j : Nat) (H' : Hp) (Q : VK), j < n → Same H1 H' → (∀ (v : V) (H2 : Hp), Same H' H2 → DT (hid [fp, D] H2) v (f j) → Q v H2) → (∃ zs, H' D = some (.lst zs)) → te ((wipe σ [i]).set i (some (.int (0 + (j : Int))))) H' Q)
    (hd : ∀ (H' : Hp) (zs : List V), Same H1 H' → H' D = some (.lst zs) → DTs (hid [fp] H') zs ((List.range n).map f) → Qd H') :
    ∃ W : Nat → Nat → Hp → Prop, (∃ m, W 0 m (upd H1 D (.lst []))) ∧ ∀ k m' H, W k m' H →
      ((Itr 0 n).stop k H ∧ Qd H) ∨ ((Itr 0 n).go k H ∧ ∃ Nx : Hp → Prop, (∀ H', Nx H' → ∃ m'', m'' < m' ∧ W (k + 1) m'' H') ∧ ∀ x H', (Itr 0 n).yld k H x H' → gName i x (wipe σ [i]) H' fun σ2 H2 => wipe σ2 [i] = wipe σ [i] ∧ tYes σ2 H2 fun b H3 =>
        if b = true then te σ2 H3 fun y H4 => ∃ acc, H4 D = some (.lst acc) ∧ acc.length < sizeLine ∧ Nx (upd H4 D (.lst (acc ++ [y]))) else Nx H3) := by
  have sn : Same H1 (upd H1 D (.lst [])) := same_new hD
  refine lc_it walk_range (fun j H' => Same H1 H' ∧ ∃ zs : List V, H' D = some (.lst zs) ∧ DTs (hid [fp, D] H') zs ((List.range j).map f)) ⟨sn, [], upd_same, .nil⟩ (fun _ _ _ _ => trivial) ?_ ?_
  · rintro j x H H' hj ⟨s1, zs, hz, dz⟩ ⟨rfl, rfl⟩
    refine ⟨?_, ?_⟩
    · show ((wipe σ [i]).set i (some _)).set i none = wipe σ [i]
      show ((σ.set i none).set i (some _)).set i none = σ.set i none
      rw [List.set_set, List.set_set]
    · show te ((wipe σ [i]).set i (some _)) H' _
      refine hs j H' _ hj s1 ?_ ⟨zs, hz⟩
      intro v H2 s2 dv
      have lz : zs.length = j := by
        have := dz.length
        rwa [List.length_map, List.length_range] at this
      refine ⟨zs, s2 _ _ hz, small1000 (by omega), ?_, zs ++ [v], upd_same, ?_⟩
      · intro b o e
        rw [upd_ne (ne_of_none e hD)]
        exact s2 _ _ (s1 _ _ e)
      · rw [List.range_succ, List.map_append]
        have k : Keep [fp, D] H2 (upd H2 D (.lst (zs ++ [v]))) := keep_upd (by simp)
        exact DTs.snoc ((dz.same (Keep.hid (same_keep s2)) _).same k.hid _) (dv.same k.hid _)
  · rintro H' ⟨s1, zs, hz, dz⟩
    exact hd H' zs s1 hz (dz.same (hid_mono (S := [fp]) (S' := [fp, D]) (fun b hb => by simp at hb; simp [hb])) _)
theorem cut_but1 {xs : List V} {n : Nat} (h : xs.length = n + 1) : cutV xs none (some (-1)) = xs.take n := by
  have e : HT.sIx xs.length xs.length (some (-1)) = n := by
    show (if (-1 : Int) < 0 then ((-1 : Int) + (xs.length : Int)).toNat else min (-1 : Int).toNat xs.length) = n
    rw [if_pos (by decide), h]
    omega
  unfold cutV
  rw [show HT.sIx xs.length 0 none = 0 from HT.sIx_none _ _, e]
  simp
end
end Cb
namespace Cb
open PySem PySem.Spec PyProof.Rows L2
theorem Fnd.mono {fp : Addr} {B : PyData → Prop} {n m : Nat} {H : Hp} (F : Fnd fp B n H) (h : n ≤ m) : Fnd fp B m H := by
  obtain ⟨fs, bs, a, b, c, l⟩ := F.ex
  exact ⟨fs, bs, a, b, c, by omega⟩
theorem same_hid {fp : Addr} {H : Hp} {o : HO} (h : H fp = none) : Same H (hid [fp] (upd H fp o)) := fun b u e => hid_at (nin1 (ne_of_none e h)) (same_new h _ _ e)
/-- between two turns of a loop over bent things -/
def LI (g kp mp zp fp : Addr) (i : Nat) (nm cn : Str) (xs ms : List V) (kdd md : List PyData) (zd : PyData) (ol : Addr) (ov : List V) (od : List PyData) (H0 : Hp) (n0 st : Nat) (j : Nat) (σ : L2.St) (H' : Hp) : Prop :=
  (∃ x9 : Option V, σ = [some (.ref g), some (.ref kp), some (.int (i : Int)), some (.str "choice"), some (.str nm), some (.ref mp), some (.str cn), some (.ref zp), some (.ref fp), x9, none, none]) ∧
    Ctx kp mp zp fp xs ms kdd md zd H' ∧ Fnd fp Bad (n0 + st * j) H' ∧ DTs (hid [fp] H') ov od ∧ H' ol = some (.lst ov) ∧ Keep [fp] H0 H'
theorem ts_len : ∀ j : Nat, j < 13 → (ts (0 + (j : Int))).length ≤ 2 := by
  have : ((List.range 13).all fun (j : Nat) => decide ((ts (0 + (j : Int))).length ≤ 2)) = true := by decide +kernel
  intro j hj
  exact of_decide_eq_true (List.all_eq_true.mp this j (List.mem_range.mpr hj))
theorem strF_len {z : Str} (h : strF z = true) : z.length ≤ 40 := by
  unfold strF at h
  exact of_decide_eq_true (Bool.and_eq_true_iff.mp h).2
end Cb
set_option Elab.async false
set_option linter.all false
set_option maxRecDepth 100000
set_option maxHeartbeats 16000000
namespace Cb
open PySem PySem.Spec PyProof.Rows L2
structure TBent (K : PySem.W.Frag) (w : World) (mg : Str → Option Value) : Prop where
  td : TDraw K w mg
  d_l_bent : Has K mg "_law_bent" s_l_bent ["_law_generator_here", "_law_kinds"]
section
variable {P : Program} {w : World} {K : PySem.W.Frag} {mg : Str → Option Value} {base : Heap}
def sp_bent : Sp := fun vs H Q _ => ∃ (g kp : Addr) (a s t : Int) (xs : List V) (L : List Ch) (wn : List Str), vs = [.ref g, .ref kp] ∧ H g = some (gen a s t) ∧ 0 ≤ t ∧ t < 2 ^ 61 ∧ kp ≠ g ∧ H kp = some (.lst xs) ∧ DTs (hid [g] H) xs (kd L wn) ∧ Drawn L wn ∧
  ∀ (p : Addr) (H' : Hp) (fs : List V) (bs : List PyData), H' p = some (.lst fs) → DTs H' fs bs → (∀ b ∈ bs, Bad b) → fs.length ≤ 200 → Keep [g] H H' → Q (.ref p) H'
abbrev NB : List Str := ["_law_generator_here", "_law_kinds", "_law_at", "_law_sort", "_law_name", "_law_makers", "_law_maker", "_law_parts", "_law_found", "_law_odd", "_law_wide", "_law_number"]
theorem c_l_bent (T : TBent K w mg) : Says P w K mg base 3 "_law_bent" ["_law_generator_here", "_law_kinds"] sp_bent := by
  refine says T.d_l_bent sc_l_bent (fun vs H Q E h => ?_) (fun f cdv A outer s H vs Q E hr h => ?_)
  · obtain ⟨_, _, _, _, _, _, _, _, rfl, _⟩ := h; rfl
  refine ⟨_, (pss_cons (ps_set (i := 2) sc_l_bent.nd rfl (.inl rfl) (pe_s (c_l_random T.td.tg) hr (pa_cons (pv 0) (pa_cons (pe_op op_sub (pe_callB call_len_seq (by rfl) T.td.tg.b_len (by decide +kernel) (pa_cons (pv 1) pa_nil)) pe_int) pa_nil))))
    (pss_cons (ps_asg (pe_ix ix_list (pv 1) (pv 2) (fun _ _ => rfl)) (pg_tup rfl (pgs_cons (pg_name (i := 3) sc_l_bent.nd rfl (by first | exact .inl rfl | exact .inr rfl)) (pgs_cons (pg_name (i := 4) sc_l_bent.nd rfl (by first | exact .inl rfl | exact .inr rfl)) (pgs_cons (pg_name (i := 5) sc_l_bent.nd rfl (by first | exact .inl rfl | exact .inr rfl)) pgs_nil)))))
    (pss_cons (ps_asg (pe_ix ix_list (pv 5) pe_int (fun _ _ => rfl)) (pg_tup rfl (pgs_cons (pg_name (i := 6) sc_l_bent.nd rfl (by first | exact .inl rfl | exact .inr rfl)) (pgs_cons (pg_name (i := 7) sc_l_bent.nd rfl (by first | exact .inl rfl | exact .inr rfl)) pgs_nil))))
    (pss_cons (ps_set (i := 8) sc_l_bent.nd rfl (.inl rfl) (pe_lst pa_nil))
    (pss_cons (ps_for PassesOwn.never rfl (pi_list (pe_lst (pa_cons pe_str (pa_cons pe_str (pa_cons pe_str (pa_cons pe_str (pa_cons pe_str (pa_cons pe_str (pa_cons pe_str (pa_cons pe_str (pa_cons pe_non (pa_cons pe_int (pa_cons (pe_lst (pa_cons pe_str pa_nil)) (pa_cons (pe_op op_mul_strA pe_str pe_int) (pa_cons pe_str pa_nil))))))))))))))) (pg_name (i := 9) sc_l_bent.nd rfl (by first | exact .inl rfl | exact .inr rfl)) (pss_cons (ps_expr (pe_bm PySem.F.plainAttrs_list PySem.F.slot_list_append PySem.F.type_list_append mt_append (pv 8) (pa_cons (pe_op op_cat (pe_op op_cat (pe_slice sl_list (pv 1) po_none (po_some (pv 2))) (pe_lst (pa_cons ((pe_tup (pa_cons (pv 3) (pa_cons (pv 9) (pa_cons (pv 5) pa_nil))))) pa_nil))) (pe_slice sl_list (pv 1) (po_some (pe_op op_add (pv 2) pe_int)) po_none)) pa_nil)))
      (pss_one (ps_expr (pe_bm PySem.F.plainAttrs_list PySem.F.slot_list_append PySem.F.type_list_append mt_append (pv 8) (pa_cons (pe_op op_cat (pe_op op_cat (pe_slice sl_list (pv 1) po_none (po_some (pv 2))) (pe_lst (pa_cons ((pe_tup (pa_cons (pv 3) (pa_cons (pv 4) (pa_cons (pe_op op_cat (pe_lst (pa_cons (pe_tup (pa_cons (pe_ifExp (pt_cmpR (op_neD hr.units) (pv 9) pe_str (nomark _)) (pv 9) pe_int) (pa_cons (pv 7) pa_nil))) pa_nil)) (pe_slice sl_list (pv 5) (po_some pe_int) po_none)) pa_nil))))) pa_nil))) (pe_slice sl_list (pv 1) (po_some (pe_op op_add (pv 2) pe_int)) po_none)) pa_nil))))))
    (pss_cons (ps_for PassesOwn.never rfl (pi_list (pe_lst (pa_cons (pe_lst (pa_cons pe_str pa_nil)) (pa_cons (pe_tup (pa_cons pe_str pa_nil)) (pa_cons (pe_lst (pa_cons pe_int pa_nil)) (pa_cons (pe_lst (pa_cons pe_str pa_nil)) (pa_cons pe_non (pa_cons pe_str (pa_cons (pe_op op_rep (pe_lst (pa_cons pe_str pa_nil)) pe_int) (pa_cons (pe_lst (pa_cons (pe_lst (pa_cons pe_str pa_nil)) pa_nil)) pa_nil)))))))))) (pg_name (i := 9) sc_l_bent.nd rfl (by first | exact .inl rfl | exact .inr rfl)) (pss_cons (ps_expr (pe_bm PySem.F.plainAttrs_list PySem.F.slot_list_append PySem.F.type_list_append mt_append (pv 8) (pa_cons (pe_op op_cat (pe_op op_cat (pe_slice sl_list (pv 1) po_none (po_some (pv 2))) (pe_lst (pa_cons ((pe_tup (pa_cons (pv 3) (pa_cons (pv 4) (pa_cons (pe_op op_cat (pe_lst (pa_cons (pe_tup (pa_cons (pv 6) (pa_cons (pv 9) pa_nil))) pa_nil)) (pe_slice sl_list (pv 5) (po_some pe_int) po_none)) pa_nil))))) pa_nil))) (pe_slice sl_list (pv 1) (po_some (pe_op op_add (pv 2) pe_int)) po_none)) pa_nil)))
      (pss_one (ps_expr (pe_bm PySem.F.plainAttrs_list PySem.F.slot_list_append PySem.F.type_list_append mt_append (pv 8) (pa_cons (pe_op op_cat (pe_slice sl_list (pv 1) po_none (po_some (pe_un un_neg pe_int))) (pe_lst (pa_cons (pe_tup (pa_cons pe_str (pa_cons pe_str (pa_cons (pv 9) (pa_cons pe_str pa_nil))))) pa_nil))) pa_nil))))))
    (pss_cons (ps_for PassesOwn.never rfl (pi_list (pe_lst (pa_cons (pe_op op_cat (pv 5) (pe_slice sl_list (pv 5) po_none (po_some pe_int))) (pa_cons (pe_lst pa_nil) (pa_cons (pe_tup pa_nil) (pa_cons (pe_callTy call_tuple_of (by rfl) T.td.tk.tw.b_tuple (by decide +kernel) (pa_cons (pv 5) pa_nil)) (pa_cons pe_non (pa_cons (pe_lc (own := [("_law_number", 11)]) (g := gName 11) (tt := tYes) rfl sc_l_bent.nd (pi_range1 (by rfl) T.td.tg.b_range (pa_cons pe_int pa_nil)) (blkOk_by (N := NB) (sc := defScope s_l_bent) (own := [("_law_number", 11)]) (by decide +kernel)) (fun _ _ _ _ _ => pg_name (i := 11) sc_l_bent.nd rfl (Or.inl rfl)) (fun _ _ _ _ _ => pts_nil) (fun _ _ _ _ _ => (pe_tup (pa_cons (pe_op op_add_str (pv 6) (pe_callTy call_str_int (by rfl) T.td.tk.tw.b_str (by decide +kernel) (pa_cons (pv 11) pa_nil))) (pa_cons (pe_lst pa_nil) pa_nil))))) (pa_cons (pe_lst (pa_cons (pe_lst (pa_cons (pv 6) (pa_cons (pv 7) pa_nil))) pa_nil)) (pa_cons (pe_lst (pa_cons (pe_tup (pa_cons (pv 6) pa_nil)) pa_nil)) pa_nil)))))))))) (pg_name (i := 9) sc_l_bent.nd rfl (by first | exact .inl rfl | exact .inr rfl)) (pss_one (ps_expr (pe_bm PySem.F.plainAttrs_list PySem.F.slot_list_append PySem.F.type_list_append mt_append (pv 8) (pa_cons (pe_op op_cat (pe_op op_cat (pe_slice sl_list (pv 1) po_none (po_some (pv 2))) (pe_lst (pa_cons ((pe_tup (pa_cons (pv 3) (pa_cons (pv 4) (pa_cons (pv 9) pa_nil))))) pa_nil))) (pe_slice sl_list (pv 1) (po_some (pe_op op_add (pv 2) pe_int)) po_none)) pa_nil)))))
    (pss_cons (ps_for PassesOwn.never rfl (pi_list (pe_lst (pa_cons (pe_tup (pa_cons pe_str (pa_cons (pv 4) (pa_cons (pv 5) pa_nil)))) (pa_cons (pe_lst (pa_cons (pv 3) (pa_cons (pv 4) (pa_cons (pv 5) pa_nil)))) (pa_cons (pe_tup (pa_cons (pv 3) (pa_cons (pv 4) pa_nil))) (pa_cons (pe_tup (pa_cons (pv 3) (pa_cons (pv 4) (pa_cons (pv 5) (pa_cons pe_str pa_nil))))) (pa_cons (pe_tup (pa_cons pe_str (pa_cons (pv 4) (pa_cons (pe_lst pa_nil) (pa_cons pe_non pa_nil))))) (pa_cons (pe_tup (pa_cons pe_str (pa_cons (pv 4) (pa_cons (pe_lst pa_nil) pa_nil)))) pa_nil)))))))) (pg_name (i := 9) sc_l_bent.nd rfl (by first | exact .inl rfl | exact .inr rfl)) (pss_one (ps_expr (pe_bm PySem.F.plainAttrs_list PySem.F.slot_list_append PySem.F.type_list_append mt_append (pv 8) (pa_cons (pe_op op_cat (pe_op op_cat (pe_slice sl_list (pv 1) po_none (po_some (pv 2))) (pe_lst (pa_cons (pv 9) pa_nil))) (pe_slice sl_list (pv 1) (po_some (pe_op op_add (pv 2) pe_int)) po_none)) pa_nil)))))
    (pss_cons (ps_setLc (i := 10) (own := [("_law_number", 11)]) (g := gName 11) (tt := tYes) rfl sc_l_bent.nd rfl rfl (sw_true rfl rfl rfl (by decide +kernel)) (pi_range1 (by rfl) T.td.tg.b_range (pa_cons pe_int pa_nil)) (blkOk_by (N := NB) (sc := defScope s_l_bent) (own := [("_law_number", 11)]) (by decide +kernel)) (fun _ _ _ _ _ => pg_name (i := 11) sc_l_bent.nd rfl (Or.inl rfl)) (fun _ _ _ _ _ => pts_nil) (fun _ _ _ _ _ => (pe_tup (pa_cons pe_str (pa_cons (pe_op op_add_str pe_str (pe_callTy call_str_int (by rfl) T.td.tk.tw.b_str (by decide +kernel) (pa_cons (pv 11) pa_nil))) (pa_cons (pe_lst (pa_cons (pe_tup (pa_cons (pe_op op_add_str pe_str (pe_callTy call_str_int (by rfl) T.td.tk.tw.b_str (by decide +kernel) (pa_cons (pv 11) pa_nil))) (pa_cons (pe_lst pa_nil) pa_nil))) pa_nil)) pa_nil))))))
    (pss_one (ps_ret (pe_op op_cat (pv 8) (pe_lst (pa_cons (pe_op op_cat (pv 1) (pe_slice sl_list (pv 1) po_none (po_some pe_int))) (pa_cons (pe_callTy call_tuple_of (by rfl) T.td.tk.tw.b_tuple (by decide +kernel) (pa_cons (pv 1) pa_nil)) (pa_cons pe_non (pa_cons (pe_ix ix_list (pv 1) pe_int (fun _ _ => rfl)) (pa_cons (pv 10) (pa_cons (pe_op op_cat (pe_slice sl_list (pv 10) po_none (po_some pe_int)) (pe_lst (pa_cons pe_non pa_nil))) (pa_cons (pe_op op_cat (pv 1) (pe_lst (pa_cons (pe_tup (pa_cons pe_str (pa_cons pe_str (pa_cons (pe_lst (pa_cons pe_str pa_nil)) (pa_cons pe_str pa_nil))))) pa_nil))) (pa_cons pe_dnewK pa_nil))))))))))))))))))))), ?_⟩
  obtain ⟨g, kp, a, s0, t, xs, L, wn, rfl, hg, t0, t1, nkg, hk, dk, D, q⟩ := h
  have ln := D.len
  have lx : xs.length = L.length + 1 := by
    have := dk.length
    simpa [kd] using this
  have G0 : Gn g s0 t 0 H := ⟨a, t, hg, by omega, by omega⟩
  -- at
  refine ⟨_, rfl, _, rfl, kp, _, rfl, .inl (SqL.of hk), _, _, rfl, rfl, draw G0 t0 (by omega) (by omega) (by omega) fun r H1 r0 r1 G1 k1 => ?_⟩
  rw [lx] at r1
  obtain ⟨i, rfl⟩ : ∃ i : Nat, r = (i : Int) := ⟨r.toNat, by omega⟩
  have hi : i < L.length := by omega
  have hk1 := k1 _ _ (nin1 nkg) hk
  have dk1 : DTs H1 xs (kd L wn) := (dk.same k1.hid _).same hid_same _
  -- sort, name, makers
  obtain ⟨c, hc⟩ : ∃ c, L[i]? = some c := ⟨L[i], List.getElem?_eq_getElem hi⟩
  have E := D.env hc
  have c3 := D.three _ (List.mem_map.mpr ⟨c, List.mem_of_getElem? hc, rfl⟩)
  have hkd : (kd L wn)[i]? = some (ch c) := by
    unfold kd
    rw [List.getElem?_append_left (by rw [List.length_map]; exact hi), List.getElem?_map, hc]
    rfl
  obtain ⟨xc, hxc⟩ : ∃ x, xs[i]? = some x := ⟨xs[i], List.getElem?_eq_getElem (by omega)⟩
  have dc : DT H1 xc (.tuple [.str "choice", .str c.1, .list (mkE (hd1 c.1 ++ "zero") (.list (c.2.1.map .str)) (rest1 c.1 0 c.2.2))]) := dk1.get hxc hkd
  have lrest : (rest1 c.1 0 c.2.2).length ≤ 3 := E.lr
  have f9 := E.f9
  have fcn := strF_len E.fc
  generalize hcn : hd1 c.1 ++ "zero" = cn at E dc f9 fcn
  generalize hzd : PyData.list (c.2.1.map .str) = zd at E dc
  generalize hrs : rest1 c.1 0 c.2.2 = rest at E dc lrest
  generalize hnm : c.1 = nm at E dc
  cases dc with
  | @tup pc xs3 _ epc rc =>
  obtain ⟨x, y, z, a1, b1, c1, rfl, he, ha, hb, hcz⟩ := rc.three (by rw [rc.length]; rfl)
  cases he
  cases ha
  cases hb
  cases hcz with
  | @lst mp ms _ hm dm =>
  cases dm with
  | @cons mq mr _ _ dmq dmr =>
  cases dmq with
  | @tup tq qs _ htq rq =>
  cases rq with
  | cons ha2 rq =>
  cases ha2
  cases rq with
  | @cons zv _ _ _ dz rq =>
  cases rq
  have dmAll : DTs H1 (.ref tq :: mr) (mkE cn zd rest) := .cons (.tup htq (.cons (.str _) (.cons dz .nil))) dmr
  have lmr : mr.length ≤ 3 := by
    have := dmr.length
    omega
  refine ⟨_, rfl, _, rfl, kp, _, _, _, rfl, rfl, SqL.of hk1, atI_nat hxc, ?_⟩
  refine ⟨pc, _, rfl, SqT.of epc, rfl, .str "choice", _, rfl, .str nm, _, rfl, .ref mp, [], rfl, rfl, ?_⟩
  obtain ⟨zp, rfl⟩ : ∃ zp : Addr, zv = .ref zp := by
    rw [← hzd] at dz
    cases dz
    exact ⟨_, rfl⟩
  refine ⟨_, rfl, mp, _, _, .ref tq, rfl, rfl, SqL.of hm, (show atI (V.ref tq :: mr) ((0 : Nat) : Int) = _ from atI_nat rfl), ?_⟩
  refine ⟨tq, _, rfl, SqT.of htq, rfl, .str cn, _, rfl, .ref zp, [], rfl, rfl, ?_⟩
  -- found
  refine ⟨(show 0 ≤ sizeLine by decide), fun fp hfp => ?_⟩
  generalize hms : V.ref tq :: mr = ms at hm dmAll
  have lms : 1 ≤ ms.length ∧ ms.length ≤ 4 := by
    rw [← hms]
    simp only [List.length_cons]
    omega
  have sh : Same H1 (hid [fp] (upd H1 fp (.lst []))) := same_hid hfp
  have C2 : Ctx kp mp zp fp xs ms (kd L wn) (mkE cn zd rest) zd (upd H1 fp (.lst [])) :=
    ⟨same_new hfp _ _ hk1, dk1.same sh _, same_new hfp _ _ hm, dmAll.same sh _, dz.same sh _, ne_of_none hk1 hfp, ne_of_none hm hfp⟩
  have F2 : Fnd fp Bad 0 (upd H1 fp (.lst [])) := ⟨[], [], upd_same, .nil, fun b hb => absurd hb List.not_mem_nil, Nat.le_refl _⟩
  have hn1 : H1 fp = none := hfp
  have kH : ∀ {H' : Hp}, Keep [fp] (upd H1 fp (.lst [])) H' → Keep [g] H H' := by
    intro H' k b o n e
    have e1 := k1 b o n e
    exact k b o (nin1 (ne_of_none e1 hn1)) (same_new hn1 _ _ e1)
  have hfp2 : (upd H1 fp (.lst [])) fp = some (.lst []) := upd_same
  generalize upd H1 fp (.lst []) = H2 at C2 F2 kH hfp2 ⊢
  -- the first loop
  refine ⟨(show 1 ≤ sizeLine by decide), fun l1 n1 => ?_⟩
  refine ⟨"a", 31, rfl, rfl, by decide, by decide, rfl, (by decide +kernel), ?_⟩
  refine ⟨(show 13 ≤ sizeLine by decide), fun ol nol => ?_⟩
  have dL1 := dt_lst hfp2 n1 (.cons (.str "list") .nil)
  have sA : Same H2 (upd H2 l1 (.lst [.str "list"])) := same_new n1
  have hfA := sA _ _ hfp2
  have nolf : ol ≠ fp := (ne_of_none hfA nol).symm
  refine ⟨ol, rfl, ⟨_, SqL.of upd_same⟩, for_list (LI g kp mp zp fp i nm cn xs ms (kd L wn) (mkE cn zd rest) zd ol [.str "num", .str "flag", .str "let", .str "Kind", .str "1a", .str "", .str "a b", .str "a_b", .non, .int 7, .ref l1, .str (manyS "a" 31), .str "step"] odds1 H2 0 2)
    ⟨⟨none, rfl⟩, C2.up (sA.trans (same_new nol)), F2.same (sA.trans (same_new nol)), ?_, upd_same, same_keep (sA.trans (same_new nol))⟩ (fun j σ H' _ h => SqL.of h.2.2.2.2.1) ?_ ?_⟩
  · have dL2 := DT.up dL1 (same_new (o := .lst [.str "num", .str "flag", .str "let", .str "Kind", .str "1a", .str "", .str "a b", .str "a_b", .non, .int 7, .ref l1, .str (manyS "a" 31), .str "step"]) nol)
    exact .cons (.str _) (.cons (.str _) (.cons (.str _) (.cons (.str _) (.cons (.str _) (.cons (.str _) (.cons (.str _) (.cons (.str _) (.cons .non (.cons (.int _) (.cons dL2 (.cons (.str _) (.cons (.str _) .nil))))))))))))
  · rintro j x σ H3 hx ⟨⟨x9, rfl⟩, C, F, dv, hol, k3⟩
    have hj : j < 13 := (List.getElem?_eq_some_iff.mp hx).1
    obtain ⟨d, hd⟩ : ∃ d, odds1[j]? = some d := ⟨odds1[j]'hj, List.getElem?_eq_getElem hj⟩
    have dx := dv.get hx hd
    have hdm := List.mem_of_getElem? hd
    obtain ⟨fs, hf, lf⟩ := F.at_
    refine ⟨_, rfl, .inl ⟨rfl, _, SqL.of hf⟩, put_ok (kp := kp) (fp := fp) (xs := xs) (d := .tuple [.str "choice", d, .list (mkE cn zd rest)]) rfl rfl C.hk hf C.dk (by omega) (by omega) (fun H4 R s4 k => ?_) (fun p H4 s4 dp => ?_)⟩
    · have C4 := C.up s4
      refine ⟨_, rfl, _, rfl, _, rfl, (show 3 ≤ sizeLine by decide), fun tt ht => ?_⟩
      exact k _ _ (same_new ht) (dt_tup (s4 _ _ hf) ht (.cons (.str _) (.cons (dx.up s4) (.cons C4.dmk .nil))))
    · refine ⟨fp, fs, _, rfl, rfl, s4 _ _ hf, small1000 (by omega), ?_⟩
      have F5 := F.add s4 (s4 _ _ hf) dp (bad1a E hdm)
      have k5 : Keep [fp] H3 (upd H4 fp (.lst (fs ++ [.ref p]))) := (same_keep s4).trans (keep_upd (by simp))
      have C5 := C.keep k5
      have dx5 := dx.same k5.hid _
      have hf5 : (upd H4 fp (.lst (fs ++ [.ref p]))) fp = some (.lst (fs ++ [.ref p])) := upd_same
      generalize upd H4 fp (.lst (fs ++ [.ref p])) = H5 at F5 k5 C5 dx5 hf5 ⊢
      refine ⟨_, rfl, .inl ⟨rfl, _, SqL.of hf5⟩, put_ok (kp := kp) (fp := fp) (xs := xs) (d := .tuple [.str "choice", .str nm, .list (.tuple [odd0 d, zd] :: rest)]) rfl rfl C5.hk hf5 C5.dk (by omega) (by omega) (fun H6 R s6 k => ?_) (fun p2 H6 s6 dp2 => ?_)⟩
      · have C6 := C5.up s6
        have dx6 := dx5.up s6
        have fd := odds1_fit d hdm
        have okd : OKd d := (fits_of [5, 1] (by decide) d fd.2).ok (by decide)
        refine mk3_ok (da := odd0 d) (db := zd) rfl rfl rfl C6 (s6 _ _ hf5) lms.1 (by omega) ⟨if isStr "step" d = true then .int 0 else x, ?_, fun R r => ?_⟩ ⟨.ref zp, C6.dz, fun R r => ⟨_, rfl, r⟩⟩ (fun v H7 s7 dv7 => k v H7 s7 dv7)
        · unfold odd0
          by_cases h : isStr "step" d = true
          · rw [if_pos h, if_pos h]
            exact .int _
          · rw [if_neg h, if_neg h]
            exact dx6
        · refine ⟨_, rfl, d, .str "step", (dx6.same hid_same _).dp (good_plain d okd.good), .str _, okd.shaped, by decide +kernel, _, rfl, ?_⟩
          rw [eqv_isStr]
          by_cases h : isStr "step" d = true
          · rw [h] at r ⊢
            exact iteF r
          · have h' : isStr "step" d = false := by simpa using h
            rw [h'] at r ⊢
            exact iteT ⟨_, rfl, r⟩
      · refine ⟨fp, _, _, rfl, rfl, s6 _ _ hf5, small1000 (by rw [List.length_append]; simp only [List.length_cons, List.length_nil]; omega), ?_⟩
        have F7 := F5.add s6 (s6 _ _ hf5) dp2 (bad1b E hdm)
        have k7 : Keep [fp] H3 (upd H6 fp (.lst (fs ++ [.ref p] ++ [.ref p2]))) := k5.trans ((same_keep s6).trans (keep_upd (by simp)))
        exact ⟨⟨_, rfl⟩, C.keep k7, F7.mono (by omega), dv.same k7.hid _, k7 _ _ (nin1 nolf) hol, k3.trans k7⟩
  -- the second loop
  · rintro σ H3 ⟨⟨x9, rfl⟩, C, F, _, _, k3⟩
    obtain ⟨fs0, hf0, lf0⟩ := F.at_
    refine ⟨(show 1 ≤ sizeLine by decide), fun p1 m1 => ⟨(show 1 ≤ sizeLine by decide), fun p2 m2 => ⟨(show 1 ≤ sizeLine by decide), fun p3 m3 => ⟨(show 1 ≤ sizeLine by decide), fun p4 m4 => ?_⟩⟩⟩⟩
    refine ⟨(show 1 ≤ sizeLine by decide), fun p5 m5 => ⟨p5, 5, _, rfl, rfl, upd_same, by decide, by decide, (show 1 * 5 ≤ sizeLine by decide), fun p6 m6 => ?_⟩⟩
    refine ⟨(show 1 ≤ sizeLine by decide), fun p7 m7 => ⟨(show 1 ≤ sizeLine by decide), fun p8 m8 => ⟨(show 8 ≤ sizeLine by decide), fun ol nol => ?_⟩⟩⟩
    have s1 : Same H3 _ := same_new (o := .lst [.str "nowhere"]) m1
    have d1 := dt_lst hf0 m1 (.cons (.str "nowhere") .nil)
    have s2 := s1.trans (same_new (o := .tup [.str "num"]) m2)
    have d2 := dt_tup (s1 _ _ hf0) m2 (.cons (.str "num") .nil)
    have s3 := s2.trans (same_new (o := .lst [.int 7]) m3)
    have d3 := dt_lst (s2 _ _ hf0) m3 (.cons (.int 7) .nil)
    have s4 := s3.trans (same_new (o := .lst [.str "Num"]) m4)
    have d4 := dt_lst (s3 _ _ hf0) m4 (.cons (.str "Num") .nil)
    have s5 := s4.trans (same_new (o := .lst [.str "num"]) m5)
    have s6 := s5.trans (same_new (o := .lst [.str "num", .str "num", .str "num", .str "num", .str "num"]) m6)
    have d6 := dt_lst (s5 _ _ hf0) m6 (.cons (.str "num") (.cons (.str "num") (.cons (.str "num") (.cons (.str "num") (.cons (.str "num") .nil)))))
    have s7 := s6.trans (same_new (o := .lst [.str "num"]) m7)
    have d7 := dt_lst (s6 _ _ hf0) m7 (.cons (.str "num") .nil)
    have s8 := s7.trans (same_new (o := .lst [.ref p7]) m8)
    have d8 := dt_lst (s7 _ _ hf0) m8 (.cons d7 .nil)
    have s9 := s8.trans (same_new (o := .lst [.ref p1, .ref p2, .ref p3, .ref p4, .non, .str "num", .ref p6, .ref p8]) nol)
    have t7 := same_new (o := .lst [.ref p1, .ref p2, .ref p3, .ref p4, .non, .str "num", .ref p6, .ref p8]) nol
    have t6 := (same_new (o := .lst [.ref p7]) m8).trans t7
    have t5 := (same_new (o := .lst [.str "num"]) m7).trans t6
    have t4 := ((same_new (o := .lst [.str "num"]) m5).trans (same_new (o := .lst [.str "num", .str "num", .str "num", .str "num", .str "num"]) m6)).trans t5
    have t3 := (same_new (o := .lst [.str "Num"]) m4).trans t4
    have t2 := (same_new (o := .lst [.int 7]) m3).trans t3
    have t1 := (same_new (o := .tup [.str "num"]) m2).trans t2
    have nolf : ol ≠ fp := (ne_of_none (s8 _ _ hf0) nol).symm
    refine ⟨ol, rfl, ⟨_, SqL.of upd_same⟩, for_list (LI g kp mp zp fp i nm cn xs ms (kd L wn) (mkE cn zd rest) zd ol [.ref p1, .ref p2, .ref p3, .ref p4, .non, .str "num", .ref p6, .ref p8] odds2 H2 26 2)
      ⟨⟨_, rfl⟩, C.up s9, F.same s9, .cons (d1.up t1) (.cons (d2.up t2) (.cons (d3.up t3) (.cons (d4.up t4) (.cons .non (.cons (.str _) (.cons (d6.up t5) (.cons (d8.up t7) .nil))))))), upd_same, k3.trans (same_keep s9)⟩ (fun j σ H' _ h => SqL.of h.2.2.2.2.1) ?_ ?_⟩
    · clear s1 d1 s2 d2 s3 d3 s4 d4 s5 s6 d6 s7 d7 s8 d8 s9 t1 t2 t3 t4 t5 t6 t7
      rintro j x σ H4 hx ⟨⟨x9, rfl⟩, C, F, dv, hol, k3⟩
      have hj : j < 8 := (List.getElem?_eq_some_iff.mp hx).1
      obtain ⟨d, hd⟩ : ∃ d, odds2[j]? = some d := ⟨odds2[j]'hj, List.getElem?_eq_getElem hj⟩
      have dx := dv.get hx hd
      have hdm := List.mem_of_getElem? hd
      obtain ⟨fs, hf, lf⟩ := F.at_
      refine ⟨_, rfl, .inl ⟨rfl, _, SqL.of hf⟩, put_ok (kp := kp) (fp := fp) (xs := xs) (d := .tuple [.str "choice", .str nm, .list (.tuple [.str cn, d] :: rest)]) rfl rfl C.hk hf C.dk (by omega) (by omega) (fun H5 R s5 k => ?_) (fun p H5 s5 dp => ?_)⟩
      · exact mk3_ok (da := .str cn) (db := d) rfl rfl rfl (C.up s5) (s5 _ _ hf) lms.1 (by omega) ⟨.str cn, .str _, fun R r => ⟨_, rfl, r⟩⟩ ⟨x, dx.up s5, fun R r => ⟨_, rfl, r⟩⟩ (fun v H7 s7 dv7 => k v H7 s7 dv7)
      · refine ⟨fp, fs, _, rfl, rfl, s5 _ _ hf, small1000 (by omega), ?_⟩
        have F5 := F.add s5 (s5 _ _ hf) dp (bad2a E hdm)
        have k5 : Keep [fp] H4 (upd H5 fp (.lst (fs ++ [.ref p]))) := (same_keep s5).trans (keep_upd (by simp))
        have C5 := C.keep k5
        have dx5 := dx.same k5.hid _
        have hf5 : (upd H5 fp (.lst (fs ++ [.ref p]))) fp = some (.lst (fs ++ [.ref p])) := upd_same
        generalize upd H5 fp (.lst (fs ++ [.ref p])) = H6 at F5 k5 C5 dx5 hf5 ⊢
        refine ⟨_, rfl, .inl ⟨rfl, _, SqL.of hf5⟩, ?_⟩
        refine ⟨_, rfl, 1, rfl, _, rfl, kp, _, rfl, SqL.of C5.hk, fun a1 na1 => ?_⟩
        rw [cut_but1 lx]
        refine ⟨_, rfl, (show 4 ≤ sizeLine by decide), fun a2 na2 => ⟨(show 1 ≤ sizeLine by decide), fun a3 na3 => ?_⟩⟩
        have u1 : Same H6 _ := same_new (o := .lst (xs.take L.length)) na1
        have u2 := u1.trans (same_new (o := .tup [.str "calls", .str "step", x, .str "num"]) na2)
        have e2 := dt_tup (u1 _ _ hf5) na2 (.cons (.str "calls") (.cons (.str "step") (.cons (dx5.up u1) (.cons (.str "num") .nil))))
        have u3 := u2.trans (same_new (o := .lst [.ref a2]) na3)
        refine ⟨a1, a3, _, _, rfl, rfl, same_new na3 _ _ (same_new na2 _ _ upd_same), upd_same, (show (xs.take L.length).length + 1 ≤ sizeLine from Nat.le_of_lt (small1000 (by rw [List.length_take]; omega))), fun a4 na4 => ?_⟩
        have e4 := dt_lst (u3 _ _ hf5) na4 (((C5.dk.up u3).take L.length).app (.cons (e2.up (same_new na3)) .nil))
        have u4 := u3.trans (same_new (o := .lst (xs.take L.length ++ [.ref a2])) na4)
        have ek : (kd L wn).take L.length = L.map ch := by
          unfold kd
          rw [List.take_append_of_le_length (by rw [List.length_map]; exact Nat.le_refl _), List.take_of_length_le (by rw [List.length_map]; exact Nat.le_refl _)]
        rw [ek] at e4
        refine ⟨fp, _, _, rfl, rfl, u4 _ _ hf5, small1000 (by rw [List.length_append]; simp only [List.length_cons, List.length_nil]; omega), ?_⟩
        have inK : ∀ y ∈ L.map ch, y ∈ kd L wn := fun y hy => List.mem_append.mpr (.inl hy)
        have F7 := F5.add u4 (u4 _ _ hf5) e4 (bad2b (fun y hy => D.fits y (inK y hy)) (by rw [List.length_map]; omega) (fun y hy => D.six y (inK y hy)) hdm)
        have k7 : Keep [fp] H4 _ := k5.trans ((same_keep u4).trans (keep_upd (p := fp) (o := .lst (fs ++ [.ref p] ++ [.ref a4])) (by simp)))
        exact ⟨⟨_, rfl⟩, C.keep k7, F7.mono (by omega), dv.same k7.hid _, k7 _ _ (nin1 nolf) hol, k3.trans k7⟩
    -- the third loop
    clear s1 d1 s2 d2 s3 d3 s4 d4 s5 s6 d6 s7 d7 s8 d8 s9 t1 t2 t3 t4 t5 t6 t7 hf0
    rintro σ H3 ⟨⟨x9, rfl⟩, C, F, _, _, k3⟩
    obtain ⟨fs0, hf0, lf0⟩ := F.at_
    refine ⟨_, rfl, _, rfl, 1, rfl, mp, _, rfl, SqL.of C.hm, fun a0 na0 => ?_⟩
    rw [show (1 : Int) = ((1 : Nat) : Int) from rfl, cut_to lms.1]
    refine ⟨mp, a0, _, _, rfl, rfl, same_new na0 _ _ C.hm, upd_same, (show ms.length + (ms.take 1).length ≤ sizeLine from Nat.le_of_lt (small1000 (by rw [List.length_take]; omega))), fun p1 m1 => ?_⟩
    have s0' : Same H3 _ := same_new (o := .lst (ms.take 1)) na0
    have s1 := s0'.trans (same_new (o := .lst (ms ++ ms.take 1)) m1)
    have d1 := dt_lst (s0' _ _ hf0) m1 ((C.dm.up s0').app ((C.dm.up s0').take 1))
    refine ⟨(show 0 ≤ sizeLine by decide), fun p2 m2 => ⟨(show 0 ≤ sizeLine by decide), fun p3 m3 => ?_⟩⟩
    have v2 := (DTs.cons (d1.up (same_new (o := .lst []) m2)) (.cons (dt_lst (s1 _ _ hf0) m2 .nil) .nil))
    have s2 := s1.trans (same_new (o := .lst []) m2)
    have v3 := (v2.up (same_new (o := .tup []) m3)).snoc (dt_tup (s2 _ _ hf0) m3 .nil)
    have s3 := s2.trans (same_new (o := .tup []) m3)
    have C3 := C.up s3
    refine ⟨_, rfl, mp, _, rfl, .inl ⟨SqL.of C3.hm, fun p4 m4 => ?_⟩⟩
    have v4 := (v3.up (same_new (o := .tup ms) m4)).snoc (dt_tup (s3 _ _ hf0) m4 C3.dm)
    have s4 := s3.trans (same_new (o := .tup ms) m4)
    have hf4 := s4 _ _ hf0
    generalize hH4 : upd _ p4 (.tup ms) = H4 at s4 v4 hf4 ⊢
    have v5 := v4.snoc DT.non
    clear hH4 v2 v3 v4 d1 s0' s1 s2 s3 C3
    refine ⟨9, rfl, by decide, by decide, fun Dp nDp => lc_newR (n := 9) (fun (j : Nat) => .tuple [.str (cn ++ ts (0 + (j : Int))), .list []]) hf4 nDp (by decide) ?_ ?_⟩
    · intro j H' Q' hj s' k ⟨zs, hz⟩
      have lts := ts_len j (by omega)
      refine ⟨_, rfl, _, rfl, _, rfl, log_100 (by omega), _, _, rfl, rfl, (show cn.length + (ts (0 + (j : Int))).length ≤ sizeLine from Nat.le_of_lt (small1000 (by omega))), ?_⟩
      refine ⟨(show 0 ≤ sizeLine by decide), fun l nl => ⟨(show 2 ≤ sizeLine by decide), fun tt nt => ?_⟩⟩
      have hf' := s' _ _ hf4
      refine k _ _ ((same_new nl).trans (same_new nt)) (.tup (hid_at ?_ upd_same) (.cons (.str _) (.cons (.lst (hid_at ?_ (same_new nt _ _ upd_same)) .nil) .nil)))
      · have e1 := ne_of_none (same_new (o := .lst []) nl _ _ hf') nt
        have e2 := ne_of_none (same_new (o := .lst []) nl _ _ hz) nt
        simp [e1.symm, e2.symm]
      · have e1 := ne_of_none hf' nl
        have e2 := ne_of_none hz nl
        simp [e1.symm, e2.symm]
    · intro H5 zs s5 hz dz9
      have hf5 := s5 _ _ hf4
      have e9 : ((List.range 9).map fun (j : Nat) => PyData.tuple [.str (cn ++ ts (0 + (j : Int))), .list []]) = nine cn := by
        simp only [Int.zero_add]
        rfl
      rw [e9] at dz9
      have nDf : Dp ≠ fp := (ne_of_none hf4 nDp).symm
      have v6 := (v5.up s5).snoc (DT.lst (hid_at (nin1 nDf) hz) dz9)
      have C5 := C.up (s4.trans s5)
      refine ⟨_, rfl, _, rfl, (show 2 ≤ sizeLine by decide), fun b1 nb1 => ⟨(show 1 ≤ sizeLine by decide), fun b2 nb2 => ?_⟩⟩
      have w1 : Same H5 _ := same_new (o := .lst [.str cn, .ref zp]) nb1
      have g1 := dt_lst hf5 nb1 (.cons (.str cn) (.cons C5.dz .nil))
      have w2 := w1.trans (same_new (o := .lst [.ref b1]) nb2)
      have v7 := (v6.up w2).snoc (dt_lst (w1 _ _ hf5) nb2 (.cons g1 .nil))
      refine ⟨_, rfl, (show 1 ≤ sizeLine by decide), fun b3 nb3 => ⟨(show 1 ≤ sizeLine by decide), fun b4 nb4 => ?_⟩⟩
      have w3 := w2.trans (same_new (o := .tup [.str cn]) nb3)
      have g3 := dt_tup (w2 _ _ hf5) nb3 (.cons (.str cn) .nil)
      have w4 := w3.trans (same_new (o := .lst [.ref b3]) nb4)
      have v8 := (v7.up ((same_new (o := .tup [.str cn]) nb3).trans (same_new (o := .lst [.ref b3]) nb4))).snoc (dt_lst (w3 _ _ hf5) nb4 (.cons g3 .nil))
      refine ⟨(show 8 ≤ sizeLine by decide), fun ol nol => ?_⟩
      have nolf : ol ≠ fp := (ne_of_none (w4 _ _ hf5) nol).symm
      have s9 := (s4.trans s5).trans (w4.trans (same_new (o := .lst [.ref p1, .ref p2, .ref p3, .ref p4, .non, .ref Dp, .ref b2, .ref b4]) nol))
      have v9 := v8.up (same_new (o := .lst [.ref p1, .ref p2, .ref p3, .ref p4, .non, .ref Dp, .ref b2, .ref b4]) nol)
      refine ⟨ol, rfl, ⟨_, SqL.of upd_same⟩, for_list (LI g kp mp zp fp i nm cn xs ms (kd L wn) (mkE cn zd rest) zd ol [.ref p1, .ref p2, .ref p3, .ref p4, .non, .ref Dp, .ref b2, .ref b4] (odds3 cn zd rest) H2 42 1)
        ⟨⟨_, rfl⟩, C.up s9, F.same s9, v9, upd_same, k3.trans (same_keep s9)⟩ (fun j σ H' _ h => SqL.of h.2.2.2.2.1) ?_ ?_⟩
      · clear s4 v5 v6 v7 v8 v9 s5 s9 w1 w2 w3 w4 g1 g3 C5
        rintro j x σ H6 hx ⟨⟨x9, rfl⟩, C, F, dv, hol, k3⟩
        have hj : j < 8 := (List.getElem?_eq_some_iff.mp hx).1
        obtain ⟨d, hd⟩ : ∃ d, (odds3 cn zd rest)[j]? = some d := ⟨(odds3 cn zd rest)[j]'hj, List.getElem?_eq_getElem hj⟩
        have dx := dv.get hx hd
        have hdm := List.mem_of_getElem? hd
        obtain ⟨fs, hf, lf⟩ := F.at_
        refine ⟨_, rfl, .inl ⟨rfl, _, SqL.of hf⟩, put_ok (kp := kp) (fp := fp) (xs := xs) (d := .tuple [.str "choice", .str nm, d]) rfl rfl C.hk hf C.dk (by omega) (by omega) (fun H7 R s7 k => ?_) (fun p H7 s7 dp => ?_)⟩
        · refine ⟨_, rfl, _, rfl, _, rfl, (show 3 ≤ sizeLine by decide), fun tt ht => ?_⟩
          exact k _ _ (same_new ht) (dt_tup (s7 _ _ hf) ht (.cons (.str _) (.cons (.str _) (.cons (dx.up s7) .nil))))
        · refine ⟨fp, fs, _, rfl, rfl, s7 _ _ hf, small1000 (by omega), ?_⟩
          have F7 := F.add s7 (s7 _ _ hf) dp (bad3 E hdm)
          have k7 : Keep [fp] H6 (upd H7 fp (.lst (fs ++ [.ref p]))) := (same_keep s7).trans (keep_upd (by simp))
          exact ⟨⟨_, rfl⟩, C.keep k7, F7.mono (by omega), dv.same k7.hid _, k7 _ _ (nin1 nolf) hol, k3.trans k7⟩
      -- the fourth loop
      clear s4 v5 v6 v7 v8 v9 s5 s9 w1 w2 w3 w4 g1 g3 C5 hf0 hf5 hf4
      rintro σ H3 ⟨⟨x9, rfl⟩, C, F, _, _, k3⟩
      obtain ⟨fs0, hf0, lf0⟩ := F.at_
      refine ⟨_, rfl, _, rfl, (show 3 ≤ sizeLine by decide), fun q1 m1 => ?_⟩
      have s1 : Same H3 _ := same_new (o := .tup [.str "choose", .str nm, .ref mp]) m1
      have v1 := DTs.cons (dt_tup hf0 m1 (.cons (.str "choose") (.cons (.str nm) (.cons C.dmk .nil)))) .nil
      have C1 := C.up s1
      refine ⟨_, rfl, _, rfl, _, rfl, (show 3 ≤ sizeLine by decide), fun q2 m2 => ?_⟩
      have s2 := s1.trans (same_new (o := .lst [.str "choice", .str nm, .ref mp]) m2)
      have v2 := (v1.up (same_new (o := .lst [.str "choice", .str nm, .ref mp]) m2)).snoc (dt_lst (s1 _ _ hf0) m2 (.cons (.str "choice") (.cons (.str nm) (.cons C1.dmk .nil))))
      have C2 := C.up s2
      refine ⟨_, rfl, _, rfl, (show 2 ≤ sizeLine by decide), fun q3 m3 => ?_⟩
      have s3 := s2.trans (same_new (o := .tup [.str "choice", .str nm]) m3)
      have v3 := (v2.up (same_new (o := .tup [.str "choice", .str nm]) m3)).snoc (dt_tup (s2 _ _ hf0) m3 (.cons (.str "choice") (.cons (.str nm) .nil)))
      have C3 := C.up s3
      refine ⟨_, rfl, _, rfl, _, rfl, (show 4 ≤ sizeLine by decide), fun q4 m4 => ?_⟩
      have s4 := s3.trans (same_new (o := .tup [.str "choice", .str nm, .ref mp, .str "num"]) m4)
      have v4 := (v3.up (same_new (o := .tup [.str "choice", .str nm, .ref mp, .str "num"]) m4)).snoc (dt_tup (s3 _ _ hf0) m4 (.cons (.str "choice") (.cons (.str nm) (.cons C3.dmk (.cons (.str "num") .nil)))))
      refine ⟨_, rfl, (show 0 ≤ sizeLine by decide), fun q5 m5 => ⟨(show 4 ≤ sizeLine by decide), fun q6 m6 => ?_⟩⟩
      have s5 := s4.trans (same_new (o := .lst []) m5)
      have g5 := dt_lst (s4 _ _ hf0) m5 .nil
      have s6 := s5.trans (same_new (o := .tup [.str "calls", .str nm, .ref q5, .non]) m6)
      have v6 := (v4.up ((same_new (o := .lst []) m5).trans (same_new (o := .tup [.str "calls", .str nm, .ref q5, .non]) m6))).snoc (dt_tup (s5 _ _ hf0) m6 (.cons (.str "calls") (.cons (.str nm) (.cons g5 (.cons .non .nil)))))
      refine ⟨_, rfl, (show 0 ≤ sizeLine by decide), fun q7 m7 => ⟨(show 3 ≤ sizeLine by decide), fun q8 m8 => ?_⟩⟩
      have s7 := s6.trans (same_new (o := .lst []) m7)
      have g7 := dt_lst (s6 _ _ hf0) m7 .nil
      have s8 := s7.trans (same_new (o := .tup [.str "calls", .str nm, .ref q7]) m8)
      have v8 := (v6.up ((same_new (o := .lst []) m7).trans (same_new (o := .tup [.str "calls", .str nm, .ref q7]) m8))).snoc (dt_tup (s7 _ _ hf0) m8 (.cons (.str "calls") (.cons (.str nm) (.cons g7 .nil))))
      refine ⟨(show 6 ≤ sizeLine by decide), fun ol nol => ?_⟩
      have nolf : ol ≠ fp := (ne_of_none (s8 _ _ hf0) nol).symm
      have s9 := s8.trans (same_new (o := .lst [.ref q1, .ref q2, .ref q3, .ref q4, .ref q6, .ref q8]) nol)
      have v9 := v8.up (same_new (o := .lst [.ref q1, .ref q2, .ref q3, .ref q4, .ref q6, .ref q8]) nol)
      refine ⟨ol, rfl, ⟨_, SqL.of upd_same⟩, for_list (LI g kp mp zp fp i nm cn xs ms (kd L wn) (mkE cn zd rest) zd ol [.ref q1, .ref q2, .ref q3, .ref q4, .ref q6, .ref q8] (odds4 nm cn zd rest) H2 50 1)
        ⟨⟨_, rfl⟩, C.up s9, F.same s9, v9, upd_same, k3.trans (same_keep s9)⟩ (fun j σ H' _ h => SqL.of h.2.2.2.2.1) ?_ ?_⟩
      · clear s1 v1 C1 s2 v2 C2 s3 v3 C3 s4 v4 s5 g5 s6 v6 s7 g7 s8 v8 s9 v9
        rintro j x σ H6 hx ⟨⟨x9, rfl⟩, C, F, dv, hol, k3⟩
        have hj : j < 6 := (List.getElem?_eq_some_iff.mp hx).1
        obtain ⟨d, hd⟩ : ∃ d, (odds4 nm cn zd rest)[j]? = some d := ⟨(odds4 nm cn zd rest)[j]'hj, List.getElem?_eq_getElem hj⟩
        have dx := dv.get hx hd
        have hdm := List.mem_of_getElem? hd
        obtain ⟨fs, hf, lf⟩ := F.at_
        refine ⟨_, rfl, .inl ⟨rfl, _, SqL.of hf⟩, put_ok (kp := kp) (fp := fp) (xs := xs) (d := d) rfl rfl C.hk hf C.dk (by omega) (by omega) (fun H7 R s7 k => ?_) (fun p H7 s7 dp => ?_)⟩
        · exact ⟨_, rfl, k _ _ (Same.refl _) (dx.up s7)⟩
        · refine ⟨fp, fs, _, rfl, rfl, s7 _ _ hf, small1000 (by omega), ?_⟩
          have F7 := F.add s7 (s7 _ _ hf) dp (bad4 E hdm)
          have k7 : Keep [fp] H6 (upd H7 fp (.lst (fs ++ [.ref p]))) := (same_keep s7).trans (keep_upd (by simp))
          exact ⟨⟨_, rfl⟩, C.keep k7, F7.mono (by omega), dv.same k7.hid _, k7 _ _ (nin1 nolf) hol, k3.trans k7⟩
      -- the wide one
      clear s1 v1 C1 s2 v2 C2 s3 v3 C3 s4 v4 s5 g5 s6 v6 s7 g7 s8 v8 s9 v9 hf0
      rintro σ H3 ⟨⟨x9, rfl⟩, C, F, _, _, k3⟩
      obtain ⟨fs, bs, hf0, dfs, hbs, lf0⟩ := F.ex
      have lf : fs.length ≤ 56 := lf0
      refine ⟨13, rfl, by decide, by decide, fun Dw nDw => lc_newR (n := 13) (fun (j : Nat) => wideD (0 + (j : Int))) hf0 nDw (by decide) ?_ ?_⟩
      · intro j H' Q' hj s' k ⟨zs, hz⟩
        have lts := ts_len j hj
        have hf' := s' _ _ hf0
        refine ⟨_, rfl, _, rfl, log_100 (by omega), _, _, rfl, rfl, (show 1 + (ts (0 + (j : Int))).length ≤ sizeLine from Nat.le_of_lt (small1000 (by omega))), ?_⟩
        refine ⟨_, rfl, _, rfl, log_100 (by omega), _, _, rfl, rfl, (show 1 + (ts (0 + (j : Int))).length ≤ sizeLine from Nat.le_of_lt (small1000 (by omega))), ?_⟩
        refine ⟨(show 0 ≤ sizeLine by decide), fun l1 n1 => ⟨(show 2 ≤ sizeLine by decide), fun l2 n2 => ⟨(show 1 ≤ sizeLine by decide), fun l3 n3 => ⟨(show 3 ≤ sizeLine by decide), fun l4 n4 => ?_⟩⟩⟩⟩
        have s1 : Same H' _ := same_new (o := .lst []) n1
        have s2 := s1.trans (same_new (o := .tup [.str ("m" ++ ts (0 + (j : Int))), .ref l1]) n2)
        have s3 := s2.trans (same_new (o := .lst [.ref l2]) n3)
        have s4 := s3.trans (same_new (o := .tup [.str "choice", .str ("k" ++ ts (0 + (j : Int))), .ref l3]) n4)
        have w3 := same_new (o := .tup [.str "choice", .str ("k" ++ ts (0 + (j : Int))), .ref l3]) n4
        have w2 := (same_new (o := .lst [.ref l2]) n3).trans w3
        have w1 := (same_new (o := .tup [.str ("m" ++ ts (0 + (j : Int))), .ref l1]) n2).trans w2
        have ni : ∀ {l : Addr} {H0 : Hp}, Same H' H0 → H0 l = none → l ∉ [fp, Dw] := fun s e => by
          have e1 := ne_of_none (s _ _ hf') e
          have e2 := ne_of_none (s _ _ hz) e
          simp [e1.symm, e2.symm]
        refine k _ _ s4 (.tup (hid_at (ni s3 n4) upd_same) (.cons (.str _) (.cons (.str _) (.cons (.lst (hid_at (ni s2 n3) (w3 _ _ upd_same)) (.cons (.tup (hid_at (ni s1 n2) (w2 _ _ upd_same)) (.cons (.str _) (.cons (.lst (hid_at (ni (Same.refl _) n1) (w1 _ _ upd_same)) .nil) .nil))) .nil)) .nil))))
      · intro H5 zs s5 hz dz9
        have hf5 := s5 _ _ hf0
        have e9 : ((List.range 13).map fun (j : Nat) => wideD (0 + (j : Int))) = wideL := by
          simp only [Int.zero_add]
          rfl
        rw [e9] at dz9
        have lz : zs.length = 13 := dz9.length
        have nDf : Dw ≠ fp := (ne_of_none hf0 nDw).symm
        have C5 := C.up s5
        -- what is handed back
        refine ⟨_, rfl, _, rfl, _, rfl, 1, rfl, kp, _, rfl, SqL.of C5.hk, fun a0 na0 => ?_⟩
        rw [show (1 : Int) = ((1 : Nat) : Int) from rfl, cut_to (xs := xs) (by omega)]
        refine ⟨kp, a0, _, _, rfl, rfl, same_new na0 _ _ C5.hk, upd_same, (show xs.length + (xs.take 1).length ≤ sizeLine from Nat.le_of_lt (small1000 (by rw [List.length_take]; omega))), fun p1 m1 => ?_⟩
        have s0' : Same H5 _ := same_new (o := .lst (xs.take 1)) na0
        have s1 := s0'.trans (same_new (o := .lst (xs ++ xs.take 1)) m1)
        have v1 := DTs.cons (dt_lst (s0' _ _ hf5) m1 ((C5.dk.up s0').app ((C5.dk.up s0').take 1))) .nil
        have C1 := C5.up s1
        refine ⟨_, rfl, kp, _, rfl, .inl ⟨SqL.of C1.hk, fun p2 m2 => ?_⟩⟩
        have s2 := s1.trans (same_new (o := .tup xs) m2)
        have v2 := ((v1.up (same_new (o := .tup xs) m2)).snoc (dt_tup (s1 _ _ hf5) m2 C1.dk)).snoc DT.non
        have C2 := C5.up s2
        obtain ⟨x0, hx0⟩ : ∃ x0, xs[0]? = some x0 := ⟨xs[0]'(by omega), List.getElem?_eq_getElem (by omega)⟩
        have hd0 : (kd L wn)[0]? = some (ch (L.headD ("", [], []))) := by
          cases hL : L with
          | nil => rw [hL] at ln; simp at ln
          | cons c' r => rfl
        refine ⟨_, rfl, kp, _, _, x0, rfl, rfl, SqL.of C2.hk, (show atI xs ((0 : Nat) : Int) = _ from atI_nat hx0), ?_⟩
        have v3 := v2.snoc (C2.dk.get hx0 hd0)
        have hz2 := s2 _ _ hz
        have v4 := v3.snoc (DT.lst (hid_at (nin1 nDf) hz2) (dz9.up s2))
        refine ⟨_, rfl, _, rfl, 12, rfl, Dw, _, rfl, SqL.of hz2, fun a1 na1 => ?_⟩
        rw [show (12 : Int) = ((12 : Nat) : Int) from rfl, cut_to (xs := zs) (by omega)]
        refine ⟨(show 1 ≤ sizeLine by decide), fun a2 na2 => ?_⟩
        refine ⟨a1, a2, _, _, rfl, rfl, same_new na2 _ _ upd_same, upd_same, (show (zs.take 12).length + 1 ≤ sizeLine from Nat.le_of_lt (small1000 (by rw [List.length_take]; omega))), fun p6 m6 => ?_⟩
        have s3 := s2.trans (same_new (o := .lst (zs.take 12)) na1)
        have s4 := s3.trans (same_new (o := .lst [.non]) na2)
        have s6 := s4.trans (same_new (o := .lst (zs.take 12 ++ [.non])) m6)
        have v6 := (v4.up (((same_new (o := .lst (zs.take 12)) na1).trans (same_new (o := .lst [.non]) na2)).trans (same_new (o := .lst (zs.take 12 ++ [.non])) m6))).snoc (dt_lst (s4 _ _ hf5) m6 (((dz9.up s4).take 12).app (.cons .non .nil)))
        refine ⟨_, rfl, (show 1 ≤ sizeLine by decide), fun b1 nb1 => ⟨(show 4 ≤ sizeLine by decide), fun b2 nb2 => ⟨(show 1 ≤ sizeLine by decide), fun b3 nb3 => ?_⟩⟩⟩
        have t1 := s6.trans (same_new (o := .lst [.str "num"]) nb1)
        have g1 := dt_lst (s6 _ _ hf5) nb1 (.cons (.str "num") .nil)
        have t2 := t1.trans (same_new (o := .tup [.str "calls", .str "more", .ref b1, .str "gone"]) nb2)
        have g2 := dt_tup (t1 _ _ hf5) nb2 (.cons (.str "calls") (.cons (.str "more") (.cons g1 (.cons (.str "gone") .nil))))
        have t3 := t2.trans (same_new (o := .lst [.ref b2]) nb3)
        have C3 := C5.up t3
        refine ⟨kp, b3, _, _, rfl, rfl, C3.hk, upd_same, (show xs.length + 1 ≤ sizeLine from Nat.le_of_lt (small1000 (by omega))), fun p7 m7 => ?_⟩
        have t4 := t3.trans (same_new (o := .lst (xs ++ [.ref b2])) m7)
        have v7 := (v6.up ((((same_new (o := .lst [.str "num"]) nb1).trans (same_new (o := .tup [.str "calls", .str "more", .ref b1, .str "gone"]) nb2)).trans (same_new (o := .lst [.ref b2]) nb3)).trans (same_new (o := .lst (xs ++ [.ref b2])) m7))).snoc (dt_lst (t3 _ _ hf5) m7 (C3.dk.app (.cons (g2.up (same_new nb3)) .nil)))
        refine fun p8 m8 => ?_
        have t5 := t4.trans (same_new (o := .dK []) m8)
        have n8 : p8 ≠ fp := (ne_of_none (t4 _ _ hf5) m8).symm
        have v8 := (v7.up (same_new (o := .dK []) m8)).snoc (DT.dct (hid_at (nin1 n8) upd_same))
        refine ⟨(show 8 ≤ sizeLine by decide), fun ll nll => ?_⟩
        have t6 := t5.trans (same_new (o := .lst [.ref p1, .ref p2, .non, x0, .ref Dw, .ref p6, .ref p7, .ref p8]) nll)
        refine ⟨fp, ll, fs, _, rfl, rfl, t6 _ _ hf5, upd_same, (show fs.length + 8 ≤ sizeLine from Nat.le_of_lt (small1000 (by omega))), fun p np => ?_⟩
        have t7 := t6.trans (same_new (o := .lst (fs ++ [.ref p1, .ref p2, .non, x0, .ref Dw, .ref p6, .ref p7, .ref p8])) np)
        have all := ((dfs.up (s5.trans t7)).app (v8.up ((same_new (o := .lst [.ref p1, .ref p2, .non, x0, .ref Dw, .ref p6, .ref p7, .ref p8]) nll).trans (same_new (o := .lst (fs ++ [.ref p1, .ref p2, .non, x0, .ref Dw, .ref p6, .ref p7, .ref p8])) np)))).same hid_same _
        refine q p _ _ (bs ++ lasts L wn) upd_same all ?_ ?_ (kH (k3.trans (same_keep (s5.trans t7))))
        · intro b hb
          rcases List.mem_append.mp hb with hb | hb
          · exact hbs b hb
          · exact bad_lasts D b hb
        · rw [List.length_append]
          show fs.length + 8 ≤ 200
          omega

end
end Cb
set_option Elab.async false
set_option linter.all false
set_option maxRecDepth 100000
set_option maxHeartbeats 8000000
namespace Cb
open PySem PySem.Spec PyProof.Rows L2
def wide2D (i : Int) : PyData := .tuple [.str "choice", .str ("k" ++ ts i), .list ((List.range 8).map fun (a : Nat) => .tuple [.str ((("m" : Str) ++ ts i) ++ "x" ++ ts (a : Int)), .list [.str "num", .str "num", .str "num", .str "num"]])]
def wide2L : List PyData := (List.range 12).map fun (j : Nat) => wide2D (j : Int)
theorem wide2_kinds : isKinds (.list wide2L) = true := by decide +kernel
theorem wide2_fit : fit W6 (.list wide2L) = true := by decide +kernel
theorem r_sized {K : PySem.W.Frag} {u : Nat} {H : Hp} {Q : VK} {v : V} {d : PyData} (h : DT H v d) (z : Sized d) (hu : u + 200 < cLine) (q : Q (.str (PyData.shown d)) H) : rRep2 K u [v] H Q := by
  unfold rRep2
  rcases z with rfl | ⟨ws, f, l, b⟩
  · cases h with
    | dct e => exact .inr ⟨_, rfl, e, hu, q⟩
  · exact .inl (r_fits h f l b hu q)
theorem Sized.ok {d : PyData} (z : Sized d) : OKd d ∨ d = .dict [] := by
  rcases z with rfl | ⟨ws, f, l, b⟩
  · exact .inr rfl
  · exact .inl (f.ok l)
theorem same_of {g : Addr} {H H' : Hp} (k : Keep [g] H H') (h : H g = none) : Same H H' := fun b o e => k b o (nin1 (ne_of_none e h)) e
end Cb
namespace Cb
open PySem PySem.Spec PyProof.Rows L2
theorem DTs.rev {H : Hp} : ∀ {ds : List PyData} {xs : List V}, DTs H xs ds → DTs H xs.reverse ds.reverse
  | [], _, h => by cases h; exact .nil
  | d :: ds, _, h => by
    cases h with
    | cons a r =>
      rw [List.reverse_cons, List.reverse_cons]
      exact DTs.snoc (DTs.rev (ds := ds) r) a
theorem hid_nil {H : Hp} : hid [] H = H := by
  funext b
  unfold hid
  rw [if_neg (by simp)]
/-- [.. for i in range(n)], new things each -/
theorem lc_newS (S : List Addr) {n : Nat} {te : TE} {i : Nat} {σ : L2.St} {H1 : Hp} {D : Addr} {Qd : Hp → Prop} (f : Nat → PyData) (hD : H1 D = none) (small : n < 1000)
    (hs : ∀ (j : Nat) (H' : Hp) (Q : VK), j < n → Same H1 H' → (∃ zs, H' D = some (.lst zs)) → (∀ (v : V) (H2 : Hp), Same H' H2 → DT (hid (D :: S) H2) v (f j) → Q v H2) → te ((wipe σ [i]).set i (some (.int (0 + (j : Int))))) H' Q)
    (hd : ∀ (H' : Hp) (zs : List V), Same H1 H' → H' D = some (.lst zs) → DTs (hid S H') zs ((List.range n).map f) → Qd H') :
    ∃ W : Nat → Nat → Hp → Prop, (∃ m, W 0 m (upd H1 D (.lst []))) ∧ ∀ k m' H, W k m' H →
      ((Itr 0 n).stop k H ∧ Qd H) ∨ ((Itr 0 n).go k H ∧ ∃ Nx : Hp → Prop, (∀ H', Nx H' → ∃ m'', m'' < m' ∧ W (k + 1) m'' H') ∧ ∀ x H', (Itr 0 n).yld k H x H' → gName i x (wipe σ [i]) H' fun σ2 H2 => wipe σ2 [i] = wipe σ [i] ∧ tYes σ2 H2 fun b H3 =>
        if b = true then te σ2 H3 fun y H4 => ∃ acc, H4 D = some (.lst acc) ∧ acc.length < sizeLine ∧ Nx (upd H4 D (.lst (acc ++ [y]))) else Nx H3) := by
  have sn : Same H1 (upd H1 D (.lst [])) := same_new hD
  refine lc_it walk_range (fun j H' => Same H1 H' ∧ ∃ zs : List V, H' D = some (.lst zs) ∧ DTs (hid (D :: S) H') zs ((List.range j).map f)) ⟨sn, [], upd_same, .nil⟩ (fun _ _ _ _ => trivial) ?_ ?_
  · rintro j x H H' hj ⟨s1, zs, hz, dz⟩ ⟨rfl, rfl⟩
    refine ⟨?_, ?_⟩
    · show ((wipe σ [i]).set i (some _)).set i none = wipe σ [i]
      show ((σ.set i none).set i (some _)).set i none = σ.set i none
      rw [List.set_set, List.set_set]
    · show te ((wipe σ [i]).set i (some _)) H' _
      refine hs j H' _ hj s1 ⟨zs, hz⟩ ?_
      intro v H2 s2 dv
      have lz : zs.length = j := by
        have := dz.length
        rwa [List.length_map, List.length_range] at this
      refine ⟨zs, s2 _ _ hz, small1000 (by omega), ?_, zs ++ [v], upd_same, ?_⟩
      · intro b o e
        rw [upd_ne (ne_of_none e hD)]
        exact s2 _ _ (s1 _ _ e)
      · rw [List.range_succ, List.map_append]
        have k : Keep (D :: S) H2 (upd H2 D (.lst (zs ++ [v]))) := keep_upd (by simp)
        exact DTs.snoc ((dz.same (Keep.hid (same_keep s2)) _).same k.hid _) (dv.same k.hid _)
  · rintro H' ⟨s1, zs, hz, dz⟩
    exact hd H' zs s1 hz (dz.same (hid_mono (S := S) (S' := D :: S) (fun b hb => List.mem_cons_of_mem _ hb)) _)
theorem wid_len : ∀ j : Nat, j < 12 → (("m" : Str) ++ ts (0 + (j : Int))).length ≤ 10 ∧ ((("m" : Str) ++ ts (0 + (j : Int))) ++ "x").length ≤ 10 := by
  have : ((List.range 12).all fun (j : Nat) => decide ((("m" : Str) ++ ts (0 + (j : Int))).length ≤ 10) && decide (((("m" : Str) ++ ts (0 + (j : Int))) ++ "x").length ≤ 10)) = true := by decide +kernel
  intro j hj
  have h := Bool.and_eq_true_iff.mp (List.all_eq_true.mp this j (List.mem_range.mpr hj))
  exact ⟨of_decide_eq_true h.1, of_decide_eq_true h.2⟩
theorem nin2 {a b c : Addr} (h : a ≠ b) (h2 : a ≠ c) : a ∉ [b, c] := by simp [h, h2]
/-- the last four -/
def e1D : PyData := .list []
def e2D : PyData := .list [.tuple [.str "calls", .str "f", .list [], .str "f"]]
def e3D : PyData := .list [.tuple [.str "choice", .str (manyS "a" 30), .list [.tuple [.str "nil", .list []]]]]
def e4D : PyData := .list [.tuple [.str "choice", .str "list", .list [.tuple [.str "list", .list [.str "list"]]]]]
theorem e_ok : (isKinds e1D = true ∧ isKinds e2D = true ∧ isKinds e3D = true ∧ isKinds e4D = true) ∧ fit W6 e1D = true ∧ fit W6 e2D = true ∧ fit W6 e3D = true ∧ fit W6 e4D = true := by decide +kernel
end Cb
set_option Elab.async false
set_option linter.all false
set_option maxRecDepth 100000
set_option maxHeartbeats 16000000
namespace Cb
open PySem PySem.Spec PyProof.Rows L2
abbrev s_law : Stmt := topS 29
abbrev NL : List Str := ["_law_script", "_law_index", "_law_generator_here", "_law_kinds", "_law_kept", "_law_bad", "_law_before", "_law_wide", "_law_at", "_law_number"]
theorem sc_law : FnScope NL ["_law_script"] (defScope s_law) := ⟨rfl, rfl, rfl, by decide +kernel, rfl, by decide +kernel, by decide +kernel⟩
abbrev scW : Scope := { kind := .function, names := [(".0", .local), ("_law_number", .cell), ("str", .globalImplicit), ("range", .globalImplicit)], isGenerator := false, isCoroutine := false }
structure TLaw (K : PySem.W.Frag) (w : World) (mg : Str → Option Value) : Prop where
  tb : TBent K w mg
  b_repr : mg "repr" = none
section
variable {P : Program} {w : World} {K : PySem.W.Frag} {mg : Str → Option Value} {base : Heap}
def sp_law (K : PySem.W.Frag) : Sp := fun vs H Q _ => ∃ (p : Addr) (ns : List Int), vs = [.ref p] ∧ SqL K H p (ns.map V.int) ∧ ∀ H', Q (.bl true) H'
theorem neN {x : V} {A B : Prop} (b : B) : if (!decide (x = x)) = true then A else B := by
  rw [decide_eq_true rfl]
  exact iteF b
theorem nbT {b c : Bool} {A B : Prop} (e : b = c) (h : B) : if (!decide (b = c)) = true then A else B := by
  rw [decide_eq_true e]
  exact iteF h
theorem c_law (T : TLaw K w mg) {fl : Addr} {fdl : FuncData} (F : Fun K "law" "law" s_law fl fdl) : FnG P w K mg base CX0 9 fl fdl ["_law_script"] (sp_law K) := by
  refine fnG F sc_law (fun vs H Q E h => ?_) (fun f cdv A outer s H vs Q E ga hr h => ?_)
  · obtain ⟨_, _, rfl, _⟩ := h; rfl
  refine ⟨_, (pss_cons (ps_for PassesOwn.never rfl (pi_range1 (by rfl) T.tb.td.tg.b_range (pa_cons pe_int pa_nil)) (pg_name (i := 1) sc_law.nd rfl (by first | exact .inl rfl | exact .inr rfl)) (pss_cons (ps_set (i := 2) sc_law.nd rfl (by first | exact .inl rfl | exact .inr rfl) (pe_s (c_l_generator T.tb.td.tg) hr (pa_cons (pv 0) (pa_cons (pv 1) pa_nil))))
    (pss_cons (ps_set (i := 3) sc_law.nd rfl (by first | exact .inl rfl | exact .inr rfl) (pe_s (c_l_drawn_kinds T.tb.td) hr (pa_cons (pv 2) pa_nil)))
    (pss_cons (ps_set (i := 4) sc_law.nd rfl (by first | exact .inl rfl | exact .inr rfl) (pe_callB (call_repr2 ga) (by rfl) T.b_repr (by decide +kernel) (pa_cons (pv 3) pa_nil)))
    (pss_cons (ps_if (PW.pt (pw_or (pt_cmpR op_notBl (pe_s (c_is_kinds T.tb.td.tk) hr (pa_cons (pv 3) pa_nil)) pe_bl (nomark _)) (pw_or (pt_cmpR op_notBl (pe_k0 (k_is_kinds T.tb.td.tk) hr (pk_cons (pv 3) pk_nil)) pe_bl (nomark _)) (pw_or (pt_cmpR op_notBl (pe_s (c_is_kinds T.tb.td.tk) hr (pa_cons (pe_revL (pv 3)) pa_nil)) pe_bl (nomark _)) (pw_or1 (pt_cmpR op_ne (pe_callB (call_repr2 ga) (by rfl) T.b_repr (by decide +kernel) (pa_cons (pv 3) pa_nil)) (pv 4) (nomark _)))))))
        (pss_one (ps_ret pe_bl))
        pss_nil)
    (pss_one (ps_for PassesOwn.never rfl (pi_list (pe_s (c_l_bent T.tb) hr (pa_cons (pv 2) (pa_cons (pv 3) pa_nil)))) (pg_name (i := 5) sc_law.nd rfl (by first | exact .inl rfl | exact .inr rfl)) (pss_cons (ps_set (i := 6) sc_law.nd rfl (by first | exact .inl rfl | exact .inr rfl) (pe_callB (call_repr2 ga) (by rfl) T.b_repr (by decide +kernel) (pa_cons (pv 5) pa_nil)))
    (pss_one (ps_if (PW.pt (pw_or (pt_cmpR op_notBl (pe_s (c_is_kinds T.tb.td.tk) hr (pa_cons (pv 5) pa_nil)) pe_bl (nomark _)) (pw_or1 (pt_cmpR op_ne (pe_callB (call_repr2 ga) (by rfl) T.b_repr (by decide +kernel) (pa_cons (pv 5) pa_nil)) (pv 6) (nomark _)))))
        (pss_one (ps_ret pe_bl))
        pss_nil))))))))))
    (pss_cons (ps_setLc (i := 7) (own := [("_law_number", 9)]) (g := gName 9) (tt := tYes) rfl sc_law.nd rfl rfl (sw_true rfl rfl rfl (by decide +kernel)) (pi_range1 (by rfl) T.tb.td.tg.b_range (pa_cons pe_int pa_nil)) (blkOk_by (N := NL) (sc := defScope s_law) (own := [("_law_number", 9)]) (by decide +kernel)) (fun _ _ _ _ _ => pg_name (i := 9) sc_law.nd rfl (by first | exact Or.inl rfl | exact Or.inr rfl)) (fun _ _ _ _ _ => pts_nil) (fun _ _ _ _ _ => (pe_tup (pa_cons pe_str (pa_cons (pe_op op_add_str pe_str (pe_callTy call_str_int (by rfl) T.tb.td.tk.tw.b_str (by decide +kernel) (pa_cons (pv 9) pa_nil))) (pa_cons (pe_lc (own := [("_law_at", 8)]) (g := gName 8) (tt := tYes) rfl sc_law.nd (pi_range1 (by rfl) T.tb.td.tg.b_range (pa_cons pe_int pa_nil)) (blkOk_by (N := NL) (sc := scW) (own := [("_law_at", 8)]) (by decide +kernel)) (fun _ _ _ _ _ => pg_name (i := 8) sc_law.nd rfl (by first | exact Or.inl rfl | exact Or.inr rfl)) (fun _ _ _ _ _ => pts_nil) (fun _ _ _ _ _ => (pe_tup (pa_cons (pe_op op_add_str (pe_op op_add_str (pe_op op_add_str pe_str (pe_callTy call_str_int (by rfl) T.tb.td.tk.tw.b_str (by decide +kernel) (pa_cons (pv 9) pa_nil))) pe_str) (pe_callTy call_str_int (by rfl) T.tb.td.tk.tw.b_str (by decide +kernel) (pa_cons (pv 8) pa_nil))) (pa_cons (pe_op op_rep (pe_lst (pa_cons pe_str pa_nil)) pe_int) pa_nil))))) pa_nil))))))
    (pss_cons (ps_if (PW.pt (pw_or (pt_cmpR op_notBl (pe_s (c_is_kinds T.tb.td.tk) hr (pa_cons (pv 7) pa_nil)) pe_bl (nomark _)) (pw_or (pt_cmpR op_notBl (pe_s (c_is_kinds T.tb.td.tk) hr (pa_cons (pe_lst pa_nil) pa_nil)) pe_bl (nomark _)) (pw_or1 (pt_cmpR op_notBl (pe_s (c_is_kinds T.tb.td.tk) hr (pa_cons (pe_lst (pa_cons (pe_tup (pa_cons pe_str (pa_cons pe_str (pa_cons (pe_lst pa_nil) (pa_cons pe_str pa_nil))))) pa_nil)) pa_nil)) pe_bl (nomark _))))))
        (pss_one (ps_ret pe_bl))
        pss_nil)
    (pss_one (ps_ret (pe_and (pe_cmpR op_isBl (pe_s (c_is_kinds T.tb.td.tk) hr (pa_cons (pe_lst (pa_cons (pe_tup (pa_cons pe_str (pa_cons (pe_op op_mul_strA pe_str pe_int) (pa_cons (pe_lst (pa_cons (pe_tup (pa_cons pe_str (pa_cons (pe_lst pa_nil) pa_nil))) pa_nil)) pa_nil)))) pa_nil)) pa_nil)) pe_bl (nomark _)) (pe_one (pe_cmpR op_isBl (pe_s (c_is_kinds T.tb.td.tk) hr (pa_cons (pe_lst (pa_cons (pe_tup (pa_cons pe_str (pa_cons pe_str (pa_cons (pe_lst (pa_cons (pe_tup (pa_cons pe_str (pa_cons (pe_lst (pa_cons pe_str pa_nil)) pa_nil))) pa_nil)) pa_nil)))) pa_nil)) pa_nil)) pe_bl (nomark _))))))))), ?_⟩
  obtain ⟨p, ns, rfl, hS, q⟩ := h
  have hu := hr.un
  have hu' : (A.deeper (envOfC "law" (defScope s_law) s.heap.objs.size f cdv)).units + 200 < cLine := by omega
  refine ⟨2, rfl, by decide, by decide, for_range (n := 2) (fun i σ H' => (∃ x1 x2 x3 x4 x5 x6 : Option V, σ = [some (.ref p), x1, x2, x3, x4, x5, x6, none, none, none]) ∧ Same H H') ⟨⟨none, none, none, none, none, none, rfl⟩, Same.refl _⟩ ?_ ?_⟩
  · rintro i σ H1 hi ⟨⟨x1, x2, x3, x4, x5, x6, rfl⟩, s1⟩
    refine ⟨_, rfl, _, rfl, p, ns, _, rfl, s1.seq hS, by omega, by omega, fun g a s0 H2 hg s2 hg2 => ?_⟩
    refine ⟨_, rfl, g, a, s0, _, rfl, hg2, by omega, by omega, fun kp xs L wn H3 D nkg nk2 hk dk k3 G3 => ?_⟩
    have s23 : Same H1 H3 := fun b o e => k3 b o (nin1 (ne_of_none e hg)) (s2 b o e)
    have dkl : DT H3 (.ref kp) (.list (kd L wn)) := .lst hk (dk.same hid_same _)
    have zk : Sized (.list (kd L wn)) := sized6 D.fits6
    refine ⟨_, rfl, r_sized dkl zk hu' ?_⟩
    refine ⟨_, rfl, .ref kp, _, rfl, dkl, zk.ok, fun H4 s4 => ⟨_, _, rfl, rfl, _, rfl, nbT (drawn_fine D) ?_⟩⟩
    refine ⟨_, rfl, .ref kp, _, rfl, dkl.same s4 _, zk.ok, fun H5 s5 => ⟨_, _, rfl, rfl, _, rfl, nbT (drawn_fine D) ?_⟩⟩
    have s35 := s4.trans s5
    refine ⟨_, rfl, kp, xs, rfl, SqL.of (s35 _ _ hk), fun pr npr => ?_⟩
    have s36 := s35.trans (same_new (o := .lst xs.reverse) npr)
    refine ⟨.ref pr, .list (kd L wn).reverse, rfl, .lst upd_same ((dk.same hid_same _).same s36 _).rev, (sized6 D.rfits6).ok, fun H7 s7 => ⟨_, _, rfl, rfl, _, rfl, nbT (drawn_fine_rev D) ?_⟩⟩
    have s37 := s36.trans s7
    refine ⟨_, rfl, r_sized (dkl.same s37 _) zk hu' ⟨_, rfl, rfl, _, rfl, neN ?_⟩⟩
    obtain ⟨a', t', hg3, l1, l2⟩ := G3
    refine ⟨_, rfl, _, rfl, g, kp, a', s0, t', xs, L, wn, rfl, s37 _ _ hg3, by omega, by omega, nkg, s37 _ _ hk, dk.same (Keep.hid (same_keep s37)) _, D, fun pb H8 fs bs hfs dfs hb lf k8 => ?_⟩
    have s18 : Same H1 H8 := fun b o e => k8 b o (nin1 (ne_of_none e hg)) (s37 b o (s23 b o e))
    refine ⟨pb, rfl, ⟨_, SqL.of hfs⟩, for_list (xs := fs) (fun j σ H' => (∃ x5 x6 : Option V, σ = [some (.ref p), some (.int (0 + (i : Int))), some (.ref g), some (.ref kp), some (.str (PyData.shown (.list (kd L wn)))), x5, x6, none, none, none]) ∧ Same H8 H') ⟨⟨_, _, rfl⟩, Same.refl _⟩ (fun j σ H' _ h => SqL.of (h.2 _ _ hfs)) ?_ ?_⟩
    · rintro j x σ H9 hx ⟨⟨x5, x6, rfl⟩, s9⟩
      have hj := (List.getElem?_eq_some_iff.mp hx).1
      have lb := dfs.length
      obtain ⟨d, hd⟩ : ∃ d, bs[j]? = some d := ⟨bs[j]'(by omega), List.getElem?_eq_getElem (by omega)⟩
      have dx := (dfs.get hx hd).same s9 _
      obtain ⟨bd, bz⟩ := hb d (List.mem_of_getElem? hd)
      refine ⟨_, rfl, r_sized dx bz hu' ?_⟩
      refine ⟨_, rfl, x, d, rfl, dx, bz.ok, fun H10 s10 => ⟨_, _, rfl, rfl, _, rfl, nbT bd ?_⟩⟩
      refine ⟨_, rfl, r_sized (dx.same s10 _) bz hu' ⟨_, rfl, rfl, _, rfl, neN ?_⟩⟩
      exact ⟨⟨_, _, rfl⟩, s9.trans s10⟩
    · rintro σ H9 ⟨⟨x5, x6, rfl⟩, s9⟩
      exact ⟨⟨_, _, _, _, _, _, rfl⟩, s1.trans (s18.trans s9)⟩
  · rintro σ H1 ⟨⟨x1, x2, x3, x4, x5, x6, rfl⟩, s1⟩
    refine ⟨12, rfl, by decide, by decide, fun Dw nDw => lc_newS [] (n := 12) (fun (j : Nat) => wide2D (0 + (j : Int))) nDw (by decide) ?_ ?_⟩
    · intro j H' Q' hj s' ⟨zs, hz⟩ k
      have lts := ts_len j (by omega)
      obtain ⟨w1, w2⟩ := wid_len j hj
      refine ⟨_, rfl, _, rfl, log_100 (by omega), _, _, rfl, rfl, (show 1 + (ts (0 + (j : Int))).length ≤ sizeLine from Nat.le_of_lt (small1000 (by omega))), ?_⟩
      refine ⟨8, rfl, by decide, by decide, fun D2 nD2 => lc_newS [Dw] (n := 8) (fun (b : Nat) => .tuple [.str ((("m" : Str) ++ ts (0 + (j : Int))) ++ "x" ++ ts (0 + (b : Int))), .list [.str "num", .str "num", .str "num", .str "num"]]) nD2 (by decide) ?_ ?_⟩
      · intro b H3 Q3 hb s3 ⟨ys, hy⟩ k3
        have lts2 := ts_len b (by omega)
        refine ⟨_, rfl, _, rfl, log_100 (by omega), _, _, rfl, rfl, (show 1 + (ts (0 + (j : Int))).length ≤ sizeLine from Nat.le_of_lt (small1000 (by omega))), ?_⟩
        refine ⟨_, _, rfl, rfl, (show (("m" : Str) ++ ts (0 + (j : Int))).length + 1 ≤ sizeLine from Nat.le_of_lt (small1000 (by omega))), ?_⟩
        refine ⟨_, rfl, _, rfl, log_100 (by omega), _, _, rfl, rfl, (show ((("m" : Str) ++ ts (0 + (j : Int))) ++ "x").length + (ts (0 + (b : Int))).length ≤ sizeLine from Nat.le_of_lt (small1000 (by omega))), ?_⟩
        refine ⟨(show 1 ≤ sizeLine by decide), fun l1 n1 => ⟨l1, 4, _, rfl, rfl, upd_same, by decide, by decide, (show 1 * 4 ≤ sizeLine by decide), fun l2 n2 => ⟨(show 2 ≤ sizeLine by decide), fun t n3 => ?_⟩⟩⟩
        have u1 : Same H3 _ := same_new (o := .lst [.str "num"]) n1
        have u2 := u1.trans (same_new (o := .lst (List.replicate (Int.toNat 4) [V.str "num"]).flatten) n2)
        have u3 := u2.trans (same_new (o := .tup [.str ((("m" : Str) ++ ts (0 + (j : Int))) ++ "x" ++ ts (0 + (b : Int))), .ref l2]) n3)
        have hzd := s3 _ _ hz
        have e1 := ne_of_none (u1 _ _ hy) n2
        have e2 := ne_of_none (u1 _ _ hzd) n2
        have e3 := ne_of_none (u2 _ _ hy) n3
        have e4 := ne_of_none (u2 _ _ hzd) n3
        refine k3 _ _ u3 (.tup (hid_at (nin2 e3.symm e4.symm) upd_same) (.cons (.str _) (.cons (.lst (hid_at (nin2 e1.symm e2.symm) (same_new n3 _ _ upd_same)) (.cons (.str _) (.cons (.str _) (.cons (.str _) (.cons (.str _) .nil))))) .nil)))
      · intro H5 ys s5 hy dy
        have eb : ((List.range 8).map fun (b : Nat) => PyData.tuple [.str ((("m" : Str) ++ ts (0 + (j : Int))) ++ "x" ++ ts (0 + (b : Int))), .list [.str "num", .str "num", .str "num", .str "num"]]) = (List.range 8).map fun (a : Nat) => .tuple [.str ((("m" : Str) ++ ts (0 + (j : Int))) ++ "x" ++ ts (a : Int)), .list [.str "num", .str "num", .str "num", .str "num"]] := by
          refine List.map_congr_left fun b _ => ?_
          rw [Int.zero_add (b : Int)]
        rw [eb] at dy
        refine ⟨(show 3 ≤ sizeLine by decide), fun t nt => ?_⟩
        have n1 : D2 ≠ Dw := (ne_of_none hz nD2).symm
        have n2 : t ≠ Dw := (ne_of_none (s5 _ _ hz) nt).symm
        refine k _ _ (s5.trans (same_new nt)) (.tup (hid_at (nin1 n2) upd_same) (.cons (.str _) (.cons (.str _) (.cons (.lst (hid_at (nin1 n1) (same_new nt _ _ hy)) (dy.same (Keep.hid (same_keep (same_new nt))) _)) .nil))))
    · intro H2 zs s2 hz dz
      have ew : ((List.range 12).map fun (j : Nat) => wide2D (0 + (j : Int))) = wide2L := by
        simp only [Int.zero_add]
        rfl
      rw [ew, hid_nil] at dz
      obtain ⟨⟨k1, k2, k3, k4⟩, f1, f2, f3, f4⟩ := e_ok
      refine ⟨_, rfl, .ref Dw, .list wide2L, rfl, .lst hz dz, (sized6 wide2_fit).ok, fun H3 s3 => ⟨_, _, rfl, rfl, _, rfl, nbT wide2_kinds ?_⟩⟩
      refine ⟨(show 0 ≤ sizeLine by decide), fun l1 n1 => ⟨.ref l1, e1D, rfl, .lst upd_same .nil, (sized6 f1).ok, fun H4 s4 => ⟨_, _, rfl, rfl, _, rfl, nbT k1 ?_⟩⟩⟩
      refine ⟨(show 0 ≤ sizeLine by decide), fun l2 n2 => ⟨(show 4 ≤ sizeLine by decide), fun t2 m2 => ⟨(show 1 ≤ sizeLine by decide), fun l3 n3 => ?_⟩⟩⟩
      refine ⟨.ref l3, e2D, rfl, .lst upd_same (.cons (.tup (same_new n3 _ _ upd_same) (.cons (.str _) (.cons (.str _) (.cons (.lst (same_new n3 _ _ (same_new m2 _ _ upd_same)) .nil) (.cons (.str _) .nil))))) .nil), (sized6 f2).ok, fun H5 s5 => ⟨_, _, rfl, rfl, _, rfl, nbT k2 ?_⟩⟩
      refine ⟨"a", 30, rfl, rfl, by decide, by decide, rfl, (by decide +kernel), ?_⟩
      refine ⟨(show 0 ≤ sizeLine by decide), fun a1 b1 => ⟨(show 2 ≤ sizeLine by decide), fun a2 b2 => ⟨(show 1 ≤ sizeLine by decide), fun a3 b3 => ⟨(show 3 ≤ sizeLine by decide), fun a4 b4 => ⟨(show 1 ≤ sizeLine by decide), fun a5 b5 => ?_⟩⟩⟩⟩⟩
      refine ⟨.ref a5, e3D, rfl, .lst upd_same (.cons (.tup (same_new b5 _ _ upd_same) (.cons (.str _) (.cons (.str _) (.cons (.lst (same_new b5 _ _ (same_new b4 _ _ upd_same)) (.cons (.tup (same_new b5 _ _ (same_new b4 _ _ (same_new b3 _ _ upd_same))) (.cons (.str _) (.cons (.lst (same_new b5 _ _ (same_new b4 _ _ (same_new b3 _ _ (same_new b2 _ _ upd_same)))) .nil) .nil))) .nil)) .nil)))) .nil), (sized6 f3).ok, fun H6 s6 => ⟨_, _, rfl, rfl, _, rfl, ?_⟩⟩
      rw [k3]
      refine iteT ?_
      refine ⟨(show 1 ≤ sizeLine by decide), fun a1 b1 => ⟨(show 2 ≤ sizeLine by decide), fun a2 b2 => ⟨(show 1 ≤ sizeLine by decide), fun a3 b3 => ⟨(show 3 ≤ sizeLine by decide), fun a4 b4 => ⟨(show 1 ≤ sizeLine by decide), fun a5 b5 => ?_⟩⟩⟩⟩⟩
      refine ⟨.ref a5, e4D, rfl, .lst upd_same (.cons (.tup (same_new b5 _ _ upd_same) (.cons (.str _) (.cons (.str _) (.cons (.lst (same_new b5 _ _ (same_new b4 _ _ upd_same)) (.cons (.tup (same_new b5 _ _ (same_new b4 _ _ (same_new b3 _ _ upd_same))) (.cons (.str _) (.cons (.lst (same_new b5 _ _ (same_new b4 _ _ (same_new b3 _ _ (same_new b2 _ _ upd_same)))) (.cons (.str _) .nil)) .nil))) .nil)) .nil)))) .nil), (sized6 f4).ok, fun H7 s7 => ⟨_, _, rfl, rfl, ?_⟩⟩
      rw [k4]
      exact q _
theorem ends {l : PySem.W.OpenLaw} {fa : Addr} (hfa : mg "law" = some (.ref fa)) (T : TLaw K w mg) (dl : Has K mg "law" s_law ["_law_script"]) :
    ∃ fd : FuncData, (∀ (s : Shared) (u : Value), BindsTo s fd ⟨[u], []⟩ [("_law_script", u)]) ∧ ∀ base : Heap, K.In base → base.Ns mainGlobals mg → FnG l.prog w K mg base CX0 9 fa fd ["_law_script"] (sp_law K) := by
  obtain ⟨f, fd, F, hm, _⟩ := dl
  obtain rfl : f = fa := Value.ref.inj (Option.some.inj (hm.symm.trans hfa))
  refine ⟨fd, ?_, fun base _ _ => c_law T F⟩
  obtain ⟨oc, od, kV, doc, pm, an, cdv, ct, osl, rfl, lk, hcd⟩ := F.ex
  exact fun s u => .of_eq rfl

end
end Cb
set_option Elab.async false
set_option linter.all false
set_option maxRecDepth 100000
set_option maxHeartbeats 4000000
namespace Cb
open PySem PySem.Spec PyProof.Rows L2
/-! ### a written dict of texts -/
inductive KeysAre : List DictEntry → List Str → Prop
  | nil : KeysAre [] []
  | cons {e : DictEntry} {t : Tok} {z : Str} {es : List DictEntry} {zs : List Str} : e.key = .str z t → e.refKey = false → KeysAre es zs → KeysAre (e :: es) (z :: zs)
theorem KeysAre.none {es : List DictEntry} {zs : List Str} (k : KeysAre es zs) : es.any (·.refKey) = false := by
  induction k with
  | nil => rfl
  | cons _ h2 _ ih => rw [List.any_cons, h2, ih]; rfl
theorem KeysAre.find {es : List DictEntry} {zs : List Str} (k : KeysAre es zs) (y : Str) : (es.find? (·.key.isStr y)).isSome = decide (y ∈ zs) := by
  induction k with
  | nil => rfl
  | @cons e t z es zs h1 h2 _ ih =>
    rw [List.find?_cons]
    have e1 : e.key.isStr y = (z == y) := by rw [h1]; rfl
    rw [e1]
    cases h : z == y with
    | true =>
      have := eq_of_beq h
      subst this
      simp
    | false =>
      have ne : ¬ y = z := fun x => by
        rw [x] at h
        simp at h
      rw [ih]
      simp [ne]
theorem num_mk {K : PySem.W.Frag} {mg : Str → Option Value} {h : Heap} {x : Str} {i : Int} {t : Tok} (X : K.In h) (G : h.Ns mainGlobals mg) (e : PySem.W.nsIn K mainGlobals x = some (some (.int i t))) : ∃ t : Tok, mg x = some (.int i t) := ⟨t, PySem.W.mg_of X G e⟩
theorem res_mk {K : PySem.W.Frag} {d : Addr} {c : Value} {od : Option Addr} {es : Array DictEntry} {n : Nat} {sl : Array (Option Value)} (l : K.lookup d = some ⟨c, od, .dict es n, sl⟩) (k : KeysAre es.toList resL) : ∀ z : Str, ∃ r : Option Value, PySem.W.nsIn K d z = some r ∧ r.isSome = isRes z := by
  intro z
  have f := k.find z
  have a := k.none
  unfold PySem.W.nsIn isRes
  rw [l]
  show ∃ r, (match es.toList.find? (·.key.isStr z) with | some e => some (some e.val) | none => if es.toList.any (·.refKey) then none else some none) = some r ∧ _
  cases h : es.toList.find? (·.key.isStr z) with
  | some e =>
    rw [h] at f
    exact ⟨_, rfl, f⟩
  | none =>
    rw [h] at f
    refine ⟨none, ?_, f⟩
    show (if es.toList.any (·.refKey) then none else some none) = some none
    rw [a]
    rfl
end Cb
set_option Elab.async false
set_option maxRecDepth 100000
open PySem PySem.W PyProof.Rows
set_option maxHeartbeats 0 in
theorem PySem.Challenge.cw_cellbills_k04_lists_of_declarations_judg_holds : PySem.Challenge.rw_cellbills_k04_lists_of_declarations_judg.Holds := by
  w_on; o_law; k_head; (case hw => w_witness2)
  k_fill
  refine Cb.walk_g (l := PySem.Challenge.rw_cellbills_k04_lists_of_declarations_judg) (n := 63) (k := 9) (x := "_law_script") (sp := fun K => Cb.sp_law K) rfl (by decide) rfl ⟨rfl, by decide, by decide⟩ (fun w h Y => PySem.W.kIn_of Y) ?F ?pr
  case pr => exact fun K H a ns _ _ hS => ⟨a, ns, rfl, hS, fun _ => rfl⟩
  case F =>
    intro w mg fa h KX G hmg
    refine Cb.ends hmg ?T ?dl
    case dl =>
      refine' Cb.has KX G ?a ?l ?c ?k ?b
      (case a => k_is); (case l => k_is); (case c => k_is); (case k => k_is); (case b => exact fun _ _ _ _ _ _ us hl => match us, hl with | [_], _ => rfl)
    case T =>
      clear hmg
      refine' ⟨⟨⟨?tk, ?tg, ?dk⟩, ?db⟩, ?rp⟩
      case dk =>
        refine' Cb.has KX G ?a ?l ?c ?k ?b
        (case a => k_is); (case l => k_is); (case c => k_is); (case k => k_is); (case b => exact fun _ _ _ _ _ _ us hl => match us, hl with | [_], _ => rfl)
      case db =>
        refine' Cb.has KX G ?a ?l ?c ?k ?b
        (case a => k_is); (case l => k_is); (case c => k_is); (case k => k_is); (case b => exact fun _ _ _ _ _ _ us hl => match us, hl with | [_, _], _ => rfl)
      case rp => refine' PySem.W.mg_none_of KX G ?z; (case z => k_is)
      case tg =>
        refine' ⟨?a1, ?a2, ?a3, ?a4, ?z1, ?z2, ?z3, ?z4, ?z5⟩
        case a1 =>
          refine' Cb.has KX G ?a ?l ?c ?k ?b
          (case a => k_is); (case l => k_is); (case c => k_is); (case k => k_is); (case b => exact fun _ _ _ _ _ _ us hl => match us, hl with | [_, _], _ => rfl)
        case a2 =>
          refine' Cb.has KX G ?a ?l ?c ?k ?b
          (case a => k_is); (case l => k_is); (case c => k_is); (case k => k_is); (case b => exact fun _ _ _ _ _ _ us hl => match us, hl with | [_, _], _ => rfl)
        case a3 =>
          refine' Cb.has KX G ?a ?l ?c ?k ?b
          (case a => k_is); (case l => k_is); (case c => k_is); (case k => k_is); (case b => exact fun _ _ _ _ _ _ us hl => match us, hl with | [_, _], _ => rfl)
        case a4 =>
          refine' Cb.has KX G ?a ?l ?c ?k ?b
          (case a => k_is); (case l => k_is); (case c => k_is); (case k => k_is); (case b => exact fun _ _ _ _ _ _ us hl => match us, hl with | [_, _], _ => rfl)
        case z1 => refine' PySem.W.mg_none_of KX G ?z; (case z => k_is)
        case z2 => refine' PySem.W.mg_none_of KX G ?z; (case z => k_is)
        case z3 => refine' PySem.W.mg_none_of KX G ?z; (case z => k_is)
        case z4 => refine' PySem.W.mg_none_of KX G ?z; (case z => k_is)
        case z5 => refine' PySem.W.mg_none_of KX G ?z; (case z => k_is)
      case tk =>
        refine' ⟨?tw, ?d0, ?d1, ?d2, ?d3, ?d4, ?d5, ?d6, ?d7, ?d8, ?d9, ?kk, ?en, ?g1, ?g2, ?g3⟩
        case d0 =>
          refine' Cb.has KX G ?a ?l ?c ?k ?b
          (case a => k_is); (case l => k_is); (case c => k_is); (case k => k_is); (case b => exact fun _ _ _ _ _ _ us hl => match us, hl with | [_], _ => rfl)
        case d1 =>
          refine' Cb.has KX G ?a ?l ?c ?k ?b
          (case a => k_is); (case l => k_is); (case c => k_is); (case k => k_is); (case b => exact fun _ _ _ _ _ _ us hl => match us, hl with | [_], _ => rfl)
        case d2 =>
          refine' Cb.has KX G ?a ?l ?c ?k ?b
          (case a => k_is); (case l => k_is); (case c => k_is); (case k => k_is); (case b => exact fun _ _ _ _ _ _ us hl => match us, hl with | [_], _ => rfl)
        case d3 =>
          refine' Cb.has KX G ?a ?l ?c ?k ?b
          (case a => k_is); (case l => k_is); (case c => k_is); (case k => k_is); (case b => exact fun _ _ _ _ _ _ us hl => match us, hl with | [_], _ => rfl)
        case d4 =>
          refine' Cb.has KX G ?a ?l ?c ?k ?b
          (case a => k_is); (case l => k_is); (case c => k_is); (case k => k_is); (case b => exact fun _ _ _ _ _ _ us hl => match us, hl with | [_], _ => rfl)
        case d5 =>
          refine' Cb.has KX G ?a ?l ?c ?k ?b
          (case a => k_is); (case l => k_is); (case c => k_is); (case k => k_is); (case b => exact fun _ _ _ _ _ _ us hl => match us, hl with | [_], _ => rfl)
        case d6 =>
          refine' Cb.has KX G ?a ?l ?c ?k ?b
          (case a => k_is); (case l => k_is); (case c => k_is); (case k => k_is); (case b => exact fun _ _ _ _ _ _ us hl => match us, hl with | [_], _ => rfl)
        case d7 =>
          refine' Cb.has KX G ?a ?l ?c ?k ?b
          (case a => k_is); (case l => k_is); (case c => k_is); (case k => k_is); (case b => exact fun _ _ _ _ _ _ us hl => match us, hl with | [_, _, _], _ => rfl)
        case d8 =>
          refine' Cb.has KX G ?a ?l ?c ?k ?b
          (case a => k_is); (case l => k_is); (case c => k_is); (case k => k_is); (case b => exact fun _ _ _ _ _ _ us hl => match us, hl with | [_], _ => rfl)
        case d9 =>
          refine' Cb.has KX G ?a ?l ?c ?k ?b
          (case a => k_is); (case l => k_is); (case c => k_is); (case k => k_is); (case b => exact fun _ _ _ _ _ _ us hl => match us, hl with | [_], _ => rfl)
        case kk =>
          refine' Cb.hasK KX G ?a ?l ?c ?k (Cb.kb1 ?b)
          (case a => k_is); (case l => k_is); (case c => k_is); (case k => k_is); (case b => exact fun _ => rfl)
        case en => refine' PySem.W.mg_none_of KX G ?z; (case z => k_is)
        case g1 => refine' Cb.num_mk KX G ?e; (case e => k_is)
        case g2 => refine' Cb.num_mk KX G ?e; (case e => k_is)
        case g3 => refine' Cb.num_mk KX G ?e; (case e => k_is)
        case tw =>
          refine' ⟨?c1, ?c2, ?c3, ?c4, ?c5, ?y1, ?y2, ?y3, ?y4, ?y5, ?y6, ?m1, ?rs⟩
          case c1 =>
            refine' Cb.has KX G ?a ?l ?c ?k ?b
            (case a => k_is); (case l => k_is); (case c => k_is); (case k => k_is); (case b => exact fun _ _ _ _ _ _ us hl => match us, hl with | [_], _ => rfl)
          case c2 =>
            refine' Cb.has KX G ?a ?l ?c ?k ?b
            (case a => k_is); (case l => k_is); (case c => k_is); (case k => k_is); (case b => exact fun _ _ _ _ _ _ us hl => match us, hl with | [_], _ => rfl)
          case c3 =>
            refine' Cb.has KX G ?a ?l ?c ?k ?b
            (case a => k_is); (case l => k_is); (case c => k_is); (case k => k_is); (case b => exact fun _ _ _ _ _ _ us hl => match us, hl with | [_], _ => rfl)
          case c4 =>
            refine' Cb.has KX G ?a ?l ?c ?k ?b
            (case a => k_is); (case l => k_is); (case c => k_is); (case k => k_is); (case b => exact fun _ _ _ _ _ _ us hl => match us, hl with | [_], _ => rfl)
          case c5 =>
            refine' Cb.has KX G ?a ?l ?c ?k ?b
            (case a => k_is); (case l => k_is); (case c => k_is); (case k => k_is); (case b => exact fun _ _ _ _ _ _ us hl => match us, hl with | [_], _ => rfl)
          case y1 => refine' PySem.W.mg_none_of KX G ?z; (case z => k_is)
          case y2 => refine' PySem.W.mg_none_of KX G ?z; (case z => k_is)
          case y3 => refine' PySem.W.mg_none_of KX G ?z; (case z => k_is)
          case y4 => refine' PySem.W.mg_none_of KX G ?z; (case z => k_is)
          case y5 => refine' PySem.W.mg_none_of KX G ?z; (case z => k_is)
          case y6 => refine' PySem.W.mg_none_of KX G ?z; (case z => k_is)
          case m1 => refine' Cb.num_mk KX G ?e; (case e => k_is)
          case rs =>
            refine' ⟨_, _, _, PySem.W.mg_of KX G ?z, ⟨?at_, ?lit, ?low⟩, ?s⟩
            (case z => k_is); (case at_ => k_is)
            case lit => exact ⟨⟨_, _, rfl, rfl⟩, ⟨_, _, rfl, rfl⟩, ⟨_, _, rfl, rfl⟩, ⟨_, _, rfl, rfl⟩, ⟨_, _, rfl, rfl⟩, ⟨_, _, rfl, rfl⟩, ⟨_, _, rfl, rfl⟩, ⟨_, _, rfl, rfl⟩, ⟨_, _, rfl, rfl⟩, ⟨_, _, rfl, rfl⟩, ⟨_, _, rfl, rfl⟩, ⟨_, _, rfl, rfl⟩, ⟨_, _, rfl, rfl⟩, ⟨_, _, rfl, rfl⟩, ⟨_, _, rfl, rfl⟩, ⟨_, _, rfl, rfl⟩, ⟨_, _, rfl, rfl⟩, ⟨_, _, rfl, rfl⟩, ⟨_, _, rfl, rfl⟩, ⟨_, _, rfl, rfl⟩, ⟨_, _, rfl, rfl⟩, ⟨_, _, rfl, rfl⟩, ⟨_, _, rfl, rfl⟩, ⟨_, _, rfl, rfl⟩, ⟨_, _, rfl, rfl⟩, trivial⟩
            case low => rfl
            case s =>
              refine' Cb.res_mk ?l ?k
              (case l => k_is)
              case k => exact .cons rfl rfl (.cons rfl rfl (.cons rfl rfl (.cons rfl rfl (.cons rfl rfl (.cons rfl rfl (.cons rfl rfl (.cons rfl rfl (.cons rfl rfl (.cons rfl rfl (.cons rfl rfl (.cons rfl rfl (.cons rfl rfl (.cons rfl rfl (.cons rfl rfl (.cons rfl rfl (.cons rfl rfl (.cons rfl rfl (.cons rfl rfl (.cons rfl rfl (.cons rfl rfl (.cons rfl rfl (.cons rfl rfl (.cons rfl rfl (.cons rfl rfl (.nil)))))))))))))))))))))))))
